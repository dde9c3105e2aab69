/- Mathematics: quotients and remainders with signs. -/
import Derived.Test.YtepafgmiloncgaaME
namespace Go.Proofs.Ytepafgmiloncgaa

/-- The quotient, truncated towards 0; 0 if b is 0. -/
def quo (a b : Int) : Int := if b = 0 then 0 else if decide (a < 0) != decide (b < 0) then -((a.natAbs / b.natAbs : Nat) : Int) else ((a.natAbs / b.natAbs : Nat) : Int)
/-- The remainder, with the sign of a. -/
def rmd (a b : Int) : Int := if b = 0 then 0 else if a < 0 then -((a.natAbs % b.natAbs : Nat) : Int) else ((a.natAbs % b.natAbs : Nat) : Int)
theorem quo_rmd {a b : Int} (h : b ≠ 0) : quo a b * b + rmd a b = a := by
  have hd := Nat.div_add_mod a.natAbs b.natAbs
  unfold quo rmd
  rw [if_neg h, if_neg h]
  generalize hq : a.natAbs / b.natAbs = q at *
  generalize hr : a.natAbs % b.natAbs = r at *
  have e : ((b.natAbs : Nat) : Int) * (q : Int) + (r : Int) = ((a.natAbs : Nat) : Int) := by rw [← hd]; simp
  by_cases ha : a < 0 <;> by_cases hb : b < 0
  · rw [show ((b.natAbs : Nat) : Int) = -b by omega, show ((a.natAbs : Nat) : Int) = -a by omega, Int.neg_mul] at e
    simp [ha, hb]
    first | (rw [Int.mul_comm]; omega) | (rw [Int.mul_comm, Int.mul_neg]; omega)
  · rw [show ((b.natAbs : Nat) : Int) = b by omega, show ((a.natAbs : Nat) : Int) = -a by omega] at e
    simp [ha, hb]
    first | (rw [Int.mul_comm]; omega) | (rw [Int.mul_comm, Int.mul_neg]; omega)
  · rw [show ((b.natAbs : Nat) : Int) = -b by omega, show ((a.natAbs : Nat) : Int) = a by omega, Int.neg_mul] at e
    simp [ha, hb]
    first | (rw [Int.mul_comm]; omega) | (rw [Int.mul_comm, Int.mul_neg]; omega)
  · rw [show ((b.natAbs : Nat) : Int) = b by omega, show ((a.natAbs : Nat) : Int) = a by omega] at e
    simp [ha, hb]
    first | (rw [Int.mul_comm]; omega) | (rw [Int.mul_comm, Int.mul_neg]; omega)
theorem trm_neg (w : Nat) (x : Int) : trm w (0 - trm w x) = trm w (-x) := by
  refine trm_of ?_
  rw [show -x = 0 - x by omega]
  exact trm_sub rfl (trm_emod w x)
theorem natAbs_le {n : Nat} {x : Int} (h : -((2 ^ (n - 1) : Nat) : Int) ≤ x ∧ x < ((2 ^ (n - 1) : Nat) : Int)) : x.natAbs ≤ 2 ^ (n - 1) := by omega
/-- What the operations of Div make. -/
theorem div_math {s t2 t3 t4 t5 t6 t7 t9 : Gr} {N : Nat} (hN : 0 < N) {A B fa fb fq fr fs fz fm : Nat → Nat} {rx rs m1 m2 m5 m6 m7 m9 : Nat} (hA : Vo s N A) (hB : Vo s N B)
    (UA : Mag s t2 m1 N fa (fun I => (num I s A N).natAbs)) (UB : Mag t2 t3 m2 N fb (fun I => (num I t2 B N).natAbs)) (D : DS t3 t4 N fa fb N fq fr)
    (EX : Ed t4 t5 m5 rx (fun I => val I t4 (A (N - 1)) != val I t4 (B (N - 1)))) (US : Nu t5 t6 m6 N fs (fun I => if val I t5 rx then trm N (0 - num I t5 fq N) else num I t5 fq N))
    (ES : Ed t6 t7 m7 rs (fun I => decide (num I t6 B N ≠ 0))) (hz : ∀ I, num I t7 fz N = 0) (UM : Nu t7 t9 m9 N fm (fun I => if val I t7 rs then num I t7 fs N else num I t7 fz N)) (I : Nat → Bool) :
    num I t9 fm N = trm N (quo (num I s A N) (num I s B N)) := by
  have l23 := UB.lay
  have l02 := UA.lay
  have l34 := D.lay
  have eB2 : num I t2 B N = num I s B N := num_lay hB l02 I
  have lB3 := hB.lay (l02.trans l23)
  have lA3 := hA.lay (l02.trans l23)
  have eB6 : num I t6 B N = num I s B N := num_lay hB ((((l02.trans l23).trans l34).trans EX.lay).trans US.lay) I
  have sA : val I t4 (A (N - 1)) = decide (num I s A N < 0) := by rw [((l02.trans l23).trans l34).val (hA (N - 1) (by omega))]; exact num_sign I s A hN
  have sB : val I t4 (B (N - 1)) = decide (num I s B N < 0) := by rw [((l02.trans l23).trans l34).val (hB (N - 1) (by omega))]; exact num_sign I s B hN
  rw [UM.val I, ES.val I, eB6, hz]
  by_cases hb : num I s B N = 0
  · simp only [hb, ne_eq, not_true_eq_false, decide_false, Bool.false_eq_true, if_false]
    unfold quo
    rw [if_pos rfl]
    exact (trm_fit hN (by have := Nat.two_pow_pos (N - 1); omega) (by have := Nat.two_pow_pos (N - 1); omega)).symm
  · simp only [hb, ne_eq, not_false_eq_true, decide_true, if_true]
    have hBr := num_range (s := s) (g := B) hN I
    have ub : un (bv I t3 fb) N = (num I s B N).natAbs := by rw [UB.val I, eB2]
    have ua : un (bv I t3 fa) N = (num I s A N).natAbs := by rw [bv_lay UA.vo l23, UA.val I]
    obtain ⟨d1, _⟩ := D.div I (by rw [ub]; omega) (by rw [ub]; exact natAbs_le hBr)
    rw [ua, ub] at d1
    have eq5 : num I t5 fq N = trm N (((num I s A N).natAbs / (num I s B N).natAbs : Nat) : Int) := by
      rw [num_lay D.voq EX.lay]
      show trm N ((un (bv I t4 fq) N : Nat) : Int) = _
      rw [d1]
    rw [num_lay US.vo ES.lay, US.val I, EX.val I, sA, sB, eq5]
    unfold quo
    rw [if_neg hb]
    split
    · exact trm_neg _ _
    · rfl
theorem rem_math {s t2 t3 t4 t6 t7 t9 : Gr} {N : Nat} (hN : 0 < N) {A B fa fb fq fr fs fz fm : Nat → Nat} {rs m1 m2 m6 m7 m9 : Nat} (hA : Vo s N A) (hB : Vo s N B)
    (UA : Mag s t2 m1 N fa (fun I => (num I s A N).natAbs)) (UB : Mag t2 t3 m2 N fb (fun I => (num I t2 B N).natAbs)) (D : DS t3 t4 N fa fb N fq fr)
    (US : Nu t4 t6 m6 N fs (fun I => if val I t4 (A (N - 1)) then trm N (0 - num I t4 fr N) else num I t4 fr N))
    (ES : Ed t6 t7 m7 rs (fun I => decide (num I t6 B N ≠ 0))) (hz : ∀ I, num I t7 fz N = 0) (UM : Nu t7 t9 m9 N fm (fun I => if val I t7 rs then num I t7 fs N else num I t7 fz N)) (I : Nat → Bool) :
    num I t9 fm N = trm N (rmd (num I s A N) (num I s B N)) := by
  have l23 := UB.lay
  have l02 := UA.lay
  have l34 := D.lay
  have eB2 : num I t2 B N = num I s B N := num_lay hB l02 I
  have eB6 : num I t6 B N = num I s B N := num_lay hB (((l02.trans l23).trans l34).trans US.lay) I
  have sA : val I t4 (A (N - 1)) = decide (num I s A N < 0) := by rw [((l02.trans l23).trans l34).val (hA (N - 1) (by omega))]; exact num_sign I s A hN
  rw [UM.val I, ES.val I, eB6, hz]
  by_cases hb : num I s B N = 0
  · simp only [hb, ne_eq, not_true_eq_false, decide_false, Bool.false_eq_true, if_false]
    unfold rmd
    rw [if_pos rfl]
    exact (trm_fit hN (by have := Nat.two_pow_pos (N - 1); omega) (by have := Nat.two_pow_pos (N - 1); omega)).symm
  · simp only [hb, ne_eq, not_false_eq_true, decide_true, if_true]
    have hBr := num_range (s := s) (g := B) hN I
    have ub : un (bv I t3 fb) N = (num I s B N).natAbs := by rw [UB.val I, eB2]
    have ua : un (bv I t3 fa) N = (num I s A N).natAbs := by rw [bv_lay UA.vo l23, UA.val I]
    obtain ⟨_, d1⟩ := D.div I (by rw [ub]; omega) (by rw [ub]; exact natAbs_le hBr)
    rw [ua, ub] at d1
    have eq5 : num I t4 fr N = trm N (((num I s A N).natAbs % (num I s B N).natAbs : Nat) : Int) := by
      show trm N ((un (bv I t4 fr) N : Nat) : Int) = _
      rw [d1]
    rw [num_lay US.vo ES.lay, US.val I, sA, eq5]
    unfold rmd
    rw [if_neg hb]
    by_cases ha : num I s A N < 0
    · simp only [ha, decide_true, if_true]; exact trm_neg _ _
    · simp only [ha, decide_false, Bool.false_eq_true, if_false]
end Go.Proofs.Ytepafgmiloncgaa
