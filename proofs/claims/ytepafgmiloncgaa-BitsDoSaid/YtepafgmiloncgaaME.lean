/- Mathematics: quotient and remainder, bit by bit. -/
import Derived.Test.YtepafgmiloncgaaMD
namespace Go.Proofs.Ytepafgmiloncgaa

theorem un_set {v : Nat → Bool} {p : Nat} {x : Bool} (hv : v p = false) : ∀ {n}, p < n → un (fun j => if j = p then x else v j) n = un v n + x.toNat * 2 ^ p
  | 0, h => by omega
  | n + 1, h => by
    by_cases e : p = n
    · subst e
      have h1 : un (fun j => if j = p then x else v j) p = un v p := un_congr fun i hi => if_neg (Nat.ne_of_lt hi)
      show un _ p + _ = un v p + _ + _
      rw [h1, hv]
      simp
    · have ih := un_set hv (x := x) (n := n) (by omega)
      show un _ n + _ = un v n + _ + _
      rw [ih]
      simp only [if_neg (show ¬ n = p by omega)]
      omega
theorem un_div (v : Nat → Bool) {p n : Nat} (h : p < n) : un v n / 2 ^ p = 2 * (un v n / 2 ^ (p + 1)) + (v p).toNat := by
  have h1 := un_split v p (n - p)
  have h2 := un_split v (p + 1) (n - p - 1)
  rw [show p + (n - p) = n by omega] at h1
  rw [show p + 1 + (n - p - 1) = n by omega] at h2
  have h3 := un_cons (fun i => v (p + i)) (n - p - 1)
  rw [show n - p - 1 + 1 = n - p by omega] at h3
  have h4 : un (fun i => v (p + (i + 1))) (n - p - 1) = un (fun i => v (p + 1 + i)) (n - p - 1) := un_congr fun i _ => by rw [show p + (i + 1) = p + 1 + i by omega]
  have e1 : un v n / 2 ^ p = un (fun i => v (p + i)) (n - p) := by
    rw [h1, Nat.add_mul_div_left _ _ (Nat.two_pow_pos p), Nat.div_eq_of_lt (un_lt v p), Nat.zero_add]
  have e2 : un v n / 2 ^ (p + 1) = un (fun i => v (p + 1 + i)) (n - p - 1) := by
    rw [h2, Nat.add_mul_div_left _ _ (Nat.two_pow_pos (p + 1)), Nat.div_eq_of_lt (un_lt v (p + 1)), Nat.zero_add]
  rw [e1, e2, h3, h4]
  simp
  omega
/-- Behind k bits of a quotient. -/
structure DS (s t : Gr) (n : Nat) (A B : Nat → Nat) (k : Nat) (fq fr : Nat → Nat) : Prop where
  lay : Lay s t (10 * n * k)
  voq : Vo t n fq
  vor : Vo t n fr
  qz : ∀ j, j < n - k → fq j = 0
  val : ∀ I, 0 < un (bv I s B) n → un (bv I s B) n ≤ 2 ^ (n - 1) → ∃ Q, un (bv I t fq) n = Q * 2 ^ (n - k) ∧ un (bv I s A) n / 2 ^ (n - k) = Q * un (bv I s B) n + un (bv I t fr) n ∧ un (bv I t fr) n < un (bv I s B) n
theorem DS.start {s : Gr} (hs : s.Ok) (n : Nat) (A B fr : Nat → Nat) (hr : ∀ j, fr j = 0) : DS s s n A B 0 (fun _ => 0) fr := by
  have h0 : ∀ I, un (bv I s fr) n = 0 := fun I => un_zero fun j _ => by unfold bv; rw [hr j, val_zero]
  refine ⟨Lay.refl hs, fun j _ => by show 0 < _; omega, fun j _ => by rw [hr j]; omega, fun _ _ => rfl, fun I hb _ => ⟨0, ?_, ?_, ?_⟩⟩
  · rw [Nat.zero_mul]
    exact un_zero fun j _ => val_zero I s
  · rw [h0, Nat.sub_zero, Nat.div_eq_of_lt (un_lt _ n)]; omega
  · rw [h0]; exact hb
/-- The rest, twice, and one bit. -/
theorem un_ahead {I : Nat → Bool} {t : Gr} {n : Nat} {fr' fr : Nat → Nat} {x : Nat} (hn : 0 < n) (h0 : fr' 0 = x) (h1 : ∀ j, j + 1 < n → fr' (j + 1) = fr j) (hb : un (bv I t fr) n < 2 ^ (n - 1)) : un (bv I t fr') n = (val I t x).toNat + 2 * un (bv I t fr) n := by
  obtain ⟨m, rfl⟩ : ∃ m, n = m + 1 := ⟨n - 1, by omega⟩
  rw [un_cons]
  have e0 : bv I t fr' 0 = val I t x := by unfold bv; rw [h0]
  have e1 : un (fun i => bv I t fr' (i + 1)) m = un (bv I t fr) m := un_congr fun i hi => by unfold bv; rw [h1 i (by omega)]
  have e2 : un (bv I t fr) (m + 1) = un (bv I t fr) m + (bv I t fr m).toNat * 2 ^ m := rfl
  rw [e0, e1]
  rw [e2] at hb ⊢
  simp only [Nat.add_sub_cancel] at hb
  cases hv : bv I t fr m
  · simp
  · rw [hv] at hb; simp at hb; omega
theorem DS.step {s t t1 t2 : Gr} {n : Nat} {A B fq fr fr' f3 f4 : Nat → Nat} {k p cy : Nat} (D : DS s t n A B k fq fr) (hk : k < n) (hp : p = n - 1 - k) (hA : Vo s n A) (hB : Vo s n B)
    (h0 : fr' 0 = A p) (h1 : ∀ j, j + 1 < n → fr' (j + 1) = fr j) (hv : Vo t n fr')
    (S : SumIs t t1 (7 * n) n f3 cy (fun I => un (bv I t fr') n + un (fun j => !bv I t B j) n + 1))
    (U : Nu t1 t2 (3 * n) n f4 (fun I => if Go.Proofs.Ytepafgmiloncgaa.val I t1 cy then num I t1 f3 n else num I t1 fr' n)) : DS s t2 n A B (k + 1) (fun j => if j = p then cy else fq j) f4 := by
  have lay : Lay t t2 (10 * n) := (S.lay.trans U.lay).le (by omega)
  refine ⟨(D.lay.trans lay).le (by rw [Nat.mul_add]; omega), fun j hj => ?_, U.vo, fun j hj => ?_, fun I hb1 hb2 => ?_⟩
  · show (if j = p then cy else fq j) < _
    split
    · exact U.lay.lt S.lt
    · exact lay.lt (D.voq j hj)
  · show (if j = p then cy else fq j) = 0
    rw [if_neg (by omega)]
    exact D.qz j (by omega)
  · obtain ⟨Q, q1, q2, q3⟩ := D.val I hb1 hb2
    have eB : un (bv I t B) n = un (bv I s B) n := bv_lay hB D.lay I
    have eR := un_ahead (I := I) (t := t) (fr' := fr') (fr := fr) (x := A p) (by omega) h0 h1 (by omega)
    have eA : Go.Proofs.Ytepafgmiloncgaa.val I t (A p) = Go.Proofs.Ytepafgmiloncgaa.val I s (A p) := D.lay.val (hA p (by omega)) I
    obtain ⟨d1, d2⟩ := dif_un (v := bv I t1 f3) (a := bv I t fr') (b := bv I t B) (S.val I)
    have eD := un_div (bv I s A) (p := p) (n := n) (by omega)
    rw [show p + 1 = n - k by omega, q2] at eD
    have ebit : bv I s A p = Go.Proofs.Ytepafgmiloncgaa.val I s (A p) := rfl
    rw [ebit] at eD
    -- the new rest
    have eX : un (bv I t2 f4) n = if Go.Proofs.Ytepafgmiloncgaa.val I t1 cy then un (bv I t1 f3) n else un (bv I t1 fr') n := by
      have h := U.val I
      cases hc : Go.Proofs.Ytepafgmiloncgaa.val I t1 cy
      · rw [hc] at h
        exact sg_inj (v := bv I t2 f4) (u := bv I t1 fr') h
      · rw [hc] at h
        exact sg_inj (v := bv I t2 f4) (u := bv I t1 f3) h
    have eF : un (bv I t1 fr') n = un (bv I t fr') n := bv_lay hv S.lay I
    -- the new quotient
    have eQ : un (bv I t2 fun j => if j = p then cy else fq j) n = un (bv I t fq) n + (Go.Proofs.Ytepafgmiloncgaa.val I t1 cy).toNat * 2 ^ p := by
      have hz : bv I t fq p = false := by unfold bv; rw [D.qz p (by omega), val_zero]
      rw [← un_set hz (x := Go.Proofs.Ytepafgmiloncgaa.val I t1 cy) (n := n) (by omega)]
      refine un_congr fun j hj => ?_
      show Go.Proofs.Ytepafgmiloncgaa.val I t2 (if j = p then cy else fq j) = _
      by_cases e : j = p
      · rw [if_pos e, if_pos e, U.lay.val S.lt]
      · rw [if_neg e, if_neg e, lay.val (D.voq j hj)]; rfl
    have hpk : n - (k + 1) = p := by omega
    have hpow : 2 ^ (n - k) = 2 * 2 ^ p := by rw [show n - k = p + 1 by omega, Nat.pow_succ]; omega
    rw [hpk, eQ, eX, eF, eR, eA, q1, hpow, eD]
    rw [eR, eA, eB] at d1 d2
    rw [eB] at *
    generalize un (bv I s B) n = b at *
    generalize un (bv I t fr) n = R at *
    generalize un (bv I t1 f3) n = L at *
    have hab : (Go.Proofs.Ytepafgmiloncgaa.val I s (A p)).toNat ≤ 1 := by cases Go.Proofs.Ytepafgmiloncgaa.val I s (A p) <;> simp
    generalize (Go.Proofs.Ytepafgmiloncgaa.val I s (A p)).toNat = ab at *
    by_cases hle : b ≤ ab + 2 * R
    · rw [d1]
      simp only [hle, decide_true, if_true]
      refine ⟨2 * Q + 1, ?_, ?_, ?_⟩
      · simp; rw [Nat.add_mul, Nat.mul_assoc, Nat.mul_left_comm]; omega
      · rw [d2 hle, Nat.add_mul, Nat.mul_assoc]; omega
      · rw [d2 hle]; omega
    · rw [d1]
      simp only [hle, decide_false, Bool.false_eq_true, if_false]
      refine ⟨2 * Q, ?_, ?_, ?_⟩
      · simp; rw [Nat.mul_assoc, Nat.mul_left_comm]
      · rw [Nat.mul_assoc]; omega
      · omega
theorem DS.div {s t : Gr} {n : Nat} {A B fq fr : Nat → Nat} (D : DS s t n A B n fq fr) (I : Nat → Bool) (h1 : 0 < un (bv I s B) n) (h2 : un (bv I s B) n ≤ 2 ^ (n - 1)) : un (bv I t fq) n = un (bv I s A) n / un (bv I s B) n ∧ un (bv I t fr) n = un (bv I s A) n % un (bv I s B) n := by
  obtain ⟨Q, q1, q2, q3⟩ := D.val I h1 h2
  simp only [Nat.sub_self, Nat.pow_zero, Nat.mul_one, Nat.div_one] at q1 q2
  rw [q1, q2]
  constructor
  · rw [Nat.mul_comm, Nat.mul_add_div h1, Nat.div_eq_of_lt q3]; omega
  · rw [Nat.mul_comm, Nat.mul_add_mod, Nat.mod_eq_of_lt q3]
end Go.Proofs.Ytepafgmiloncgaa
