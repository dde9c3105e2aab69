/- Mathematics: one of two, a number without its sign. -/
import Derived.Test.YtepafgmiloncgaaMC
namespace Go.Proofs.Ytepafgmiloncgaa

theorem sg_neg {v : Nat → Bool} {w : Nat} (hw : 0 < w) : v (w - 1) = decide (sg v w < 0) := by
  have h1 := sg_eq (v := v) hw
  have h2 := un_lt v w
  cases hv : v (w - 1)
  · rw [hv] at h1; simp only [Bool.false_eq_true, if_false] at h1; symm; rw [decide_eq_false_iff_not]; omega
  · rw [hv] at h1; simp only [if_true] at h1; symm; rw [decide_eq_true_iff]; omega
theorem un_of_sg (v : Nat → Bool) (w : Nat) : (un v w : Int) = sg v w % ((2 ^ w : Nat) : Int) := by
  rw [sg_emod, Int.emod_eq_of_lt (by omega) (by have := un_lt v w; omega)]
theorem num_sign (I : Nat → Bool) (s : Gr) (g : Nat → Nat) {n : Nat} (hn : 0 < n) : val I s (g (n - 1)) = decide (num I s g n < 0) := sg_neg (v := fun j => val I s (g j)) hn
theorem un_of_num (I : Nat → Bool) (s : Gr) (g : Nat → Nat) (n : Nat) : (un (bv I s g) n : Int) = num I s g n % ((2 ^ n : Nat) : Int) := un_of_sg _ _
/-- Behind k bits of one of two. -/
structure MS (s t : Gr) (n : Nat) (A B : Nat → Nat) (c k : Nat) (f : Nat → Nat) : Prop where
  lay : Lay s t (3 * k)
  vo : Vo t n f
  val : ∀ I j, j < k → val I t (f j) = if val I s c then val I s (A j) else val I s (B j)
theorem MS.start {s : Gr} (hs : s.Ok) (n : Nat) (A B : Nat → Nat) (c : Nat) : MS s s n A B c 0 (fun _ => 0) :=
  ⟨Lay.refl hs, fun j _ => by show 0 < _; omega, fun I j hj => by omega⟩
theorem MS.step {s t u : Gr} {n : Nat} {A B f : Nat → Nat} {c k r : Nat} (P : MS s t n A B c k f) (hk : k < n) (hA : Vo s n A) (hB : Vo s n B) (hc : c < 2 * (s.n + 1))
    (E : Ed t u 3 r (fun I => if Go.Proofs.Ytepafgmiloncgaa.val I t c then Go.Proofs.Ytepafgmiloncgaa.val I t (A k) else Go.Proofs.Ytepafgmiloncgaa.val I t (B k))) : MS s u n A B c (k + 1) (fun j => if j = k then r else f j) := by
  refine ⟨(P.lay.trans E.lay).le (by omega), fun j hj => ?_, fun I j hj => ?_⟩
  · show (if j = k then r else f j) < _
    split
    · exact E.lt
    · exact E.lay.lt (P.vo j hj)
  · by_cases e : j = k
    · subst e
      simp only [if_true]
      rw [E.val I, P.lay.val hc, P.lay.val (hA j hk), P.lay.val (hB j hk)]
    · simp only [if_neg e]
      rw [E.lay.val (P.vo j (by omega)), P.val I j (by omega)]
theorem MS.nu {s t : Gr} {n : Nat} {A B f : Nat → Nat} {c : Nat} (P : MS s t n A B c n f) : Nu s t (3 * n) n f (fun I => if Go.Proofs.Ytepafgmiloncgaa.val I s c then num I s A n else num I s B n) :=
  ⟨P.lay, P.vo, fun I => by
    have h := P.val I
    cases hc : Go.Proofs.Ytepafgmiloncgaa.val I s c <;> simp only [hc] at h ⊢
    · exact sg_congr h
    · exact sg_congr h⟩
/-- A sum, a difference. -/
theorem SumIs.add {s t : Gr} {m n k : Nat} {f g h : Nat → Nat} {cy : Nat} {N : Nat} (hn : 0 < n) (hk : 0 < k) (hN : N = max n k) (S : SumIs s t m N f cy (fun I => un (bv I s (extv n g)) N + un (bv I s (extv k h)) N + (Go.Proofs.Ytepafgmiloncgaa.val I s 0).toNat)) :
    Nu s t m N f (fun I => trm N (num I s g n + num I s h k)) := by
  refine ⟨S.lay, S.vo, fun I => ?_⟩
  have h1 := S.val I
  rw [val_zero] at h1
  have h2 := sum_sg (v := bv I t f) (a := bv I s (extv n g)) (b := bv I s (extv k h)) h1
  have h3 : sg (bv I s (extv n g)) N = num I s g n := num_up hn (by omega) I
  have h4 : sg (bv I s (extv k h)) N = num I s h k := num_up hk (by omega) I
  rw [h3, h4] at h2
  exact h2
theorem SumIs.sub {s t : Gr} {m n k : Nat} {f g h : Nat → Nat} {cy : Nat} {N : Nat} (hn : 0 < n) (hk : 0 < k) (hN : N = max n k) (S : SumIs s t m N f cy (fun I => un (bv I s (extv n g)) N + un (fun j => !bv I s (extv k h) j) N + 1)) :
    Nu s t m N f (fun I => trm N (num I s g n - num I s h k)) := by
  refine ⟨S.lay, S.vo, fun I => ?_⟩
  have h2 := dif_sg (v := bv I t f) (a := bv I s (extv n g)) (b := bv I s (extv k h)) (S.val I)
  have h3 : sg (bv I s (extv n g)) N = num I s g n := num_up hn (by omega) I
  have h4 : sg (bv I s (extv k h)) N = num I s h k := num_up hk (by omega) I
  rw [h3, h4] at h2
  exact h2
theorem Nu.trans {s t u : Gr} {m k n : Nat} {f : Nat → Nat} {x : (Nat → Bool) → Int} (h : Lay s t m) (N : Nu t u k n f x) : Nu s u (m + k) n f x := ⟨h.trans N.lay, N.vo, N.val⟩
theorem Nu.le {s t : Gr} {m k n : Nat} {f : Nat → Nat} {x : (Nat → Bool) → Int} (N : Nu s t m n f x) (h : m ≤ k) : Nu s t k n f x := ⟨N.lay.le h, N.vo, N.val⟩
theorem Nu.congr {s t : Gr} {m n : Nat} {f : Nat → Nat} {x y : (Nat → Bool) → Int} (N : Nu s t m n f x) (h : ∀ I, x I = y I) : Nu s t m n f y := ⟨N.lay, N.vo, fun I => (N.val I).trans (h I)⟩
/-- A number without its sign. -/
structure Mag (s t : Gr) (m n : Nat) (f : Nat → Nat) (x : (Nat → Bool) → Nat) : Prop where
  lay : Lay s t m
  vo : Vo t n f
  val : ∀ I, un (bv I t f) n = x I
theorem Nu.mag {s t : Gr} {m n : Nat} {f : Nat → Nat} {x : (Nat → Bool) → Int} (hn : 0 < n) (N : Nu s t m n f (fun I => if decide (x I < 0) then trm n (0 - x I) else x I)) (hx : ∀ I, -((2 ^ (n - 1) : Nat) : Int) ≤ x I ∧ x I < ((2 ^ (n - 1) : Nat) : Int)) : Mag s t m n f (fun I => (x I).natAbs) := by
  refine ⟨N.lay, N.vo, fun I => ?_⟩
  have h1 := un_of_num I t f n
  have h2 := hx I
  have e : 2 ^ n = 2 * 2 ^ (n - 1) := by obtain ⟨k, rfl⟩ : ∃ k, n = k + 1 := ⟨n - 1, by omega⟩; rw [Nat.pow_succ]; simp; omega
  rw [N.val I] at h1
  by_cases h : x I < 0
  · simp only [h, decide_true, if_true] at h1
    rw [trm_emod, Int.emod_eq_of_lt (by omega) (by omega)] at h1
    omega
  · simp only [h, decide_false, Bool.false_eq_true, if_false] at h1
    rw [Int.emod_eq_of_lt (by omega) (by omega)] at h1
    omega
end Go.Proofs.Ytepafgmiloncgaa
