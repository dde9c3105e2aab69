/- Mathematics: a sum, bit by bit. -/
import Derived.Test.YtepafgmiloncgaaMB
namespace Go.Proofs.Ytepafgmiloncgaa

/-- A vector's bits. -/
def bv (I : Nat → Bool) (s : Gr) (g : Nat → Nat) (j : Nat) : Bool := val I s (g j)
theorem bv_lay {s t : Gr} {m n : Nat} {g : Nat → Nat} (h : Vo s n g) (l : Lay s t m) (I : Nat → Bool) : un (bv I t g) n = un (bv I s g) n := un_congr fun j hj => l.val (h j hj) I
/-- Behind k bits of a sum. -/
structure PS (s t : Gr) (n : Nat) (g h : Nat → Nat) (c0 k cy : Nat) (f : Nat → Nat) : Prop where
  lay : Lay s t (7 * k)
  lt : cy < 2 * (t.n + 1)
  vo : Vo t n f
  val : ∀ I, un (bv I t f) k + 2 ^ k * (val I t cy).toNat = un (bv I s g) k + un (bv I s h) k + (val I s c0).toNat
theorem PS.start {s : Gr} (hs : s.Ok) (n : Nat) (g h : Nat → Nat) {c0 : Nat} (hc : c0 < 2 * (s.n + 1)) : PS s s n g h c0 0 c0 (fun _ => 0) :=
  ⟨Lay.refl hs, hc, fun j _ => by show 0 < _; omega, fun I => by simp [un]⟩
theorem PS.step {s t t1 t2 t3 : Gr} {n : Nat} {g h f : Nat → Nat} {c0 k cy p q wh sc o : Nat} (P : PS s t n g h c0 k cy f) (hk : k < n) (hg : Vo s n g) (hh : Vo s n h)
    (E1 : Ed t t1 3 p (fun I => Go.Proofs.Ytepafgmiloncgaa.val I t (g k) != Go.Proofs.Ytepafgmiloncgaa.val I t (h k))) (E2 : Ed t t1 3 q (fun I => Go.Proofs.Ytepafgmiloncgaa.val I t (g k) && Go.Proofs.Ytepafgmiloncgaa.val I t (h k)))
    (E3 : Ed t1 t2 3 wh (fun I => Go.Proofs.Ytepafgmiloncgaa.val I t1 p != Go.Proofs.Ytepafgmiloncgaa.val I t1 cy)) (E4 : Ed t1 t2 3 sc (fun I => Go.Proofs.Ytepafgmiloncgaa.val I t1 p && Go.Proofs.Ytepafgmiloncgaa.val I t1 cy))
    (E5 : Ed t2 t3 1 o (fun I => Go.Proofs.Ytepafgmiloncgaa.val I t2 q || Go.Proofs.Ytepafgmiloncgaa.val I t2 sc)) : PS s t3 n g h c0 (k + 1) o (fun j => if j = k then wh else f j) := by
  have l13 : Lay t t3 7 := (E1.lay.trans E3.lay).trans E5.lay
  refine ⟨(P.lay.trans l13).le (by omega), E5.lt, fun j hj => ?_, fun I => ?_⟩
  · show (if j = k then wh else f j) < _
    split
    · exact E5.lay.lt E3.lt
    · exact l13.lt (P.vo j hj)
  · have hp := P.val I
    have e1 : un (bv I t3 fun j => if j = k then wh else f j) (k + 1) = un (bv I t f) k + (Go.Proofs.Ytepafgmiloncgaa.val I t3 wh).toNat * 2 ^ k := by
      show un _ k + _ = _
      rw [show bv I t3 (fun j => if j = k then wh else f j) k = Go.Proofs.Ytepafgmiloncgaa.val I t3 wh by simp [bv]]
      have hcg : ∀ j, j < k → bv I t3 (fun j => if j = k then wh else f j) j = bv I t f j := fun j hj => by
        have hne : j ≠ k := Nat.ne_of_lt hj
        simp only [bv, if_neg hne]
        exact l13.val (P.vo j (by omega)) I
      rw [un_congr hcg]
    have e2 : un (bv I s g) (k + 1) = un (bv I s g) k + (Go.Proofs.Ytepafgmiloncgaa.val I s (g k)).toNat * 2 ^ k := rfl
    have e3 : un (bv I s h) (k + 1) = un (bv I s h) k + (Go.Proofs.Ytepafgmiloncgaa.val I s (h k)).toNat * 2 ^ k := rfl
    have v0 := P.lay.val (hg k hk) I
    have v0' := P.lay.val (hh k hk) I
    have v1 := E1.val I
    have v2 := E2.val I
    have v3 := E3.val I
    have v4 := E4.val I
    have v5 := E5.val I
    simp only [v0, v0'] at v1 v2
    simp only [v1, E1.lay.val P.lt I] at v3 v4
    simp only [E3.lay.val E2.lt I, v2, v4] at v5
    rw [e1, e2, e3, v5, E5.lay.val E3.lt I, v3, Nat.pow_succ]
    generalize un (bv I s g) k = A at *
    generalize un (bv I s h) k = B at *
    generalize un (bv I t f) k = X at *
    generalize (Go.Proofs.Ytepafgmiloncgaa.val I s c0).toNat = c at *
    generalize 2 ^ k = P2 at *
    cases Go.Proofs.Ytepafgmiloncgaa.val I s (g k) <;> cases Go.Proofs.Ytepafgmiloncgaa.val I s (h k) <;> cases hv : Go.Proofs.Ytepafgmiloncgaa.val I t cy <;> simp [hv] at hp ⊢ <;> omega
/-- A sum. -/
structure SumIs (s t : Gr) (m n : Nat) (f : Nat → Nat) (cy : Nat) (x : (Nat → Bool) → Nat) : Prop where
  lay : Lay s t m
  vo : Vo t n f
  lt : cy < 2 * (t.n + 1)
  val : ∀ I, un (bv I t f) n + 2 ^ n * (val I t cy).toNat = x I
/-- A vector that was laid, by its number. -/
structure Nu (s t : Gr) (m n : Nat) (f : Nat → Nat) (x : (Nat → Bool) → Int) : Prop where
  lay : Lay s t m
  vo : Vo t n f
  val : ∀ I, num I t f n = x I
theorem un_bv_not (I : Nat → Bool) (s : Gr) (h : Nat → Nat) (n : Nat) : un (bv I s fun j => nt (h j)) n = un (fun j => !bv I s h j) n := un_congr fun j _ => val_nt I s (h j)
end Go.Proofs.Ytepafgmiloncgaa
