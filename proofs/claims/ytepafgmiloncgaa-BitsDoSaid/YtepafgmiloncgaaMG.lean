/- Mathematics: products. -/
import Derived.Test.YtepafgmiloncgaaMD
namespace Go.Proofs.Ytepafgmiloncgaa

/-- Behind j bits of a part of a product. -/
structure PartS (t u : Gr) (N : Nat) (A : Nat → Nat) (b k j : Nat) (f : Nat → Nat) : Prop where
  lay : Lay t u j
  vo : Vo u N f
  z : ∀ i, i < k ∨ k + j ≤ i → f i = 0
  val : ∀ I i, i < j → val I u (f (k + i)) = (val I t (A i) && val I t b)
theorem PartS.start {t : Gr} (ht : t.Ok) (N : Nat) (A : Nat → Nat) (b k : Nat) (f : Nat → Nat) (hf : ∀ i, f i = 0) : PartS t t N A b k 0 f :=
  ⟨Lay.refl ht, fun j _ => by rw [hf j]; omega, fun i _ => hf i, fun I i hi => by omega⟩
theorem PartS.step {t u u' : Gr} {N : Nat} {A f : Nat → Nat} {b k j r : Nat} (P : PartS t u N A b k j f) (hj : k + j < N) (hA : Vo t N A) (hb : b < 2 * (t.n + 1))
    (E : Ed u u' 1 r (fun I => Go.Proofs.Ytepafgmiloncgaa.val I u (A j) && Go.Proofs.Ytepafgmiloncgaa.val I u b)) : PartS t u' N A b k (j + 1) (fun i => if i = k + j then r else f i) := by
  refine ⟨P.lay.trans E.lay, fun i hi => ?_, fun i hi => ?_, fun I i hi => ?_⟩
  · show (if i = k + j then r else f i) < _
    split
    · exact E.lt
    · exact E.lay.lt (P.vo i hi)
  · show (if i = k + j then r else f i) = 0
    rw [if_neg (by omega)]
    exact P.z i (by omega)
  · show Go.Proofs.Ytepafgmiloncgaa.val I u' (if k + i = k + j then r else f (k + i)) = _
    by_cases e : i = j
    · subst e
      rw [if_pos rfl, E.val I, P.lay.val (hA i (by omega)), P.lay.val hb]
    · rw [if_neg (by omega), E.lay.val (P.vo (k + i) (by omega)), P.val I i (by omega)]
theorem PartS.un {t u : Gr} {N : Nat} {A f : Nat → Nat} {b k : Nat} (P : PartS t u N A b k (N - k) f) (hk : k ≤ N) (I : Nat → Bool) : un (bv I u f) N = (Go.Proofs.Ytepafgmiloncgaa.val I t b).toNat * (un (bv I t A) (N - k) * 2 ^ k) := by
  have h1 := un_split (bv I u f) k (N - k)
  rw [show k + (N - k) = N by omega] at h1
  have h2 : Go.Proofs.Ytepafgmiloncgaa.un (bv I u f) k = 0 := un_zero fun i hi => by unfold bv; rw [P.z i (.inl hi), val_zero]
  rw [h1, h2, Nat.zero_add]
  cases hb : Go.Proofs.Ytepafgmiloncgaa.val I t b
  · have h3 : Go.Proofs.Ytepafgmiloncgaa.un (fun i => bv I u f (k + i)) (N - k) = 0 := un_zero fun i hi => by
      show Go.Proofs.Ytepafgmiloncgaa.val I u (f (k + i)) = false
      rw [P.val I i hi, hb, Bool.and_false]
    rw [h3]; simp
  · have h3 : Go.Proofs.Ytepafgmiloncgaa.un (fun i => bv I u f (k + i)) (N - k) = Go.Proofs.Ytepafgmiloncgaa.un (bv I t A) (N - k) := un_congr fun i hi => by
      show Go.Proofs.Ytepafgmiloncgaa.val I u (f (k + i)) = Go.Proofs.Ytepafgmiloncgaa.val I t (A i)
      rw [P.val I i hi, hb, Bool.and_true]
    rw [h3]; simp [Nat.mul_comm]
/-- Behind k parts of a product. -/
structure ML (s t : Gr) (N : Nat) (A B : Nat → Nat) (k : Nat) (fp : Nat → Nat) : Prop where
  lay : Lay s t (8 * N * k)
  vo : Vo t N fp
  val : ∀ I, un (bv I t fp) N = un (bv I s A) N * un (bv I s B) k % 2 ^ N
theorem ML.start {s : Gr} (hs : s.Ok) (N : Nat) (A B f : Nat → Nat) (hf : ∀ i, f i = 0) : ML s s N A B 0 f :=
  ⟨Lay.refl hs, fun j _ => by rw [hf j]; omega, fun I => by
    rw [un_zero fun j _ => by unfold bv; rw [hf j, val_zero]]
    simp [un]⟩
theorem ML.step {s t u t' : Gr} {N : Nat} {A B fp f f' : Nat → Nat} {k cy : Nat} (L : ML s t N A B k fp) (hk : k < N) (hA : Vo s N A) (hB : Vo s N B) (P : PartS t u N A (B k) k (N - k) f)
    (S : SumIs u t' (7 * N) N f' cy (fun I => un (bv I u fp) N + un (bv I u f) N + (Go.Proofs.Ytepafgmiloncgaa.val I u 0).toNat)) : ML s t' N A B (k + 1) f' := by
  refine ⟨((L.lay.trans P.lay).trans S.lay).le (by rw [Nat.mul_add]; omega), S.vo, fun I => ?_⟩
  have h1 := S.val I
  have h2 := P.un (Nat.le_of_lt hk) I
  have h3 : un (bv I u fp) N = un (bv I t fp) N := bv_lay L.vo P.lay I
  have h4 := L.val I
  have h5 : un (bv I t A) (N - k) = un (bv I s A) (N - k) := un_congr fun j hj => L.lay.val (hA j (by omega)) I
  have h6 : Go.Proofs.Ytepafgmiloncgaa.val I t (B k) = bv I s B k := L.lay.val (hB k hk) I
  have h7 := un_split (bv I s A) (N - k) k
  rw [show N - k + k = N by omega] at h7
  have h8 := un_lt (bv I t' f') N
  rw [val_zero, h2, h3, h4, h5, h6] at h1
  have h9 : un (bv I s B) (k + 1) = un (bv I s B) k + (bv I s B k).toNat * 2 ^ k := rfl
  rw [h9]
  have hp : 2 ^ (N - k) * 2 ^ k = 2 ^ N := by rw [← Nat.pow_add, show N - k + k = N by omega]
  generalize un (bv I s A) N = a at *
  generalize un (bv I s A) (N - k) = lo at *
  generalize un (fun i => bv I s A (N - k + i)) k = X at *
  generalize un (bv I s B) k = b at *
  generalize un (bv I t' f') N = y at *
  generalize (bv I s B k).toNat = c at *
  have e1 : a * (b + c * 2 ^ k) = a * b + c * (lo * 2 ^ k) + 2 ^ N * (X * c) := by
    rw [Nat.mul_add, ← hp]
    conv => lhs; rhs; rw [h7]
    rw [Nat.add_mul, Nat.add_assoc]
    congr 1
    congr 1
    · rw [Nat.mul_left_comm]
    · rw [Nat.mul_comm (2 ^ (N - k)) (2 ^ k)]
      simp only [Nat.mul_comm, Nat.mul_left_comm, Nat.mul_assoc]
  rw [e1, Nat.add_mul_mod_self_left]
  have e2 : y = (a * b % 2 ^ N + c * (lo * 2 ^ k)) % 2 ^ N := by
    simp only [Bool.toNat_false, Nat.add_zero] at h1
    generalize (Go.Proofs.Ytepafgmiloncgaa.val I t' cy).toNat = cc at *
    rw [← h1, Nat.add_mul_mod_self_left, Nat.mod_eq_of_lt h8]
  rw [e2, Nat.mod_add_mod]
theorem ML.num {s t : Gr} {N : Nat} {A B fp : Nat → Nat} (L : ML s t N A B N fp) (I : Nat → Bool) : num I t fp N = trm N (num I s A N * num I s B N) := by
  refine trm_of ?_
  rw [show ((Go.Proofs.Ytepafgmiloncgaa.un (fun j => Go.Proofs.Ytepafgmiloncgaa.val I t (fp j)) N : Nat) : Int) = ((un (bv I s A) N * un (bv I s B) N % 2 ^ N : Nat) : Int) from congrArg _ (L.val I)]
  show _ = (sg (fun j => Go.Proofs.Ytepafgmiloncgaa.val I s (A j)) N * sg (fun j => Go.Proofs.Ytepafgmiloncgaa.val I s (B j)) N) % ((2 ^ N : Nat) : Int)
  rw [trm_mul (sg_emod (fun j => Go.Proofs.Ytepafgmiloncgaa.val I s (A j)) N) (sg_emod (fun j => Go.Proofs.Ytepafgmiloncgaa.val I s (B j)) N)]
  rw [Int.natCast_emod, Int.emod_emod, Int.natCast_mul]
  rfl
end Go.Proofs.Ytepafgmiloncgaa
