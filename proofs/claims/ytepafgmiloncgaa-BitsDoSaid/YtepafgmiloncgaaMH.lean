/- Mathematics: the same, less, inputs. -/
import Derived.Test.YtepafgmiloncgaaMD
namespace Go.Proofs.Ytepafgmiloncgaa

/-- Behind k bits of Same. -/
structure SaS (s t : Gr) (A B : Nat → Nat) (k r : Nat) : Prop where
  lay : Lay s t (4 * k)
  lt : r < 2 * (t.n + 1)
  val : ∀ I, val I t r = allB (fun j => val I s (A j) == val I s (B j)) k
theorem SaS.start {s : Gr} (hs : s.Ok) (A B : Nat → Nat) : SaS s s A B 0 1 := ⟨Lay.refl hs, by omega, fun I => val_one I s⟩
theorem SaS.step {s t t1 t2 : Gr} {N : Nat} {A B : Nat → Nat} {k r x o : Nat} (P : SaS s t A B k r) (hk : k < N) (hA : Vo s N A) (hB : Vo s N B)
    (E1 : Ed t t1 3 x (fun I => Go.Proofs.Ytepafgmiloncgaa.val I t (A k) != Go.Proofs.Ytepafgmiloncgaa.val I t (B k))) (E2 : Ed t1 t2 1 o (fun I => Go.Proofs.Ytepafgmiloncgaa.val I t1 r && Go.Proofs.Ytepafgmiloncgaa.val I t1 (nt x))) : SaS s t2 A B (k + 1) o :=
  ⟨((P.lay.trans E1.lay).trans E2.lay).le (by omega), E2.lt, fun I => by
    rw [E2.val I, val_nt, E1.val I, E1.lay.val P.lt, P.val I, P.lay.val (hA k hk), P.lay.val (hB k hk)]
    rw [show allB (fun j => Go.Proofs.Ytepafgmiloncgaa.val I s (A j) == Go.Proofs.Ytepafgmiloncgaa.val I s (B j)) (k + 1) = (allB (fun j => Go.Proofs.Ytepafgmiloncgaa.val I s (A j) == Go.Proofs.Ytepafgmiloncgaa.val I s (B j)) k && (Go.Proofs.Ytepafgmiloncgaa.val I s (A k) == Go.Proofs.Ytepafgmiloncgaa.val I s (B k))) from rfl]
    cases Go.Proofs.Ytepafgmiloncgaa.val I s (A k) <;> cases Go.Proofs.Ytepafgmiloncgaa.val I s (B k) <;> simp⟩
theorem SaS.fin {s t : Gr} {A B : Nat → Nat} {N r : Nat} (P : SaS s t A B N r) (I : Nat → Bool) : Go.Proofs.Ytepafgmiloncgaa.val I t r = decide (num I s A N = num I s B N) := by
  rw [P.val I, Bool.eq_iff_iff, allB_iff, decide_eq_true_iff]
  unfold num
  rw [sg_eq_iff]
  exact ⟨fun h i hi => by simpa using h i hi, fun h i hi => by simpa using h i hi⟩
/-- Behind k bits of Less. -/
structure LeS (s t : Gr) (A B : Nat → Nat) (k r : Nat) : Prop where
  lay : Lay s t (4 * k)
  lt : r < 2 * (t.n + 1)
  val : ∀ I, val I t r = decide (un (bv I s A) k < un (bv I s B) k)
theorem LeS.start {s : Gr} (hs : s.Ok) (A B : Nat → Nat) : LeS s s A B 0 0 := ⟨Lay.refl hs, by omega, fun I => by rw [val_zero]; simp [un]⟩
theorem LeS.step {s t t1 t2 t3 t4 : Gr} {N : Nat} {A B : Nat → Nat} {k r p q x o : Nat} (P : LeS s t A B k r) (hk : k < N) (hA : Vo s N A) (hB : Vo s N B)
    (E1 : Ed t t1 1 p (fun I => Go.Proofs.Ytepafgmiloncgaa.val I t (nt (A k)) && Go.Proofs.Ytepafgmiloncgaa.val I t (B k)))
    (E2 : Ed t1 t2 1 q (fun I => Go.Proofs.Ytepafgmiloncgaa.val I t1 (A k) && Go.Proofs.Ytepafgmiloncgaa.val I t1 (nt (B k))))
    (E3 : Ed t2 t3 1 x (fun I => Go.Proofs.Ytepafgmiloncgaa.val I t2 (nt q) && Go.Proofs.Ytepafgmiloncgaa.val I t2 r))
    (E4 : Ed t3 t4 1 o (fun I => Go.Proofs.Ytepafgmiloncgaa.val I t3 p || Go.Proofs.Ytepafgmiloncgaa.val I t3 x)) : LeS s t4 A B (k + 1) o :=
  ⟨((((P.lay.trans E1.lay).trans E2.lay).trans E3.lay).trans E4.lay).le (by omega), E4.lt, fun I => by
    have a0 := P.lay.val (hA k hk) I
    have b0 := P.lay.val (hB k hk) I
    have a1 := E1.lay.val (P.lay.lt (hA k hk)) I
    have b1 := E1.lay.val (P.lay.lt (hB k hk)) I
    rw [E4.val I, E3.lay.val (E2.lay.lt E1.lt), E2.lay.val E1.lt, E1.val I, val_nt, a0, b0, E3.val I, val_nt, E2.val I, val_nt, a1, b1, a0, b0, E2.lay.val (E1.lay.lt P.lt), E1.lay.val P.lt, P.val I]
    have e1 : un (bv I s A) (k + 1) = un (bv I s A) k + (Go.Proofs.Ytepafgmiloncgaa.val I s (A k)).toNat * 2 ^ k := rfl
    have e2 : un (bv I s B) (k + 1) = un (bv I s B) k + (Go.Proofs.Ytepafgmiloncgaa.val I s (B k)).toNat * 2 ^ k := rfl
    have l1 := un_lt (bv I s A) k
    have l2 := un_lt (bv I s B) k
    rw [e1, e2]
    generalize un (bv I s A) k = a at *
    generalize un (bv I s B) k = b at *
    generalize 2 ^ k = P2 at *
    rw [Bool.eq_iff_iff, decide_eq_true_iff]
    cases Go.Proofs.Ytepafgmiloncgaa.val I s (A k) <;> cases Go.Proofs.Ytepafgmiloncgaa.val I s (B k) <;> simp <;> omega⟩
/-- With the signs turned round. -/
def swp (N : Nat) (A B : Nat → Nat) (j : Nat) : Nat := if j = N - 1 then B j else A j
theorem LeS.fin {s t : Gr} {A B : Nat → Nat} {N r : Nat} (hN : 0 < N) (P : LeS s t (swp N A B) (swp N B A) N r) (I : Nat → Bool) : Go.Proofs.Ytepafgmiloncgaa.val I t r = decide (num I s A N < num I s B N) := by
  rw [P.val I]
  obtain ⟨m, rfl⟩ : ∃ m, N = m + 1 := ⟨N - 1, by omega⟩
  have h1 : un (bv I s (swp (m + 1) A B)) (m + 1) = un (bv I s A) m + (bv I s B m).toNat * 2 ^ m := by
    have e : un (bv I s (swp (m + 1) A B)) m = un (bv I s A) m := un_congr fun j hj => by unfold bv swp; rw [if_neg (by omega)]
    have e2 : bv I s (swp (m + 1) A B) m = bv I s B m := by unfold bv swp; rw [if_pos (by omega)]
    show un _ m + _ = _
    rw [e, e2]
  have h2 : un (bv I s (swp (m + 1) B A)) (m + 1) = un (bv I s B) m + (bv I s A m).toNat * 2 ^ m := by
    have e : un (bv I s (swp (m + 1) B A)) m = un (bv I s B) m := un_congr fun j hj => by unfold bv swp; rw [if_neg (by omega)]
    have e2 : bv I s (swp (m + 1) B A) m = bv I s A m := by unfold bv swp; rw [if_pos (by omega)]
    show un _ m + _ = _
    rw [e, e2]
  have h3 : num I s A (m + 1) = (un (bv I s A) (m + 1) : Int) - (if bv I s A m then ((2 ^ (m + 1) : Nat) : Int) else 0) := sg_eq (v := bv I s A) (by omega)
  have h4 : num I s B (m + 1) = (un (bv I s B) (m + 1) : Int) - (if bv I s B m then ((2 ^ (m + 1) : Nat) : Int) else 0) := sg_eq (v := bv I s B) (by omega)
  have h5 : un (bv I s A) (m + 1) = un (bv I s A) m + (bv I s A m).toNat * 2 ^ m := rfl
  have h6 : un (bv I s B) (m + 1) = un (bv I s B) m + (bv I s B m).toNat * 2 ^ m := rfl
  rw [h1, h2, h3, h4, h5, h6, Nat.pow_succ]
  generalize un (bv I s A) m = a at *
  generalize un (bv I s B) m = b at *
  generalize 2 ^ m = P2 at *
  rw [Bool.eq_iff_iff, decide_eq_true_iff, decide_eq_true_iff]
  cases bv I s A m <;> cases bv I s B m <;> simp <;> omega
/-- n inputs. -/
def sIn (n : Nat) : Gr := ⟨n, fun _ => none⟩
theorem sIn_add (n : Nat) : (sIn n).add none = sIn (n + 1) := by
  unfold sIn Gr.add
  congr 1
  funext i
  simp
theorem sIn_ok (n : Nat) : (sIn n).Ok := fun k _ a b e => by cases e
theorem cnt_none : ∀ k, cnt (fun _ => none) k = k
  | 0 => rfl
  | k + 1 => by unfold cnt; rw [cnt_none k]; simp
theorem val_sIn (I : Nat → Bool) {n j : Nat} (h : j < n) : val I (sIn n) (2 * (j + 1)) = I j := by
  rw [val_input (s := sIn n) h rfl]
  exact congrArg I (cnt_none j)
theorem Vo.sIn {n p k : Nat} (h : p + k ≤ n) : Vo (sIn n) k (fun j => 2 * (p + j + 1)) := fun j hj => by show 2 * (p + j + 1) < 2 * (n + 1); omega
theorem num_sIn (I : Nat → Bool) {n p k : Nat} (h : p + k ≤ n) : num I (sIn n) (fun j => 2 * (p + j + 1)) k = sg (fun j => I (p + j)) k := sg_congr fun j hj => val_sIn I (by omega)
end Go.Proofs.Ytepafgmiloncgaa
