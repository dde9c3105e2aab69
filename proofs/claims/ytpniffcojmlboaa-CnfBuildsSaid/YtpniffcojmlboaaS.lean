/- Eval: mathematics, memory. -/
import Derived.Test.YtpniffcojmlboaaR
namespace Go.Proofs.Ytpniffcojmlboaa
open Go.RowKit Go.Lib Go.Maps
set_option maxRecDepth 100000

theorem cnt_mono {L : Nat → Option (Nat × Nat)} {i j : Nat} (h : i ≤ j) : cnt L i ≤ cnt L j := by
  induction h with
  | refl => exact Nat.le_refl _
  | step _ ih => exact Nat.le_trans ih (Nat.le_add_right _ _)
theorem cnt_inj {L : Nat → Option (Nat × Nat)} {i j : Nat} (hi : L i = none) (hj : L j = none) (h : cnt L i = cnt L j) : i = j := by
  have key : ∀ {a b : Nat}, L a = none → a < b → cnt L a < cnt L b := fun {a b} ha hab => by
    have h1 : cnt L (a + 1) = cnt L a + 1 := by
      show cnt L a + (if L a = none then 1 else 0) = _
      rw [if_pos ha]
    have h2 : cnt L (a + 1) ≤ cnt L b := cnt_mono hab
    omega
  rcases Nat.lt_trichotomy i j with e | e | e
  · have := key hi e; omega
  · exact e
  · have := key hj e; omega
theorem nin_is {L : Nat → Option (Nat × Nat)} {k : Nat} : ∀ {n : Nat}, k < cnt L n → nin L n k < n ∧ L (nin L n k) = none ∧ cnt L (nin L n k) = k
  | 0, h => absurd h (Nat.not_lt_zero _)
  | n + 1, h => by
    have h : k < cnt L n + (if L n = none then 1 else 0) := h
    show (if L n = none ∧ cnt L n = k then n else nin L n k) < n + 1 ∧ L (if L n = none ∧ cnt L n = k then n else nin L n k) = none ∧ cnt L (if L n = none ∧ cnt L n = k then n else nin L n k) = k
    by_cases e : L n = none ∧ cnt L n = k
    · rw [if_pos e]
      exact ⟨Nat.lt_succ_self _, e⟩
    · rw [if_neg e]
      have h2 : k < cnt L n := by
        by_cases e2 : L n = none
        · rw [if_pos e2] at h
          have : cnt L n ≠ k := fun e3 => e ⟨e2, e3⟩
          omega
        · rw [if_neg e2] at h; omega
      obtain ⟨a, b, c⟩ := nin_is h2
      exact ⟨by omega, b, c⟩
/-- The nodes' values when k inputs have theirs. -/
def vin (I : Nat → Bool) (L : Nat → Option (Nat × Nat)) (k j : Nat) : Bool := if j = 0 then false else if L (j - 1) = none ∧ cnt L (j - 1) < k then I (cnt L (j - 1)) else false
theorem vin_zero (I : Nat → Bool) (L : Nat → Option (Nat × Nat)) (j : Nat) : vin I L 0 j = false := by
  unfold vin; split
  · rfl
  · rw [if_neg (fun h => by omega)]
theorem vin_succ {I : Nat → Bool} {L : Nat → Option (Nat × Nat)} {n k : Nat} (hk : k < cnt L n) (j : Nat) : vin I L (k + 1) j = if j = nin L n k + 1 then I k else vin I L k j := by
  obtain ⟨_, h2, h3⟩ := nin_is hk
  by_cases e : j = nin L n k + 1
  · rw [if_pos e, e]
    unfold vin
    rw [if_neg (by omega), show nin L n k + 1 - 1 = nin L n k by omega, if_pos ⟨h2, by omega⟩, h3]
  · rw [if_neg e]
    unfold vin
    by_cases e0 : j = 0
    · rw [if_pos e0, if_pos e0]
    · rw [if_neg e0, if_neg e0]
      by_cases e1 : L (j - 1) = none
      · have e2 : cnt L (j - 1) ≠ k := fun e2 => e (by have := cnt_inj e1 h2 (e2.trans h3.symm); omega)
        by_cases e3 : cnt L (j - 1) < k
        · rw [if_pos ⟨e1, by omega⟩, if_pos ⟨e1, e3⟩]
        · rw [if_neg (fun h => by omega), if_neg (fun h => by omega)]
      · rw [if_neg (fun h => e1 h.1), if_neg (fun h => e1 h.1)]
/-- .. when the first k nodes have theirs. -/
def vand (T : Nat → Bool) (L : Nat → Option (Nat × Nat)) (k j : Nat) : Bool := if j < k then T j else if j = 0 then false else if L (j - 1) = none then T j else false
section
variable {I : Nat → Bool} {s : Gr}
theorem tab_input {j : Nat} (hj : j < s.n) (h : s.L j = none) : tab I s.L s.n (j + 1) = I (cnt s.L j) := by
  have := val_input (I := I) hj h
  unfold val ed at this
  rw [show 2 * (j + 1) / 2 = j + 1 by omega, show 2 * (j + 1) % 2 = 0 by omega] at this
  simpa using this
theorem tab_and {k a b : Nat} (hk : k < s.n) (h : s.L k = some (a, b)) (ha : a < 2 * (k + 1)) (hb : b < 2 * (k + 1)) : tab I s.L s.n (k + 1) = (ed (tab I s.L s.n) a && ed (tab I s.L s.n) b) := by
  have := val_and (I := I) hk h ha hb
  unfold val at this
  rw [← this]
  unfold ed
  rw [show 2 * (k + 1) / 2 = k + 1 by omega, show 2 * (k + 1) % 2 = 0 by omega]
  simp
theorem vin_all {j : Nat} (hj : j ≤ s.n) : vin I s.L (cnt s.L s.n) j = vand (tab I s.L s.n) s.L 0 j := by
  unfold vin vand
  rw [if_neg (Nat.not_lt_zero j)]
  by_cases e : j = 0
  · rw [if_pos e, if_pos e]
  · rw [if_neg e, if_neg e]
    by_cases e1 : s.L (j - 1) = none
    · have h1 := tab_input (I := I) (s := s) (j := j - 1) (by omega) e1
      rw [show j - 1 + 1 = j by omega] at h1
      have h2 : cnt s.L (j - 1 + 1) ≤ cnt s.L s.n := cnt_mono (by omega)
      have h3 : cnt s.L (j - 1 + 1) = cnt s.L (j - 1) + 1 := by
        show cnt s.L (j - 1) + (if s.L (j - 1) = none then 1 else 0) = _
        rw [if_pos e1]
      rw [if_pos ⟨e1, by omega⟩, if_pos e1, h1]
    · rw [if_neg (fun h => e1 h.1), if_neg e1]
theorem vand_succ (k j : Nat) : vand (tab I s.L s.n) s.L (k + 1) j = if j = k then tab I s.L s.n k else vand (tab I s.L s.n) s.L k j := by
  unfold vand
  by_cases e : j = k
  · rw [if_pos (by omega), if_pos e, e]
  · rw [if_neg e]
    by_cases e2 : j < k
    · rw [if_pos (by omega), if_pos e2]
    · rw [if_neg (by omega), if_neg e2]
/-- A node that is no and has its value. -/
theorem vand_no {k : Nat} (h : ndO s k = none) (hk : k ≤ s.n) (j : Nat) : vand (tab I s.L s.n) s.L (k + 1) j = vand (tab I s.L s.n) s.L k j := by
  rw [vand_succ]
  by_cases e : j = k
  · rw [if_pos e, e]
    unfold vand
    rw [if_neg (Nat.lt_irrefl _)]
    by_cases e0 : k = 0
    · rw [if_pos e0, e0, tab_zero]
    · rw [if_neg e0, if_pos]
      unfold ndO at h
      rw [if_pos (show 1 ≤ (k : Int) ∧ (k : Int) ≤ s.n by omega)] at h
      exact h
  · rw [if_neg e]
theorem ed_vand {k e : Nat} (he : e < 2 * k) : ed (vand (tab I s.L s.n) s.L k) e = ed (tab I s.L s.n) e := by
  unfold ed vand
  rw [if_pos (by omega)]
theorem ndO_some (hs : s.Ok) {k a b : Nat} (h : ndO s k = some (a, b)) : 1 ≤ k ∧ k ≤ s.n ∧ a < 2 * k ∧ b < 2 * k ∧ tab I s.L s.n k = (ed (vand (tab I s.L s.n) s.L k) a && ed (vand (tab I s.L s.n) s.L k) b) := by
  unfold ndO at h
  split at h
  · next hk =>
    have e : (k : Int).toNat - 1 = k - 1 := by omega
    rw [e] at h
    obtain ⟨h1, h2, h3, _⟩ := hs (k - 1) (by omega) a b h
    refine ⟨by omega, by omega, by omega, by omega, ?_⟩
    rw [ed_vand (by omega), ed_vand (by omega)]
    have := tab_and (I := I) (s := s) (k := k - 1) (by omega) h (by omega) (by omega)
    rwa [show k - 1 + 1 = k by omega] at this
  · cases h
theorem vand_all {j : Nat} (hj : j ≤ s.n) : vand (tab I s.L s.n) s.L (s.n + 1) j = tab I s.L s.n j := by
  unfold vand; rw [if_pos (by omega)]
theorem vand_zero (k : Nat) : vand (tab I s.L s.n) s.L k 0 = false := by
  unfold vand
  split
  · exact tab_zero _
  · rfl
end
/-- Eval's memory: the place of g, the values, the place of values. -/
structure Ew (w wr : World) (G n : Nat) (f : Nat → Bool) : Prop where
  bel : Below w.heap.size w wr
  cP : wr.cell? ⟨w.heap.size, 0, none⟩ = some (.pointer (some ⟨G, 0, none⟩))
  cB : wr.cell? ⟨w.heap.size + 2, 0, none⟩ = some (.slice (some ⟨w.heap.size + 1, 0, none⟩) n n)
  lt : w.heap.size + 2 < wr.heap.size
  row : wr.rowIs (w.heap.size + 1) 4 n (fun j => .bool (f j))
theorem Ew.then {w wr w' : World} {G n : Nat} {f : Nat → Bool} (h : Ew w wr G n f) (hb : Below wr.heap.size wr w') : Ew w w' G n f :=
  ⟨h.bel.trans (hb.mono h.bel.size), (hb.cell (p := ⟨w.heap.size, 0, none⟩) (by have := h.lt; show w.heap.size < _; omega)).trans h.cP, (hb.cell (p := ⟨w.heap.size + 2, 0, none⟩) h.lt).trans h.cB, Nat.lt_of_lt_of_le h.lt hb.size, h.row.of_block (hb.block _ h.row.lt)⟩
theorem Ew.congr {w wr : World} {G n : Nat} {f f' : Nat → Bool} (h : Ew w wr G n f) (hf : ∀ j, j < n → f' j = f j) : Ew w wr G n f' :=
  ⟨h.bel, h.cP, h.cB, h.lt, World.rowIs.congr h.row fun j hj => by simp only [hf j hj]⟩
theorem Ew.set {w wr : World} {G n : Nat} {f : Nat → Bool} (h : Ew w wr G n f) (k : Nat) (x : Bool) {f' : Nat → Bool} (hf : ∀ j, j < n → f' j = if j = k then x else f j) : Ew w (wr.setCell ⟨w.heap.size + 1, k, none⟩ (.bool x)) G n f' := by
  have hset : ∀ b, b ≠ w.heap.size + 1 → (wr.setCell ⟨w.heap.size + 1, k, none⟩ (.bool x)).heap[b]? = wr.heap[b]? := fun b e => Below.heap_setCell _ _ _ _ (fun k => e k)
  refine ⟨h.bel.setCell (by simp) _, ?_, ?_, by simpa using h.lt, World.rowIs.congr (h.row.set k (.bool x)) fun j hj => ?_⟩
  · rw [← h.cP]; exact World.cell?_of_block (hset _ (by simp))
  · rw [← h.cB]; exact World.cell?_of_block (hset _ (by simp))
  · simp only [hf j hj]
    split <;> rfl
theorem Ew.setOther {w wr : World} {G n : Nat} {f : Nat → Bool} (h : Ew w wr G n f) {p : Addr} (hp : w.heap.size + 3 ≤ p.block) (x : Value) : Ew w (wr.setCell p x) G n f := by
  have hset : ∀ b, b < w.heap.size + 3 → (wr.setCell p x).heap[b]? = wr.heap[b]? := fun b e => Below.heap_setCell _ _ _ _ (fun k => by omega)
  refine ⟨h.bel.setCell (by omega) _, ?_, ?_, by simpa using h.lt, h.row.of_block (hset _ (by omega))⟩
  · rw [← h.cP]; exact World.cell?_of_block (hset _ (by simp))
  · rw [← h.cB]; exact World.cell?_of_block (hset _ (by simp))
end Go.Proofs.Ytpniffcojmlboaa
