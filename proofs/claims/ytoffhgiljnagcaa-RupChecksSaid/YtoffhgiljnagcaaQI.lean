/- Opening the arguments that come in: lists of numbers, of bools, of lists of numbers. -/
import Derived.Test.YtoffhgiljnagcaaRows
import Derived.Test.YtoffhgiljnagcaaRN
import Derived.ProofKit
import Derived.OpenShut
import Derived.ChangeOld
import Derived.Deep.DeepHandedRow
import Derived.Deep.Grids
import Derived.Deep.Matrix
namespace Go.Proofs.Ytoffhgiljnagcaa
open Go.ChangeShapes Go.WideShapes Go.ChangeAt Go.RowKit

theorem own : ownKnob Try.prog.godebug = none := by kernel_rfl
theorem laidOut : laidOutB Try.prog = true := by kernel_rfl
theorem cells3 : Try.prog.cellsOf 3 = 1 := by kernel_rfl
theorem lt_of_cell {w : World} {b off : Nat} {v : Value} (h : w.cell? ⟨b, off, none⟩ = some v) : b < w.heap.size := by
  rcases Nat.lt_or_ge b w.heap.size with h' | h'
  · exact h'
  · unfold World.cell? at h
    simp [Array.getElem?_eq_none h'] at h
theorem addr_all {w : World} {a : Addr} {n : Nat} {f : Nat → Value} (h0 : 0 < n) (h : ∀ i, i < n → w.cell? (a.add i) = some (f i)) : ∃ b off, a = ⟨b, off, none⟩ ∧ b < w.heap.size ∧ ∀ i, i < n → w.cell? ⟨b, off + i, none⟩ = some (f i) := by
  obtain ⟨b, off, spot⟩ := a
  have hspot : spot = none := by simpa [Addr.add] using World.cell?_spot (h 0 h0)
  subst hspot
  have hh : ∀ i, i < n → w.cell? ⟨b, off + i, none⟩ = some (f i) := fun i hi => by rw [← Go.WideShapes.add_plain]; exact h i hi
  exact ⟨b, off, rfl, lt_of_cell (hh 0 h0), hh⟩

section
variable {H : Type} {enc : TypeId × Value → H} {w : World} {base : Nat} {held : Bool}
theorem cells23 : Try.prog.cellsOf 23 = 1 := by kernel_rfl
theorem cells4 : Try.prog.cellsOf 4 = 1 := by kernel_rfl

/-- A list of numbers. -/
theorem in_ints {a0 : Option Addr} {len0 cap0 : Nat} {x : DataW H × List MemPlace} {fuel : Nat}
    (hf : DataW.trod enc Try.prog w base (fun _ => true) held fuel 23 (Value.slice a0 len0 cap0).cells.toList = some x) :
    ∃ f : Nat → Int, Has w a0 len0 f ∧ len0 ≤ 9223372036854775807 ∧ len0 ≤ cap0 := by
  rcases open_ints Try.underlying23 Try.underlying3 cells3 hf with ⟨hcs, _⟩ | ⟨x, l, c, zs, hcs, _, hl, hm, hz, _, hcell, hwz⟩
  · simp [Value.cells] at hcs
    obtain ⟨rfl, rfl, rfl⟩ := hcs
    exact ⟨fun _ => 0, .inl rfl, by omega, Nat.le_refl _⟩
  · simp [Value.cells] at hcs
    obtain ⟨rfl, rfl, rfl⟩ := hcs
    have hzl : zs.length = cap0 := by simpa using hz
    refine ⟨fun j => zs.getD j 0, ?_, by unfold maxLen at hm; omega, hl⟩
    by_cases h0 : len0 = 0
    · exact .inl h0
    · obtain ⟨b, off, rfl, hb, hc⟩ := addr_all (n := cap0) (f := fun i => .int .i64 (zs.getD i 0)) (by omega) (fun i hi => hcell i (by omega))
      exact .inr ⟨b, off, rfl, hb, fun j hj => hc j (by omega)⟩

/-- A list of bools. -/
theorem in_bools {a0 : Option Addr} {len0 cap0 : Nat} {x : DataW H × List MemPlace} {fuel : Nat}
    (hf : DataW.trod enc Try.prog w base (fun _ => true) held fuel 34 (Value.slice a0 len0 cap0).cells.toList = some x) :
    ∃ f : Nat → Bool, HasB w a0 len0 f ∧ len0 ≤ 9223372036854775807 ∧ len0 ≤ cap0 := by
  rcases Deep.open_bools Try.underlying34 Try.underlying4 cells4 hf with ⟨hcs, _⟩ | ⟨x, l, c, B, hcs, _, hl, hm, _, hcell⟩
  · simp [Value.cells] at hcs
    obtain ⟨rfl, rfl, rfl⟩ := hcs
    exact ⟨fun _ => false, .inl rfl, by omega, Nat.le_refl _⟩
  · simp [Value.cells] at hcs
    obtain ⟨rfl, rfl, rfl⟩ := hcs
    refine ⟨B, ?_, by unfold maxLen at hm; omega, hl⟩
    by_cases h0 : len0 = 0
    · exact .inl h0
    · obtain ⟨b, off, rfl, hb, hc⟩ := addr_all (n := cap0) (f := fun i => .bool (B i)) (by omega) hcell
      exact .inr ⟨b, off, rfl, hb, fun j hj => hc j (by omega)⟩

/-- A list of lists of numbers. -/
theorem in_rows {a0 : Option Addr} {len0 cap0 : Nat} {x : DataW H × List MemPlace} {fuel : Nat}
    (hf : DataW.trod enc Try.prog w base (fun _ => true) held fuel 22 (Value.slice a0 len0 cap0).cells.toList = some x) :
    ∃ R : Nat → Row, Rws w a0 len0 R ∧ len0 ≤ 9223372036854775807 ∧ len0 ≤ cap0 ∧ ∀ j, j < len0 → (R j).n ≤ 9223372036854775807 := by
  rcases Deep.open_int_rows Try.underlying22 Try.underlying23 Try.underlying3 cells23 cells3 hf with ⟨hcs, _⟩ | ⟨x, l, c, A, L, C, Z, hcs, _, hl, hm, _, hcell⟩
  · simp [Value.cells] at hcs
    obtain ⟨rfl, rfl, rfl⟩ := hcs
    exact ⟨fun _ => ⟨none, 0, 0, fun _ => 0⟩, .inl rfl, by omega, Nat.le_refl _, fun _ _ => Nat.zero_le _⟩
  · simp [Value.cells] at hcs
    obtain ⟨rfl, rfl, rfl⟩ := hcs
    refine ⟨fun j => ⟨A j, L j, C j, fun i => (Z j).getD i 0⟩, ?_, by unfold maxLen at hm; omega, hl, fun j hj => ?_⟩
    · by_cases h0 : len0 = 0
      · exact .inl h0
      · obtain ⟨b, off, rfl, hb, hc⟩ := addr_all (n := cap0) (f := fun i => .slice (A i) (L i) (C i)) (by omega) (fun i hi => (hcell i hi).1)
        refine .inr ⟨b, off, rfl, hb, fun j hj => ⟨hc j (by omega), ?_⟩⟩
        obtain ⟨_, h2, _, _, _, h6, h7⟩ := hcell j (by omega)
        by_cases hj0 : L j = 0
        · exact .inl hj0
        · cases hA : A j with
          | none => have := h6 hA; omega
          | some a' =>
            obtain ⟨b', off', rfl, hb', hc'⟩ := addr_all (n := C j) (f := fun i => .int .i64 ((Z j).getD i 0)) (by omega) (h7 a' hA).2
            exact .inr ⟨b', off', hA, hb', fun i hi => hc' i (by simp only at hi; omega)⟩
    · obtain ⟨_, h2, h3, _⟩ := hcell j (by omega)
      unfold maxLen at h3; simp only; omega
theorem cap_rows {a0 : Option Addr} {len0 cap0 : Nat} {x : DataW H × List MemPlace} {fuel : Nat}
    (hf : DataW.trod enc Try.prog w base (fun _ => true) held fuel 22 (Value.slice a0 len0 cap0).cells.toList = some x) : cap0 ≤ 9223372036854775807 := by
  rcases Deep.open_int_rows Try.underlying22 Try.underlying23 Try.underlying3 cells23 cells3 hf with ⟨hcs, _⟩ | ⟨x, l, c, A, L, C, Z, hcs, _, hl, hm, _, hcell⟩
  · simp [Value.cells] at hcs
    omega
  · simp [Value.cells] at hcs
    unfold maxLen at hm
    omega
theorem nil_bools {a0 : Option Addr} {len0 cap0 : Nat} {x : DataW H × List MemPlace} {fuel : Nat}
    (hf : DataW.trod enc Try.prog w base (fun _ => true) held fuel 34 (Value.slice a0 len0 cap0).cells.toList = some x) : a0 = none → len0 = 0 ∧ cap0 = 0 := by
  rcases Deep.open_bools Try.underlying34 Try.underlying4 cells4 hf with ⟨hcs, _⟩ | ⟨x, l, c, B, hcs, _, hl, hm, _, hcell⟩
  · simp [Value.cells] at hcs
    exact fun _ => hcs.2
  · simp [Value.cells] at hcs
    rw [hcs.1]
    intro h
    cases h
end
end Go.Proofs.Ytoffhgiljnagcaa
