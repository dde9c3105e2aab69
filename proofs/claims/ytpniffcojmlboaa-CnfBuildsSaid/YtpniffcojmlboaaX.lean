/- Opening the arguments that come in: lists of bools, of bytes, of acts. -/
import Derived.Test.YtpniffcojmlboaaRows
import Derived.Test.YtpniffcojmlboaaT
import Derived.ProofKit
import Derived.OpenShut
import Derived.ChangeOld
import Derived.Deep.DeepHandedRow
import Derived.Deep.Slices
import Derived.Deep.Strs
import Derived.Deep.Grids
import Derived.Deep.Matrix
namespace Go.Proofs.Ytpniffcojmlboaa
open Go.ChangeShapes Go.WideShapes Go.ChangeAt Go.RowKit

theorem own : ownKnob Try.prog.godebug = none := by kernel_rfl
theorem laidOut : laidOutB Try.prog = true := by kernel_rfl
theorem cells4 : Try.prog.cellsOf 4 = 1 := by kernel_rfl
theorem cells5 : Try.prog.cellsOf 5 = 1 := by kernel_rfl
theorem cells33 : Try.prog.cellsOf 54 = 4 := by kernel_rfl
theorem lt_of_cell {w : World} {b off : Nat} {v : Value} (h : w.cell? ⟨b, off, none⟩ = some v) : b < w.heap.size := by
  rcases Nat.lt_or_ge b w.heap.size with h' | h'
  · exact h'
  · unfold World.cell? at h
    simp [Array.getElem?_eq_none h'] at h
theorem addr_all {w : World} {a : Addr} {n : Nat} {f : Nat → Value} (h0 : 0 < n) (h : ∀ i, i < n → w.cell? (a.add i) = some (f i)) : ∃ b off, a = ⟨b, off, none⟩ ∧ b < w.heap.size ∧ ∀ i, i < n → w.cell? ⟨b, off + i, none⟩ = some (f i) := by
  obtain ⟨b, off, spot⟩ := a
  have hspot : spot = none := by simpa [Addr.add] using World.cell?_spot (h 0 h0)
  subst hspot
  have hh : ∀ i, i < n → w.cell? ⟨b, off + i, none⟩ = some (f i) := fun i hi => by rw [← Go.WideShapes.add_plain]; exact h i hi
  exact ⟨b, off, rfl, lt_of_cell (hh 0 h0), hh⟩
/-- A list of bytes in memory. -/
def HasU (w : World) (a : Option Addr) (n : Nat) (f : Nat → Nat) : Prop :=
  n = 0 ∨ ∃ b off, a = some ⟨b, off, none⟩ ∧ b < w.heap.size ∧ ∀ j, j < n → w.cell? ⟨b, off + j, none⟩ = some (.int .u8 (f j : Nat)) ∧ f j < 256
/-- A list of acts in memory. -/
def Acts (w : World) (a : Option Addr) (n : Nat) (K A B C : Nat → Int) : Prop :=
  n = 0 ∨ ∃ b off, a = some ⟨b, off, none⟩ ∧ b < w.heap.size ∧ ∀ j, j < n → w.cell? ⟨b, off + j * 4, none⟩ = some (.int .i64 (K j)) ∧ w.cell? ⟨b, off + j * 4 + 1, none⟩ = some (.int .i64 (A j)) ∧ w.cell? ⟨b, off + j * 4 + 2, none⟩ = some (.int .i64 (B j)) ∧ w.cell? ⟨b, off + j * 4 + 3, none⟩ = some (.int .i64 (C j)) ∧ A j ≤ 9223372036854775807 ∧ B j ≤ 9223372036854775807 ∧ C j ≤ 9223372036854775807
theorem HasU.below {w w' : World} {a : Option Addr} {n : Nat} {f : Nat → Nat} (h : HasU w a n f) (hb : Below w.heap.size w w') : HasU w' a n f := by
  rcases h with h | ⟨b, off, ha, hlt, hc⟩
  · exact .inl h
  · exact .inr ⟨b, off, ha, Nat.lt_of_lt_of_le hlt hb.size, fun j hj => ⟨by rw [← (hc j hj).1]; exact hb.cell (p := ⟨b, off + j, none⟩) hlt, (hc j hj).2⟩⟩
theorem Acts.below {w w' : World} {a : Option Addr} {n : Nat} {K A B C : Nat → Int} (h : Acts w a n K A B C) (hb : Below w.heap.size w w') : Acts w' a n K A B C := by
  rcases h with h | ⟨b, off, ha, hlt, hc⟩
  · exact .inl h
  · have e : ∀ o, w'.cell? ⟨b, o, none⟩ = w.cell? ⟨b, o, none⟩ := fun o => hb.cell (p := ⟨b, o, none⟩) hlt
    exact .inr ⟨b, off, ha, Nat.lt_of_lt_of_le hlt hb.size, fun j hj => by rw [e, e, e, e]; exact hc j hj⟩

section
variable {H : Type} {enc : TypeId × Value → H} {w : World} {base : Nat} {held : Bool}
/-- A list of bools. -/
theorem in_bools {a0 : Option Addr} {len0 cap0 : Nat} {x : DataW H × List MemPlace} {fuel : Nat}
    (hf : DataW.trod enc Try.prog w base (fun _ => true) held fuel 23 (Value.slice a0 len0 cap0).cells.toList = some x) :
    ∃ f : Nat → Bool, HasB w a0 len0 f ∧ len0 ≤ 9223372036854775807 := by
  rcases Deep.open_bools Try.underlying23 Try.underlying4 cells4 hf with ⟨hcs, _⟩ | ⟨x, l, c, B, hcs, _, hl, hm, _, hcell⟩
  · simp [Value.cells] at hcs
    obtain ⟨rfl, rfl, rfl⟩ := hcs
    exact ⟨fun _ => false, .inl rfl, by omega⟩
  · simp [Value.cells] at hcs
    obtain ⟨rfl, rfl, rfl⟩ := hcs
    refine ⟨B, ?_, by unfold maxLen at hm; omega⟩
    by_cases h0 : len0 = 0
    · exact .inl h0
    · obtain ⟨b, off, rfl, hb, hc⟩ := addr_all (n := cap0) (f := fun i => .bool (B i)) (by omega) hcell
      exact .inr ⟨b, off, rfl, hb, fun j hj => hc j (by omega)⟩
/-- A list of bytes. -/
theorem in_bytes {a0 : Option Addr} {len0 cap0 : Nat} {x : DataW H × List MemPlace} {fuel : Nat}
    (hf : DataW.trod enc Try.prog w base (fun _ => true) held fuel 49 (Value.slice a0 len0 cap0).cells.toList = some x) :
    ∃ f : Nat → Nat, HasU w a0 len0 f ∧ len0 ≤ 9223372036854775807 := by
  rcases open_ints Try.underlying49 Try.underlying5 cells5 hf with ⟨hcs, _⟩ | ⟨x, l, c, zs, hcs, _, hl, hm, hz, _, hcell, hwz⟩
  · simp [Value.cells] at hcs
    obtain ⟨rfl, rfl, rfl⟩ := hcs
    exact ⟨fun _ => 0, .inl rfl, by omega⟩
  · simp [Value.cells] at hcs
    obtain ⟨rfl, rfl, rfl⟩ := hcs
    have hzl : zs.length = cap0 := by simpa using hz
    refine ⟨fun j => (zs.getD j 0).toNat, ?_, by unfold maxLen at hm; omega⟩
    by_cases h0 : len0 = 0
    · exact .inl h0
    · obtain ⟨b, off, rfl, hb, hc⟩ := addr_all (n := cap0) (f := fun i => .int .u8 (zs.getD i 0)) (by omega) (fun i hi => hcell i (by omega))
      refine .inr ⟨b, off, rfl, hb, fun j hj => ?_⟩
      have hmem : zs.getD j 0 ∈ zs := by
        rw [List.getD_eq_getElem?_getD, List.getElem?_eq_getElem (by omega)]
        exact List.getElem_mem _
      have hw := hwz _ hmem
      have h1 : IntKind.u8.min = 0 := by decide
      have h2 : IntKind.u8.max = 255 := by decide
      simp only [Lit.wf, h1, h2, Bool.and_eq_true, decide_eq_true_eq] at hw
      refine ⟨?_, by show (zs.getD j 0).toNat < 256; omega⟩
      rw [hc j (by omega)]
      show some (Value.int .u8 (zs.getD j 0)) = some (.int .u8 (((zs.getD j 0).toNat : Nat) : Int))
      rw [show (((zs.getD j 0).toNat : Nat) : Int) = zs.getD j 0 by omega]
/-- One act's four cells. -/
theorem act_cells {spare : Nat → Bool} {n : Nat} {a : Addr} {cs : List Value} {x : DataW H × List MemPlace}
    (hc : w.cells? base a 4 = some cs) (h : DataW.trod enc Try.prog w base spare held n 54 cs = some x) :
    ∃ k v b d : Int, w.cell? (a.add 0) = some (.int .i64 k) ∧ w.cell? (a.add 1) = some (.int .i64 v) ∧ w.cell? (a.add 2) = some (.int .i64 b) ∧ w.cell? (a.add 3) = some (.int .i64 d) ∧ (Lit.int .i64 v).wf = true ∧ (Lit.int .i64 b).wf = true ∧ (Lit.int .i64 d).wf = true := by
  obtain ⟨xs, m, _, _, hlen, hxs, hf⟩ := DataW.trod_struct Try.underlying54 h
  simp only [cells33] at hlen
  obtain ⟨_, hcl, hat⟩ := World.cells?_some hc
  match cs, hlen, xs, hxs with
  | [c0, c1, c2, c3], _, [y0, y1, y2, y3], _ =>
    have h0 := hf 0 _ rfl
    have h1 := hf 1 _ rfl
    have h2 := hf 2 _ rfl
    have h3 := hf 3 _ rfl
    simp [cells3] at h0 h1 h2 h3
    obtain ⟨k, e0, _, _⟩ := DataW.trod_int Try.underlying3 h0
    obtain ⟨v, e1, _, wv⟩ := DataW.trod_int Try.underlying3 h1
    obtain ⟨b, e2, _, wb⟩ := DataW.trod_int Try.underlying3 h2
    obtain ⟨d, e3, _, wd⟩ := DataW.trod_int Try.underlying3 h3
    simp at e0 e1 e2 e3
    subst e0 e1 e2 e3
    exact ⟨k, v, b, d, by simpa using hat 0 (by omega), by simpa using hat 1 (by omega), by simpa using hat 2 (by omega), by simpa using hat 3 (by omega), wv, wb, wd⟩
/-- A list of acts. -/
theorem in_acts {a : Option Addr} {len cap : Nat} {x : DataW H × List MemPlace} {n : Nat}
    (h : DataW.trod enc Try.prog w base (fun _ => true) held n 22 (Value.slice a len cap).cells.toList = some x) :
    ∃ f : (Nat → Int) × (Nat → Int) × (Nat → Int) × (Nat → Int), Acts w a len f.1 f.2.1 f.2.2.1 f.2.2.2 ∧ len ≤ 9223372036854775807 := by
  rcases Go.Deep.open_slice Try.underlying22 h with ⟨hcs, _⟩ | ⟨x, l, c, m, n', D, Pl, hcs, _, hl, hm, hmm, _, hx⟩
  · simp [Value.cells] at hcs
    obtain ⟨rfl, rfl, rfl⟩ := hcs
    exact ⟨⟨fun _ => 0, fun _ => 0, fun _ => 0, fun _ => 0⟩, .inl rfl, by omega⟩
  · simp [Value.cells] at hcs
    obtain ⟨rfl, rfl, rfl⟩ := hcs
    by_cases h0 : len = 0
    · exact ⟨⟨fun _ => 0, fun _ => 0, fun _ => 0, fun _ => 0⟩, .inl h0, by unfold maxLen at hm; omega⟩
    · have hle : len ≤ m := by rw [hmm]; split <;> omega
      have hall : ∀ i, i < len → ∃ k v b d : Int, w.cell? ((x.add (i * 4)).add 0) = some (.int .i64 k) ∧ w.cell? ((x.add (i * 4)).add 1) = some (.int .i64 v) ∧ w.cell? ((x.add (i * 4)).add 2) = some (.int .i64 b) ∧ w.cell? ((x.add (i * 4)).add 3) = some (.int .i64 d) ∧ (Lit.int .i64 v).wf = true ∧ (Lit.int .i64 b).wf = true ∧ (Lit.int .i64 d).wf = true := fun i hi => by
        obtain ⟨cs', hc, ht⟩ := hx i (by omega)
        rw [cells33] at hc
        exact act_cells hc ht
      obtain ⟨K, hK⟩ := Go.Deep.choose_lt hall
      obtain ⟨V, hV⟩ := Go.Deep.choose_lt hK
      obtain ⟨B, hB⟩ := Go.Deep.choose_lt hV
      obtain ⟨D, hD⟩ := Go.Deep.choose_lt hB
      obtain ⟨b, off, spot⟩ := x
      have hspot : spot = none := by
        have := (hD 0 (by omega)).1
        rw [Go.Deep.add_add] at this
        simpa [Addr.add] using World.cell?_spot this
      subst hspot
      have hc : ∀ j, j < len → w.cell? ⟨b, off + j * 4, none⟩ = some (.int .i64 (K j)) ∧ w.cell? ⟨b, off + j * 4 + 1, none⟩ = some (.int .i64 (V j)) ∧ w.cell? ⟨b, off + j * 4 + 2, none⟩ = some (.int .i64 (B j)) ∧ w.cell? ⟨b, off + j * 4 + 3, none⟩ = some (.int .i64 (D j)) ∧ V j ≤ 9223372036854775807 ∧ B j ≤ 9223372036854775807 ∧ D j ≤ 9223372036854775807 := fun j hj => by
        obtain ⟨h1, h2, h3, h4, h5, h6, h7⟩ := hD j hj
        rw [Go.WideShapes.add_plain, Go.WideShapes.add_plain] at h1 h2 h3 h4
        exact ⟨h1, h2, h3, h4, (bounds_i64 h5).2, (bounds_i64 h6).2, (bounds_i64 h7).2⟩
      exact ⟨⟨K, V, B, D⟩, .inr ⟨b, off, rfl, lt_of_cell (hc 0 (by omega)).1, hc⟩, by unfold maxLen at hm; omega⟩
end
end Go.Proofs.Ytpniffcojmlboaa
