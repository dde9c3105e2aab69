/- Contracts: the sort and the compaction that Norm calls, Norm itself. -/
import Derived.Test.YtoffhgiljnagcaaRD
import Derived.Lib.OwnBridge
import Derived.Lib.RowBridge
import Derived.Lib.SortBridge
import Derived.Lib.AppendIntMem
import Derived.Lib.SlicesCompact
namespace Go.Proofs.Ytoffhgiljnagcaa
open Go.RowKit Go.Lib Go.Sort

theorem rk_bd {x : Int} (h : lit x = true) : 0 ≤ rk x ∧ rk x ≤ 200000 := by
  have := lit_iff.1 h
  unfold rk; split <;> omega
theorem rk_inj {x y : Int} (hx : lit x = true) (hy : lit y = true) (h : rk x = rk y) : x = y := by
  have := lit_iff.1 hx
  have := lit_iff.1 hy
  unfold rk at h; split at h <;> split at h <;> omega

set_option maxHeartbeats 400000 in
theorem cmp_any (x y : Int) (hx : lit x = true) (hy : lit y = true) (w : World) :
    Calls Try.prog 45 #[.int .i64 x, .int .i64 y] w fun e w' => e = .returned (.int .i64 (rk x - rk y)) ∧ w = w' := by
  have h1 := fun w => rank_any x (lit_iff.1 hx).2 w
  have h2 := fun w => rank_any y (lit_iff.1 hy).2 w
  obtain ⟨b1, b2⟩ := rk_bd hx
  obtain ⟨b3, b4⟩ := rk_bd hy
  clear hx hy
  generalize rk x = X at *
  generalize rk y = Y at *
  have H1 := Lib.hid h1; clear h1
  have H2 := Lib.hid h2; clear h2
  go_enter Try.func45, Try.ntmps45
  go_wp2_with fail
  refine (H1.out _).mono ?_
  rintro e w' ⟨rfl, rfl⟩
  go_wp2_with fail
  refine (H2.out _).mono ?_
  rintro e w' ⟨rfl, rfl⟩
  go_wp2
  go_ret
  exact ⟨rfl, rfl⟩

abbrev Lit : Type := { x : Int // lit x = true }
instance : Inhabited Lit := ⟨⟨1, rfl⟩⟩
def encL (x : Lit) : Value := .int .i64 x.1
def cfL (x y : Lit) : Int := rk x.1 - rk y.1
theorem ltL (x y : Lit) : ltOf cfL x y = decide (rk x.1 < rk y.1) := by
  unfold ltOf cfL; rw [Bool.eq_iff_iff]; simp; omega
theorem swoL : SWO (ltOf cfL) where
  irrefl x := by rw [ltL]; simp
  trans x y z h1 h2 := by rw [ltL] at *; simp at *; omega
  ntrans x y z h1 h2 := by rw [ltL] at *; simp at *; omega
theorem totL (x y : Lit) (h1 : ltOf cfL x y = false) (h2 : ltOf cfL y x = false) : x = y := by
  rw [ltL] at *; simp at *
  exact Subtype.ext (rk_inj x.2 y.2 (by omega))
def le (x y : Int) : Bool := decide (rk x ≤ rk y)
theorem geL : (fun x y : Lit => !ltOf cfL y x) = fun x y => le x.1 y.1 := by
  funext x y
  rw [ltL, Bool.eq_iff_iff]; simp [le]
def srt (l : List Int) : List Int := l.mergeSort le
def Own (w : World) (g : Nat) (l : List Int) : Prop := g < w.heap.size ∧ Holds (Value.int .i64) w g 0 l.toArray

theorem holds_map (w : World) (g : Nat) (L : List Lit) : Holds encL w g 0 L.toArray ↔ Holds (Value.int .i64) w g 0 (L.map (·.1)).toArray := by
  unfold Holds
  simp only [List.size_toArray, List.length_map]
  have key : ∀ j, j < L.length → encL L.toArray[j]! = Value.int .i64 (L.map (·.1)).toArray[j]! := fun j hj => by
    have e1 : L.toArray[j]! = L[j] := by simp [hj]
    have e2 : (L.map (·.1)).toArray[j]! = L[j].1 := by simp [hj]
    rw [e1, e2]; rfl
  exact ⟨fun h j hj => by rw [← key j hj]; exact h j hj, fun h j hj => by rw [key j hj]; exact h j hj⟩

theorem below_sortW {α : Type} [Inhabited α] {enc : α → Value} {w : World} {g n : Nat} {d : Array α} {os : Array Obj} (hg : g < w.heap.size) : Below g w (sortWorld enc w g 0 n d os) := by
  have h := below_putRow (enc := enc) (q := n) (d := d) (Below.refl g w) (Nat.le_refl g)
  exact h.trans (below_grow g (putRow enc (Sort.ahead w n) g 0 d) (by have := h.size; omega) 0 os)

theorem sort_own (l : List Int) (hl : ∀ x ∈ l, lit x = true) (hlen : l.length ≤ 140737488355328) (g cap : Nat) (w : World) (h : Own w g l) :
    Calls Try.prog 44 #[.slice (some ⟨g, 0, none⟩) l.length cap, .func (.func 45) #[] #[]] w fun e w' => e = .returned (.tuple #[]) ∧ Own w' g (srt l) ∧ Below g w w' := by
  let L : List Lit := l.attach.map fun x => ⟨x.1, hl x.1 x.2⟩
  have hL : L.map (·.1) = l := by simp [L]
  have hlL : L.length = l.length := by simp [L]
  have hH : Holds encL w g 0 L.toArray := by rw [holds_map, hL]; exact h.2
  have hcmp : CmpReads Try.prog 45 #[] encL cfL g 0 L.toArray.size w := fun m os dk _ x y =>
    (cmp_any x.1 y.1 x.2 y.2 _).mono fun _ _ ⟨he, hw⟩ => ⟨he, 0, hw.symm⟩
  have hS := Try.slices_SortFunc_total encL (fun _ => rfl) cfL swoL 45 #[] g 0 cap L.toArray w (enters_of Try.func45 (by kernel_rfl) rfl) hcmp.lays hH h.1 (by simp; omega) totL
  rw [geL] at hS
  have hsz : L.toArray.size = l.length := by simpa using hlL
  rw [hsz] at hS
  refine hS.mono ?_
  rintro e w' ⟨rfl, n, os, rfl⟩
  refine ⟨rfl, ⟨?_, ?_⟩, below_sortW h.1⟩
  · exact Nat.lt_of_lt_of_le h.1 (below_sortW h.1).size
  · have := holds_sortWorld encL w g 0 n L.toArray (L.mergeSort fun x y => le x.1 y.1).toArray os h.1 hH (by simp)
    rw [holds_map] at this
    rw [show srt l = (L.mergeSort fun x y => le x.1 y.1).map (·.1) from ?_]
    · exact this
    · rw [List.map_mergeSort (s := le) (fun _ _ _ _ => rfl), hL]; rfl

theorem compact_own (l : List Int) (hlen : l.length ≤ 140737488355328) (g cap : Nat) (hcap : l.length ≤ cap) (w : World) (h : Own w g l) :
    Calls Try.prog 47 #[.slice (some ⟨g, 0, none⟩) l.length cap] w fun e w' => e = .returned (.slice (some ⟨g, 0, none⟩) (Lib.compact l).length cap) ∧ Own w' g (Lib.compact l) ∧ Below g w w' := by
  refine (Try.slices_Compact_int g 0 cap l w h.2 (by omega) hcap).mono ?_
  rintro e w' ⟨rfl, q, rfl⟩
  have hb : Below g w (putRow (Value.int .i64) (Sort.ahead w q) g 0 (Lib.compact l ++ List.replicate (l.length - (Lib.compact l).length) 0).toArray) := below_putRow (Below.refl g w) (Nat.le_refl g)
  refine ⟨rfl, ⟨Nat.lt_of_lt_of_le h.1 hb.size, fun j hj => ?_⟩, hb⟩
  have hcl := compact_length_le l
  have hh := holds_putRow (Value.int .i64) (Sort.ahead w q) g 0 l.toArray (Lib.compact l ++ List.replicate (l.length - (Lib.compact l).length) 0).toArray h.2 (by simp; omega)
  simp only [List.size_toArray] at hj
  have := hh j (by simp; omega)
  have e1 : (Lib.compact l).toArray[j]! = (Lib.compact l)[j] := by simp [hj]
  have e2 : (Lib.compact l ++ List.replicate (l.length - (Lib.compact l).length) 0).toArray[j]! = (Lib.compact l)[j] := by
    rw [getElem!_pos _ j (by simp; omega)]
    simp [List.getElem_append_left, hj]
  rw [e2] at this
  rw [e1]
  exact this
end Go.Proofs.Ytoffhgiljnagcaa
