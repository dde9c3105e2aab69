/- What the rows' proofs share: the listed tables. -/
import Derived.Test.YtgikihbnafadjaaDoorCards
import Derived.Test.YtgikihbnafadjaaDoorTie
import Derived.Test.YtgikihbnafadjaaDoorC
import Derived.ProofKit
import Derived.OpenShut
import Derived.ChangeOld
import Derived.Deep.DeepHandedRow
import Derived.Lib.LaidTab
namespace Go.Proofs.YtgikihbnafadjaaDoor
open Go.ChangeShapes Go.WideShapes Go.ChangeAt Go.RowKit

theorem own : ownKnob Tryd.prog.godebug = none := by kernel_rfl
theorem laidOut : laidOutB Tryd.prog = true := by kernel_rfl
def strD {H : Type} (L : List Wd) : DataW H := .agg (L.map fun x => .lit (.string x))
/-- An array of texts that reads as the table holds the table's texts, cell for cell. -/
theorem cells_of_strs {H : Type} {enc : TypeId × Value → H} {P : Program} {w : World} {base : Nat} {sp : Nat → Bool} {held : Bool} {fuel : Nat} {t e : TypeId} {n : Nat} {cs : List Value} {L : List Wd} {p : List MemPlace}
    (ht : P.underlying t = some (.array n e)) (he : P.underlying e = some .string) (hce : P.cellsOf e = 1) (hct : P.cellsOf t = n)
    (h : DataW.trod enc P w base sp held fuel t cs = some (strD L, p)) : cs = L.map fun x => Value.string (bs x) := by
  cases fuel with
  | zero => simp [DataW.trod] at h
  | succ fuel =>
    simp only [DataW.trod, ht, hce, hct, Nat.mul_one] at h
    split at h
    · rename_i hl
      obtain ⟨xs, hm, hx⟩ := Option.map_eq_some_iff.1 h
      have hxs : xs.map (·.1) = L.map fun x => (DataW.lit (.string x) : DataW H) := by
        have := congrArg Prod.fst hx
        simpa [strD] using this
      have hxl : xs.length = n := by simpa using Lib.mapM_length hm
      have hzl : L.length = n := by
        have := congrArg List.length hxs
        simp at this
        omega
      apply List.ext_getElem?
      intro i
      by_cases hi : i < n
      · obtain ⟨b, hb, hf⟩ := Lib.mapM_at hm i i (by simp [hi])
        obtain ⟨z, hc, rfl, _⟩ := DataW.trod_string he hf
        have h1 : cs[i]? = some (.string z) := by
          have := congrArg (·[0]?) hc
          simpa [List.getElem?_take, List.getElem?_drop] using this
        have h2 : (xs.map (·.1))[i]? = some (DataW.lit (.string z.data.toList) : DataW H) := by simp [hb]
        rw [hxs] at h2
        simp only [List.getElem?_map, Option.map_eq_some_iff, DataW.lit.injEq, Lit.string.injEq] at h2
        obtain ⟨z', hz', e2⟩ := h2
        have e3 : z = bs z' := by
          apply ByteArray.ext
          apply Array.toList_inj.1
          rw [bs_data, e2]
        simp [h1, hz', e3]
      · rw [List.getElem?_eq_none (by omega), List.getElem?_eq_none (by simp; omega)]
    · cases h
theorem row_of_vars {W : World} {name : String} {L : List Wd} {rest : List (String × DataW Unit)} {g : Nat} {t : TypeId} {n : Nat} {ps : List MemPlace}
    (hg : Tryd.prog.globalNamed name = some g) (hty : (Tryd.prog.globals[g]?).map (·.type) = some t) (ht : Tryd.prog.underlying t = some (.array n 9)) (hce : Tryd.prog.cellsOf 9 = 1) (hct : Tryd.prog.cellsOf t = n)
    (h : DataW.LaidVars Tryd.prog W ((name, strD L) :: rest) ps) : (∃ t fr, W.heap[g]? = some (.cells (strs L) t fr)) ∧ ∃ q, DataW.LaidVars Tryd.prog W rest q := by
  obtain ⟨g', t', cs, fuel, p, q, hg', ht', hvar, hd, h2, _⟩ := h
  obtain rfl := Option.some.inj (hg.symm.trans hg')
  obtain rfl := Option.some.inj (hty.symm.trans ht')
  have e := cells_of_strs ht Tryd.underlying9 hce hct hd
  refine ⟨?_, _, h2⟩
  unfold World.var? at hvar
  rw [hg] at hvar
  simp only [Option.bind_some] at hvar
  split at hvar
  · rename_i c t2 fr hb
    simp only [Option.some.injEq] at hvar
    subst hvar
    refine ⟨t2, fr, ?_⟩
    rw [hb, ← Array.toArray_toList (xs := c), e]
    rfl
  · cases hvar
theorem cells9 : Tryd.prog.cellsOf 9 = 1 := by kernel_rfl
theorem cells48 : Tryd.prog.cellsOf 48 = 21 := by kernel_rfl
theorem cells54 : Tryd.prog.cellsOf 54 = 18 := by kernel_rfl
theorem cells56 : Tryd.prog.cellsOf 56 = 4 := by kernel_rfl
theorem nKeys : Tryd.prog.globalNamed "weirgate/lex.keywords" = some 0 := by kernel_rfl
theorem nSigns : Tryd.prog.globalNamed "weirgate/lex.signs" = some 1 := by kernel_rfl
theorem nBytes : Tryd.prog.globalNamed "weirgate/lex.bytesOf" = some 3 := by kernel_rfl
theorem tKeys : (Tryd.prog.globals[0]?).map (·.type) = some 48 := by kernel_rfl
theorem tSigns : (Tryd.prog.globals[1]?).map (·.type) = some 54 := by kernel_rfl
theorem tBytes : (Tryd.prog.globals[3]?).map (·.type) = some 56 := by kernel_rfl
theorem dKeys : (Rows.laid_weirgate_lex_keywords : DataW Unit) = strD keywords := by kernel_rfl
theorem dSigns : (Rows.laid_weirgate_lex_signs : DataW Unit) = strD signs := by kernel_rfl
theorem dBytes : (Rows.laid_weirgate_lex_bytesOf : DataW Unit) = strD [kb 0, kb 1, kb 2, kb 3] := by kernel_rfl
/-- What the three listed tables give. -/
theorem gl_of {W : World} (h : laidMet Tryd.prog [("weirgate/lex.bytesOf", Rows.laid_weirgate_lex_bytesOf), ("weirgate/lex.signs", Rows.laid_weirgate_lex_signs), ("weirgate/lex.keywords", Rows.laid_weirgate_lex_keywords)] W) : Gl W := by
  obtain ⟨ps, h1, _⟩ := h
  rw [dBytes, dSigns, dKeys] at h1
  obtain ⟨hb, q1, h2⟩ := row_of_vars nBytes tBytes Tryd.underlying56 cells9 cells56 h1
  obtain ⟨hs, q2, h3⟩ := row_of_vars nSigns tSigns Tryd.underlying54 cells9 cells54 h2
  obtain ⟨hk, q3, _⟩ := row_of_vars nKeys tKeys Tryd.underlying48 cells9 cells48 h3
  exact ⟨hk, hs, hb⟩

/-- A world for the witness: the tables as their initialisers lay them. -/
def laidTab (zs : Array Value) : Obj → Obj
  | .cells _ t frozen => .cells zs t frozen
  | o => o
noncomputable def laidWorld (os : Os) : World :=
  { World.holding Tryd.prog os ⟨#[], #[], []⟩ with heap := ((((World.holding Tryd.prog os ⟨#[], #[], []⟩).heap.modify 0 (laidTab (strs keywords))).modify 1 (laidTab (strs signs))).modify 3 (laidTab (strs [kb 0, kb 1, kb 2, kb 3]))) }
/-- A text that came in. -/
theorem bs_of (s : ByteArray) : s = bs s.data.toList := by
  apply ByteArray.ext
  simp [bs]
theorem len_of {s : ByteArray} (h : s.size ≤ maxLen) : s.data.toList.length ≤ 9223372036854775807 := by
  have e : s.data.toList.length = s.size := Array.length_toList
  unfold maxLen at h
  omega
end Go.Proofs.YtgikihbnafadjaaDoor
