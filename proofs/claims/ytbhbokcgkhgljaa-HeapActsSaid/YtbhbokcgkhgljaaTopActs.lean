/- HeapActs: for every number of variables and every list of acts the law returns true, and the list reads afterwards as before. No condition (more than 80 acts, and 61 to 100000 variables, are let go by the law itself). -/
import Derived.Test.YtbhbokcgkhgljaaRows
import Derived.Test.YtbhbokcgkhgljaaQ
import Derived.Test.YtbhbokcgkhgljaaL
import Derived.WalkKit
import Derived.ProofKit
import Derived.OpenShut
import Derived.ShutString
import Derived.ChangeOld
import Derived.Below
import Derived.Deep.Slices
import Derived.Deep.Strs
namespace Go.Proofs.Ytbhbokcgkhgljaa.heapActs
open Go.ChangeShapes Go.WideShapes Go.ChangeAt Go.RowKit
set_option linter.unusedVariables false

theorem own : ownKnob Try.prog.godebug = none := by kernel_rfl
theorem laidOut : laidOutB Try.prog = true := by kernel_rfl
theorem cells31 : Try.prog.cellsOf 31 = 3 := by kernel_rfl
theorem cells3 : Try.prog.cellsOf 3 = 1 := by kernel_rfl
theorem cells2 : Try.prog.cellsOf 2 = 1 := by kernel_rfl

/-- One act's three cells. -/
theorem act_cells {H : Type} {enc : TypeId × Value → H} {w : World} {base : Nat} {spare : Nat → Bool} {held : Bool} {n : Nat} {a : Addr} {cs : List Value} {x : DataW H × List MemPlace}
    (hc : w.cells? base a 3 = some cs) (h : DataW.trod enc Try.prog w base spare held n 31 cs = some x) :
    ∃ k v b : Int, w.cell? (a.add 0) = some (.int .i64 k) ∧ w.cell? (a.add 1) = some (.int .i64 v) ∧ w.cell? (a.add 2) = some (.int .i64 b) ∧ (Lit.int .i64 b).wf = true := by
  obtain ⟨y0, y1, y2, m, _, hlen, h0, h1, h2⟩ := Go.Deep.trod_struct3 Try.underlying31 h
  simp only [cells31] at hlen
  obtain ⟨_, hcl, hat⟩ := World.cells?_some hc
  match cs, hlen with
  | [c0, c1, c2], _ =>
    simp [cells3, cells2] at h0 h1 h2
    obtain ⟨k, e0, _, _⟩ := DataW.trod_int Try.underlying3 h0
    obtain ⟨v, e1, _, _⟩ := DataW.trod_int Try.underlying3 h1
    obtain ⟨b, e2, _, wb⟩ := DataW.trod_int Try.underlying2 h2
    simp at e0 e1 e2
    subst e0 e1 e2
    exact ⟨k, v, b, by simpa using hat 0 (by omega), by simpa using hat 1 (by omega), by simpa using hat 2 (by omega), wb⟩

theorem in_acts {H : Type} {enc : TypeId × Value → H} {w : World} {base : Nat} {spare : Nat → Bool} {held : Bool} {n : Nat} {a : Option Addr} {len cap : Nat} {x : DataW H × List MemPlace}
    (h : DataW.trod enc Try.prog w base spare held n 22 (Value.slice a len cap).cells.toList = some x) :
    (∃ K V B : Nat → Int, Acts w a len K V B ∧ ∀ j, j < len → B j ≤ 9223372036854775807) ∧ len ≤ 9223372036854775807 := by
  rcases Go.Deep.open_slice Try.underlying22 h with ⟨hcs, _⟩ | ⟨x, l, c, m, n', D, Pl, hcs, _, hl, hm, hmm, _, hx⟩
  · simp [Value.cells] at hcs
    obtain ⟨rfl, rfl, rfl⟩ := hcs
    exact ⟨⟨fun _ => 0, fun _ => 0, fun _ => 0, .inl rfl, fun j hj => by omega⟩, by omega⟩
  · simp [Value.cells] at hcs
    obtain ⟨rfl, rfl, rfl⟩ := hcs
    refine ⟨?_, by unfold maxLen at hm; omega⟩
    by_cases h0 : len = 0
    · exact ⟨fun _ => 0, fun _ => 0, fun _ => 0, .inl h0, fun j hj => by omega⟩
    · have hle : len ≤ m := by rw [hmm]; split <;> omega
      have hall : ∀ i, i < len → ∃ k v b : Int, w.cell? ((x.add (i * 3)).add 0) = some (.int .i64 k) ∧ w.cell? ((x.add (i * 3)).add 1) = some (.int .i64 v) ∧ w.cell? ((x.add (i * 3)).add 2) = some (.int .i64 b) ∧ (Lit.int .i64 b).wf = true := fun i hi => by
        obtain ⟨cs', hc, ht⟩ := hx i (by omega)
        rw [cells31] at hc
        exact act_cells hc ht
      obtain ⟨K, hK⟩ := Go.Deep.choose_lt hall
      obtain ⟨V, hV⟩ := Go.Deep.choose_lt hK
      obtain ⟨B, hB⟩ := Go.Deep.choose_lt hV
      obtain ⟨b, off, spot⟩ := x
      have hspot : spot = none := by
        have := (hB 0 (by omega)).1
        rw [Go.Deep.add_add] at this
        simpa [Addr.add] using World.cell?_spot this
      subst hspot
      have hc : ∀ j, j < len → w.cell? ⟨b, off + j * 3, none⟩ = some (.int .i64 (K j)) ∧ w.cell? ⟨b, off + j * 3 + 1, none⟩ = some (.int .i64 (V j)) ∧ w.cell? ⟨b, off + j * 3 + 2, none⟩ = some (.int .i64 (B j)) := fun j hj => by
        obtain ⟨h1, h2, h3, _⟩ := hB j hj
        rw [Go.WideShapes.add_plain, Go.WideShapes.add_plain] at h1 h2 h3
        exact ⟨h1, h2, h3⟩
      exact ⟨K, V, B, .inr ⟨b, off, rfl, lt_of_cell (hc 0 (by omega)).1, hc⟩, fun j hj => (bounds_i64 (hB j hj).2.2.2).2⟩

set_option maxRecDepth 100000 in
theorem lifted (os : Os) (started : os.Started) (H : Type) (enc : TypeId × Value → H) :
    ReturnsInHanded {} Try.checked os 3 .any (Rows.heapActsSpec.pre6 enc Try.prog Try.f3 Rows.heapActsRow.domain false) (Rows.heapActsSpec.post enc Try.prog Try.f3 false true false false) := by
  refine returnsInHanded_of_change (C := Try.checked) own started (by kernel_rfl) Try.func3
    (ChangeSpec.witness6 (enc := enc) (C := Try.checked) false ⟨#[], #[.int .i64 0, .slice none 0 0], []⟩ 8 (by kernel_rfl) (by kernel_rfl) (by kernel_rfl) (by kernel_rfl)) ?_
  intro W base args ds gs before hval0 hW hcnd _
  have hval : ∀ (j : Nat) t v, Try.f3.params[j]? = some t → args[j]? = some v → Value.okWide Try.prog W .any base t v := hval0
  have hW' := hW
  obtain ⟨p, q, hA0, hV, rfl, hfz, hnd⟩ := hW
  have hA : DataW.TrodAll enc Try.prog W 0 (fun _ => true) true Try.f3.params.toList args.toList ds p := hA0
  rw [Try.params3] at hA hval
  obtain ⟨v0, vs0, d0, ds0, p0, q0, hargs, rfl, rfl, h0, r0⟩ := trodAll_cons hA
  obtain ⟨v1, vs1, d1, ds1, p1, q1, rfl, rfl, rfl, h1, r1⟩ := trodAll_cons r0
  obtain ⟨rfl, rfl, rfl⟩ := trodAll_nil r1
  obtain rfl : args = #[v0, v1] := by cases args; simp_all
  obtain ⟨rfl, rfl⟩ := trodVars_none hV
  obtain ⟨n, rfl, rfl, rfl, w0⟩ := open_int Try.underlying3 (hval 0 3 v0 rfl rfl) h0
  obtain ⟨a1, len1, cap1, rfl⟩ := okWide_slice Try.underlying22 (hval 1 22 v1 rfl rfl)
  have k1 := h1
  have lt1 : ∀ x ∈ p1, x.block < W.heap.size := by obtain ⟨m, hm⟩ := k1; exact DataW.trod_lt m _ _ _ hm
  obtain ⟨⟨K, V, B, hacts, hB⟩, hlen⟩ := h1.elim fun fuel hf => in_acts hf
  clear hA0 hval0
  have hwalk : Calls Try.prog 3 #[.int .i64 n, .slice a1 len1 cap1] W (LawPost W) := by
    by_cases hk : 80 < len1
    · exact acts_long n a1 len1 cap1 W hk hlen
    · by_cases hn : n < 0 ∨ 100000 < n
      · exact acts_arg n a1 len1 cap1 W (by omega) hn
      · by_cases hn2 : 60 < n
        · exact acts_mid n a1 len1 cap1 W (by omega) hn2 (by omega)
        · obtain ⟨n, rfl⟩ : ∃ u : Nat, n = u := ⟨n.toNat, by omega⟩
          exact acts_walk n a1 len1 cap1 K V B W (by omega) (by omega) hacts hB
  refine hwalk.mono fun e W' ⟨he, bel⟩ => ?_
  subst he
  exact ⟨_, rfl, _, _, _, [], _, [], hW', trodAll_mk1 (shut_bool Try.underlying4 _), (trodAll_cons_mk (shut_int Try.underlying3 w0) (trodAll_cons_mk (Below.trod laidOut (by kernel_rfl) (of_decide_eq_true (by kernel_rfl)) k1 bel lt1) trodAll_mk0)), rfl, bel.frame _, fun h => by cases h⟩

theorem over : Rows.heapActsRow.holds Try.pinned (OpenSpec.ofChange Rows.heapActsSpec) :=
  OpenClaim.holds_of_wide 3 Try.f3 rfl rfl rfl rfl rfl rfl rfl ⟨rfl, rfl, rfl, rfl, rfl⟩ rfl rfl rfl rfl rfl (by kernel_rfl) Try.func3 (by kernel_rfl)
    (of_decide_eq_true (by kernel_rfl)) (by unfold Func.isWrapper; first | (rw [if_pos (by decide +kernel)]; kernel_rfl) | (rw [if_neg (by decide +kernel)]; exact ⟨rfl, rfl⟩))
    (fun os started H enc _ => lifted os started H enc)

/-- ████ THE STATEMENT ████ -/
theorem proved : Rows.HeapActsSaid := over
#print axioms proved
end Go.Proofs.Ytbhbokcgkhgljaa.heapActs
