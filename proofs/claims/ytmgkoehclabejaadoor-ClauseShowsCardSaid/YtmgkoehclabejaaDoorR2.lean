/- More of the arguments that come in: capacities, nil. -/
import Derived.Test.YtmgkoehclabejaaDoorR
namespace Go.Proofs.YtmgkoehclabejaaDoor
open Go.ChangeShapes Go.WideShapes Go.ChangeAt Go.RowKit
section
variable {H : Type} {enc : TypeId × Value → H} {w : World} {base : Nat} {held : Bool}
theorem cap_rows {a0 : Option Addr} {len0 cap0 : Nat} {x : DataW H × List MemPlace} {fuel : Nat}
    (hf : DataW.trod enc Tryd.prog w base (fun _ => true) held fuel 30 (Value.slice a0 len0 cap0).cells.toList = some x) : cap0 ≤ 9223372036854775807 := by
  rcases Deep.open_int_rows Tryd.underlying30 Tryd.underlying22 Tryd.underlying3 cells22 cells3 hf with ⟨hcs, _⟩ | ⟨x, l, c, A, L, C, Z, hcs, _, hl, hm, _, hcell⟩
  · simp [Value.cells] at hcs
    omega
  · simp [Value.cells] at hcs
    unfold maxLen at hm
    omega
theorem nil_bools {a0 : Option Addr} {len0 cap0 : Nat} {x : DataW H × List MemPlace} {fuel : Nat}
    (hf : DataW.trod enc Tryd.prog w base (fun _ => true) held fuel 23 (Value.slice a0 len0 cap0).cells.toList = some x) : a0 = none → len0 = 0 ∧ cap0 = 0 := by
  rcases Deep.open_bools Tryd.underlying23 Tryd.underlying4 cells4 hf with ⟨hcs, _⟩ | ⟨x, l, c, B, hcs, _, hl, hm, _, hcell⟩
  · simp [Value.cells] at hcs
    exact fun _ => hcs.2
  · simp [Value.cells] at hcs
    rw [hcs.1]
    intro h
    cases h
end
end Go.Proofs.YtmgkoehclabejaaDoor
