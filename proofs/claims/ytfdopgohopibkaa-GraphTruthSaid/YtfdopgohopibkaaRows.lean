/-
  No cell of these rows narrows 'for every input' (looked for: loops, veiled, ifaces, maps, wideKeys, modest, calm, conditions, laid).
  DERIVED. THE GIVEN ROWS OF THIS SEAT. 6 by the template 'for every input the law returns true; each argument reads behind the call as it read before'; 0 by the template 'total and deterministic' (their statements: YtfdopgohopibkaaTotals.lean).
  GIVEN WITH THE SEED: the statements are not yours to turn. If you find one false, say at which input.
  Laid BY PROGRAM, IN A SANDBOX (cutbox-rows.mjs): the forced cells as the released guide's own fill.sh prints them over the translation bb69a850c8f529ca… (all of the seat's roots in one cut). By AI agents, Wed Nov 11 2026. No macro, syntax, notation, axiom, sorry.
-/
import Derived.Test.YtfdopgohopibkaaChecked
import GoSem.Claim
import GoSem.ClaimJoined
import GoSem.ClaimMapViews
import Derived.JoinedTies
import Derived.KernelRfl
namespace Go.Proofs.Ytfdopgohopibkaa
/- THE CELL 'sum', in the pinned program and in every row, IS THE sha256 OF THE DUMP (.gsa) THAT YtfdopgohopibkaaProg.lean LOADS. Nothing in Lean hashes anything: it is a label: what it is worth is what the hold of that sum in a sandbox is worth. -/
noncomputable def Try.pinned : Pinned := { name := "ytfdopgohopibkaa", sum := "bb69a850c8f529ca3bb281cc6d959997ef5cc4369d2290cd742fa5bfd9f94d6d", checked := Try.checked }
namespace Rows
def none {H : Type} : Left H := { results := [], args := [] }

/-- 'weirgatelaw05.GraphActs': WHATEVER THE INPUT: true; the input reads as it did. -/
def graphActsSpec : ChangeSpec := { name := "graphActs", fn := fun _ => fun
  | [d1, d2] => { results := [.lit (.bool true)], args := [d1, d2] }
  | _ => none }
def graphActsRow : OpenClaim := { program := "ytfdopgohopibkaa", sum := "bb69a850c8f529ca3bb281cc6d959997ef5cc4369d2290cd742fa5bfd9f94d6d", func := "weirgate/weirgatelaw05.GraphActs", spec := "graphActs", unfollowed := true, recurses := true, plainKeys := false, apart := false }
def GraphActsSaid : Prop := graphActsRow.holds Try.pinned (OpenSpec.ofChange graphActsSpec)

/-- ITS FALSE NEIGHBOUR: 'it returns false'. Refute it at one input. -/
def graphActsWrong : ChangeSpec := { name := "graphActs", fn := fun _ => fun
  | [d1, d2] => { results := [.lit (.bool false)], args := [d1, d2] }
  | _ => none }
def GraphActsWrongFalsely : Prop := graphActsRow.holds Try.pinned (OpenSpec.ofChange graphActsWrong)

/-- 'weirgatelaw05.GraphTruth': WHATEVER THE INPUT: true; the input reads as it did. -/
def graphTruthSpec : ChangeSpec := { name := "graphTruth", fn := fun _ => fun
  | [d1, d2] => { results := [.lit (.bool true)], args := [d1, d2] }
  | _ => none }
def graphTruthRow : OpenClaim := { program := "ytfdopgohopibkaa", sum := "bb69a850c8f529ca3bb281cc6d959997ef5cc4369d2290cd742fa5bfd9f94d6d", func := "weirgate/weirgatelaw05.GraphTruth", spec := "graphTruth", unfollowed := true, recurses := true, plainKeys := false, apart := false }
def GraphTruthSaid : Prop := graphTruthRow.holds Try.pinned (OpenSpec.ofChange graphTruthSpec)

/-- ITS FALSE NEIGHBOUR: 'it returns false'. Refute it at one input. -/
def graphTruthWrong : ChangeSpec := { name := "graphTruth", fn := fun _ => fun
  | [d1, d2] => { results := [.lit (.bool false)], args := [d1, d2] }
  | _ => none }
def GraphTruthWrongFalsely : Prop := graphTruthRow.holds Try.pinned (OpenSpec.ofChange graphTruthWrong)

/-- 'weirgatelaw05.GraphOnce': WHATEVER THE INPUT: true; the input reads as it did. -/
def graphOnceSpec : ChangeSpec := { name := "graphOnce", fn := fun _ => fun
  | [d] => { results := [.lit (.bool true)], args := [d] }
  | _ => none }
def graphOnceRow : OpenClaim := { program := "ytfdopgohopibkaa", sum := "bb69a850c8f529ca3bb281cc6d959997ef5cc4369d2290cd742fa5bfd9f94d6d", func := "weirgate/weirgatelaw05.GraphOnce", spec := "graphOnce", plainKeys := false, apart := false }
def GraphOnceSaid : Prop := graphOnceRow.holds Try.pinned (OpenSpec.ofChange graphOnceSpec)

/-- ITS FALSE NEIGHBOUR: 'it returns false'. Refute it at one input. -/
def graphOnceWrong : ChangeSpec := { name := "graphOnce", fn := fun _ => fun
  | [d] => { results := [.lit (.bool false)], args := [d] }
  | _ => none }
def GraphOnceWrongFalsely : Prop := graphOnceRow.holds Try.pinned (OpenSpec.ofChange graphOnceWrong)

/-- 'weirgatelaw05.GraphNot': WHATEVER THE INPUT: true; the input reads as it did. -/
def graphNotSpec : ChangeSpec := { name := "graphNot", fn := fun _ => fun
  | [d1, d2] => { results := [.lit (.bool true)], args := [d1, d2] }
  | _ => none }
def graphNotRow : OpenClaim := { program := "ytfdopgohopibkaa", sum := "bb69a850c8f529ca3bb281cc6d959997ef5cc4369d2290cd742fa5bfd9f94d6d", func := "weirgate/weirgatelaw05.GraphNot", spec := "graphNot", unfollowed := true, recurses := true, plainKeys := false, apart := false }
def GraphNotSaid : Prop := graphNotRow.holds Try.pinned (OpenSpec.ofChange graphNotSpec)

/-- ITS FALSE NEIGHBOUR: 'it returns false'. Refute it at one input. -/
def graphNotWrong : ChangeSpec := { name := "graphNot", fn := fun _ => fun
  | [d1, d2] => { results := [.lit (.bool false)], args := [d1, d2] }
  | _ => none }
def GraphNotWrongFalsely : Prop := graphNotRow.holds Try.pinned (OpenSpec.ofChange graphNotWrong)

/-- 'weirgatelaw05.GraphMany': WHATEVER THE INPUT: true; the input reads as it did. -/
def graphManySpec : ChangeSpec := { name := "graphMany", fn := fun _ => fun
  | [d1, d2] => { results := [.lit (.bool true)], args := [d1, d2] }
  | _ => none }
def graphManyRow : OpenClaim := { program := "ytfdopgohopibkaa", sum := "bb69a850c8f529ca3bb281cc6d959997ef5cc4369d2290cd742fa5bfd9f94d6d", func := "weirgate/weirgatelaw05.GraphMany", spec := "graphMany", unfollowed := true, recurses := true, plainKeys := false, apart := false }
def GraphManySaid : Prop := graphManyRow.holds Try.pinned (OpenSpec.ofChange graphManySpec)

/-- ITS FALSE NEIGHBOUR: 'it returns false'. Refute it at one input. -/
def graphManyWrong : ChangeSpec := { name := "graphMany", fn := fun _ => fun
  | [d1, d2] => { results := [.lit (.bool false)], args := [d1, d2] }
  | _ => none }
def GraphManyWrongFalsely : Prop := graphManyRow.holds Try.pinned (OpenSpec.ofChange graphManyWrong)

/-- 'weirgatelaw05.GraphLoop': WHATEVER THE INPUT: true; the input reads as it did. -/
def graphLoopSpec : ChangeSpec := { name := "graphLoop", fn := fun _ => fun
  | [d1, d2] => { results := [.lit (.bool true)], args := [d1, d2] }
  | _ => none }
def graphLoopRow : OpenClaim := { program := "ytfdopgohopibkaa", sum := "bb69a850c8f529ca3bb281cc6d959997ef5cc4369d2290cd742fa5bfd9f94d6d", func := "weirgate/weirgatelaw05.GraphLoop", spec := "graphLoop", unfollowed := true, recurses := true, plainKeys := false, apart := false }
def GraphLoopSaid : Prop := graphLoopRow.holds Try.pinned (OpenSpec.ofChange graphLoopSpec)

/-- ITS FALSE NEIGHBOUR: 'it returns false'. Refute it at one input. -/
def graphLoopWrong : ChangeSpec := { name := "graphLoop", fn := fun _ => fun
  | [d1, d2] => { results := [.lit (.bool false)], args := [d1, d2] }
  | _ => none }
def GraphLoopWrongFalsely : Prop := graphLoopRow.holds Try.pinned (OpenSpec.ofChange graphLoopWrong)

/- THE SECOND FORM. 'bulk': how many values and letters a reading holds, each counted each time it is reached (what is shared counts as often as it is met; a slice's spare places count too). A statement '..UptoSaid' is the law's where the arguments, and the package variables that the reading takes, are together of bulk at most 1048576: NARROWER than '..Said'. Prove '..Said' where nothing that the law and all that it calls make is longer than what came in: it says more and counts as full. Else prove '..UptoSaid'. A law counts once. -/
mutual
def uptoBulk {H : Type} : DataW H → Nat
  | .lit (.string bytes) => bytes.length + 1
  | .lit _ => 1
  | .nil => 1
  | .ptr d => uptoBulk d + 1
  | .slice elems spare => uptoBulkAll elems + uptoBulkAll spare + 1
  | .agg parts => uptoBulkAll parts + 1
  | .iface _ d => uptoBulk d + 1
  | .map entries => uptoBulkEntries entries + 1
  | .held _ => 1
def uptoBulkAll {H : Type} : List (DataW H) → Nat
  | [] => 0
  | d :: r => uptoBulk d + uptoBulkAll r
def uptoBulkEntries {H : Type} : List (Lit × DataW H) → Nat
  | [] => 0
  | x :: r => uptoBulkEntry x + uptoBulkEntries r
def uptoBulkEntry {H : Type} : Lit × DataW H → Nat
  | (.string bytes, d) => bytes.length + uptoBulk d + 1
  | (_, d) => uptoBulk d + 1
 end
def uptoSmall : (H : Type) → List (DataW H) → Bool := fun _ ds => decide (uptoBulkAll ds ≤ 1048576)
def OpenSpec.upto (s : _root_.Go.ChangeSpec) : _root_.Go.OpenSpec := { _root_.Go.OpenSpec.ofChange s with cond := some uptoSmall }

/-- 'weirgatelaw05.GraphActs', WHERE WHAT IT READS IS OF BULK AT MOST 1048576: true; the input reads as it did. -/
def graphActsUptoRow : OpenClaim := { program := "ytfdopgohopibkaa", sum := "bb69a850c8f529ca3bb281cc6d959997ef5cc4369d2290cd742fa5bfd9f94d6d", func := "weirgate/weirgatelaw05.GraphActs", spec := "graphActs", unfollowed := true, recurses := true, plainKeys := false, apart := false, narrowed := true }
def GraphActsUptoSaid : Prop := graphActsUptoRow.holds Try.pinned (OpenSpec.upto graphActsSpec)

/-- 'weirgatelaw05.GraphTruth', WHERE WHAT IT READS IS OF BULK AT MOST 1048576: true; the input reads as it did. -/
def graphTruthUptoRow : OpenClaim := { program := "ytfdopgohopibkaa", sum := "bb69a850c8f529ca3bb281cc6d959997ef5cc4369d2290cd742fa5bfd9f94d6d", func := "weirgate/weirgatelaw05.GraphTruth", spec := "graphTruth", unfollowed := true, recurses := true, plainKeys := false, apart := false, narrowed := true }
def GraphTruthUptoSaid : Prop := graphTruthUptoRow.holds Try.pinned (OpenSpec.upto graphTruthSpec)

/-- 'weirgatelaw05.GraphOnce', WHERE WHAT IT READS IS OF BULK AT MOST 1048576: true; the input reads as it did. -/
def graphOnceUptoRow : OpenClaim := { program := "ytfdopgohopibkaa", sum := "bb69a850c8f529ca3bb281cc6d959997ef5cc4369d2290cd742fa5bfd9f94d6d", func := "weirgate/weirgatelaw05.GraphOnce", spec := "graphOnce", plainKeys := false, apart := false, narrowed := true }
def GraphOnceUptoSaid : Prop := graphOnceUptoRow.holds Try.pinned (OpenSpec.upto graphOnceSpec)

/-- 'weirgatelaw05.GraphNot', WHERE WHAT IT READS IS OF BULK AT MOST 1048576: true; the input reads as it did. -/
def graphNotUptoRow : OpenClaim := { program := "ytfdopgohopibkaa", sum := "bb69a850c8f529ca3bb281cc6d959997ef5cc4369d2290cd742fa5bfd9f94d6d", func := "weirgate/weirgatelaw05.GraphNot", spec := "graphNot", unfollowed := true, recurses := true, plainKeys := false, apart := false, narrowed := true }
def GraphNotUptoSaid : Prop := graphNotUptoRow.holds Try.pinned (OpenSpec.upto graphNotSpec)

/-- 'weirgatelaw05.GraphMany', WHERE WHAT IT READS IS OF BULK AT MOST 1048576: true; the input reads as it did. -/
def graphManyUptoRow : OpenClaim := { program := "ytfdopgohopibkaa", sum := "bb69a850c8f529ca3bb281cc6d959997ef5cc4369d2290cd742fa5bfd9f94d6d", func := "weirgate/weirgatelaw05.GraphMany", spec := "graphMany", unfollowed := true, recurses := true, plainKeys := false, apart := false, narrowed := true }
def GraphManyUptoSaid : Prop := graphManyUptoRow.holds Try.pinned (OpenSpec.upto graphManySpec)

/-- 'weirgatelaw05.GraphLoop', WHERE WHAT IT READS IS OF BULK AT MOST 1048576: true; the input reads as it did. -/
def graphLoopUptoRow : OpenClaim := { program := "ytfdopgohopibkaa", sum := "bb69a850c8f529ca3bb281cc6d959997ef5cc4369d2290cd742fa5bfd9f94d6d", func := "weirgate/weirgatelaw05.GraphLoop", spec := "graphLoop", unfollowed := true, recurses := true, plainKeys := false, apart := false, narrowed := true }
def GraphLoopUptoSaid : Prop := graphLoopUptoRow.holds Try.pinned (OpenSpec.upto graphLoopSpec)

end Rows
end Go.Proofs.Ytfdopgohopibkaa
