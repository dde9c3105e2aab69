/-
  No cell of these rows narrows 'for every input' (looked for: loops, veiled, ifaces, maps, wideKeys, modest, calm, conditions, laid).
  DERIVED. THE GIVEN ROWS OF THIS SEAT. 3 by the template 'for every input the law returns true; each argument reads behind the call as it read before'; 0 by the template 'total and deterministic' (their statements: YtpniffcojmlboaaTotals.lean).
  GIVEN WITH THE SEED: the statements are not yours to turn. If you find one false, say at which input.
  Laid BY PROGRAM, IN A SANDBOX (cutbox-rows.mjs): the forced cells as the released guide's own fill.sh prints them over the translation 91230bc6548e5089… (all of the seat's roots in one cut). By AI agents, Wed Nov 11 2026. No macro, syntax, notation, axiom, sorry.
-/
import Derived.Test.YtpniffcojmlboaaChecked
import GoSem.Claim
import GoSem.ClaimJoined
import GoSem.ClaimMapViews
import Derived.JoinedTies
import Derived.KernelRfl
namespace Go.Proofs.Ytpniffcojmlboaa
/- THE CELL 'sum', in the pinned program and in every row, IS THE sha256 OF THE DUMP (.gsa) THAT YtpniffcojmlboaaProg.lean LOADS. Nothing in Lean hashes anything: it is a label: what it is worth is what the hold of that sum in a sandbox is worth. -/
noncomputable def Try.pinned : Pinned := { name := "ytpniffcojmlboaa", sum := "91230bc6548e5089c6ff4b626fe078394613c5f190581c9391323ba41fe602c1", checked := Try.checked }
namespace Rows
def none {H : Type} : Left H := { results := [], args := [] }

/-- 'weirgatelaw07.CnfBuilds': WHATEVER THE INPUT: true; the input reads as it did. -/
def cnfBuildsSpec : ChangeSpec := { name := "cnfBuilds", fn := fun _ => fun
  | [d1, d2] => { results := [.lit (.bool true)], args := [d1, d2] }
  | _ => none }
def cnfBuildsRow : OpenClaim := { program := "ytpniffcojmlboaa", sum := "91230bc6548e5089c6ff4b626fe078394613c5f190581c9391323ba41fe602c1", func := "weirgate/weirgatelaw07.CnfBuilds", spec := "cnfBuilds", unfollowed := true, recurses := true, plainKeys := false, apart := false }
def CnfBuildsSaid : Prop := cnfBuildsRow.holds Try.pinned (OpenSpec.ofChange cnfBuildsSpec)

/-- ITS FALSE NEIGHBOUR: 'it returns false'. Refute it at one input. -/
def cnfBuildsWrong : ChangeSpec := { name := "cnfBuilds", fn := fun _ => fun
  | [d1, d2] => { results := [.lit (.bool false)], args := [d1, d2] }
  | _ => none }
def CnfBuildsWrongFalsely : Prop := cnfBuildsRow.holds Try.pinned (OpenSpec.ofChange cnfBuildsWrong)

/-- 'weirgatelaw07.CnfOnce': WHATEVER THE INPUT: true; the input reads as it did. -/
def cnfOnceSpec : ChangeSpec := { name := "cnfOnce", fn := fun _ => fun
  | [d1, d2] => { results := [.lit (.bool true)], args := [d1, d2] }
  | _ => none }
def cnfOnceRow : OpenClaim := { program := "ytpniffcojmlboaa", sum := "91230bc6548e5089c6ff4b626fe078394613c5f190581c9391323ba41fe602c1", func := "weirgate/weirgatelaw07.CnfOnce", spec := "cnfOnce", plainKeys := false, apart := false }
def CnfOnceSaid : Prop := cnfOnceRow.holds Try.pinned (OpenSpec.ofChange cnfOnceSpec)

/-- ITS FALSE NEIGHBOUR: 'it returns false'. Refute it at one input. -/
def cnfOnceWrong : ChangeSpec := { name := "cnfOnce", fn := fun _ => fun
  | [d1, d2] => { results := [.lit (.bool false)], args := [d1, d2] }
  | _ => none }
def CnfOnceWrongFalsely : Prop := cnfOnceRow.holds Try.pinned (OpenSpec.ofChange cnfOnceWrong)

/-- 'weirgatelaw07.CnfGrows': WHATEVER THE INPUT: true; the input reads as it did. -/
def cnfGrowsSpec : ChangeSpec := { name := "cnfGrows", fn := fun _ => fun
  | [d1, d2] => { results := [.lit (.bool true)], args := [d1, d2] }
  | _ => none }
def cnfGrowsRow : OpenClaim := { program := "ytpniffcojmlboaa", sum := "91230bc6548e5089c6ff4b626fe078394613c5f190581c9391323ba41fe602c1", func := "weirgate/weirgatelaw07.CnfGrows", spec := "cnfGrows", plainKeys := false, apart := false }
def CnfGrowsSaid : Prop := cnfGrowsRow.holds Try.pinned (OpenSpec.ofChange cnfGrowsSpec)

/-- ITS FALSE NEIGHBOUR: 'it returns false'. Refute it at one input. -/
def cnfGrowsWrong : ChangeSpec := { name := "cnfGrows", fn := fun _ => fun
  | [d1, d2] => { results := [.lit (.bool false)], args := [d1, d2] }
  | _ => none }
def CnfGrowsWrongFalsely : Prop := cnfGrowsRow.holds Try.pinned (OpenSpec.ofChange cnfGrowsWrong)

/- THE SECOND FORM. 'bulk': how many values and letters a reading holds, each counted each time it is reached (what is shared counts as often as it is met; a slice's spare places count too). A statement '..UptoSaid' is the law's where the arguments, and the package variables that the reading takes, are together of bulk at most 1048576: NARROWER than '..Said'. Prove '..Said' where nothing that the law and all that it calls make is longer than what came in: it says more and counts as full. Else prove '..UptoSaid'. A law counts once. -/
mutual
def uptoBulk {H : Type} : DataW H → Nat
  | .lit (.string bytes) => bytes.length + 1
  | .lit _ => 1
  | .nil => 1
  | .ptr d => uptoBulk d + 1
  | .slice elems spare => uptoBulkAll elems + uptoBulkAll spare + 1
  | .agg parts => uptoBulkAll parts + 1
  | .iface _ d => uptoBulk d + 1
  | .map entries => uptoBulkEntries entries + 1
  | .held _ => 1
def uptoBulkAll {H : Type} : List (DataW H) → Nat
  | [] => 0
  | d :: r => uptoBulk d + uptoBulkAll r
def uptoBulkEntries {H : Type} : List (Lit × DataW H) → Nat
  | [] => 0
  | x :: r => uptoBulkEntry x + uptoBulkEntries r
def uptoBulkEntry {H : Type} : Lit × DataW H → Nat
  | (.string bytes, d) => bytes.length + uptoBulk d + 1
  | (_, d) => uptoBulk d + 1
 end
def uptoSmall : (H : Type) → List (DataW H) → Bool := fun _ ds => decide (uptoBulkAll ds ≤ 1048576)
def OpenSpec.upto (s : _root_.Go.ChangeSpec) : _root_.Go.OpenSpec := { _root_.Go.OpenSpec.ofChange s with cond := some uptoSmall }

/-- 'weirgatelaw07.CnfBuilds', WHERE WHAT IT READS IS OF BULK AT MOST 1048576: true; the input reads as it did. -/
def cnfBuildsUptoRow : OpenClaim := { program := "ytpniffcojmlboaa", sum := "91230bc6548e5089c6ff4b626fe078394613c5f190581c9391323ba41fe602c1", func := "weirgate/weirgatelaw07.CnfBuilds", spec := "cnfBuilds", unfollowed := true, recurses := true, plainKeys := false, apart := false, narrowed := true }
def CnfBuildsUptoSaid : Prop := cnfBuildsUptoRow.holds Try.pinned (OpenSpec.upto cnfBuildsSpec)

/-- 'weirgatelaw07.CnfOnce', WHERE WHAT IT READS IS OF BULK AT MOST 1048576: true; the input reads as it did. -/
def cnfOnceUptoRow : OpenClaim := { program := "ytpniffcojmlboaa", sum := "91230bc6548e5089c6ff4b626fe078394613c5f190581c9391323ba41fe602c1", func := "weirgate/weirgatelaw07.CnfOnce", spec := "cnfOnce", plainKeys := false, apart := false, narrowed := true }
def CnfOnceUptoSaid : Prop := cnfOnceUptoRow.holds Try.pinned (OpenSpec.upto cnfOnceSpec)

/-- 'weirgatelaw07.CnfGrows', WHERE WHAT IT READS IS OF BULK AT MOST 1048576: true; the input reads as it did. -/
def cnfGrowsUptoRow : OpenClaim := { program := "ytpniffcojmlboaa", sum := "91230bc6548e5089c6ff4b626fe078394613c5f190581c9391323ba41fe602c1", func := "weirgate/weirgatelaw07.CnfGrows", spec := "cnfGrows", plainKeys := false, apart := false, narrowed := true }
def CnfGrowsUptoSaid : Prop := cnfGrowsUptoRow.holds Try.pinned (OpenSpec.upto cnfGrowsSpec)

end Rows
end Go.Proofs.Ytpniffcojmlboaa
