/-
  NARROWER THAN 'FOR EVERY INPUT', by the rows' own cells (each row's printed sentence says how): LexTokens: laid · LexNames: laid · LexApart: laid · LexLong: laid · LexRest: laid · LexPlaces: laid.
  DERIVED. THE GIVEN ROWS OF THIS SEAT. 6 by the template 'for every input the law returns true; each argument reads behind the call as it read before'; 0 by the template 'total and deterministic' (their statements: YtgikihbnafadjaaDoorTotals.lean).
  GIVEN WITH THE SEED: the statements are not yours to turn. If you find one false, say at which input.
  Laid BY PROGRAM, IN A SANDBOX (cutbox-rows.mjs): the forced cells as the released guide's own fill.sh prints them over the translation 1fe05513a2b7aab7… (all of the seat's roots in one cut). By AI agents, Wed Nov 11 2026. No macro, syntax, notation, axiom, sorry.
-/
import Derived.Test.YtgikihbnafadjaaDoorChecked
import GoSem.Claim
import GoSem.ClaimJoined
import GoSem.ClaimMapViews
import Derived.JoinedTies
import Derived.KernelRfl
namespace Go.Proofs.YtgikihbnafadjaaDoor
/- THE CELL 'sum', in the pinned program and in every row, IS THE sha256 OF THE DUMP (.gsa) THAT YtgikihbnafadjaaDoorProg.lean LOADS. Nothing in Lean hashes anything: it is a label: what it is worth is what the hold of that sum in a sandbox is worth. -/
noncomputable def Tryd.pinned : Pinned := { name := "ytgikihbnafadjaadoor", sum := "1fe05513a2b7aab73a8bf1fe101f549a7bd5ead7931b5ab2e02e26212bb2163f", checked := Tryd.checked }
namespace Rows
def none {H : Type} : Left H := { results := [], args := [] }

/- WHAT THE LISTED PACKAGE-LEVEL VARIABLES READ AS WHEN THE CALL BEGINS. Each datum BY PROGRAM (the guide's laid-datum.mjs) off the statement by which the dump's own 'gosem.cut.vars' lays the variable. In a bare row this is a premise. The card (YtgikihbnafadjaaDoorCards.lean) ties it to the program's text. -/
def laid_weirgate_lex_bytesOf {H : Type} : DataW H := .agg [.lit (.string [32, 9, 13, 10]), .lit (.string [65, 66, 67, 68, 69, 70, 71, 72, 73, 74, 75, 76, 77, 78, 79, 80, 81, 82, 83, 84, 85, 86, 87, 88, 89, 90, 97, 98, 99, 100, 101, 102, 103, 104, 105, 106, 107, 108, 109, 110, 111, 112, 113, 114, 115, 116, 117, 118, 119, 120, 121, 122]), .lit (.string [48, 49, 50, 51, 52, 53, 54, 55, 56, 57]), .lit (.string [95])]
def laid_weirgate_lex_signs {H : Type} : DataW H := .agg [.lit (.string [61, 61]), .lit (.string [38, 38]), .lit (.string [124, 124]), .lit (.string [123]), .lit (.string [125]), .lit (.string [91]), .lit (.string [93]), .lit (.string [40]), .lit (.string [41]), .lit (.string [59]), .lit (.string [61]), .lit (.string [60]), .lit (.string [43]), .lit (.string [45]), .lit (.string [42]), .lit (.string [47]), .lit (.string [37]), .lit (.string [33])]
def laid_weirgate_lex_keywords {H : Type} : DataW H := .agg [.lit (.string [99, 104, 97, 110]), .lit (.string [111, 102]), .lit (.string [108, 111, 115, 115, 121]), .lit (.string [99, 111, 112, 121, 105, 110, 103]), .lit (.string [118, 97, 114]), .lit (.string [112, 114, 111, 99]), .lit (.string [115, 97, 102, 101]), .lit (.string [100, 101, 97, 100, 108, 111, 99, 107]), .lit (.string [115, 101, 110, 100]), .lit (.string [114, 101, 99, 118]), .lit (.string [105, 100, 108, 101]), .lit (.string [119, 104, 101, 110]), .lit (.string [99, 104, 111, 111, 115, 101]), .lit (.string [111, 114]), .lit (.string [105, 102]), .lit (.string [101, 108, 115, 101]), .lit (.string [119, 104, 105, 108, 101]), .lit (.string [97, 116, 111, 109, 105, 99]), .lit (.string [115, 107, 105, 112]), .lit (.string [115, 116, 111, 112]), .lit (.string [108, 101, 110])]

/-- 'weirgatelaw08.LexTokens': WHATEVER THE INPUT: true; the input reads as it did. -/
def lexTokensSpec : ChangeSpec := { name := "lexTokens", fn := fun _ => fun
  | [d] => { results := [.lit (.bool true)], args := [d] }
  | _ => none }
def lexTokensRow : OpenClaim := { program := "ytgikihbnafadjaadoor", sum := "1fe05513a2b7aab73a8bf1fe101f549a7bd5ead7931b5ab2e02e26212bb2163f", func := "weirgate/weirgatelaw08.LexTokens", spec := "lexTokens", inPlace := ["internal/bytealg.IndexByteString"], named := ["weirgate/lex.bytesOf", "weirgate/lex.signs", "weirgate/lex.keywords"], apart := false, laid := [("weirgate/lex.bytesOf", laid_weirgate_lex_bytesOf), ("weirgate/lex.signs", laid_weirgate_lex_signs), ("weirgate/lex.keywords", laid_weirgate_lex_keywords)] }
def LexTokensSaid : Prop := lexTokensRow.holds Tryd.pinned (OpenSpec.ofChange lexTokensSpec)

/-- ITS FALSE NEIGHBOUR: 'it returns false'. Refute it at one input. -/
def lexTokensWrong : ChangeSpec := { name := "lexTokens", fn := fun _ => fun
  | [d] => { results := [.lit (.bool false)], args := [d] }
  | _ => none }
def LexTokensWrongFalsely : Prop := lexTokensRow.holds Tryd.pinned (OpenSpec.ofChange lexTokensWrong)

/-- 'weirgatelaw08.LexNames': WHATEVER THE INPUT: true; the input reads as it did. -/
def lexNamesSpec : ChangeSpec := { name := "lexNames", fn := fun _ => fun
  | [d1, d2] => { results := [.lit (.bool true)], args := [d1, d2] }
  | _ => none }
def lexNamesRow : OpenClaim := { program := "ytgikihbnafadjaadoor", sum := "1fe05513a2b7aab73a8bf1fe101f549a7bd5ead7931b5ab2e02e26212bb2163f", func := "weirgate/weirgatelaw08.LexNames", spec := "lexNames", inPlace := ["internal/bytealg.IndexByteString", "internal/bytealg.CountString", "internal/bytealg.IndexString"], named := ["weirgate/lex.bytesOf", "weirgate/lex.signs", "weirgate/lex.keywords", "internal/bytealg.MaxLen"], apart := false, laid := [("weirgate/lex.bytesOf", laid_weirgate_lex_bytesOf), ("weirgate/lex.signs", laid_weirgate_lex_signs), ("weirgate/lex.keywords", laid_weirgate_lex_keywords)] }
def LexNamesSaid : Prop := lexNamesRow.holds Tryd.pinned (OpenSpec.ofChange lexNamesSpec)

/-- ITS FALSE NEIGHBOUR: 'it returns false'. Refute it at one input. -/
def lexNamesWrong : ChangeSpec := { name := "lexNames", fn := fun _ => fun
  | [d1, d2] => { results := [.lit (.bool false)], args := [d1, d2] }
  | _ => none }
def LexNamesWrongFalsely : Prop := lexNamesRow.holds Tryd.pinned (OpenSpec.ofChange lexNamesWrong)

/-- 'weirgatelaw08.LexApart': WHATEVER THE INPUT: true; the input reads as it did. -/
def lexApartSpec : ChangeSpec := { name := "lexApart", fn := fun _ => fun
  | [d1, d2] => { results := [.lit (.bool true)], args := [d1, d2] }
  | _ => none }
def lexApartRow : OpenClaim := { program := "ytgikihbnafadjaadoor", sum := "1fe05513a2b7aab73a8bf1fe101f549a7bd5ead7931b5ab2e02e26212bb2163f", func := "weirgate/weirgatelaw08.LexApart", spec := "lexApart", inPlace := ["internal/bytealg.IndexByteString"], named := ["weirgate/lex.bytesOf", "weirgate/lex.signs", "weirgate/lex.keywords"], apart := false, laid := [("weirgate/lex.bytesOf", laid_weirgate_lex_bytesOf), ("weirgate/lex.signs", laid_weirgate_lex_signs), ("weirgate/lex.keywords", laid_weirgate_lex_keywords)] }
def LexApartSaid : Prop := lexApartRow.holds Tryd.pinned (OpenSpec.ofChange lexApartSpec)

/-- ITS FALSE NEIGHBOUR: 'it returns false'. Refute it at one input. -/
def lexApartWrong : ChangeSpec := { name := "lexApart", fn := fun _ => fun
  | [d1, d2] => { results := [.lit (.bool false)], args := [d1, d2] }
  | _ => none }
def LexApartWrongFalsely : Prop := lexApartRow.holds Tryd.pinned (OpenSpec.ofChange lexApartWrong)

/-- 'weirgatelaw08.LexLong': WHATEVER THE INPUT: true; the input reads as it did. -/
def lexLongSpec : ChangeSpec := { name := "lexLong", fn := fun _ => fun
  | [d1, d2] => { results := [.lit (.bool true)], args := [d1, d2] }
  | _ => none }
def lexLongRow : OpenClaim := { program := "ytgikihbnafadjaadoor", sum := "1fe05513a2b7aab73a8bf1fe101f549a7bd5ead7931b5ab2e02e26212bb2163f", func := "weirgate/weirgatelaw08.LexLong", spec := "lexLong", inPlace := ["internal/bytealg.IndexByteString"], named := ["weirgate/lex.bytesOf", "weirgate/lex.signs", "weirgate/lex.keywords"], apart := false, laid := [("weirgate/lex.bytesOf", laid_weirgate_lex_bytesOf), ("weirgate/lex.signs", laid_weirgate_lex_signs), ("weirgate/lex.keywords", laid_weirgate_lex_keywords)] }
def LexLongSaid : Prop := lexLongRow.holds Tryd.pinned (OpenSpec.ofChange lexLongSpec)

/-- ITS FALSE NEIGHBOUR: 'it returns false'. Refute it at one input. -/
def lexLongWrong : ChangeSpec := { name := "lexLong", fn := fun _ => fun
  | [d1, d2] => { results := [.lit (.bool false)], args := [d1, d2] }
  | _ => none }
def LexLongWrongFalsely : Prop := lexLongRow.holds Tryd.pinned (OpenSpec.ofChange lexLongWrong)

/-- 'weirgatelaw08.LexRest': WHATEVER THE INPUT: true; the input reads as it did. -/
def lexRestSpec : ChangeSpec := { name := "lexRest", fn := fun _ => fun
  | [d1, d2] => { results := [.lit (.bool true)], args := [d1, d2] }
  | _ => none }
def lexRestRow : OpenClaim := { program := "ytgikihbnafadjaadoor", sum := "1fe05513a2b7aab73a8bf1fe101f549a7bd5ead7931b5ab2e02e26212bb2163f", func := "weirgate/weirgatelaw08.LexRest", spec := "lexRest", inPlace := ["internal/bytealg.IndexByteString"], named := ["weirgate/lex.bytesOf", "weirgate/lex.signs", "weirgate/lex.keywords"], apart := false, laid := [("weirgate/lex.bytesOf", laid_weirgate_lex_bytesOf), ("weirgate/lex.signs", laid_weirgate_lex_signs), ("weirgate/lex.keywords", laid_weirgate_lex_keywords)] }
def LexRestSaid : Prop := lexRestRow.holds Tryd.pinned (OpenSpec.ofChange lexRestSpec)

/-- ITS FALSE NEIGHBOUR: 'it returns false'. Refute it at one input. -/
def lexRestWrong : ChangeSpec := { name := "lexRest", fn := fun _ => fun
  | [d1, d2] => { results := [.lit (.bool false)], args := [d1, d2] }
  | _ => none }
def LexRestWrongFalsely : Prop := lexRestRow.holds Tryd.pinned (OpenSpec.ofChange lexRestWrong)

/-- 'weirgatelaw08.LexPlaces': WHATEVER THE INPUT: true; the input reads as it did. -/
def lexPlacesSpec : ChangeSpec := { name := "lexPlaces", fn := fun _ => fun
  | [d1, d2] => { results := [.lit (.bool true)], args := [d1, d2] }
  | _ => none }
def lexPlacesRow : OpenClaim := { program := "ytgikihbnafadjaadoor", sum := "1fe05513a2b7aab73a8bf1fe101f549a7bd5ead7931b5ab2e02e26212bb2163f", func := "weirgate/weirgatelaw08.LexPlaces", spec := "lexPlaces", inPlace := ["internal/bytealg.IndexByteString", "internal/bytealg.CountString", "internal/bytealg.IndexString"], named := ["weirgate/lex.bytesOf", "weirgate/lex.signs", "weirgate/lex.keywords", "internal/bytealg.MaxLen"], apart := false, laid := [("weirgate/lex.bytesOf", laid_weirgate_lex_bytesOf), ("weirgate/lex.signs", laid_weirgate_lex_signs), ("weirgate/lex.keywords", laid_weirgate_lex_keywords)] }
def LexPlacesSaid : Prop := lexPlacesRow.holds Tryd.pinned (OpenSpec.ofChange lexPlacesSpec)

/-- ITS FALSE NEIGHBOUR: 'it returns false'. Refute it at one input. -/
def lexPlacesWrong : ChangeSpec := { name := "lexPlaces", fn := fun _ => fun
  | [d1, d2] => { results := [.lit (.bool false)], args := [d1, d2] }
  | _ => none }
def LexPlacesWrongFalsely : Prop := lexPlacesRow.holds Tryd.pinned (OpenSpec.ofChange lexPlacesWrong)

/- THE SECOND FORM. 'bulk': how many values and letters a reading holds, each counted each time it is reached (what is shared counts as often as it is met; a slice's spare places count too). A statement '..UptoSaid' is the law's where the arguments, and the package variables that the reading takes, are together of bulk at most 1048576: NARROWER than '..Said'. Prove '..Said' where nothing that the law and all that it calls make is longer than what came in: it says more and counts as full. Else prove '..UptoSaid'. A law counts once. -/
mutual
def uptoBulk {H : Type} : DataW H → Nat
  | .lit (.string bytes) => bytes.length + 1
  | .lit _ => 1
  | .nil => 1
  | .ptr d => uptoBulk d + 1
  | .slice elems spare => uptoBulkAll elems + uptoBulkAll spare + 1
  | .agg parts => uptoBulkAll parts + 1
  | .iface _ d => uptoBulk d + 1
  | .map entries => uptoBulkEntries entries + 1
  | .held _ => 1
def uptoBulkAll {H : Type} : List (DataW H) → Nat
  | [] => 0
  | d :: r => uptoBulk d + uptoBulkAll r
def uptoBulkEntries {H : Type} : List (Lit × DataW H) → Nat
  | [] => 0
  | x :: r => uptoBulkEntry x + uptoBulkEntries r
def uptoBulkEntry {H : Type} : Lit × DataW H → Nat
  | (.string bytes, d) => bytes.length + uptoBulk d + 1
  | (_, d) => uptoBulk d + 1
 end
def uptoSmall : (H : Type) → List (DataW H) → Bool := fun _ ds => decide (uptoBulkAll ds ≤ 1048576)
def OpenSpec.upto (s : _root_.Go.ChangeSpec) : _root_.Go.OpenSpec := { _root_.Go.OpenSpec.ofChange s with cond := some uptoSmall }

/-- 'weirgatelaw08.LexTokens', WHERE WHAT IT READS IS OF BULK AT MOST 1048576: true; the input reads as it did. -/
def lexTokensUptoRow : OpenClaim := { program := "ytgikihbnafadjaadoor", sum := "1fe05513a2b7aab73a8bf1fe101f549a7bd5ead7931b5ab2e02e26212bb2163f", func := "weirgate/weirgatelaw08.LexTokens", spec := "lexTokens", inPlace := ["internal/bytealg.IndexByteString"], named := ["weirgate/lex.bytesOf", "weirgate/lex.signs", "weirgate/lex.keywords"], apart := false, laid := [("weirgate/lex.bytesOf", laid_weirgate_lex_bytesOf), ("weirgate/lex.signs", laid_weirgate_lex_signs), ("weirgate/lex.keywords", laid_weirgate_lex_keywords)], narrowed := true }
def LexTokensUptoSaid : Prop := lexTokensUptoRow.holds Tryd.pinned (OpenSpec.upto lexTokensSpec)

/-- 'weirgatelaw08.LexNames', WHERE WHAT IT READS IS OF BULK AT MOST 1048576: true; the input reads as it did. -/
def lexNamesUptoRow : OpenClaim := { program := "ytgikihbnafadjaadoor", sum := "1fe05513a2b7aab73a8bf1fe101f549a7bd5ead7931b5ab2e02e26212bb2163f", func := "weirgate/weirgatelaw08.LexNames", spec := "lexNames", inPlace := ["internal/bytealg.IndexByteString", "internal/bytealg.CountString", "internal/bytealg.IndexString"], named := ["weirgate/lex.bytesOf", "weirgate/lex.signs", "weirgate/lex.keywords", "internal/bytealg.MaxLen"], apart := false, laid := [("weirgate/lex.bytesOf", laid_weirgate_lex_bytesOf), ("weirgate/lex.signs", laid_weirgate_lex_signs), ("weirgate/lex.keywords", laid_weirgate_lex_keywords)], narrowed := true }
def LexNamesUptoSaid : Prop := lexNamesUptoRow.holds Tryd.pinned (OpenSpec.upto lexNamesSpec)

/-- 'weirgatelaw08.LexApart', WHERE WHAT IT READS IS OF BULK AT MOST 1048576: true; the input reads as it did. -/
def lexApartUptoRow : OpenClaim := { program := "ytgikihbnafadjaadoor", sum := "1fe05513a2b7aab73a8bf1fe101f549a7bd5ead7931b5ab2e02e26212bb2163f", func := "weirgate/weirgatelaw08.LexApart", spec := "lexApart", inPlace := ["internal/bytealg.IndexByteString"], named := ["weirgate/lex.bytesOf", "weirgate/lex.signs", "weirgate/lex.keywords"], apart := false, laid := [("weirgate/lex.bytesOf", laid_weirgate_lex_bytesOf), ("weirgate/lex.signs", laid_weirgate_lex_signs), ("weirgate/lex.keywords", laid_weirgate_lex_keywords)], narrowed := true }
def LexApartUptoSaid : Prop := lexApartUptoRow.holds Tryd.pinned (OpenSpec.upto lexApartSpec)

/-- 'weirgatelaw08.LexLong', WHERE WHAT IT READS IS OF BULK AT MOST 1048576: true; the input reads as it did. -/
def lexLongUptoRow : OpenClaim := { program := "ytgikihbnafadjaadoor", sum := "1fe05513a2b7aab73a8bf1fe101f549a7bd5ead7931b5ab2e02e26212bb2163f", func := "weirgate/weirgatelaw08.LexLong", spec := "lexLong", inPlace := ["internal/bytealg.IndexByteString"], named := ["weirgate/lex.bytesOf", "weirgate/lex.signs", "weirgate/lex.keywords"], apart := false, laid := [("weirgate/lex.bytesOf", laid_weirgate_lex_bytesOf), ("weirgate/lex.signs", laid_weirgate_lex_signs), ("weirgate/lex.keywords", laid_weirgate_lex_keywords)], narrowed := true }
def LexLongUptoSaid : Prop := lexLongUptoRow.holds Tryd.pinned (OpenSpec.upto lexLongSpec)

/-- 'weirgatelaw08.LexRest', WHERE WHAT IT READS IS OF BULK AT MOST 1048576: true; the input reads as it did. -/
def lexRestUptoRow : OpenClaim := { program := "ytgikihbnafadjaadoor", sum := "1fe05513a2b7aab73a8bf1fe101f549a7bd5ead7931b5ab2e02e26212bb2163f", func := "weirgate/weirgatelaw08.LexRest", spec := "lexRest", inPlace := ["internal/bytealg.IndexByteString"], named := ["weirgate/lex.bytesOf", "weirgate/lex.signs", "weirgate/lex.keywords"], apart := false, laid := [("weirgate/lex.bytesOf", laid_weirgate_lex_bytesOf), ("weirgate/lex.signs", laid_weirgate_lex_signs), ("weirgate/lex.keywords", laid_weirgate_lex_keywords)], narrowed := true }
def LexRestUptoSaid : Prop := lexRestUptoRow.holds Tryd.pinned (OpenSpec.upto lexRestSpec)

/-- 'weirgatelaw08.LexPlaces', WHERE WHAT IT READS IS OF BULK AT MOST 1048576: true; the input reads as it did. -/
def lexPlacesUptoRow : OpenClaim := { program := "ytgikihbnafadjaadoor", sum := "1fe05513a2b7aab73a8bf1fe101f549a7bd5ead7931b5ab2e02e26212bb2163f", func := "weirgate/weirgatelaw08.LexPlaces", spec := "lexPlaces", inPlace := ["internal/bytealg.IndexByteString", "internal/bytealg.CountString", "internal/bytealg.IndexString"], named := ["weirgate/lex.bytesOf", "weirgate/lex.signs", "weirgate/lex.keywords", "internal/bytealg.MaxLen"], apart := false, laid := [("weirgate/lex.bytesOf", laid_weirgate_lex_bytesOf), ("weirgate/lex.signs", laid_weirgate_lex_signs), ("weirgate/lex.keywords", laid_weirgate_lex_keywords)], narrowed := true }
def LexPlacesUptoSaid : Prop := lexPlacesUptoRow.holds Tryd.pinned (OpenSpec.upto lexPlacesSpec)

end Rows
end Go.Proofs.YtgikihbnafadjaaDoor
