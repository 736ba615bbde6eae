/-
  No cell of these rows narrows 'for every input' (looked for: loops, veiled, ifaces, maps, wideKeys, modest, calm, conditions, laid).
  DERIVED. THE GIVEN ROWS OF THIS SEAT. 6 by the template 'for every input the law returns true; each argument reads behind the call as it read before'; 0 by the template 'total and deterministic' (their statements: YtegdckdfllkmeabTotals.lean).
  GIVEN WITH THE SEED: the statements are not yours to turn. If you find one false, say at which input.
  Laid BY PROGRAM, IN A SANDBOX (cutbox-rows.mjs): the forced cells as the released guide's own fill.sh prints them over the translation e1a5d62caf06a7c2… (all of the seat's roots in one cut). By AI agents, Wed Nov 11 2026. No macro, syntax, notation, axiom, sorry.
-/
import Derived.Test.YtegdckdfllkmeabChecked
import GoSem.Claim
import GoSem.ClaimJoined
import GoSem.ClaimMapViews
import Derived.JoinedTies
import Derived.KernelRfl
namespace Go.Proofs.Ytegdckdfllkmeab
/- THE CELL 'sum', in the pinned program and in every row, IS THE sha256 OF THE DUMP (.gsa) THAT YtegdckdfllkmeabProg.lean LOADS. Nothing in Lean hashes anything: it is a label: what it is worth is what the hold of that sum in a sandbox is worth. -/
noncomputable def Try.pinned : Pinned := { name := "ytegdckdfllkmeab", sum := "e1a5d62caf06a7c281fa388936c05f79e9f3e3b7344e134b12378e08e35c9edb", checked := Try.checked }
namespace Rows
def none {H : Type} : Left H := { results := [], args := [] }

/-- 'laws.FnExactHexOf': WHATEVER THE INPUT: true; the input reads as it did. -/
def fnExactHexOfSpec : ChangeSpec := { name := "fnExactHexOf", fn := fun _ => fun
  | [d] => { results := [.lit (.bool true)], args := [d] }
  | _ => none }
def fnExactHexOfRow : OpenClaim := { program := "ytegdckdfllkmeab", sum := "e1a5d62caf06a7c281fa388936c05f79e9f3e3b7344e134b12378e08e35c9edb", func := "loop.example/workchain/laws.FnExactHexOf", spec := "fnExactHexOf", inPlace := ["internal/abi.NoEscape"], apart := false }
def FnExactHexOfSaid : Prop := fnExactHexOfRow.holds Try.pinned (OpenSpec.ofChange fnExactHexOfSpec)

/-- ITS FALSE NEIGHBOUR: 'it returns false'. Refute it at one input. -/
def fnExactHexOfWrong : ChangeSpec := { name := "fnExactHexOf", fn := fun _ => fun
  | [d] => { results := [.lit (.bool false)], args := [d] }
  | _ => none }
def FnExactHexOfWrongFalsely : Prop := fnExactHexOfRow.holds Try.pinned (OpenSpec.ofChange fnExactHexOfWrong)

/-- 'laws.FnExactFromHex': WHATEVER THE INPUT: true; the input reads as it did. -/
def fnExactFromHexSpec : ChangeSpec := { name := "fnExactFromHex", fn := fun _ => fun
  | [d] => { results := [.lit (.bool true)], args := [d] }
  | _ => none }
def fnExactFromHexRow : OpenClaim := { program := "ytegdckdfllkmeab", sum := "e1a5d62caf06a7c281fa388936c05f79e9f3e3b7344e134b12378e08e35c9edb", func := "loop.example/workchain/laws.FnExactFromHex", spec := "fnExactFromHex", inPlace := ["internal/bytealg.IndexByteString", "internal/abi.NoEscape"], apart := false }
def FnExactFromHexSaid : Prop := fnExactFromHexRow.holds Try.pinned (OpenSpec.ofChange fnExactFromHexSpec)

/-- ITS FALSE NEIGHBOUR: 'it returns false'. Refute it at one input. -/
def fnExactFromHexWrong : ChangeSpec := { name := "fnExactFromHex", fn := fun _ => fun
  | [d] => { results := [.lit (.bool false)], args := [d] }
  | _ => none }
def FnExactFromHexWrongFalsely : Prop := fnExactFromHexRow.holds Try.pinned (OpenSpec.ofChange fnExactFromHexWrong)

/-- 'laws.FnHexOf': WHATEVER THE INPUT: true; the input reads as it did. -/
def fnHexOfSpec : ChangeSpec := { name := "fnHexOf", fn := fun _ => fun
  | [d] => { results := [.lit (.bool true)], args := [d] }
  | _ => none }
def fnHexOfRow : OpenClaim := { program := "ytegdckdfllkmeab", sum := "e1a5d62caf06a7c281fa388936c05f79e9f3e3b7344e134b12378e08e35c9edb", func := "loop.example/workchain/laws.FnHexOf", spec := "fnHexOf", inPlace := ["internal/abi.NoEscape", "internal/bytealg.IndexByteString"], apart := false }
def FnHexOfSaid : Prop := fnHexOfRow.holds Try.pinned (OpenSpec.ofChange fnHexOfSpec)

/-- ITS FALSE NEIGHBOUR: 'it returns false'. Refute it at one input. -/
def fnHexOfWrong : ChangeSpec := { name := "fnHexOf", fn := fun _ => fun
  | [d] => { results := [.lit (.bool false)], args := [d] }
  | _ => none }
def FnHexOfWrongFalsely : Prop := fnHexOfRow.holds Try.pinned (OpenSpec.ofChange fnHexOfWrong)

/-- 'laws.FnFromHex': WHATEVER THE INPUT: true; the input reads as it did. -/
def fnFromHexSpec : ChangeSpec := { name := "fnFromHex", fn := fun _ => fun
  | [d] => { results := [.lit (.bool true)], args := [d] }
  | _ => none }
def fnFromHexRow : OpenClaim := { program := "ytegdckdfllkmeab", sum := "e1a5d62caf06a7c281fa388936c05f79e9f3e3b7344e134b12378e08e35c9edb", func := "loop.example/workchain/laws.FnFromHex", spec := "fnFromHex", inPlace := ["internal/bytealg.IndexByteString", "internal/abi.NoEscape"], apart := false }
def FnFromHexSaid : Prop := fnFromHexRow.holds Try.pinned (OpenSpec.ofChange fnFromHexSpec)

/-- ITS FALSE NEIGHBOUR: 'it returns false'. Refute it at one input. -/
def fnFromHexWrong : ChangeSpec := { name := "fnFromHex", fn := fun _ => fun
  | [d] => { results := [.lit (.bool false)], args := [d] }
  | _ => none }
def FnFromHexWrongFalsely : Prop := fnFromHexRow.holds Try.pinned (OpenSpec.ofChange fnFromHexWrong)

/-- 'laws.FnPrefixFree': WHATEVER THE INPUT: true; the input reads as it did. -/
def fnPrefixFreeSpec : ChangeSpec := { name := "fnPrefixFree", fn := fun _ => fun
  | [d1, d2] => { results := [.lit (.bool true)], args := [d1, d2] }
  | _ => none }
def fnPrefixFreeRow : OpenClaim := { program := "ytegdckdfllkmeab", sum := "e1a5d62caf06a7c281fa388936c05f79e9f3e3b7344e134b12378e08e35c9edb", func := "loop.example/workchain/laws.FnPrefixFree", spec := "fnPrefixFree", apart := false }
def FnPrefixFreeSaid : Prop := fnPrefixFreeRow.holds Try.pinned (OpenSpec.ofChange fnPrefixFreeSpec)

/-- ITS FALSE NEIGHBOUR: 'it returns false'. Refute it at one input. -/
def fnPrefixFreeWrong : ChangeSpec := { name := "fnPrefixFree", fn := fun _ => fun
  | [d1, d2] => { results := [.lit (.bool false)], args := [d1, d2] }
  | _ => none }
def FnPrefixFreeWrongFalsely : Prop := fnPrefixFreeRow.holds Try.pinned (OpenSpec.ofChange fnPrefixFreeWrong)

/-- 'laws.FnEncodeNum': WHATEVER THE INPUT: true; the input reads as it did. -/
def fnEncodeNumSpec : ChangeSpec := { name := "fnEncodeNum", fn := fun _ => fun
  | [d] => { results := [.lit (.bool true)], args := [d] }
  | _ => none }
def fnEncodeNumRow : OpenClaim := { program := "ytegdckdfllkmeab", sum := "e1a5d62caf06a7c281fa388936c05f79e9f3e3b7344e134b12378e08e35c9edb", func := "loop.example/workchain/laws.FnEncodeNum", spec := "fnEncodeNum", unfollowed := true, recurses := true, apart := false }
def FnEncodeNumSaid : Prop := fnEncodeNumRow.holds Try.pinned (OpenSpec.ofChange fnEncodeNumSpec)

/-- ITS FALSE NEIGHBOUR: 'it returns false'. Refute it at one input. -/
def fnEncodeNumWrong : ChangeSpec := { name := "fnEncodeNum", fn := fun _ => fun
  | [d] => { results := [.lit (.bool false)], args := [d] }
  | _ => none }
def FnEncodeNumWrongFalsely : Prop := fnEncodeNumRow.holds Try.pinned (OpenSpec.ofChange fnEncodeNumWrong)

/- THE SECOND FORM. 'bulk': how many values and letters a reading holds, each counted each time it is reached (what is shared counts as often as it is met; a slice's spare places count too). A statement '..UptoSaid' is the law's where the arguments, and the package variables that the reading takes, are together of bulk at most 1048576: NARROWER than '..Said'. Prove '..Said' where nothing that the law and all that it calls make is longer than what came in: it says more and counts as full. Else prove '..UptoSaid'. A law counts once. -/
mutual
def uptoBulk {H : Type} : DataW H → Nat
  | .lit (.string bytes) => bytes.length + 1
  | .lit _ => 1
  | .nil => 1
  | .ptr d => uptoBulk d + 1
  | .slice elems spare => uptoBulkAll elems + uptoBulkAll spare + 1
  | .agg parts => uptoBulkAll parts + 1
  | .iface _ d => uptoBulk d + 1
  | .map entries => uptoBulkEntries entries + 1
  | .held _ => 1
def uptoBulkAll {H : Type} : List (DataW H) → Nat
  | [] => 0
  | d :: r => uptoBulk d + uptoBulkAll r
def uptoBulkEntries {H : Type} : List (Lit × DataW H) → Nat
  | [] => 0
  | x :: r => uptoBulkEntry x + uptoBulkEntries r
def uptoBulkEntry {H : Type} : Lit × DataW H → Nat
  | (.string bytes, d) => bytes.length + uptoBulk d + 1
  | (_, d) => uptoBulk d + 1
 end
def uptoSmall : (H : Type) → List (DataW H) → Bool := fun _ ds => decide (uptoBulkAll ds ≤ 1048576)
def OpenSpec.upto (s : _root_.Go.ChangeSpec) : _root_.Go.OpenSpec := { _root_.Go.OpenSpec.ofChange s with cond := some uptoSmall }

/-- 'laws.FnExactHexOf', WHERE WHAT IT READS IS OF BULK AT MOST 1048576: true; the input reads as it did. -/
def fnExactHexOfUptoRow : OpenClaim := { program := "ytegdckdfllkmeab", sum := "e1a5d62caf06a7c281fa388936c05f79e9f3e3b7344e134b12378e08e35c9edb", func := "loop.example/workchain/laws.FnExactHexOf", spec := "fnExactHexOf", inPlace := ["internal/abi.NoEscape"], apart := false, narrowed := true }
def FnExactHexOfUptoSaid : Prop := fnExactHexOfUptoRow.holds Try.pinned (OpenSpec.upto fnExactHexOfSpec)

/-- 'laws.FnExactFromHex', WHERE WHAT IT READS IS OF BULK AT MOST 1048576: true; the input reads as it did. -/
def fnExactFromHexUptoRow : OpenClaim := { program := "ytegdckdfllkmeab", sum := "e1a5d62caf06a7c281fa388936c05f79e9f3e3b7344e134b12378e08e35c9edb", func := "loop.example/workchain/laws.FnExactFromHex", spec := "fnExactFromHex", inPlace := ["internal/bytealg.IndexByteString", "internal/abi.NoEscape"], apart := false, narrowed := true }
def FnExactFromHexUptoSaid : Prop := fnExactFromHexUptoRow.holds Try.pinned (OpenSpec.upto fnExactFromHexSpec)

/-- 'laws.FnHexOf', WHERE WHAT IT READS IS OF BULK AT MOST 1048576: true; the input reads as it did. -/
def fnHexOfUptoRow : OpenClaim := { program := "ytegdckdfllkmeab", sum := "e1a5d62caf06a7c281fa388936c05f79e9f3e3b7344e134b12378e08e35c9edb", func := "loop.example/workchain/laws.FnHexOf", spec := "fnHexOf", inPlace := ["internal/abi.NoEscape", "internal/bytealg.IndexByteString"], apart := false, narrowed := true }
def FnHexOfUptoSaid : Prop := fnHexOfUptoRow.holds Try.pinned (OpenSpec.upto fnHexOfSpec)

/-- 'laws.FnFromHex', WHERE WHAT IT READS IS OF BULK AT MOST 1048576: true; the input reads as it did. -/
def fnFromHexUptoRow : OpenClaim := { program := "ytegdckdfllkmeab", sum := "e1a5d62caf06a7c281fa388936c05f79e9f3e3b7344e134b12378e08e35c9edb", func := "loop.example/workchain/laws.FnFromHex", spec := "fnFromHex", inPlace := ["internal/bytealg.IndexByteString", "internal/abi.NoEscape"], apart := false, narrowed := true }
def FnFromHexUptoSaid : Prop := fnFromHexUptoRow.holds Try.pinned (OpenSpec.upto fnFromHexSpec)

/-- 'laws.FnPrefixFree', WHERE WHAT IT READS IS OF BULK AT MOST 1048576: true; the input reads as it did. -/
def fnPrefixFreeUptoRow : OpenClaim := { program := "ytegdckdfllkmeab", sum := "e1a5d62caf06a7c281fa388936c05f79e9f3e3b7344e134b12378e08e35c9edb", func := "loop.example/workchain/laws.FnPrefixFree", spec := "fnPrefixFree", apart := false, narrowed := true }
def FnPrefixFreeUptoSaid : Prop := fnPrefixFreeUptoRow.holds Try.pinned (OpenSpec.upto fnPrefixFreeSpec)

/-- 'laws.FnEncodeNum', WHERE WHAT IT READS IS OF BULK AT MOST 1048576: true; the input reads as it did. -/
def fnEncodeNumUptoRow : OpenClaim := { program := "ytegdckdfllkmeab", sum := "e1a5d62caf06a7c281fa388936c05f79e9f3e3b7344e134b12378e08e35c9edb", func := "loop.example/workchain/laws.FnEncodeNum", spec := "fnEncodeNum", unfollowed := true, recurses := true, apart := false, narrowed := true }
def FnEncodeNumUptoSaid : Prop := fnEncodeNumUptoRow.holds Try.pinned (OpenSpec.upto fnEncodeNumSpec)

end Rows
end Go.Proofs.Ytegdckdfllkmeab
