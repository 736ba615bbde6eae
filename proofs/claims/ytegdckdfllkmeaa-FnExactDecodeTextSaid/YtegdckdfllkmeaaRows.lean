/-
  No cell of these rows narrows 'for every input' (looked for: loops, veiled, ifaces, maps, wideKeys, modest, calm, conditions, laid).
  DERIVED. THE GIVEN ROWS OF THIS SEAT. 6 by the template 'for every input the law returns true; each argument reads behind the call as it read before'; 0 by the template 'total and deterministic' (their statements: YtegdckdfllkmeaaTotals.lean).
  GIVEN WITH THE SEED: the statements are not yours to turn. If you find one false, say at which input.
  Laid BY PROGRAM, IN A SANDBOX (cutbox-rows.mjs): the forced cells as the released guide's own fill.sh prints them over the translation 3a5717fcdb155937… (all of the seat's roots in one cut). By AI agents, Wed Nov 11 2026. No macro, syntax, notation, axiom, sorry.
-/
import Derived.Test.YtegdckdfllkmeaaChecked
import GoSem.Claim
import GoSem.ClaimJoined
import GoSem.ClaimMapViews
import Derived.JoinedTies
import Derived.KernelRfl
namespace Go.Proofs.Ytegdckdfllkmeaa
/- THE CELL 'sum', in the pinned program and in every row, IS THE sha256 OF THE DUMP (.gsa) THAT YtegdckdfllkmeaaProg.lean LOADS. Nothing in Lean hashes anything: it is a label: what it is worth is what the hold of that sum in a sandbox is worth. -/
noncomputable def Try.pinned : Pinned := { name := "ytegdckdfllkmeaa", sum := "3a5717fcdb1559374b57376b4adce32ac52089f2c2507a7e5e1d2b5e1b2611fd", checked := Try.checked }
namespace Rows
def none {H : Type} : Left H := { results := [], args := [] }

/-- 'laws.FnExactEncodeNum': WHATEVER THE INPUT: true; the input reads as it did. -/
def fnExactEncodeNumSpec : ChangeSpec := { name := "fnExactEncodeNum", fn := fun _ => fun
  | [d] => { results := [.lit (.bool true)], args := [d] }
  | _ => none }
def fnExactEncodeNumRow : OpenClaim := { program := "ytegdckdfllkmeaa", sum := "3a5717fcdb1559374b57376b4adce32ac52089f2c2507a7e5e1d2b5e1b2611fd", func := "loop.example/workchain/laws.FnExactEncodeNum", spec := "fnExactEncodeNum", apart := false }
def FnExactEncodeNumSaid : Prop := fnExactEncodeNumRow.holds Try.pinned (OpenSpec.ofChange fnExactEncodeNumSpec)

/-- ITS FALSE NEIGHBOUR: 'it returns false'. Refute it at one input. -/
def fnExactEncodeNumWrong : ChangeSpec := { name := "fnExactEncodeNum", fn := fun _ => fun
  | [d] => { results := [.lit (.bool false)], args := [d] }
  | _ => none }
def FnExactEncodeNumWrongFalsely : Prop := fnExactEncodeNumRow.holds Try.pinned (OpenSpec.ofChange fnExactEncodeNumWrong)

/-- 'laws.FnExactDecodeNum': WHATEVER THE INPUT: true; the input reads as it did. -/
def fnExactDecodeNumSpec : ChangeSpec := { name := "fnExactDecodeNum", fn := fun _ => fun
  | [d] => { results := [.lit (.bool true)], args := [d] }
  | _ => none }
def fnExactDecodeNumRow : OpenClaim := { program := "ytegdckdfllkmeaa", sum := "3a5717fcdb1559374b57376b4adce32ac52089f2c2507a7e5e1d2b5e1b2611fd", func := "loop.example/workchain/laws.FnExactDecodeNum", spec := "fnExactDecodeNum", unfollowed := true, recurses := true, apart := false }
def FnExactDecodeNumSaid : Prop := fnExactDecodeNumRow.holds Try.pinned (OpenSpec.ofChange fnExactDecodeNumSpec)

/-- ITS FALSE NEIGHBOUR: 'it returns false'. Refute it at one input. -/
def fnExactDecodeNumWrong : ChangeSpec := { name := "fnExactDecodeNum", fn := fun _ => fun
  | [d] => { results := [.lit (.bool false)], args := [d] }
  | _ => none }
def FnExactDecodeNumWrongFalsely : Prop := fnExactDecodeNumRow.holds Try.pinned (OpenSpec.ofChange fnExactDecodeNumWrong)

/-- 'laws.FnExactEncodeText': WHATEVER THE INPUT: true; the input reads as it did. -/
def fnExactEncodeTextSpec : ChangeSpec := { name := "fnExactEncodeText", fn := fun _ => fun
  | [d] => { results := [.lit (.bool true)], args := [d] }
  | _ => none }
def fnExactEncodeTextRow : OpenClaim := { program := "ytegdckdfllkmeaa", sum := "3a5717fcdb1559374b57376b4adce32ac52089f2c2507a7e5e1d2b5e1b2611fd", func := "loop.example/workchain/laws.FnExactEncodeText", spec := "fnExactEncodeText", apart := false }
def FnExactEncodeTextSaid : Prop := fnExactEncodeTextRow.holds Try.pinned (OpenSpec.ofChange fnExactEncodeTextSpec)

/-- ITS FALSE NEIGHBOUR: 'it returns false'. Refute it at one input. -/
def fnExactEncodeTextWrong : ChangeSpec := { name := "fnExactEncodeText", fn := fun _ => fun
  | [d] => { results := [.lit (.bool false)], args := [d] }
  | _ => none }
def FnExactEncodeTextWrongFalsely : Prop := fnExactEncodeTextRow.holds Try.pinned (OpenSpec.ofChange fnExactEncodeTextWrong)

/-- 'laws.FnExactDecodeText': WHATEVER THE INPUT: true; the input reads as it did. -/
def fnExactDecodeTextSpec : ChangeSpec := { name := "fnExactDecodeText", fn := fun _ => fun
  | [d] => { results := [.lit (.bool true)], args := [d] }
  | _ => none }
def fnExactDecodeTextRow : OpenClaim := { program := "ytegdckdfllkmeaa", sum := "3a5717fcdb1559374b57376b4adce32ac52089f2c2507a7e5e1d2b5e1b2611fd", func := "loop.example/workchain/laws.FnExactDecodeText", spec := "fnExactDecodeText", unfollowed := true, recurses := true, apart := false }
def FnExactDecodeTextSaid : Prop := fnExactDecodeTextRow.holds Try.pinned (OpenSpec.ofChange fnExactDecodeTextSpec)

/-- ITS FALSE NEIGHBOUR: 'it returns false'. Refute it at one input. -/
def fnExactDecodeTextWrong : ChangeSpec := { name := "fnExactDecodeText", fn := fun _ => fun
  | [d] => { results := [.lit (.bool false)], args := [d] }
  | _ => none }
def FnExactDecodeTextWrongFalsely : Prop := fnExactDecodeTextRow.holds Try.pinned (OpenSpec.ofChange fnExactDecodeTextWrong)

/-- 'laws.FnExactEncodeTexts': WHATEVER THE INPUT: true; the input reads as it did. -/
def fnExactEncodeTextsSpec : ChangeSpec := { name := "fnExactEncodeTexts", fn := fun _ => fun
  | [d] => { results := [.lit (.bool true)], args := [d] }
  | _ => none }
def fnExactEncodeTextsRow : OpenClaim := { program := "ytegdckdfllkmeaa", sum := "3a5717fcdb1559374b57376b4adce32ac52089f2c2507a7e5e1d2b5e1b2611fd", func := "loop.example/workchain/laws.FnExactEncodeTexts", spec := "fnExactEncodeTexts", inPlace := ["internal/abi.NoEscape"], apart := false }
def FnExactEncodeTextsSaid : Prop := fnExactEncodeTextsRow.holds Try.pinned (OpenSpec.ofChange fnExactEncodeTextsSpec)

/-- ITS FALSE NEIGHBOUR: 'it returns false'. Refute it at one input. -/
def fnExactEncodeTextsWrong : ChangeSpec := { name := "fnExactEncodeTexts", fn := fun _ => fun
  | [d] => { results := [.lit (.bool false)], args := [d] }
  | _ => none }
def FnExactEncodeTextsWrongFalsely : Prop := fnExactEncodeTextsRow.holds Try.pinned (OpenSpec.ofChange fnExactEncodeTextsWrong)

/-- 'laws.FnExactDecodeTexts': WHATEVER THE INPUT: true; the input reads as it did. -/
def fnExactDecodeTextsSpec : ChangeSpec := { name := "fnExactDecodeTexts", fn := fun _ => fun
  | [d] => { results := [.lit (.bool true)], args := [d] }
  | _ => none }
def fnExactDecodeTextsRow : OpenClaim := { program := "ytegdckdfllkmeaa", sum := "3a5717fcdb1559374b57376b4adce32ac52089f2c2507a7e5e1d2b5e1b2611fd", func := "loop.example/workchain/laws.FnExactDecodeTexts", spec := "fnExactDecodeTexts", unfollowed := true, recurses := true, apart := false }
def FnExactDecodeTextsSaid : Prop := fnExactDecodeTextsRow.holds Try.pinned (OpenSpec.ofChange fnExactDecodeTextsSpec)

/-- ITS FALSE NEIGHBOUR: 'it returns false'. Refute it at one input. -/
def fnExactDecodeTextsWrong : ChangeSpec := { name := "fnExactDecodeTexts", fn := fun _ => fun
  | [d] => { results := [.lit (.bool false)], args := [d] }
  | _ => none }
def FnExactDecodeTextsWrongFalsely : Prop := fnExactDecodeTextsRow.holds Try.pinned (OpenSpec.ofChange fnExactDecodeTextsWrong)

/- THE SECOND FORM. 'bulk': how many values and letters a reading holds, each counted each time it is reached (what is shared counts as often as it is met; a slice's spare places count too). A statement '..UptoSaid' is the law's where the arguments, and the package variables that the reading takes, are together of bulk at most 1048576: NARROWER than '..Said'. Prove '..Said' where nothing that the law and all that it calls make is longer than what came in: it says more and counts as full. Else prove '..UptoSaid'. A law counts once. -/
mutual
def uptoBulk {H : Type} : DataW H → Nat
  | .lit (.string bytes) => bytes.length + 1
  | .lit _ => 1
  | .nil => 1
  | .ptr d => uptoBulk d + 1
  | .slice elems spare => uptoBulkAll elems + uptoBulkAll spare + 1
  | .agg parts => uptoBulkAll parts + 1
  | .iface _ d => uptoBulk d + 1
  | .map entries => uptoBulkEntries entries + 1
  | .held _ => 1
def uptoBulkAll {H : Type} : List (DataW H) → Nat
  | [] => 0
  | d :: r => uptoBulk d + uptoBulkAll r
def uptoBulkEntries {H : Type} : List (Lit × DataW H) → Nat
  | [] => 0
  | x :: r => uptoBulkEntry x + uptoBulkEntries r
def uptoBulkEntry {H : Type} : Lit × DataW H → Nat
  | (.string bytes, d) => bytes.length + uptoBulk d + 1
  | (_, d) => uptoBulk d + 1
 end
def uptoSmall : (H : Type) → List (DataW H) → Bool := fun _ ds => decide (uptoBulkAll ds ≤ 1048576)
def OpenSpec.upto (s : _root_.Go.ChangeSpec) : _root_.Go.OpenSpec := { _root_.Go.OpenSpec.ofChange s with cond := some uptoSmall }

/-- 'laws.FnExactEncodeNum', WHERE WHAT IT READS IS OF BULK AT MOST 1048576: true; the input reads as it did. -/
def fnExactEncodeNumUptoRow : OpenClaim := { program := "ytegdckdfllkmeaa", sum := "3a5717fcdb1559374b57376b4adce32ac52089f2c2507a7e5e1d2b5e1b2611fd", func := "loop.example/workchain/laws.FnExactEncodeNum", spec := "fnExactEncodeNum", apart := false, narrowed := true }
def FnExactEncodeNumUptoSaid : Prop := fnExactEncodeNumUptoRow.holds Try.pinned (OpenSpec.upto fnExactEncodeNumSpec)

/-- 'laws.FnExactDecodeNum', WHERE WHAT IT READS IS OF BULK AT MOST 1048576: true; the input reads as it did. -/
def fnExactDecodeNumUptoRow : OpenClaim := { program := "ytegdckdfllkmeaa", sum := "3a5717fcdb1559374b57376b4adce32ac52089f2c2507a7e5e1d2b5e1b2611fd", func := "loop.example/workchain/laws.FnExactDecodeNum", spec := "fnExactDecodeNum", unfollowed := true, recurses := true, apart := false, narrowed := true }
def FnExactDecodeNumUptoSaid : Prop := fnExactDecodeNumUptoRow.holds Try.pinned (OpenSpec.upto fnExactDecodeNumSpec)

/-- 'laws.FnExactEncodeText', WHERE WHAT IT READS IS OF BULK AT MOST 1048576: true; the input reads as it did. -/
def fnExactEncodeTextUptoRow : OpenClaim := { program := "ytegdckdfllkmeaa", sum := "3a5717fcdb1559374b57376b4adce32ac52089f2c2507a7e5e1d2b5e1b2611fd", func := "loop.example/workchain/laws.FnExactEncodeText", spec := "fnExactEncodeText", apart := false, narrowed := true }
def FnExactEncodeTextUptoSaid : Prop := fnExactEncodeTextUptoRow.holds Try.pinned (OpenSpec.upto fnExactEncodeTextSpec)

/-- 'laws.FnExactDecodeText', WHERE WHAT IT READS IS OF BULK AT MOST 1048576: true; the input reads as it did. -/
def fnExactDecodeTextUptoRow : OpenClaim := { program := "ytegdckdfllkmeaa", sum := "3a5717fcdb1559374b57376b4adce32ac52089f2c2507a7e5e1d2b5e1b2611fd", func := "loop.example/workchain/laws.FnExactDecodeText", spec := "fnExactDecodeText", unfollowed := true, recurses := true, apart := false, narrowed := true }
def FnExactDecodeTextUptoSaid : Prop := fnExactDecodeTextUptoRow.holds Try.pinned (OpenSpec.upto fnExactDecodeTextSpec)

/-- 'laws.FnExactEncodeTexts', WHERE WHAT IT READS IS OF BULK AT MOST 1048576: true; the input reads as it did. -/
def fnExactEncodeTextsUptoRow : OpenClaim := { program := "ytegdckdfllkmeaa", sum := "3a5717fcdb1559374b57376b4adce32ac52089f2c2507a7e5e1d2b5e1b2611fd", func := "loop.example/workchain/laws.FnExactEncodeTexts", spec := "fnExactEncodeTexts", inPlace := ["internal/abi.NoEscape"], apart := false, narrowed := true }
def FnExactEncodeTextsUptoSaid : Prop := fnExactEncodeTextsUptoRow.holds Try.pinned (OpenSpec.upto fnExactEncodeTextsSpec)

/-- 'laws.FnExactDecodeTexts', WHERE WHAT IT READS IS OF BULK AT MOST 1048576: true; the input reads as it did. -/
def fnExactDecodeTextsUptoRow : OpenClaim := { program := "ytegdckdfllkmeaa", sum := "3a5717fcdb1559374b57376b4adce32ac52089f2c2507a7e5e1d2b5e1b2611fd", func := "loop.example/workchain/laws.FnExactDecodeTexts", spec := "fnExactDecodeTexts", unfollowed := true, recurses := true, apart := false, narrowed := true }
def FnExactDecodeTextsUptoSaid : Prop := fnExactDecodeTextsUptoRow.holds Try.pinned (OpenSpec.upto fnExactDecodeTextsSpec)

end Rows
end Go.Proofs.Ytegdckdfllkmeaa
