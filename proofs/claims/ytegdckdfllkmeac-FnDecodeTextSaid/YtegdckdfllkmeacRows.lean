/-
  No cell of these rows narrows 'for every input' (looked for: loops, veiled, ifaces, maps, wideKeys, modest, calm, conditions, laid).
  DERIVED. THE GIVEN ROWS OF THIS SEAT. 6 by the template 'for every input the law returns true; each argument reads behind the call as it read before'; 0 by the template 'total and deterministic' (their statements: YtegdckdfllkmeacTotals.lean).
  GIVEN WITH THE SEED: the statements are not yours to turn. If you find one false, say at which input.
  Laid BY PROGRAM, IN A SANDBOX (cutbox-rows.mjs): the forced cells as the released guide's own fill.sh prints them over the translation 2ab93d6f6359944f… (all of the seat's roots in one cut). By AI agents, Wed Nov 11 2026. No macro, syntax, notation, axiom, sorry.
-/
import Derived.Test.YtegdckdfllkmeacChecked
import GoSem.Claim
import GoSem.ClaimJoined
import GoSem.ClaimMapViews
import Derived.JoinedTies
import Derived.KernelRfl
namespace Go.Proofs.Ytegdckdfllkmeac
/- THE CELL 'sum', in the pinned program and in every row, IS THE sha256 OF THE DUMP (.gsa) THAT YtegdckdfllkmeacProg.lean LOADS. Nothing in Lean hashes anything: it is a label: what it is worth is what the hold of that sum in a sandbox is worth. -/
noncomputable def Try.pinned : Pinned := { name := "ytegdckdfllkmeac", sum := "2ab93d6f6359944fe5f2df25798f9a66586755c11c5af6d74f5a6aa02b37aca5", checked := Try.checked }
namespace Rows
def none {H : Type} : Left H := { results := [], args := [] }

/-- 'laws.FnDecodeNum': WHATEVER THE INPUT: true; the input reads as it did. -/
def fnDecodeNumSpec : ChangeSpec := { name := "fnDecodeNum", fn := fun _ => fun
  | [d] => { results := [.lit (.bool true)], args := [d] }
  | _ => none }
def fnDecodeNumRow : OpenClaim := { program := "ytegdckdfllkmeac", sum := "2ab93d6f6359944fe5f2df25798f9a66586755c11c5af6d74f5a6aa02b37aca5", func := "loop.example/workchain/laws.FnDecodeNum", spec := "fnDecodeNum", unfollowed := true, recurses := true, apart := false }
def FnDecodeNumSaid : Prop := fnDecodeNumRow.holds Try.pinned (OpenSpec.ofChange fnDecodeNumSpec)

/-- ITS FALSE NEIGHBOUR: 'it returns false'. Refute it at one input. -/
def fnDecodeNumWrong : ChangeSpec := { name := "fnDecodeNum", fn := fun _ => fun
  | [d] => { results := [.lit (.bool false)], args := [d] }
  | _ => none }
def FnDecodeNumWrongFalsely : Prop := fnDecodeNumRow.holds Try.pinned (OpenSpec.ofChange fnDecodeNumWrong)

/-- 'laws.FnEncodeText': WHATEVER THE INPUT: true; the input reads as it did. -/
def fnEncodeTextSpec : ChangeSpec := { name := "fnEncodeText", fn := fun _ => fun
  | [d] => { results := [.lit (.bool true)], args := [d] }
  | _ => none }
def fnEncodeTextRow : OpenClaim := { program := "ytegdckdfllkmeac", sum := "2ab93d6f6359944fe5f2df25798f9a66586755c11c5af6d74f5a6aa02b37aca5", func := "loop.example/workchain/laws.FnEncodeText", spec := "fnEncodeText", unfollowed := true, recurses := true, apart := false }
def FnEncodeTextSaid : Prop := fnEncodeTextRow.holds Try.pinned (OpenSpec.ofChange fnEncodeTextSpec)

/-- ITS FALSE NEIGHBOUR: 'it returns false'. Refute it at one input. -/
def fnEncodeTextWrong : ChangeSpec := { name := "fnEncodeText", fn := fun _ => fun
  | [d] => { results := [.lit (.bool false)], args := [d] }
  | _ => none }
def FnEncodeTextWrongFalsely : Prop := fnEncodeTextRow.holds Try.pinned (OpenSpec.ofChange fnEncodeTextWrong)

/-- 'laws.FnDecodeText': WHATEVER THE INPUT: true; the input reads as it did. -/
def fnDecodeTextSpec : ChangeSpec := { name := "fnDecodeText", fn := fun _ => fun
  | [d] => { results := [.lit (.bool true)], args := [d] }
  | _ => none }
def fnDecodeTextRow : OpenClaim := { program := "ytegdckdfllkmeac", sum := "2ab93d6f6359944fe5f2df25798f9a66586755c11c5af6d74f5a6aa02b37aca5", func := "loop.example/workchain/laws.FnDecodeText", spec := "fnDecodeText", unfollowed := true, recurses := true, apart := false }
def FnDecodeTextSaid : Prop := fnDecodeTextRow.holds Try.pinned (OpenSpec.ofChange fnDecodeTextSpec)

/-- ITS FALSE NEIGHBOUR: 'it returns false'. Refute it at one input. -/
def fnDecodeTextWrong : ChangeSpec := { name := "fnDecodeText", fn := fun _ => fun
  | [d] => { results := [.lit (.bool false)], args := [d] }
  | _ => none }
def FnDecodeTextWrongFalsely : Prop := fnDecodeTextRow.holds Try.pinned (OpenSpec.ofChange fnDecodeTextWrong)

/-- 'laws.FnEncodeTexts': WHATEVER THE INPUT: true; the input reads as it did. -/
def fnEncodeTextsSpec : ChangeSpec := { name := "fnEncodeTexts", fn := fun _ => fun
  | [d] => { results := [.lit (.bool true)], args := [d] }
  | _ => none }
def fnEncodeTextsRow : OpenClaim := { program := "ytegdckdfllkmeac", sum := "2ab93d6f6359944fe5f2df25798f9a66586755c11c5af6d74f5a6aa02b37aca5", func := "loop.example/workchain/laws.FnEncodeTexts", spec := "fnEncodeTexts", inPlace := ["internal/abi.NoEscape"], unfollowed := true, recurses := true, apart := false }
def FnEncodeTextsSaid : Prop := fnEncodeTextsRow.holds Try.pinned (OpenSpec.ofChange fnEncodeTextsSpec)

/-- ITS FALSE NEIGHBOUR: 'it returns false'. Refute it at one input. -/
def fnEncodeTextsWrong : ChangeSpec := { name := "fnEncodeTexts", fn := fun _ => fun
  | [d] => { results := [.lit (.bool false)], args := [d] }
  | _ => none }
def FnEncodeTextsWrongFalsely : Prop := fnEncodeTextsRow.holds Try.pinned (OpenSpec.ofChange fnEncodeTextsWrong)

/-- 'laws.FnDecodeTexts': WHATEVER THE INPUT: true; the input reads as it did. -/
def fnDecodeTextsSpec : ChangeSpec := { name := "fnDecodeTexts", fn := fun _ => fun
  | [d] => { results := [.lit (.bool true)], args := [d] }
  | _ => none }
def fnDecodeTextsRow : OpenClaim := { program := "ytegdckdfllkmeac", sum := "2ab93d6f6359944fe5f2df25798f9a66586755c11c5af6d74f5a6aa02b37aca5", func := "loop.example/workchain/laws.FnDecodeTexts", spec := "fnDecodeTexts", inPlace := ["internal/abi.NoEscape"], unfollowed := true, recurses := true, apart := false }
def FnDecodeTextsSaid : Prop := fnDecodeTextsRow.holds Try.pinned (OpenSpec.ofChange fnDecodeTextsSpec)

/-- ITS FALSE NEIGHBOUR: 'it returns false'. Refute it at one input. -/
def fnDecodeTextsWrong : ChangeSpec := { name := "fnDecodeTexts", fn := fun _ => fun
  | [d] => { results := [.lit (.bool false)], args := [d] }
  | _ => none }
def FnDecodeTextsWrongFalsely : Prop := fnDecodeTextsRow.holds Try.pinned (OpenSpec.ofChange fnDecodeTextsWrong)

/-- 'laws.FnTextsJoin': WHATEVER THE INPUT: true; the input reads as it did. -/
def fnTextsJoinSpec : ChangeSpec := { name := "fnTextsJoin", fn := fun _ => fun
  | [d1, d2] => { results := [.lit (.bool true)], args := [d1, d2] }
  | _ => none }
def fnTextsJoinRow : OpenClaim := { program := "ytegdckdfllkmeac", sum := "2ab93d6f6359944fe5f2df25798f9a66586755c11c5af6d74f5a6aa02b37aca5", func := "loop.example/workchain/laws.FnTextsJoin", spec := "fnTextsJoin", inPlace := ["internal/abi.NoEscape"], unfollowed := true, recurses := true, apart := false }
def FnTextsJoinSaid : Prop := fnTextsJoinRow.holds Try.pinned (OpenSpec.ofChange fnTextsJoinSpec)

/-- ITS FALSE NEIGHBOUR: 'it returns false'. Refute it at one input. -/
def fnTextsJoinWrong : ChangeSpec := { name := "fnTextsJoin", fn := fun _ => fun
  | [d1, d2] => { results := [.lit (.bool false)], args := [d1, d2] }
  | _ => none }
def FnTextsJoinWrongFalsely : Prop := fnTextsJoinRow.holds Try.pinned (OpenSpec.ofChange fnTextsJoinWrong)

/- THE SECOND FORM. 'bulk': how many values and letters a reading holds, each counted each time it is reached (what is shared counts as often as it is met; a slice's spare places count too). A statement '..UptoSaid' is the law's where the arguments, and the package variables that the reading takes, are together of bulk at most 1048576: NARROWER than '..Said'. Prove '..Said' where nothing that the law and all that it calls make is longer than what came in: it says more and counts as full. Else prove '..UptoSaid'. A law counts once. -/
mutual
def uptoBulk {H : Type} : DataW H → Nat
  | .lit (.string bytes) => bytes.length + 1
  | .lit _ => 1
  | .nil => 1
  | .ptr d => uptoBulk d + 1
  | .slice elems spare => uptoBulkAll elems + uptoBulkAll spare + 1
  | .agg parts => uptoBulkAll parts + 1
  | .iface _ d => uptoBulk d + 1
  | .map entries => uptoBulkEntries entries + 1
  | .held _ => 1
def uptoBulkAll {H : Type} : List (DataW H) → Nat
  | [] => 0
  | d :: r => uptoBulk d + uptoBulkAll r
def uptoBulkEntries {H : Type} : List (Lit × DataW H) → Nat
  | [] => 0
  | x :: r => uptoBulkEntry x + uptoBulkEntries r
def uptoBulkEntry {H : Type} : Lit × DataW H → Nat
  | (.string bytes, d) => bytes.length + uptoBulk d + 1
  | (_, d) => uptoBulk d + 1
 end
def uptoSmall : (H : Type) → List (DataW H) → Bool := fun _ ds => decide (uptoBulkAll ds ≤ 1048576)
def OpenSpec.upto (s : _root_.Go.ChangeSpec) : _root_.Go.OpenSpec := { _root_.Go.OpenSpec.ofChange s with cond := some uptoSmall }

/-- 'laws.FnDecodeNum', WHERE WHAT IT READS IS OF BULK AT MOST 1048576: true; the input reads as it did. -/
def fnDecodeNumUptoRow : OpenClaim := { program := "ytegdckdfllkmeac", sum := "2ab93d6f6359944fe5f2df25798f9a66586755c11c5af6d74f5a6aa02b37aca5", func := "loop.example/workchain/laws.FnDecodeNum", spec := "fnDecodeNum", unfollowed := true, recurses := true, apart := false, narrowed := true }
def FnDecodeNumUptoSaid : Prop := fnDecodeNumUptoRow.holds Try.pinned (OpenSpec.upto fnDecodeNumSpec)

/-- 'laws.FnEncodeText', WHERE WHAT IT READS IS OF BULK AT MOST 1048576: true; the input reads as it did. -/
def fnEncodeTextUptoRow : OpenClaim := { program := "ytegdckdfllkmeac", sum := "2ab93d6f6359944fe5f2df25798f9a66586755c11c5af6d74f5a6aa02b37aca5", func := "loop.example/workchain/laws.FnEncodeText", spec := "fnEncodeText", unfollowed := true, recurses := true, apart := false, narrowed := true }
def FnEncodeTextUptoSaid : Prop := fnEncodeTextUptoRow.holds Try.pinned (OpenSpec.upto fnEncodeTextSpec)

/-- 'laws.FnDecodeText', WHERE WHAT IT READS IS OF BULK AT MOST 1048576: true; the input reads as it did. -/
def fnDecodeTextUptoRow : OpenClaim := { program := "ytegdckdfllkmeac", sum := "2ab93d6f6359944fe5f2df25798f9a66586755c11c5af6d74f5a6aa02b37aca5", func := "loop.example/workchain/laws.FnDecodeText", spec := "fnDecodeText", unfollowed := true, recurses := true, apart := false, narrowed := true }
def FnDecodeTextUptoSaid : Prop := fnDecodeTextUptoRow.holds Try.pinned (OpenSpec.upto fnDecodeTextSpec)

/-- 'laws.FnEncodeTexts', WHERE WHAT IT READS IS OF BULK AT MOST 1048576: true; the input reads as it did. -/
def fnEncodeTextsUptoRow : OpenClaim := { program := "ytegdckdfllkmeac", sum := "2ab93d6f6359944fe5f2df25798f9a66586755c11c5af6d74f5a6aa02b37aca5", func := "loop.example/workchain/laws.FnEncodeTexts", spec := "fnEncodeTexts", inPlace := ["internal/abi.NoEscape"], unfollowed := true, recurses := true, apart := false, narrowed := true }
def FnEncodeTextsUptoSaid : Prop := fnEncodeTextsUptoRow.holds Try.pinned (OpenSpec.upto fnEncodeTextsSpec)

/-- 'laws.FnDecodeTexts', WHERE WHAT IT READS IS OF BULK AT MOST 1048576: true; the input reads as it did. -/
def fnDecodeTextsUptoRow : OpenClaim := { program := "ytegdckdfllkmeac", sum := "2ab93d6f6359944fe5f2df25798f9a66586755c11c5af6d74f5a6aa02b37aca5", func := "loop.example/workchain/laws.FnDecodeTexts", spec := "fnDecodeTexts", inPlace := ["internal/abi.NoEscape"], unfollowed := true, recurses := true, apart := false, narrowed := true }
def FnDecodeTextsUptoSaid : Prop := fnDecodeTextsUptoRow.holds Try.pinned (OpenSpec.upto fnDecodeTextsSpec)

/-- 'laws.FnTextsJoin', WHERE WHAT IT READS IS OF BULK AT MOST 1048576: true; the input reads as it did. -/
def fnTextsJoinUptoRow : OpenClaim := { program := "ytegdckdfllkmeac", sum := "2ab93d6f6359944fe5f2df25798f9a66586755c11c5af6d74f5a6aa02b37aca5", func := "loop.example/workchain/laws.FnTextsJoin", spec := "fnTextsJoin", inPlace := ["internal/abi.NoEscape"], unfollowed := true, recurses := true, apart := false, narrowed := true }
def FnTextsJoinUptoSaid : Prop := fnTextsJoinUptoRow.holds Try.pinned (OpenSpec.upto fnTextsJoinSpec)

end Rows
end Go.Proofs.Ytegdckdfllkmeac
