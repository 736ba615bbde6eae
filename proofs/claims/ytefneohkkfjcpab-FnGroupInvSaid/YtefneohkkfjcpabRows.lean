/-
  No cell of these rows narrows 'for every input' (looked for: loops, veiled, ifaces, maps, wideKeys, modest, calm, conditions, laid).
  DERIVED. THE GIVEN ROWS OF THIS SEAT. 6 by the template 'for every input the law returns true; each argument reads behind the call as it read before'; 0 by the template 'total and deterministic' (their statements: YtefneohkkfjcpabTotals.lean).
  GIVEN WITH THE SEED: the statements are not yours to turn. If you find one false, say at which input.
  Laid BY PROGRAM, IN A SANDBOX (cutbox-rows.mjs): the forced cells as the released guide's own fill.sh prints them over the translation ac7ca9e21bf268cf… (all of the seat's roots in one cut). By AI agents, Wed Nov 11 2026. No macro, syntax, notation, axiom, sorry.
-/
import Derived.Test.YtefneohkkfjcpabChecked
import GoSem.Claim
import GoSem.ClaimJoined
import GoSem.ClaimMapViews
import Derived.JoinedTies
import Derived.KernelRfl
namespace Go.Proofs.Ytefneohkkfjcpab
/- THE CELL 'sum', in the pinned program and in every row, IS THE sha256 OF THE DUMP (.gsa) THAT YtefneohkkfjcpabProg.lean LOADS. Nothing in Lean hashes anything: it is a label: what it is worth is what the hold of that sum in a sandbox is worth. -/
noncomputable def Try.pinned : Pinned := { name := "ytefneohkkfjcpab", sum := "ac7ca9e21bf268cf695e329edd20b4b74e9b83ce5571cd138401fcc9de294f7b", checked := Try.checked }
namespace Rows
def none {H : Type} : Left H := { results := [], args := [] }

/-- 'laws.FnExactKeyOk': WHATEVER THE INPUT: true; the input reads as it did. -/
def fnExactKeyOkSpec : ChangeSpec := { name := "fnExactKeyOk", fn := fun _ => fun
  | [d] => { results := [.lit (.bool true)], args := [d] }
  | _ => none }
def fnExactKeyOkRow : OpenClaim := { program := "ytefneohkkfjcpab", sum := "ac7ca9e21bf268cf695e329edd20b4b74e9b83ce5571cd138401fcc9de294f7b", func := "loop.example/workchain/laws.FnExactKeyOk", spec := "fnExactKeyOk", apart := false }
def FnExactKeyOkSaid : Prop := fnExactKeyOkRow.holds Try.pinned (OpenSpec.ofChange fnExactKeyOkSpec)

/-- ITS FALSE NEIGHBOUR: 'it returns false'. Refute it at one input. -/
def fnExactKeyOkWrong : ChangeSpec := { name := "fnExactKeyOk", fn := fun _ => fun
  | [d] => { results := [.lit (.bool false)], args := [d] }
  | _ => none }
def FnExactKeyOkWrongFalsely : Prop := fnExactKeyOkRow.holds Try.pinned (OpenSpec.ofChange fnExactKeyOkWrong)

/-- 'laws.FnGroupOk': WHATEVER THE INPUT: true; the input reads as it did. -/
def fnGroupOkSpec : ChangeSpec := { name := "fnGroupOk", fn := fun _ => fun
  | [d] => { results := [.lit (.bool true)], args := [d] }
  | _ => none }
def fnGroupOkRow : OpenClaim := { program := "ytefneohkkfjcpab", sum := "ac7ca9e21bf268cf695e329edd20b4b74e9b83ce5571cd138401fcc9de294f7b", func := "loop.example/workchain/laws.FnGroupOk", spec := "fnGroupOk", apart := false }
def FnGroupOkSaid : Prop := fnGroupOkRow.holds Try.pinned (OpenSpec.ofChange fnGroupOkSpec)

/-- ITS FALSE NEIGHBOUR: 'it returns false'. Refute it at one input. -/
def fnGroupOkWrong : ChangeSpec := { name := "fnGroupOk", fn := fun _ => fun
  | [d] => { results := [.lit (.bool false)], args := [d] }
  | _ => none }
def FnGroupOkWrongFalsely : Prop := fnGroupOkRow.holds Try.pinned (OpenSpec.ofChange fnGroupOkWrong)

/-- 'laws.FnGroupMul': WHATEVER THE INPUT: true; the input reads as it did. -/
def fnGroupMulSpec : ChangeSpec := { name := "fnGroupMul", fn := fun _ => fun
  | [d] => { results := [.lit (.bool true)], args := [d] }
  | _ => none }
def fnGroupMulRow : OpenClaim := { program := "ytefneohkkfjcpab", sum := "ac7ca9e21bf268cf695e329edd20b4b74e9b83ce5571cd138401fcc9de294f7b", func := "loop.example/workchain/laws.FnGroupMul", spec := "fnGroupMul", apart := false }
def FnGroupMulSaid : Prop := fnGroupMulRow.holds Try.pinned (OpenSpec.ofChange fnGroupMulSpec)

/-- ITS FALSE NEIGHBOUR: 'it returns false'. Refute it at one input. -/
def fnGroupMulWrong : ChangeSpec := { name := "fnGroupMul", fn := fun _ => fun
  | [d] => { results := [.lit (.bool false)], args := [d] }
  | _ => none }
def FnGroupMulWrongFalsely : Prop := fnGroupMulRow.holds Try.pinned (OpenSpec.ofChange fnGroupMulWrong)

/-- 'laws.FnGroupPow': WHATEVER THE INPUT: true; the input reads as it did. -/
def fnGroupPowSpec : ChangeSpec := { name := "fnGroupPow", fn := fun _ => fun
  | [d] => { results := [.lit (.bool true)], args := [d] }
  | _ => none }
def fnGroupPowRow : OpenClaim := { program := "ytefneohkkfjcpab", sum := "ac7ca9e21bf268cf695e329edd20b4b74e9b83ce5571cd138401fcc9de294f7b", func := "loop.example/workchain/laws.FnGroupPow", spec := "fnGroupPow", apart := false }
def FnGroupPowSaid : Prop := fnGroupPowRow.holds Try.pinned (OpenSpec.ofChange fnGroupPowSpec)

/-- ITS FALSE NEIGHBOUR: 'it returns false'. Refute it at one input. -/
def fnGroupPowWrong : ChangeSpec := { name := "fnGroupPow", fn := fun _ => fun
  | [d] => { results := [.lit (.bool false)], args := [d] }
  | _ => none }
def FnGroupPowWrongFalsely : Prop := fnGroupPowRow.holds Try.pinned (OpenSpec.ofChange fnGroupPowWrong)

/-- 'laws.FnGroupInv': WHATEVER THE INPUT: true; the input reads as it did. -/
def fnGroupInvSpec : ChangeSpec := { name := "fnGroupInv", fn := fun _ => fun
  | [d] => { results := [.lit (.bool true)], args := [d] }
  | _ => none }
def fnGroupInvRow : OpenClaim := { program := "ytefneohkkfjcpab", sum := "ac7ca9e21bf268cf695e329edd20b4b74e9b83ce5571cd138401fcc9de294f7b", func := "loop.example/workchain/laws.FnGroupInv", spec := "fnGroupInv", apart := false }
def FnGroupInvSaid : Prop := fnGroupInvRow.holds Try.pinned (OpenSpec.ofChange fnGroupInvSpec)

/-- ITS FALSE NEIGHBOUR: 'it returns false'. Refute it at one input. -/
def fnGroupInvWrong : ChangeSpec := { name := "fnGroupInv", fn := fun _ => fun
  | [d] => { results := [.lit (.bool false)], args := [d] }
  | _ => none }
def FnGroupInvWrongFalsely : Prop := fnGroupInvRow.holds Try.pinned (OpenSpec.ofChange fnGroupInvWrong)

/-- 'laws.FnScalarInv': WHATEVER THE INPUT: true; the input reads as it did. -/
def fnScalarInvSpec : ChangeSpec := { name := "fnScalarInv", fn := fun _ => fun
  | [d] => { results := [.lit (.bool true)], args := [d] }
  | _ => none }
def fnScalarInvRow : OpenClaim := { program := "ytefneohkkfjcpab", sum := "ac7ca9e21bf268cf695e329edd20b4b74e9b83ce5571cd138401fcc9de294f7b", func := "loop.example/workchain/laws.FnScalarInv", spec := "fnScalarInv", apart := false }
def FnScalarInvSaid : Prop := fnScalarInvRow.holds Try.pinned (OpenSpec.ofChange fnScalarInvSpec)

/-- ITS FALSE NEIGHBOUR: 'it returns false'. Refute it at one input. -/
def fnScalarInvWrong : ChangeSpec := { name := "fnScalarInv", fn := fun _ => fun
  | [d] => { results := [.lit (.bool false)], args := [d] }
  | _ => none }
def FnScalarInvWrongFalsely : Prop := fnScalarInvRow.holds Try.pinned (OpenSpec.ofChange fnScalarInvWrong)

/- THE SECOND FORM. 'bulk': how many values and letters a reading holds, each counted each time it is reached (what is shared counts as often as it is met; a slice's spare places count too). A statement '..UptoSaid' is the law's where the arguments, and the package variables that the reading takes, are together of bulk at most 1048576: NARROWER than '..Said'. Prove '..Said' where nothing that the law and all that it calls make is longer than what came in: it says more and counts as full. Else prove '..UptoSaid'. A law counts once. -/
mutual
def uptoBulk {H : Type} : DataW H → Nat
  | .lit (.string bytes) => bytes.length + 1
  | .lit _ => 1
  | .nil => 1
  | .ptr d => uptoBulk d + 1
  | .slice elems spare => uptoBulkAll elems + uptoBulkAll spare + 1
  | .agg parts => uptoBulkAll parts + 1
  | .iface _ d => uptoBulk d + 1
  | .map entries => uptoBulkEntries entries + 1
  | .held _ => 1
def uptoBulkAll {H : Type} : List (DataW H) → Nat
  | [] => 0
  | d :: r => uptoBulk d + uptoBulkAll r
def uptoBulkEntries {H : Type} : List (Lit × DataW H) → Nat
  | [] => 0
  | x :: r => uptoBulkEntry x + uptoBulkEntries r
def uptoBulkEntry {H : Type} : Lit × DataW H → Nat
  | (.string bytes, d) => bytes.length + uptoBulk d + 1
  | (_, d) => uptoBulk d + 1
 end
def uptoSmall : (H : Type) → List (DataW H) → Bool := fun _ ds => decide (uptoBulkAll ds ≤ 1048576)
def OpenSpec.upto (s : _root_.Go.ChangeSpec) : _root_.Go.OpenSpec := { _root_.Go.OpenSpec.ofChange s with cond := some uptoSmall }

/-- 'laws.FnExactKeyOk', WHERE WHAT IT READS IS OF BULK AT MOST 1048576: true; the input reads as it did. -/
def fnExactKeyOkUptoRow : OpenClaim := { program := "ytefneohkkfjcpab", sum := "ac7ca9e21bf268cf695e329edd20b4b74e9b83ce5571cd138401fcc9de294f7b", func := "loop.example/workchain/laws.FnExactKeyOk", spec := "fnExactKeyOk", apart := false, narrowed := true }
def FnExactKeyOkUptoSaid : Prop := fnExactKeyOkUptoRow.holds Try.pinned (OpenSpec.upto fnExactKeyOkSpec)

/-- 'laws.FnGroupOk', WHERE WHAT IT READS IS OF BULK AT MOST 1048576: true; the input reads as it did. -/
def fnGroupOkUptoRow : OpenClaim := { program := "ytefneohkkfjcpab", sum := "ac7ca9e21bf268cf695e329edd20b4b74e9b83ce5571cd138401fcc9de294f7b", func := "loop.example/workchain/laws.FnGroupOk", spec := "fnGroupOk", apart := false, narrowed := true }
def FnGroupOkUptoSaid : Prop := fnGroupOkUptoRow.holds Try.pinned (OpenSpec.upto fnGroupOkSpec)

/-- 'laws.FnGroupMul', WHERE WHAT IT READS IS OF BULK AT MOST 1048576: true; the input reads as it did. -/
def fnGroupMulUptoRow : OpenClaim := { program := "ytefneohkkfjcpab", sum := "ac7ca9e21bf268cf695e329edd20b4b74e9b83ce5571cd138401fcc9de294f7b", func := "loop.example/workchain/laws.FnGroupMul", spec := "fnGroupMul", apart := false, narrowed := true }
def FnGroupMulUptoSaid : Prop := fnGroupMulUptoRow.holds Try.pinned (OpenSpec.upto fnGroupMulSpec)

/-- 'laws.FnGroupPow', WHERE WHAT IT READS IS OF BULK AT MOST 1048576: true; the input reads as it did. -/
def fnGroupPowUptoRow : OpenClaim := { program := "ytefneohkkfjcpab", sum := "ac7ca9e21bf268cf695e329edd20b4b74e9b83ce5571cd138401fcc9de294f7b", func := "loop.example/workchain/laws.FnGroupPow", spec := "fnGroupPow", apart := false, narrowed := true }
def FnGroupPowUptoSaid : Prop := fnGroupPowUptoRow.holds Try.pinned (OpenSpec.upto fnGroupPowSpec)

/-- 'laws.FnGroupInv', WHERE WHAT IT READS IS OF BULK AT MOST 1048576: true; the input reads as it did. -/
def fnGroupInvUptoRow : OpenClaim := { program := "ytefneohkkfjcpab", sum := "ac7ca9e21bf268cf695e329edd20b4b74e9b83ce5571cd138401fcc9de294f7b", func := "loop.example/workchain/laws.FnGroupInv", spec := "fnGroupInv", apart := false, narrowed := true }
def FnGroupInvUptoSaid : Prop := fnGroupInvUptoRow.holds Try.pinned (OpenSpec.upto fnGroupInvSpec)

/-- 'laws.FnScalarInv', WHERE WHAT IT READS IS OF BULK AT MOST 1048576: true; the input reads as it did. -/
def fnScalarInvUptoRow : OpenClaim := { program := "ytefneohkkfjcpab", sum := "ac7ca9e21bf268cf695e329edd20b4b74e9b83ce5571cd138401fcc9de294f7b", func := "loop.example/workchain/laws.FnScalarInv", spec := "fnScalarInv", apart := false, narrowed := true }
def FnScalarInvUptoSaid : Prop := fnScalarInvUptoRow.holds Try.pinned (OpenSpec.upto fnScalarInvSpec)

end Rows
end Go.Proofs.Ytefneohkkfjcpab
