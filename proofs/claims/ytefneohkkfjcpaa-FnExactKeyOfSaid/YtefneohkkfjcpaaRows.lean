/-
  No cell of these rows narrows 'for every input' (looked for: loops, veiled, ifaces, maps, wideKeys, modest, calm, conditions, laid).
  DERIVED. THE GIVEN ROWS OF THIS SEAT. 6 by the template 'for every input the law returns true; each argument reads behind the call as it read before'; 0 by the template 'total and deterministic' (their statements: YtefneohkkfjcpaaTotals.lean).
  GIVEN WITH THE SEED: the statements are not yours to turn. If you find one false, say at which input.
  Laid BY PROGRAM, IN A SANDBOX (cutbox-rows.mjs): the forced cells as the released guide's own fill.sh prints them over the translation 8cc0fb0253fbb684… (all of the seat's roots in one cut). By AI agents, Wed Nov 11 2026. No macro, syntax, notation, axiom, sorry.
-/
import Derived.Test.YtefneohkkfjcpaaChecked
import GoSem.Claim
import GoSem.ClaimJoined
import GoSem.ClaimMapViews
import Derived.JoinedTies
import Derived.KernelRfl
namespace Go.Proofs.Ytefneohkkfjcpaa
/- THE CELL 'sum', in the pinned program and in every row, IS THE sha256 OF THE DUMP (.gsa) THAT YtefneohkkfjcpaaProg.lean LOADS. Nothing in Lean hashes anything: it is a label: what it is worth is what the hold of that sum in a sandbox is worth. -/
noncomputable def Try.pinned : Pinned := { name := "ytefneohkkfjcpaa", sum := "8cc0fb0253fbb684c549d58a43aefbe5ef6864996076a599fb81b2506f93f6f4", checked := Try.checked }
namespace Rows
def none {H : Type} : Left H := { results := [], args := [] }

/-- 'laws.FnExactGroupOk': WHATEVER THE INPUT: true; the input reads as it did. -/
def fnExactGroupOkSpec : ChangeSpec := { name := "fnExactGroupOk", fn := fun _ => fun
  | [d] => { results := [.lit (.bool true)], args := [d] }
  | _ => none }
def fnExactGroupOkRow : OpenClaim := { program := "ytefneohkkfjcpaa", sum := "8cc0fb0253fbb684c549d58a43aefbe5ef6864996076a599fb81b2506f93f6f4", func := "loop.example/workchain/laws.FnExactGroupOk", spec := "fnExactGroupOk", apart := false }
def FnExactGroupOkSaid : Prop := fnExactGroupOkRow.holds Try.pinned (OpenSpec.ofChange fnExactGroupOkSpec)

/-- ITS FALSE NEIGHBOUR: 'it returns false'. Refute it at one input. -/
def fnExactGroupOkWrong : ChangeSpec := { name := "fnExactGroupOk", fn := fun _ => fun
  | [d] => { results := [.lit (.bool false)], args := [d] }
  | _ => none }
def FnExactGroupOkWrongFalsely : Prop := fnExactGroupOkRow.holds Try.pinned (OpenSpec.ofChange fnExactGroupOkWrong)

/-- 'laws.FnExactGroupMul': WHATEVER THE INPUT: true; the input reads as it did. -/
def fnExactGroupMulSpec : ChangeSpec := { name := "fnExactGroupMul", fn := fun _ => fun
  | [d1, d2] => { results := [.lit (.bool true)], args := [d1, d2] }
  | _ => none }
def fnExactGroupMulRow : OpenClaim := { program := "ytefneohkkfjcpaa", sum := "8cc0fb0253fbb684c549d58a43aefbe5ef6864996076a599fb81b2506f93f6f4", func := "loop.example/workchain/laws.FnExactGroupMul", spec := "fnExactGroupMul", apart := false }
def FnExactGroupMulSaid : Prop := fnExactGroupMulRow.holds Try.pinned (OpenSpec.ofChange fnExactGroupMulSpec)

/-- ITS FALSE NEIGHBOUR: 'it returns false'. Refute it at one input. -/
def fnExactGroupMulWrong : ChangeSpec := { name := "fnExactGroupMul", fn := fun _ => fun
  | [d1, d2] => { results := [.lit (.bool false)], args := [d1, d2] }
  | _ => none }
def FnExactGroupMulWrongFalsely : Prop := fnExactGroupMulRow.holds Try.pinned (OpenSpec.ofChange fnExactGroupMulWrong)

/-- 'laws.FnExactGroupPow': WHATEVER THE INPUT: true; the input reads as it did. -/
def fnExactGroupPowSpec : ChangeSpec := { name := "fnExactGroupPow", fn := fun _ => fun
  | [d1, d2] => { results := [.lit (.bool true)], args := [d1, d2] }
  | _ => none }
def fnExactGroupPowRow : OpenClaim := { program := "ytefneohkkfjcpaa", sum := "8cc0fb0253fbb684c549d58a43aefbe5ef6864996076a599fb81b2506f93f6f4", func := "loop.example/workchain/laws.FnExactGroupPow", spec := "fnExactGroupPow", apart := false }
def FnExactGroupPowSaid : Prop := fnExactGroupPowRow.holds Try.pinned (OpenSpec.ofChange fnExactGroupPowSpec)

/-- ITS FALSE NEIGHBOUR: 'it returns false'. Refute it at one input. -/
def fnExactGroupPowWrong : ChangeSpec := { name := "fnExactGroupPow", fn := fun _ => fun
  | [d1, d2] => { results := [.lit (.bool false)], args := [d1, d2] }
  | _ => none }
def FnExactGroupPowWrongFalsely : Prop := fnExactGroupPowRow.holds Try.pinned (OpenSpec.ofChange fnExactGroupPowWrong)

/-- 'laws.FnExactGroupInv': WHATEVER THE INPUT: true; the input reads as it did. -/
def fnExactGroupInvSpec : ChangeSpec := { name := "fnExactGroupInv", fn := fun _ => fun
  | [d] => { results := [.lit (.bool true)], args := [d] }
  | _ => none }
def fnExactGroupInvRow : OpenClaim := { program := "ytefneohkkfjcpaa", sum := "8cc0fb0253fbb684c549d58a43aefbe5ef6864996076a599fb81b2506f93f6f4", func := "loop.example/workchain/laws.FnExactGroupInv", spec := "fnExactGroupInv", apart := false }
def FnExactGroupInvSaid : Prop := fnExactGroupInvRow.holds Try.pinned (OpenSpec.ofChange fnExactGroupInvSpec)

/-- ITS FALSE NEIGHBOUR: 'it returns false'. Refute it at one input. -/
def fnExactGroupInvWrong : ChangeSpec := { name := "fnExactGroupInv", fn := fun _ => fun
  | [d] => { results := [.lit (.bool false)], args := [d] }
  | _ => none }
def FnExactGroupInvWrongFalsely : Prop := fnExactGroupInvRow.holds Try.pinned (OpenSpec.ofChange fnExactGroupInvWrong)

/-- 'laws.FnExactScalarInv': WHATEVER THE INPUT: true; the input reads as it did. -/
def fnExactScalarInvSpec : ChangeSpec := { name := "fnExactScalarInv", fn := fun _ => fun
  | [d] => { results := [.lit (.bool true)], args := [d] }
  | _ => none }
def fnExactScalarInvRow : OpenClaim := { program := "ytefneohkkfjcpaa", sum := "8cc0fb0253fbb684c549d58a43aefbe5ef6864996076a599fb81b2506f93f6f4", func := "loop.example/workchain/laws.FnExactScalarInv", spec := "fnExactScalarInv", apart := false }
def FnExactScalarInvSaid : Prop := fnExactScalarInvRow.holds Try.pinned (OpenSpec.ofChange fnExactScalarInvSpec)

/-- ITS FALSE NEIGHBOUR: 'it returns false'. Refute it at one input. -/
def fnExactScalarInvWrong : ChangeSpec := { name := "fnExactScalarInv", fn := fun _ => fun
  | [d] => { results := [.lit (.bool false)], args := [d] }
  | _ => none }
def FnExactScalarInvWrongFalsely : Prop := fnExactScalarInvRow.holds Try.pinned (OpenSpec.ofChange fnExactScalarInvWrong)

/-- 'laws.FnExactKeyOf': WHATEVER THE INPUT: true; the input reads as it did. -/
def fnExactKeyOfSpec : ChangeSpec := { name := "fnExactKeyOf", fn := fun _ => fun
  | [d] => { results := [.lit (.bool true)], args := [d] }
  | _ => none }
def fnExactKeyOfRow : OpenClaim := { program := "ytefneohkkfjcpaa", sum := "8cc0fb0253fbb684c549d58a43aefbe5ef6864996076a599fb81b2506f93f6f4", func := "loop.example/workchain/laws.FnExactKeyOf", spec := "fnExactKeyOf", apart := false }
def FnExactKeyOfSaid : Prop := fnExactKeyOfRow.holds Try.pinned (OpenSpec.ofChange fnExactKeyOfSpec)

/-- ITS FALSE NEIGHBOUR: 'it returns false'. Refute it at one input. -/
def fnExactKeyOfWrong : ChangeSpec := { name := "fnExactKeyOf", fn := fun _ => fun
  | [d] => { results := [.lit (.bool false)], args := [d] }
  | _ => none }
def FnExactKeyOfWrongFalsely : Prop := fnExactKeyOfRow.holds Try.pinned (OpenSpec.ofChange fnExactKeyOfWrong)

/- THE SECOND FORM. 'bulk': how many values and letters a reading holds, each counted each time it is reached (what is shared counts as often as it is met; a slice's spare places count too). A statement '..UptoSaid' is the law's where the arguments, and the package variables that the reading takes, are together of bulk at most 1048576: NARROWER than '..Said'. Prove '..Said' where nothing that the law and all that it calls make is longer than what came in: it says more and counts as full. Else prove '..UptoSaid'. A law counts once. -/
mutual
def uptoBulk {H : Type} : DataW H → Nat
  | .lit (.string bytes) => bytes.length + 1
  | .lit _ => 1
  | .nil => 1
  | .ptr d => uptoBulk d + 1
  | .slice elems spare => uptoBulkAll elems + uptoBulkAll spare + 1
  | .agg parts => uptoBulkAll parts + 1
  | .iface _ d => uptoBulk d + 1
  | .map entries => uptoBulkEntries entries + 1
  | .held _ => 1
def uptoBulkAll {H : Type} : List (DataW H) → Nat
  | [] => 0
  | d :: r => uptoBulk d + uptoBulkAll r
def uptoBulkEntries {H : Type} : List (Lit × DataW H) → Nat
  | [] => 0
  | x :: r => uptoBulkEntry x + uptoBulkEntries r
def uptoBulkEntry {H : Type} : Lit × DataW H → Nat
  | (.string bytes, d) => bytes.length + uptoBulk d + 1
  | (_, d) => uptoBulk d + 1
 end
def uptoSmall : (H : Type) → List (DataW H) → Bool := fun _ ds => decide (uptoBulkAll ds ≤ 1048576)
def OpenSpec.upto (s : _root_.Go.ChangeSpec) : _root_.Go.OpenSpec := { _root_.Go.OpenSpec.ofChange s with cond := some uptoSmall }

/-- 'laws.FnExactGroupOk', WHERE WHAT IT READS IS OF BULK AT MOST 1048576: true; the input reads as it did. -/
def fnExactGroupOkUptoRow : OpenClaim := { program := "ytefneohkkfjcpaa", sum := "8cc0fb0253fbb684c549d58a43aefbe5ef6864996076a599fb81b2506f93f6f4", func := "loop.example/workchain/laws.FnExactGroupOk", spec := "fnExactGroupOk", apart := false, narrowed := true }
def FnExactGroupOkUptoSaid : Prop := fnExactGroupOkUptoRow.holds Try.pinned (OpenSpec.upto fnExactGroupOkSpec)

/-- 'laws.FnExactGroupMul', WHERE WHAT IT READS IS OF BULK AT MOST 1048576: true; the input reads as it did. -/
def fnExactGroupMulUptoRow : OpenClaim := { program := "ytefneohkkfjcpaa", sum := "8cc0fb0253fbb684c549d58a43aefbe5ef6864996076a599fb81b2506f93f6f4", func := "loop.example/workchain/laws.FnExactGroupMul", spec := "fnExactGroupMul", apart := false, narrowed := true }
def FnExactGroupMulUptoSaid : Prop := fnExactGroupMulUptoRow.holds Try.pinned (OpenSpec.upto fnExactGroupMulSpec)

/-- 'laws.FnExactGroupPow', WHERE WHAT IT READS IS OF BULK AT MOST 1048576: true; the input reads as it did. -/
def fnExactGroupPowUptoRow : OpenClaim := { program := "ytefneohkkfjcpaa", sum := "8cc0fb0253fbb684c549d58a43aefbe5ef6864996076a599fb81b2506f93f6f4", func := "loop.example/workchain/laws.FnExactGroupPow", spec := "fnExactGroupPow", apart := false, narrowed := true }
def FnExactGroupPowUptoSaid : Prop := fnExactGroupPowUptoRow.holds Try.pinned (OpenSpec.upto fnExactGroupPowSpec)

/-- 'laws.FnExactGroupInv', WHERE WHAT IT READS IS OF BULK AT MOST 1048576: true; the input reads as it did. -/
def fnExactGroupInvUptoRow : OpenClaim := { program := "ytefneohkkfjcpaa", sum := "8cc0fb0253fbb684c549d58a43aefbe5ef6864996076a599fb81b2506f93f6f4", func := "loop.example/workchain/laws.FnExactGroupInv", spec := "fnExactGroupInv", apart := false, narrowed := true }
def FnExactGroupInvUptoSaid : Prop := fnExactGroupInvUptoRow.holds Try.pinned (OpenSpec.upto fnExactGroupInvSpec)

/-- 'laws.FnExactScalarInv', WHERE WHAT IT READS IS OF BULK AT MOST 1048576: true; the input reads as it did. -/
def fnExactScalarInvUptoRow : OpenClaim := { program := "ytefneohkkfjcpaa", sum := "8cc0fb0253fbb684c549d58a43aefbe5ef6864996076a599fb81b2506f93f6f4", func := "loop.example/workchain/laws.FnExactScalarInv", spec := "fnExactScalarInv", apart := false, narrowed := true }
def FnExactScalarInvUptoSaid : Prop := fnExactScalarInvUptoRow.holds Try.pinned (OpenSpec.upto fnExactScalarInvSpec)

/-- 'laws.FnExactKeyOf', WHERE WHAT IT READS IS OF BULK AT MOST 1048576: true; the input reads as it did. -/
def fnExactKeyOfUptoRow : OpenClaim := { program := "ytefneohkkfjcpaa", sum := "8cc0fb0253fbb684c549d58a43aefbe5ef6864996076a599fb81b2506f93f6f4", func := "loop.example/workchain/laws.FnExactKeyOf", spec := "fnExactKeyOf", apart := false, narrowed := true }
def FnExactKeyOfUptoSaid : Prop := fnExactKeyOfUptoRow.holds Try.pinned (OpenSpec.upto fnExactKeyOfSpec)

end Rows
end Go.Proofs.Ytefneohkkfjcpaa
