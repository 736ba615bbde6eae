/-
  No cell of these rows narrows 'for every input' (looked for: loops, veiled, ifaces, maps, wideKeys, modest, calm, conditions, laid).
  DERIVED. THE GIVEN ROWS OF THIS SEAT. 5 by the template 'for every input the law returns true; each argument reads behind the call as it read before'; 0 by the template 'total and deterministic' (their statements: YtpldoffjclmacaaTotals.lean).
  GIVEN WITH THE SEED: the statements are not yours to turn. If you find one false, say at which input.
  Laid BY PROGRAM, IN A SANDBOX (cutbox-rows.mjs): the forced cells as the released guide's own fill.sh prints them over the translation c8d6de44c28b8b93… (all of the seat's roots in one cut). By AI agents, Wed Nov 11 2026. No macro, syntax, notation, axiom, sorry.
-/
import Derived.Test.YtpldoffjclmacaaChecked
import GoSem.Claim
import GoSem.ClaimJoined
import GoSem.ClaimMapViews
import Derived.JoinedTies
import Derived.KernelRfl
namespace Go.Proofs.Ytpldoffjclmacaa
/- THE CELL 'sum', in the pinned program and in every row, IS THE sha256 OF THE DUMP (.gsa) THAT YtpldoffjclmacaaProg.lean LOADS. Nothing in Lean hashes anything: it is a label: what it is worth is what the hold of that sum in a sandbox is worth. -/
noncomputable def Try.pinned : Pinned := { name := "ytpldoffjclmacaa", sum := "c8d6de44c28b8b936a8c7a392d8d67b9dc9d5b1473b6a8be3d548bdade88efa3", checked := Try.checked }
namespace Rows
def none {H : Type} : Left H := { results := [], args := [] }

/-- 'laws.FnScriptBytes': WHATEVER THE INPUT: true; the input reads as it did. -/
def fnScriptBytesSpec : ChangeSpec := { name := "fnScriptBytes", fn := fun _ => fun
  | [d] => { results := [.lit (.bool true)], args := [d] }
  | _ => none }
def fnScriptBytesRow : OpenClaim := { program := "ytpldoffjclmacaa", sum := "c8d6de44c28b8b936a8c7a392d8d67b9dc9d5b1473b6a8be3d548bdade88efa3", func := "loop.example/workchain/laws.FnScriptBytes", spec := "fnScriptBytes", inPlace := ["internal/abi.NoEscape"], unfollowed := true, recurses := true, apart := false }
def FnScriptBytesSaid : Prop := fnScriptBytesRow.holds Try.pinned (OpenSpec.ofChange fnScriptBytesSpec)

/-- ITS FALSE NEIGHBOUR: 'it returns false'. Refute it at one input. -/
def fnScriptBytesWrong : ChangeSpec := { name := "fnScriptBytes", fn := fun _ => fun
  | [d] => { results := [.lit (.bool false)], args := [d] }
  | _ => none }
def FnScriptBytesWrongFalsely : Prop := fnScriptBytesRow.holds Try.pinned (OpenSpec.ofChange fnScriptBytesWrong)

/-- 'laws.FnScriptRead': WHATEVER THE INPUT: true; the input reads as it did. -/
def fnScriptReadSpec : ChangeSpec := { name := "fnScriptRead", fn := fun _ => fun
  | [d] => { results := [.lit (.bool true)], args := [d] }
  | _ => none }
def fnScriptReadRow : OpenClaim := { program := "ytpldoffjclmacaa", sum := "c8d6de44c28b8b936a8c7a392d8d67b9dc9d5b1473b6a8be3d548bdade88efa3", func := "loop.example/workchain/laws.FnScriptRead", spec := "fnScriptRead", inPlace := ["internal/abi.NoEscape"], unfollowed := true, recurses := true, apart := false }
def FnScriptReadSaid : Prop := fnScriptReadRow.holds Try.pinned (OpenSpec.ofChange fnScriptReadSpec)

/-- ITS FALSE NEIGHBOUR: 'it returns false'. Refute it at one input. -/
def fnScriptReadWrong : ChangeSpec := { name := "fnScriptRead", fn := fun _ => fun
  | [d] => { results := [.lit (.bool false)], args := [d] }
  | _ => none }
def FnScriptReadWrongFalsely : Prop := fnScriptReadRow.holds Try.pinned (OpenSpec.ofChange fnScriptReadWrong)

/-- 'laws.FnExactScriptOk': WHATEVER THE INPUT: true; the input reads as it did. -/
def fnExactScriptOkSpec : ChangeSpec := { name := "fnExactScriptOk", fn := fun _ => fun
  | [d] => { results := [.lit (.bool true)], args := [d] }
  | _ => none }
def fnExactScriptOkRow : OpenClaim := { program := "ytpldoffjclmacaa", sum := "c8d6de44c28b8b936a8c7a392d8d67b9dc9d5b1473b6a8be3d548bdade88efa3", func := "loop.example/workchain/laws.FnExactScriptOk", spec := "fnExactScriptOk", apart := false }
def FnExactScriptOkSaid : Prop := fnExactScriptOkRow.holds Try.pinned (OpenSpec.ofChange fnExactScriptOkSpec)

/-- ITS FALSE NEIGHBOUR: 'it returns false'. Refute it at one input. -/
def fnExactScriptOkWrong : ChangeSpec := { name := "fnExactScriptOk", fn := fun _ => fun
  | [d] => { results := [.lit (.bool false)], args := [d] }
  | _ => none }
def FnExactScriptOkWrongFalsely : Prop := fnExactScriptOkRow.holds Try.pinned (OpenSpec.ofChange fnExactScriptOkWrong)

/-- 'laws.FnExactScriptBytes': WHATEVER THE INPUT: true; the input reads as it did. -/
def fnExactScriptBytesSpec : ChangeSpec := { name := "fnExactScriptBytes", fn := fun _ => fun
  | [d] => { results := [.lit (.bool true)], args := [d] }
  | _ => none }
def fnExactScriptBytesRow : OpenClaim := { program := "ytpldoffjclmacaa", sum := "c8d6de44c28b8b936a8c7a392d8d67b9dc9d5b1473b6a8be3d548bdade88efa3", func := "loop.example/workchain/laws.FnExactScriptBytes", spec := "fnExactScriptBytes", inPlace := ["internal/abi.NoEscape"], apart := false }
def FnExactScriptBytesSaid : Prop := fnExactScriptBytesRow.holds Try.pinned (OpenSpec.ofChange fnExactScriptBytesSpec)

/-- ITS FALSE NEIGHBOUR: 'it returns false'. Refute it at one input. -/
def fnExactScriptBytesWrong : ChangeSpec := { name := "fnExactScriptBytes", fn := fun _ => fun
  | [d] => { results := [.lit (.bool false)], args := [d] }
  | _ => none }
def FnExactScriptBytesWrongFalsely : Prop := fnExactScriptBytesRow.holds Try.pinned (OpenSpec.ofChange fnExactScriptBytesWrong)

/-- 'laws.FnExactScriptRead': WHATEVER THE INPUT: true; the input reads as it did. -/
def fnExactScriptReadSpec : ChangeSpec := { name := "fnExactScriptRead", fn := fun _ => fun
  | [d] => { results := [.lit (.bool true)], args := [d] }
  | _ => none }
def fnExactScriptReadRow : OpenClaim := { program := "ytpldoffjclmacaa", sum := "c8d6de44c28b8b936a8c7a392d8d67b9dc9d5b1473b6a8be3d548bdade88efa3", func := "loop.example/workchain/laws.FnExactScriptRead", spec := "fnExactScriptRead", unfollowed := true, recurses := true, apart := false }
def FnExactScriptReadSaid : Prop := fnExactScriptReadRow.holds Try.pinned (OpenSpec.ofChange fnExactScriptReadSpec)

/-- ITS FALSE NEIGHBOUR: 'it returns false'. Refute it at one input. -/
def fnExactScriptReadWrong : ChangeSpec := { name := "fnExactScriptRead", fn := fun _ => fun
  | [d] => { results := [.lit (.bool false)], args := [d] }
  | _ => none }
def FnExactScriptReadWrongFalsely : Prop := fnExactScriptReadRow.holds Try.pinned (OpenSpec.ofChange fnExactScriptReadWrong)

/- THE SECOND FORM. 'bulk': how many values and letters a reading holds, each counted each time it is reached (what is shared counts as often as it is met; a slice's spare places count too). A statement '..UptoSaid' is the law's where the arguments, and the package variables that the reading takes, are together of bulk at most 1048576: NARROWER than '..Said'. Prove '..Said' where nothing that the law and all that it calls make is longer than what came in: it says more and counts as full. Else prove '..UptoSaid'. A law counts once. -/
mutual
def uptoBulk {H : Type} : DataW H → Nat
  | .lit (.string bytes) => bytes.length + 1
  | .lit _ => 1
  | .nil => 1
  | .ptr d => uptoBulk d + 1
  | .slice elems spare => uptoBulkAll elems + uptoBulkAll spare + 1
  | .agg parts => uptoBulkAll parts + 1
  | .iface _ d => uptoBulk d + 1
  | .map entries => uptoBulkEntries entries + 1
  | .held _ => 1
def uptoBulkAll {H : Type} : List (DataW H) → Nat
  | [] => 0
  | d :: r => uptoBulk d + uptoBulkAll r
def uptoBulkEntries {H : Type} : List (Lit × DataW H) → Nat
  | [] => 0
  | x :: r => uptoBulkEntry x + uptoBulkEntries r
def uptoBulkEntry {H : Type} : Lit × DataW H → Nat
  | (.string bytes, d) => bytes.length + uptoBulk d + 1
  | (_, d) => uptoBulk d + 1
 end
def uptoSmall : (H : Type) → List (DataW H) → Bool := fun _ ds => decide (uptoBulkAll ds ≤ 1048576)
def OpenSpec.upto (s : _root_.Go.ChangeSpec) : _root_.Go.OpenSpec := { _root_.Go.OpenSpec.ofChange s with cond := some uptoSmall }

/-- 'laws.FnScriptBytes', WHERE WHAT IT READS IS OF BULK AT MOST 1048576: true; the input reads as it did. -/
def fnScriptBytesUptoRow : OpenClaim := { program := "ytpldoffjclmacaa", sum := "c8d6de44c28b8b936a8c7a392d8d67b9dc9d5b1473b6a8be3d548bdade88efa3", func := "loop.example/workchain/laws.FnScriptBytes", spec := "fnScriptBytes", inPlace := ["internal/abi.NoEscape"], unfollowed := true, recurses := true, apart := false, narrowed := true }
def FnScriptBytesUptoSaid : Prop := fnScriptBytesUptoRow.holds Try.pinned (OpenSpec.upto fnScriptBytesSpec)

/-- 'laws.FnScriptRead', WHERE WHAT IT READS IS OF BULK AT MOST 1048576: true; the input reads as it did. -/
def fnScriptReadUptoRow : OpenClaim := { program := "ytpldoffjclmacaa", sum := "c8d6de44c28b8b936a8c7a392d8d67b9dc9d5b1473b6a8be3d548bdade88efa3", func := "loop.example/workchain/laws.FnScriptRead", spec := "fnScriptRead", inPlace := ["internal/abi.NoEscape"], unfollowed := true, recurses := true, apart := false, narrowed := true }
def FnScriptReadUptoSaid : Prop := fnScriptReadUptoRow.holds Try.pinned (OpenSpec.upto fnScriptReadSpec)

/-- 'laws.FnExactScriptOk', WHERE WHAT IT READS IS OF BULK AT MOST 1048576: true; the input reads as it did. -/
def fnExactScriptOkUptoRow : OpenClaim := { program := "ytpldoffjclmacaa", sum := "c8d6de44c28b8b936a8c7a392d8d67b9dc9d5b1473b6a8be3d548bdade88efa3", func := "loop.example/workchain/laws.FnExactScriptOk", spec := "fnExactScriptOk", apart := false, narrowed := true }
def FnExactScriptOkUptoSaid : Prop := fnExactScriptOkUptoRow.holds Try.pinned (OpenSpec.upto fnExactScriptOkSpec)

/-- 'laws.FnExactScriptBytes', WHERE WHAT IT READS IS OF BULK AT MOST 1048576: true; the input reads as it did. -/
def fnExactScriptBytesUptoRow : OpenClaim := { program := "ytpldoffjclmacaa", sum := "c8d6de44c28b8b936a8c7a392d8d67b9dc9d5b1473b6a8be3d548bdade88efa3", func := "loop.example/workchain/laws.FnExactScriptBytes", spec := "fnExactScriptBytes", inPlace := ["internal/abi.NoEscape"], apart := false, narrowed := true }
def FnExactScriptBytesUptoSaid : Prop := fnExactScriptBytesUptoRow.holds Try.pinned (OpenSpec.upto fnExactScriptBytesSpec)

/-- 'laws.FnExactScriptRead', WHERE WHAT IT READS IS OF BULK AT MOST 1048576: true; the input reads as it did. -/
def fnExactScriptReadUptoRow : OpenClaim := { program := "ytpldoffjclmacaa", sum := "c8d6de44c28b8b936a8c7a392d8d67b9dc9d5b1473b6a8be3d548bdade88efa3", func := "loop.example/workchain/laws.FnExactScriptRead", spec := "fnExactScriptRead", unfollowed := true, recurses := true, apart := false, narrowed := true }
def FnExactScriptReadUptoSaid : Prop := fnExactScriptReadUptoRow.holds Try.pinned (OpenSpec.upto fnExactScriptReadSpec)

end Rows
end Go.Proofs.Ytpldoffjclmacaa
