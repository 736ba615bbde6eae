/-
  No cell of these rows narrows 'for every input' (looked for: loops, veiled, ifaces, maps, wideKeys, modest, calm, conditions, laid).
  DERIVED. THE GIVEN ROWS OF THIS SEAT. 8 by the template 'for every input the law returns true; each argument reads behind the call as it read before'; 0 by the template 'total and deterministic' (their statements: YtacgicpkhbjdaaaTotals.lean).
  GIVEN WITH THE SEED: the statements are not yours to turn. If you find one false, say at which input.
  Laid BY PROGRAM, IN A SANDBOX (cutbox-rows.mjs): the forced cells as the released guide's own fill.sh prints them over the translation aa4c4c97ac92e0ef… (all of the seat's roots in one cut). By AI agents, Wed Nov 11 2026. No macro, syntax, notation, axiom, sorry.
-/
import Derived.Test.YtacgicpkhbjdaaaChecked
import GoSem.Claim
import GoSem.ClaimJoined
import GoSem.ClaimMapViews
import Derived.JoinedTies
import Derived.KernelRfl
namespace Go.Proofs.Ytacgicpkhbjdaaa
/- THE CELL 'sum', in the pinned program and in every row, IS THE sha256 OF THE DUMP (.gsa) THAT YtacgicpkhbjdaaaProg.lean LOADS. Nothing in Lean hashes anything: it is a label: what it is worth is what the hold of that sum in a sandbox is worth. -/
noncomputable def Try.pinned : Pinned := { name := "ytacgicpkhbjdaaa", sum := "aa4c4c97ac92e0efbcb063eb586f503f56f5d276f62ead4032d77c86783c6288", checked := Try.checked }
namespace Rows
def none {H : Type} : Left H := { results := [], args := [] }

/-- 'laws.FnAddressOf': WHATEVER THE INPUT: true; the input reads as it did. -/
def fnAddressOfSpec : ChangeSpec := { name := "fnAddressOf", fn := fun _ => fun
  | [d] => { results := [.lit (.bool true)], args := [d] }
  | _ => none }
def fnAddressOfRow : OpenClaim := { program := "ytacgicpkhbjdaaa", sum := "aa4c4c97ac92e0efbcb063eb586f503f56f5d276f62ead4032d77c86783c6288", func := "loop.example/workchain/laws.FnAddressOf", spec := "fnAddressOf", inPlace := ["internal/abi.NoEscape"], apart := false }
def FnAddressOfSaid : Prop := fnAddressOfRow.holds Try.pinned (OpenSpec.ofChange fnAddressOfSpec)

/-- ITS FALSE NEIGHBOUR: 'it returns false'. Refute it at one input. -/
def fnAddressOfWrong : ChangeSpec := { name := "fnAddressOf", fn := fun _ => fun
  | [d] => { results := [.lit (.bool false)], args := [d] }
  | _ => none }
def FnAddressOfWrongFalsely : Prop := fnAddressOfRow.holds Try.pinned (OpenSpec.ofChange fnAddressOfWrong)

/-- 'laws.FnAddressRead': WHATEVER THE INPUT: true; the input reads as it did. -/
def fnAddressReadSpec : ChangeSpec := { name := "fnAddressRead", fn := fun _ => fun
  | [d] => { results := [.lit (.bool true)], args := [d] }
  | _ => none }
def fnAddressReadRow : OpenClaim := { program := "ytacgicpkhbjdaaa", sum := "aa4c4c97ac92e0efbcb063eb586f503f56f5d276f62ead4032d77c86783c6288", func := "loop.example/workchain/laws.FnAddressRead", spec := "fnAddressRead", inPlace := ["internal/abi.NoEscape"], apart := false }
def FnAddressReadSaid : Prop := fnAddressReadRow.holds Try.pinned (OpenSpec.ofChange fnAddressReadSpec)

/-- ITS FALSE NEIGHBOUR: 'it returns false'. Refute it at one input. -/
def fnAddressReadWrong : ChangeSpec := { name := "fnAddressRead", fn := fun _ => fun
  | [d] => { results := [.lit (.bool false)], args := [d] }
  | _ => none }
def FnAddressReadWrongFalsely : Prop := fnAddressReadRow.holds Try.pinned (OpenSpec.ofChange fnAddressReadWrong)

/-- 'laws.FnAddressMend': WHATEVER THE INPUT: true; the input reads as it did. -/
def fnAddressMendSpec : ChangeSpec := { name := "fnAddressMend", fn := fun _ => fun
  | [d] => { results := [.lit (.bool true)], args := [d] }
  | _ => none }
def fnAddressMendRow : OpenClaim := { program := "ytacgicpkhbjdaaa", sum := "aa4c4c97ac92e0efbcb063eb586f503f56f5d276f62ead4032d77c86783c6288", func := "loop.example/workchain/laws.FnAddressMend", spec := "fnAddressMend", inPlace := ["internal/abi.NoEscape"], apart := false }
def FnAddressMendSaid : Prop := fnAddressMendRow.holds Try.pinned (OpenSpec.ofChange fnAddressMendSpec)

/-- ITS FALSE NEIGHBOUR: 'it returns false'. Refute it at one input. -/
def fnAddressMendWrong : ChangeSpec := { name := "fnAddressMend", fn := fun _ => fun
  | [d] => { results := [.lit (.bool false)], args := [d] }
  | _ => none }
def FnAddressMendWrongFalsely : Prop := fnAddressMendRow.holds Try.pinned (OpenSpec.ofChange fnAddressMendWrong)

/-- 'laws.FnAddressSwap': WHATEVER THE INPUT: true; the input reads as it did. -/
def fnAddressSwapSpec : ChangeSpec := { name := "fnAddressSwap", fn := fun _ => fun
  | [d1, d2] => { results := [.lit (.bool true)], args := [d1, d2] }
  | _ => none }
def fnAddressSwapRow : OpenClaim := { program := "ytacgicpkhbjdaaa", sum := "aa4c4c97ac92e0efbcb063eb586f503f56f5d276f62ead4032d77c86783c6288", func := "loop.example/workchain/laws.FnAddressSwap", spec := "fnAddressSwap", inPlace := ["internal/abi.NoEscape"], apart := false }
def FnAddressSwapSaid : Prop := fnAddressSwapRow.holds Try.pinned (OpenSpec.ofChange fnAddressSwapSpec)

/-- ITS FALSE NEIGHBOUR: 'it returns false'. Refute it at one input. -/
def fnAddressSwapWrong : ChangeSpec := { name := "fnAddressSwap", fn := fun _ => fun
  | [d1, d2] => { results := [.lit (.bool false)], args := [d1, d2] }
  | _ => none }
def FnAddressSwapWrongFalsely : Prop := fnAddressSwapRow.holds Try.pinned (OpenSpec.ofChange fnAddressSwapWrong)

/-- 'laws.FnAddressOne': WHATEVER THE INPUT: true; the input reads as it did. -/
def fnAddressOneSpec : ChangeSpec := { name := "fnAddressOne", fn := fun _ => fun
  | [d1, d2] => { results := [.lit (.bool true)], args := [d1, d2] }
  | _ => none }
def fnAddressOneRow : OpenClaim := { program := "ytacgicpkhbjdaaa", sum := "aa4c4c97ac92e0efbcb063eb586f503f56f5d276f62ead4032d77c86783c6288", func := "loop.example/workchain/laws.FnAddressOne", spec := "fnAddressOne", inPlace := ["internal/abi.NoEscape"], apart := false }
def FnAddressOneSaid : Prop := fnAddressOneRow.holds Try.pinned (OpenSpec.ofChange fnAddressOneSpec)

/-- ITS FALSE NEIGHBOUR: 'it returns false'. Refute it at one input. -/
def fnAddressOneWrong : ChangeSpec := { name := "fnAddressOne", fn := fun _ => fun
  | [d1, d2] => { results := [.lit (.bool false)], args := [d1, d2] }
  | _ => none }
def FnAddressOneWrongFalsely : Prop := fnAddressOneRow.holds Try.pinned (OpenSpec.ofChange fnAddressOneWrong)

/-- 'laws.FnExactAddressOf': WHATEVER THE INPUT: true; the input reads as it did. -/
def fnExactAddressOfSpec : ChangeSpec := { name := "fnExactAddressOf", fn := fun _ => fun
  | [d1, d2] => { results := [.lit (.bool true)], args := [d1, d2] }
  | _ => none }
def fnExactAddressOfRow : OpenClaim := { program := "ytacgicpkhbjdaaa", sum := "aa4c4c97ac92e0efbcb063eb586f503f56f5d276f62ead4032d77c86783c6288", func := "loop.example/workchain/laws.FnExactAddressOf", spec := "fnExactAddressOf", inPlace := ["internal/abi.NoEscape"], apart := false }
def FnExactAddressOfSaid : Prop := fnExactAddressOfRow.holds Try.pinned (OpenSpec.ofChange fnExactAddressOfSpec)

/-- ITS FALSE NEIGHBOUR: 'it returns false'. Refute it at one input. -/
def fnExactAddressOfWrong : ChangeSpec := { name := "fnExactAddressOf", fn := fun _ => fun
  | [d1, d2] => { results := [.lit (.bool false)], args := [d1, d2] }
  | _ => none }
def FnExactAddressOfWrongFalsely : Prop := fnExactAddressOfRow.holds Try.pinned (OpenSpec.ofChange fnExactAddressOfWrong)

/-- 'laws.FnExactAddressRead': WHATEVER THE INPUT: true; the input reads as it did. -/
def fnExactAddressReadSpec : ChangeSpec := { name := "fnExactAddressRead", fn := fun _ => fun
  | [d] => { results := [.lit (.bool true)], args := [d] }
  | _ => none }
def fnExactAddressReadRow : OpenClaim := { program := "ytacgicpkhbjdaaa", sum := "aa4c4c97ac92e0efbcb063eb586f503f56f5d276f62ead4032d77c86783c6288", func := "loop.example/workchain/laws.FnExactAddressRead", spec := "fnExactAddressRead", apart := false }
def FnExactAddressReadSaid : Prop := fnExactAddressReadRow.holds Try.pinned (OpenSpec.ofChange fnExactAddressReadSpec)

/-- ITS FALSE NEIGHBOUR: 'it returns false'. Refute it at one input. -/
def fnExactAddressReadWrong : ChangeSpec := { name := "fnExactAddressRead", fn := fun _ => fun
  | [d] => { results := [.lit (.bool false)], args := [d] }
  | _ => none }
def FnExactAddressReadWrongFalsely : Prop := fnExactAddressReadRow.holds Try.pinned (OpenSpec.ofChange fnExactAddressReadWrong)

/-- 'laws.FnExactAddressMend': WHATEVER THE INPUT: true; the input reads as it did. -/
def fnExactAddressMendSpec : ChangeSpec := { name := "fnExactAddressMend", fn := fun _ => fun
  | [d] => { results := [.lit (.bool true)], args := [d] }
  | _ => none }
def fnExactAddressMendRow : OpenClaim := { program := "ytacgicpkhbjdaaa", sum := "aa4c4c97ac92e0efbcb063eb586f503f56f5d276f62ead4032d77c86783c6288", func := "loop.example/workchain/laws.FnExactAddressMend", spec := "fnExactAddressMend", inPlace := ["internal/abi.NoEscape"], apart := false }
def FnExactAddressMendSaid : Prop := fnExactAddressMendRow.holds Try.pinned (OpenSpec.ofChange fnExactAddressMendSpec)

/-- ITS FALSE NEIGHBOUR: 'it returns false'. Refute it at one input. -/
def fnExactAddressMendWrong : ChangeSpec := { name := "fnExactAddressMend", fn := fun _ => fun
  | [d] => { results := [.lit (.bool false)], args := [d] }
  | _ => none }
def FnExactAddressMendWrongFalsely : Prop := fnExactAddressMendRow.holds Try.pinned (OpenSpec.ofChange fnExactAddressMendWrong)

/- THE SECOND FORM. 'bulk': how many values and letters a reading holds, each counted each time it is reached (what is shared counts as often as it is met; a slice's spare places count too). A statement '..UptoSaid' is the law's where the arguments, and the package variables that the reading takes, are together of bulk at most 1048576: NARROWER than '..Said'. Prove '..Said' where nothing that the law and all that it calls make is longer than what came in: it says more and counts as full. Else prove '..UptoSaid'. A law counts once. -/
mutual
def uptoBulk {H : Type} : DataW H → Nat
  | .lit (.string bytes) => bytes.length + 1
  | .lit _ => 1
  | .nil => 1
  | .ptr d => uptoBulk d + 1
  | .slice elems spare => uptoBulkAll elems + uptoBulkAll spare + 1
  | .agg parts => uptoBulkAll parts + 1
  | .iface _ d => uptoBulk d + 1
  | .map entries => uptoBulkEntries entries + 1
  | .held _ => 1
def uptoBulkAll {H : Type} : List (DataW H) → Nat
  | [] => 0
  | d :: r => uptoBulk d + uptoBulkAll r
def uptoBulkEntries {H : Type} : List (Lit × DataW H) → Nat
  | [] => 0
  | x :: r => uptoBulkEntry x + uptoBulkEntries r
def uptoBulkEntry {H : Type} : Lit × DataW H → Nat
  | (.string bytes, d) => bytes.length + uptoBulk d + 1
  | (_, d) => uptoBulk d + 1
 end
def uptoSmall : (H : Type) → List (DataW H) → Bool := fun _ ds => decide (uptoBulkAll ds ≤ 1048576)
def OpenSpec.upto (s : _root_.Go.ChangeSpec) : _root_.Go.OpenSpec := { _root_.Go.OpenSpec.ofChange s with cond := some uptoSmall }

/-- 'laws.FnAddressOf', WHERE WHAT IT READS IS OF BULK AT MOST 1048576: true; the input reads as it did. -/
def fnAddressOfUptoRow : OpenClaim := { program := "ytacgicpkhbjdaaa", sum := "aa4c4c97ac92e0efbcb063eb586f503f56f5d276f62ead4032d77c86783c6288", func := "loop.example/workchain/laws.FnAddressOf", spec := "fnAddressOf", inPlace := ["internal/abi.NoEscape"], apart := false, narrowed := true }
def FnAddressOfUptoSaid : Prop := fnAddressOfUptoRow.holds Try.pinned (OpenSpec.upto fnAddressOfSpec)

/-- 'laws.FnAddressRead', WHERE WHAT IT READS IS OF BULK AT MOST 1048576: true; the input reads as it did. -/
def fnAddressReadUptoRow : OpenClaim := { program := "ytacgicpkhbjdaaa", sum := "aa4c4c97ac92e0efbcb063eb586f503f56f5d276f62ead4032d77c86783c6288", func := "loop.example/workchain/laws.FnAddressRead", spec := "fnAddressRead", inPlace := ["internal/abi.NoEscape"], apart := false, narrowed := true }
def FnAddressReadUptoSaid : Prop := fnAddressReadUptoRow.holds Try.pinned (OpenSpec.upto fnAddressReadSpec)

/-- 'laws.FnAddressMend', WHERE WHAT IT READS IS OF BULK AT MOST 1048576: true; the input reads as it did. -/
def fnAddressMendUptoRow : OpenClaim := { program := "ytacgicpkhbjdaaa", sum := "aa4c4c97ac92e0efbcb063eb586f503f56f5d276f62ead4032d77c86783c6288", func := "loop.example/workchain/laws.FnAddressMend", spec := "fnAddressMend", inPlace := ["internal/abi.NoEscape"], apart := false, narrowed := true }
def FnAddressMendUptoSaid : Prop := fnAddressMendUptoRow.holds Try.pinned (OpenSpec.upto fnAddressMendSpec)

/-- 'laws.FnAddressSwap', WHERE WHAT IT READS IS OF BULK AT MOST 1048576: true; the input reads as it did. -/
def fnAddressSwapUptoRow : OpenClaim := { program := "ytacgicpkhbjdaaa", sum := "aa4c4c97ac92e0efbcb063eb586f503f56f5d276f62ead4032d77c86783c6288", func := "loop.example/workchain/laws.FnAddressSwap", spec := "fnAddressSwap", inPlace := ["internal/abi.NoEscape"], apart := false, narrowed := true }
def FnAddressSwapUptoSaid : Prop := fnAddressSwapUptoRow.holds Try.pinned (OpenSpec.upto fnAddressSwapSpec)

/-- 'laws.FnAddressOne', WHERE WHAT IT READS IS OF BULK AT MOST 1048576: true; the input reads as it did. -/
def fnAddressOneUptoRow : OpenClaim := { program := "ytacgicpkhbjdaaa", sum := "aa4c4c97ac92e0efbcb063eb586f503f56f5d276f62ead4032d77c86783c6288", func := "loop.example/workchain/laws.FnAddressOne", spec := "fnAddressOne", inPlace := ["internal/abi.NoEscape"], apart := false, narrowed := true }
def FnAddressOneUptoSaid : Prop := fnAddressOneUptoRow.holds Try.pinned (OpenSpec.upto fnAddressOneSpec)

/-- 'laws.FnExactAddressOf', WHERE WHAT IT READS IS OF BULK AT MOST 1048576: true; the input reads as it did. -/
def fnExactAddressOfUptoRow : OpenClaim := { program := "ytacgicpkhbjdaaa", sum := "aa4c4c97ac92e0efbcb063eb586f503f56f5d276f62ead4032d77c86783c6288", func := "loop.example/workchain/laws.FnExactAddressOf", spec := "fnExactAddressOf", inPlace := ["internal/abi.NoEscape"], apart := false, narrowed := true }
def FnExactAddressOfUptoSaid : Prop := fnExactAddressOfUptoRow.holds Try.pinned (OpenSpec.upto fnExactAddressOfSpec)

/-- 'laws.FnExactAddressRead', WHERE WHAT IT READS IS OF BULK AT MOST 1048576: true; the input reads as it did. -/
def fnExactAddressReadUptoRow : OpenClaim := { program := "ytacgicpkhbjdaaa", sum := "aa4c4c97ac92e0efbcb063eb586f503f56f5d276f62ead4032d77c86783c6288", func := "loop.example/workchain/laws.FnExactAddressRead", spec := "fnExactAddressRead", apart := false, narrowed := true }
def FnExactAddressReadUptoSaid : Prop := fnExactAddressReadUptoRow.holds Try.pinned (OpenSpec.upto fnExactAddressReadSpec)

/-- 'laws.FnExactAddressMend', WHERE WHAT IT READS IS OF BULK AT MOST 1048576: true; the input reads as it did. -/
def fnExactAddressMendUptoRow : OpenClaim := { program := "ytacgicpkhbjdaaa", sum := "aa4c4c97ac92e0efbcb063eb586f503f56f5d276f62ead4032d77c86783c6288", func := "loop.example/workchain/laws.FnExactAddressMend", spec := "fnExactAddressMend", inPlace := ["internal/abi.NoEscape"], apart := false, narrowed := true }
def FnExactAddressMendUptoSaid : Prop := fnExactAddressMendUptoRow.holds Try.pinned (OpenSpec.upto fnExactAddressMendSpec)

end Rows
end Go.Proofs.Ytacgicpkhbjdaaa
