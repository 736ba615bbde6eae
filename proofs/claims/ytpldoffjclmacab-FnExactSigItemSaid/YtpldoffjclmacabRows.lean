/-
  No cell of these rows narrows 'for every input' (looked for: loops, veiled, ifaces, maps, wideKeys, modest, calm, conditions, laid).
  DERIVED. THE GIVEN ROWS OF THIS SEAT. 4 by the template 'for every input the law returns true; each argument reads behind the call as it read before'; 0 by the template 'total and deterministic' (their statements: YtpldoffjclmacabTotals.lean).
  GIVEN WITH THE SEED: the statements are not yours to turn. If you find one false, say at which input.
  Laid BY PROGRAM, IN A SANDBOX (cutbox-rows.mjs): the forced cells as the released guide's own fill.sh prints them over the translation 85682aecd8ba17a4… (all of the seat's roots in one cut). By AI agents, Wed Nov 11 2026. No macro, syntax, notation, axiom, sorry.
-/
import Derived.Test.YtpldoffjclmacabChecked
import GoSem.Claim
import GoSem.ClaimJoined
import GoSem.ClaimMapViews
import Derived.JoinedTies
import Derived.KernelRfl
namespace Go.Proofs.Ytpldoffjclmacab
/- THE CELL 'sum', in the pinned program and in every row, IS THE sha256 OF THE DUMP (.gsa) THAT YtpldoffjclmacabProg.lean LOADS. Nothing in Lean hashes anything: it is a label: what it is worth is what the hold of that sum in a sandbox is worth. -/
noncomputable def Try.pinned : Pinned := { name := "ytpldoffjclmacab", sum := "85682aecd8ba17a43dadfe5fdbdd383338e97c2547c619b7a79e5802904d6f00", checked := Try.checked }
namespace Rows
def none {H : Type} : Left H := { results := [], args := [] }

/-- 'laws.FnSigItem': WHATEVER THE INPUT: true; the input reads as it did. -/
def fnSigItemSpec : ChangeSpec := { name := "fnSigItem", fn := fun _ => fun
  | [d] => { results := [.lit (.bool true)], args := [d] }
  | _ => none }
def fnSigItemRow : OpenClaim := { program := "ytpldoffjclmacab", sum := "85682aecd8ba17a43dadfe5fdbdd383338e97c2547c619b7a79e5802904d6f00", func := "loop.example/workchain/laws.FnSigItem", spec := "fnSigItem", apart := false }
def FnSigItemSaid : Prop := fnSigItemRow.holds Try.pinned (OpenSpec.ofChange fnSigItemSpec)

/-- ITS FALSE NEIGHBOUR: 'it returns false'. Refute it at one input. -/
def fnSigItemWrong : ChangeSpec := { name := "fnSigItem", fn := fun _ => fun
  | [d] => { results := [.lit (.bool false)], args := [d] }
  | _ => none }
def FnSigItemWrongFalsely : Prop := fnSigItemRow.holds Try.pinned (OpenSpec.ofChange fnSigItemWrong)

/-- 'laws.FnItemSig': WHATEVER THE INPUT: true; the input reads as it did. -/
def fnItemSigSpec : ChangeSpec := { name := "fnItemSig", fn := fun _ => fun
  | [d] => { results := [.lit (.bool true)], args := [d] }
  | _ => none }
def fnItemSigRow : OpenClaim := { program := "ytpldoffjclmacab", sum := "85682aecd8ba17a43dadfe5fdbdd383338e97c2547c619b7a79e5802904d6f00", func := "loop.example/workchain/laws.FnItemSig", spec := "fnItemSig", apart := false }
def FnItemSigSaid : Prop := fnItemSigRow.holds Try.pinned (OpenSpec.ofChange fnItemSigSpec)

/-- ITS FALSE NEIGHBOUR: 'it returns false'. Refute it at one input. -/
def fnItemSigWrong : ChangeSpec := { name := "fnItemSig", fn := fun _ => fun
  | [d] => { results := [.lit (.bool false)], args := [d] }
  | _ => none }
def FnItemSigWrongFalsely : Prop := fnItemSigRow.holds Try.pinned (OpenSpec.ofChange fnItemSigWrong)

/-- 'laws.FnExactSigItem': WHATEVER THE INPUT: true; the input reads as it did. -/
def fnExactSigItemSpec : ChangeSpec := { name := "fnExactSigItem", fn := fun _ => fun
  | [d] => { results := [.lit (.bool true)], args := [d] }
  | _ => none }
def fnExactSigItemRow : OpenClaim := { program := "ytpldoffjclmacab", sum := "85682aecd8ba17a43dadfe5fdbdd383338e97c2547c619b7a79e5802904d6f00", func := "loop.example/workchain/laws.FnExactSigItem", spec := "fnExactSigItem", apart := false }
def FnExactSigItemSaid : Prop := fnExactSigItemRow.holds Try.pinned (OpenSpec.ofChange fnExactSigItemSpec)

/-- ITS FALSE NEIGHBOUR: 'it returns false'. Refute it at one input. -/
def fnExactSigItemWrong : ChangeSpec := { name := "fnExactSigItem", fn := fun _ => fun
  | [d] => { results := [.lit (.bool false)], args := [d] }
  | _ => none }
def FnExactSigItemWrongFalsely : Prop := fnExactSigItemRow.holds Try.pinned (OpenSpec.ofChange fnExactSigItemWrong)

/-- 'laws.FnExactItemSig': WHATEVER THE INPUT: true; the input reads as it did. -/
def fnExactItemSigSpec : ChangeSpec := { name := "fnExactItemSig", fn := fun _ => fun
  | [d] => { results := [.lit (.bool true)], args := [d] }
  | _ => none }
def fnExactItemSigRow : OpenClaim := { program := "ytpldoffjclmacab", sum := "85682aecd8ba17a43dadfe5fdbdd383338e97c2547c619b7a79e5802904d6f00", func := "loop.example/workchain/laws.FnExactItemSig", spec := "fnExactItemSig", apart := false }
def FnExactItemSigSaid : Prop := fnExactItemSigRow.holds Try.pinned (OpenSpec.ofChange fnExactItemSigSpec)

/-- ITS FALSE NEIGHBOUR: 'it returns false'. Refute it at one input. -/
def fnExactItemSigWrong : ChangeSpec := { name := "fnExactItemSig", fn := fun _ => fun
  | [d] => { results := [.lit (.bool false)], args := [d] }
  | _ => none }
def FnExactItemSigWrongFalsely : Prop := fnExactItemSigRow.holds Try.pinned (OpenSpec.ofChange fnExactItemSigWrong)

/- THE SECOND FORM. 'bulk': how many values and letters a reading holds, each counted each time it is reached (what is shared counts as often as it is met; a slice's spare places count too). A statement '..UptoSaid' is the law's where the arguments, and the package variables that the reading takes, are together of bulk at most 1048576: NARROWER than '..Said'. Prove '..Said' where nothing that the law and all that it calls make is longer than what came in: it says more and counts as full. Else prove '..UptoSaid'. A law counts once. -/
mutual
def uptoBulk {H : Type} : DataW H → Nat
  | .lit (.string bytes) => bytes.length + 1
  | .lit _ => 1
  | .nil => 1
  | .ptr d => uptoBulk d + 1
  | .slice elems spare => uptoBulkAll elems + uptoBulkAll spare + 1
  | .agg parts => uptoBulkAll parts + 1
  | .iface _ d => uptoBulk d + 1
  | .map entries => uptoBulkEntries entries + 1
  | .held _ => 1
def uptoBulkAll {H : Type} : List (DataW H) → Nat
  | [] => 0
  | d :: r => uptoBulk d + uptoBulkAll r
def uptoBulkEntries {H : Type} : List (Lit × DataW H) → Nat
  | [] => 0
  | x :: r => uptoBulkEntry x + uptoBulkEntries r
def uptoBulkEntry {H : Type} : Lit × DataW H → Nat
  | (.string bytes, d) => bytes.length + uptoBulk d + 1
  | (_, d) => uptoBulk d + 1
 end
def uptoSmall : (H : Type) → List (DataW H) → Bool := fun _ ds => decide (uptoBulkAll ds ≤ 1048576)
def OpenSpec.upto (s : _root_.Go.ChangeSpec) : _root_.Go.OpenSpec := { _root_.Go.OpenSpec.ofChange s with cond := some uptoSmall }

/-- 'laws.FnSigItem', WHERE WHAT IT READS IS OF BULK AT MOST 1048576: true; the input reads as it did. -/
def fnSigItemUptoRow : OpenClaim := { program := "ytpldoffjclmacab", sum := "85682aecd8ba17a43dadfe5fdbdd383338e97c2547c619b7a79e5802904d6f00", func := "loop.example/workchain/laws.FnSigItem", spec := "fnSigItem", apart := false, narrowed := true }
def FnSigItemUptoSaid : Prop := fnSigItemUptoRow.holds Try.pinned (OpenSpec.upto fnSigItemSpec)

/-- 'laws.FnItemSig', WHERE WHAT IT READS IS OF BULK AT MOST 1048576: true; the input reads as it did. -/
def fnItemSigUptoRow : OpenClaim := { program := "ytpldoffjclmacab", sum := "85682aecd8ba17a43dadfe5fdbdd383338e97c2547c619b7a79e5802904d6f00", func := "loop.example/workchain/laws.FnItemSig", spec := "fnItemSig", apart := false, narrowed := true }
def FnItemSigUptoSaid : Prop := fnItemSigUptoRow.holds Try.pinned (OpenSpec.upto fnItemSigSpec)

/-- 'laws.FnExactSigItem', WHERE WHAT IT READS IS OF BULK AT MOST 1048576: true; the input reads as it did. -/
def fnExactSigItemUptoRow : OpenClaim := { program := "ytpldoffjclmacab", sum := "85682aecd8ba17a43dadfe5fdbdd383338e97c2547c619b7a79e5802904d6f00", func := "loop.example/workchain/laws.FnExactSigItem", spec := "fnExactSigItem", apart := false, narrowed := true }
def FnExactSigItemUptoSaid : Prop := fnExactSigItemUptoRow.holds Try.pinned (OpenSpec.upto fnExactSigItemSpec)

/-- 'laws.FnExactItemSig', WHERE WHAT IT READS IS OF BULK AT MOST 1048576: true; the input reads as it did. -/
def fnExactItemSigUptoRow : OpenClaim := { program := "ytpldoffjclmacab", sum := "85682aecd8ba17a43dadfe5fdbdd383338e97c2547c619b7a79e5802904d6f00", func := "loop.example/workchain/laws.FnExactItemSig", spec := "fnExactItemSig", apart := false, narrowed := true }
def FnExactItemSigUptoSaid : Prop := fnExactItemSigUptoRow.holds Try.pinned (OpenSpec.upto fnExactItemSigSpec)

end Rows
end Go.Proofs.Ytpldoffjclmacab
