/-
  No cell of these rows narrows 'for every input' (looked for: loops, veiled, ifaces, maps, wideKeys, modest, calm, conditions, laid).
  DERIVED. THE GIVEN ROWS OF THIS SEAT. 8 by the template 'for every input the law returns true; each argument reads behind the call as it read before'; 0 by the template 'total and deterministic' (their statements: YtimajobbkemdbaaTotals.lean).
  GIVEN WITH THE SEED: the statements are not yours to turn. If you find one false, say at which input.
  Laid BY PROGRAM, IN A SANDBOX (cutbox-rows.mjs): the forced cells as the released guide's own fill.sh prints them over the translation cdde5117899ee06b… (all of the seat's roots in one cut). By AI agents, Wed Nov 11 2026. No macro, syntax, notation, axiom, sorry.
-/
import Derived.Test.YtimajobbkemdbaaChecked
import GoSem.Claim
import GoSem.ClaimJoined
import GoSem.ClaimMapViews
import Derived.JoinedTies
import Derived.KernelRfl
namespace Go.Proofs.Ytimajobbkemdbaa
/- THE CELL 'sum', in the pinned program and in every row, IS THE sha256 OF THE DUMP (.gsa) THAT YtimajobbkemdbaaProg.lean LOADS. Nothing in Lean hashes anything: it is a label: what it is worth is what the hold of that sum in a sandbox is worth. -/
noncomputable def Try.pinned : Pinned := { name := "ytimajobbkemdbaa", sum := "cdde5117899ee06b08e518a20b293cfd0c0522368e841cd605aaa0493e01a08a", checked := Try.checked }
namespace Rows
def none {H : Type} : Left H := { results := [], args := [] }

/-- 'laws.FnAdaptorSign': WHATEVER THE INPUT: true; the input reads as it did. -/
def fnAdaptorSignSpec : ChangeSpec := { name := "fnAdaptorSign", fn := fun _ => fun
  | [d] => { results := [.lit (.bool true)], args := [d] }
  | _ => none }
def fnAdaptorSignRow : OpenClaim := { program := "ytimajobbkemdbaa", sum := "cdde5117899ee06b08e518a20b293cfd0c0522368e841cd605aaa0493e01a08a", func := "loop.example/workchain/laws.FnAdaptorSign", spec := "fnAdaptorSign", apart := false }
def FnAdaptorSignSaid : Prop := fnAdaptorSignRow.holds Try.pinned (OpenSpec.ofChange fnAdaptorSignSpec)

/-- ITS FALSE NEIGHBOUR: 'it returns false'. Refute it at one input. -/
def fnAdaptorSignWrong : ChangeSpec := { name := "fnAdaptorSign", fn := fun _ => fun
  | [d] => { results := [.lit (.bool false)], args := [d] }
  | _ => none }
def FnAdaptorSignWrongFalsely : Prop := fnAdaptorSignRow.holds Try.pinned (OpenSpec.ofChange fnAdaptorSignWrong)

/-- 'laws.FnAdaptorVerify': WHATEVER THE INPUT: true; the input reads as it did. -/
def fnAdaptorVerifySpec : ChangeSpec := { name := "fnAdaptorVerify", fn := fun _ => fun
  | [d] => { results := [.lit (.bool true)], args := [d] }
  | _ => none }
def fnAdaptorVerifyRow : OpenClaim := { program := "ytimajobbkemdbaa", sum := "cdde5117899ee06b08e518a20b293cfd0c0522368e841cd605aaa0493e01a08a", func := "loop.example/workchain/laws.FnAdaptorVerify", spec := "fnAdaptorVerify", apart := false }
def FnAdaptorVerifySaid : Prop := fnAdaptorVerifyRow.holds Try.pinned (OpenSpec.ofChange fnAdaptorVerifySpec)

/-- ITS FALSE NEIGHBOUR: 'it returns false'. Refute it at one input. -/
def fnAdaptorVerifyWrong : ChangeSpec := { name := "fnAdaptorVerify", fn := fun _ => fun
  | [d] => { results := [.lit (.bool false)], args := [d] }
  | _ => none }
def FnAdaptorVerifyWrongFalsely : Prop := fnAdaptorVerifyRow.holds Try.pinned (OpenSpec.ofChange fnAdaptorVerifyWrong)

/-- 'laws.FnAdaptorFinish': WHATEVER THE INPUT: true; the input reads as it did. -/
def fnAdaptorFinishSpec : ChangeSpec := { name := "fnAdaptorFinish", fn := fun _ => fun
  | [d] => { results := [.lit (.bool true)], args := [d] }
  | _ => none }
def fnAdaptorFinishRow : OpenClaim := { program := "ytimajobbkemdbaa", sum := "cdde5117899ee06b08e518a20b293cfd0c0522368e841cd605aaa0493e01a08a", func := "loop.example/workchain/laws.FnAdaptorFinish", spec := "fnAdaptorFinish", apart := false }
def FnAdaptorFinishSaid : Prop := fnAdaptorFinishRow.holds Try.pinned (OpenSpec.ofChange fnAdaptorFinishSpec)

/-- ITS FALSE NEIGHBOUR: 'it returns false'. Refute it at one input. -/
def fnAdaptorFinishWrong : ChangeSpec := { name := "fnAdaptorFinish", fn := fun _ => fun
  | [d] => { results := [.lit (.bool false)], args := [d] }
  | _ => none }
def FnAdaptorFinishWrongFalsely : Prop := fnAdaptorFinishRow.holds Try.pinned (OpenSpec.ofChange fnAdaptorFinishWrong)

/-- 'laws.FnAdaptorReveal': WHATEVER THE INPUT: true; the input reads as it did. -/
def fnAdaptorRevealSpec : ChangeSpec := { name := "fnAdaptorReveal", fn := fun _ => fun
  | [d] => { results := [.lit (.bool true)], args := [d] }
  | _ => none }
def fnAdaptorRevealRow : OpenClaim := { program := "ytimajobbkemdbaa", sum := "cdde5117899ee06b08e518a20b293cfd0c0522368e841cd605aaa0493e01a08a", func := "loop.example/workchain/laws.FnAdaptorReveal", spec := "fnAdaptorReveal", apart := false }
def FnAdaptorRevealSaid : Prop := fnAdaptorRevealRow.holds Try.pinned (OpenSpec.ofChange fnAdaptorRevealSpec)

/-- ITS FALSE NEIGHBOUR: 'it returns false'. Refute it at one input. -/
def fnAdaptorRevealWrong : ChangeSpec := { name := "fnAdaptorReveal", fn := fun _ => fun
  | [d] => { results := [.lit (.bool false)], args := [d] }
  | _ => none }
def FnAdaptorRevealWrongFalsely : Prop := fnAdaptorRevealRow.holds Try.pinned (OpenSpec.ofChange fnAdaptorRevealWrong)

/-- 'laws.FnExactAdaptorSign': WHATEVER THE INPUT: true; the input reads as it did. -/
def fnExactAdaptorSignSpec : ChangeSpec := { name := "fnExactAdaptorSign", fn := fun _ => fun
  | [d1, d2, d3] => { results := [.lit (.bool true)], args := [d1, d2, d3] }
  | _ => none }
def fnExactAdaptorSignRow : OpenClaim := { program := "ytimajobbkemdbaa", sum := "cdde5117899ee06b08e518a20b293cfd0c0522368e841cd605aaa0493e01a08a", func := "loop.example/workchain/laws.FnExactAdaptorSign", spec := "fnExactAdaptorSign", apart := false }
def FnExactAdaptorSignSaid : Prop := fnExactAdaptorSignRow.holds Try.pinned (OpenSpec.ofChange fnExactAdaptorSignSpec)

/-- ITS FALSE NEIGHBOUR: 'it returns false'. Refute it at one input. -/
def fnExactAdaptorSignWrong : ChangeSpec := { name := "fnExactAdaptorSign", fn := fun _ => fun
  | [d1, d2, d3] => { results := [.lit (.bool false)], args := [d1, d2, d3] }
  | _ => none }
def FnExactAdaptorSignWrongFalsely : Prop := fnExactAdaptorSignRow.holds Try.pinned (OpenSpec.ofChange fnExactAdaptorSignWrong)

/-- 'laws.FnExactAdaptorVerify': WHATEVER THE INPUT: true; the input reads as it did. -/
def fnExactAdaptorVerifySpec : ChangeSpec := { name := "fnExactAdaptorVerify", fn := fun _ => fun
  | [d1, d2, d3] => { results := [.lit (.bool true)], args := [d1, d2, d3] }
  | _ => none }
def fnExactAdaptorVerifyRow : OpenClaim := { program := "ytimajobbkemdbaa", sum := "cdde5117899ee06b08e518a20b293cfd0c0522368e841cd605aaa0493e01a08a", func := "loop.example/workchain/laws.FnExactAdaptorVerify", spec := "fnExactAdaptorVerify", apart := false }
def FnExactAdaptorVerifySaid : Prop := fnExactAdaptorVerifyRow.holds Try.pinned (OpenSpec.ofChange fnExactAdaptorVerifySpec)

/-- ITS FALSE NEIGHBOUR: 'it returns false'. Refute it at one input. -/
def fnExactAdaptorVerifyWrong : ChangeSpec := { name := "fnExactAdaptorVerify", fn := fun _ => fun
  | [d1, d2, d3] => { results := [.lit (.bool false)], args := [d1, d2, d3] }
  | _ => none }
def FnExactAdaptorVerifyWrongFalsely : Prop := fnExactAdaptorVerifyRow.holds Try.pinned (OpenSpec.ofChange fnExactAdaptorVerifyWrong)

/-- 'laws.FnExactAdaptorFinish': WHATEVER THE INPUT: true; the input reads as it did. -/
def fnExactAdaptorFinishSpec : ChangeSpec := { name := "fnExactAdaptorFinish", fn := fun _ => fun
  | [d1, d2] => { results := [.lit (.bool true)], args := [d1, d2] }
  | _ => none }
def fnExactAdaptorFinishRow : OpenClaim := { program := "ytimajobbkemdbaa", sum := "cdde5117899ee06b08e518a20b293cfd0c0522368e841cd605aaa0493e01a08a", func := "loop.example/workchain/laws.FnExactAdaptorFinish", spec := "fnExactAdaptorFinish", apart := false }
def FnExactAdaptorFinishSaid : Prop := fnExactAdaptorFinishRow.holds Try.pinned (OpenSpec.ofChange fnExactAdaptorFinishSpec)

/-- ITS FALSE NEIGHBOUR: 'it returns false'. Refute it at one input. -/
def fnExactAdaptorFinishWrong : ChangeSpec := { name := "fnExactAdaptorFinish", fn := fun _ => fun
  | [d1, d2] => { results := [.lit (.bool false)], args := [d1, d2] }
  | _ => none }
def FnExactAdaptorFinishWrongFalsely : Prop := fnExactAdaptorFinishRow.holds Try.pinned (OpenSpec.ofChange fnExactAdaptorFinishWrong)

/-- 'laws.FnExactAdaptorReveal': WHATEVER THE INPUT: true; the input reads as it did. -/
def fnExactAdaptorRevealSpec : ChangeSpec := { name := "fnExactAdaptorReveal", fn := fun _ => fun
  | [d1, d2, d3, d4] => { results := [.lit (.bool true)], args := [d1, d2, d3, d4] }
  | _ => none }
def fnExactAdaptorRevealRow : OpenClaim := { program := "ytimajobbkemdbaa", sum := "cdde5117899ee06b08e518a20b293cfd0c0522368e841cd605aaa0493e01a08a", func := "loop.example/workchain/laws.FnExactAdaptorReveal", spec := "fnExactAdaptorReveal", apart := false }
def FnExactAdaptorRevealSaid : Prop := fnExactAdaptorRevealRow.holds Try.pinned (OpenSpec.ofChange fnExactAdaptorRevealSpec)

/-- ITS FALSE NEIGHBOUR: 'it returns false'. Refute it at one input. -/
def fnExactAdaptorRevealWrong : ChangeSpec := { name := "fnExactAdaptorReveal", fn := fun _ => fun
  | [d1, d2, d3, d4] => { results := [.lit (.bool false)], args := [d1, d2, d3, d4] }
  | _ => none }
def FnExactAdaptorRevealWrongFalsely : Prop := fnExactAdaptorRevealRow.holds Try.pinned (OpenSpec.ofChange fnExactAdaptorRevealWrong)

/- THE SECOND FORM. 'bulk': how many values and letters a reading holds, each counted each time it is reached (what is shared counts as often as it is met; a slice's spare places count too). A statement '..UptoSaid' is the law's where the arguments, and the package variables that the reading takes, are together of bulk at most 1048576: NARROWER than '..Said'. Prove '..Said' where nothing that the law and all that it calls make is longer than what came in: it says more and counts as full. Else prove '..UptoSaid'. A law counts once. -/
mutual
def uptoBulk {H : Type} : DataW H → Nat
  | .lit (.string bytes) => bytes.length + 1
  | .lit _ => 1
  | .nil => 1
  | .ptr d => uptoBulk d + 1
  | .slice elems spare => uptoBulkAll elems + uptoBulkAll spare + 1
  | .agg parts => uptoBulkAll parts + 1
  | .iface _ d => uptoBulk d + 1
  | .map entries => uptoBulkEntries entries + 1
  | .held _ => 1
def uptoBulkAll {H : Type} : List (DataW H) → Nat
  | [] => 0
  | d :: r => uptoBulk d + uptoBulkAll r
def uptoBulkEntries {H : Type} : List (Lit × DataW H) → Nat
  | [] => 0
  | x :: r => uptoBulkEntry x + uptoBulkEntries r
def uptoBulkEntry {H : Type} : Lit × DataW H → Nat
  | (.string bytes, d) => bytes.length + uptoBulk d + 1
  | (_, d) => uptoBulk d + 1
 end
def uptoSmall : (H : Type) → List (DataW H) → Bool := fun _ ds => decide (uptoBulkAll ds ≤ 1048576)
def OpenSpec.upto (s : _root_.Go.ChangeSpec) : _root_.Go.OpenSpec := { _root_.Go.OpenSpec.ofChange s with cond := some uptoSmall }

/-- 'laws.FnAdaptorSign', WHERE WHAT IT READS IS OF BULK AT MOST 1048576: true; the input reads as it did. -/
def fnAdaptorSignUptoRow : OpenClaim := { program := "ytimajobbkemdbaa", sum := "cdde5117899ee06b08e518a20b293cfd0c0522368e841cd605aaa0493e01a08a", func := "loop.example/workchain/laws.FnAdaptorSign", spec := "fnAdaptorSign", apart := false, narrowed := true }
def FnAdaptorSignUptoSaid : Prop := fnAdaptorSignUptoRow.holds Try.pinned (OpenSpec.upto fnAdaptorSignSpec)

/-- 'laws.FnAdaptorVerify', WHERE WHAT IT READS IS OF BULK AT MOST 1048576: true; the input reads as it did. -/
def fnAdaptorVerifyUptoRow : OpenClaim := { program := "ytimajobbkemdbaa", sum := "cdde5117899ee06b08e518a20b293cfd0c0522368e841cd605aaa0493e01a08a", func := "loop.example/workchain/laws.FnAdaptorVerify", spec := "fnAdaptorVerify", apart := false, narrowed := true }
def FnAdaptorVerifyUptoSaid : Prop := fnAdaptorVerifyUptoRow.holds Try.pinned (OpenSpec.upto fnAdaptorVerifySpec)

/-- 'laws.FnAdaptorFinish', WHERE WHAT IT READS IS OF BULK AT MOST 1048576: true; the input reads as it did. -/
def fnAdaptorFinishUptoRow : OpenClaim := { program := "ytimajobbkemdbaa", sum := "cdde5117899ee06b08e518a20b293cfd0c0522368e841cd605aaa0493e01a08a", func := "loop.example/workchain/laws.FnAdaptorFinish", spec := "fnAdaptorFinish", apart := false, narrowed := true }
def FnAdaptorFinishUptoSaid : Prop := fnAdaptorFinishUptoRow.holds Try.pinned (OpenSpec.upto fnAdaptorFinishSpec)

/-- 'laws.FnAdaptorReveal', WHERE WHAT IT READS IS OF BULK AT MOST 1048576: true; the input reads as it did. -/
def fnAdaptorRevealUptoRow : OpenClaim := { program := "ytimajobbkemdbaa", sum := "cdde5117899ee06b08e518a20b293cfd0c0522368e841cd605aaa0493e01a08a", func := "loop.example/workchain/laws.FnAdaptorReveal", spec := "fnAdaptorReveal", apart := false, narrowed := true }
def FnAdaptorRevealUptoSaid : Prop := fnAdaptorRevealUptoRow.holds Try.pinned (OpenSpec.upto fnAdaptorRevealSpec)

/-- 'laws.FnExactAdaptorSign', WHERE WHAT IT READS IS OF BULK AT MOST 1048576: true; the input reads as it did. -/
def fnExactAdaptorSignUptoRow : OpenClaim := { program := "ytimajobbkemdbaa", sum := "cdde5117899ee06b08e518a20b293cfd0c0522368e841cd605aaa0493e01a08a", func := "loop.example/workchain/laws.FnExactAdaptorSign", spec := "fnExactAdaptorSign", apart := false, narrowed := true }
def FnExactAdaptorSignUptoSaid : Prop := fnExactAdaptorSignUptoRow.holds Try.pinned (OpenSpec.upto fnExactAdaptorSignSpec)

/-- 'laws.FnExactAdaptorVerify', WHERE WHAT IT READS IS OF BULK AT MOST 1048576: true; the input reads as it did. -/
def fnExactAdaptorVerifyUptoRow : OpenClaim := { program := "ytimajobbkemdbaa", sum := "cdde5117899ee06b08e518a20b293cfd0c0522368e841cd605aaa0493e01a08a", func := "loop.example/workchain/laws.FnExactAdaptorVerify", spec := "fnExactAdaptorVerify", apart := false, narrowed := true }
def FnExactAdaptorVerifyUptoSaid : Prop := fnExactAdaptorVerifyUptoRow.holds Try.pinned (OpenSpec.upto fnExactAdaptorVerifySpec)

/-- 'laws.FnExactAdaptorFinish', WHERE WHAT IT READS IS OF BULK AT MOST 1048576: true; the input reads as it did. -/
def fnExactAdaptorFinishUptoRow : OpenClaim := { program := "ytimajobbkemdbaa", sum := "cdde5117899ee06b08e518a20b293cfd0c0522368e841cd605aaa0493e01a08a", func := "loop.example/workchain/laws.FnExactAdaptorFinish", spec := "fnExactAdaptorFinish", apart := false, narrowed := true }
def FnExactAdaptorFinishUptoSaid : Prop := fnExactAdaptorFinishUptoRow.holds Try.pinned (OpenSpec.upto fnExactAdaptorFinishSpec)

/-- 'laws.FnExactAdaptorReveal', WHERE WHAT IT READS IS OF BULK AT MOST 1048576: true; the input reads as it did. -/
def fnExactAdaptorRevealUptoRow : OpenClaim := { program := "ytimajobbkemdbaa", sum := "cdde5117899ee06b08e518a20b293cfd0c0522368e841cd605aaa0493e01a08a", func := "loop.example/workchain/laws.FnExactAdaptorReveal", spec := "fnExactAdaptorReveal", apart := false, narrowed := true }
def FnExactAdaptorRevealUptoSaid : Prop := fnExactAdaptorRevealUptoRow.holds Try.pinned (OpenSpec.upto fnExactAdaptorRevealSpec)

end Rows
end Go.Proofs.Ytimajobbkemdbaa
