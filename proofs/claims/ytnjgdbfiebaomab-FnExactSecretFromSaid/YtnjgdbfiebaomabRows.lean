/-
  No cell of these rows narrows 'for every input' (looked for: loops, veiled, ifaces, maps, wideKeys, modest, calm, conditions, laid).
  DERIVED. THE GIVEN ROWS OF THIS SEAT. 5 by the template 'for every input the law returns true; each argument reads behind the call as it read before'; 0 by the template 'total and deterministic' (their statements: YtnjgdbfiebaomabTotals.lean).
  GIVEN WITH THE SEED: the statements are not yours to turn. If you find one false, say at which input.
  Laid BY PROGRAM, IN A SANDBOX (cutbox-rows.mjs): the forced cells as the released guide's own fill.sh prints them over the translation 58a397e87de55d2a… (all of the seat's roots in one cut). By AI agents, Wed Nov 11 2026. No macro, syntax, notation, axiom, sorry.
-/
import Derived.Test.YtnjgdbfiebaomabChecked
import GoSem.Claim
import GoSem.ClaimJoined
import GoSem.ClaimMapViews
import Derived.JoinedTies
import Derived.KernelRfl
namespace Go.Proofs.Ytnjgdbfiebaomab
/- THE CELL 'sum', in the pinned program and in every row, IS THE sha256 OF THE DUMP (.gsa) THAT YtnjgdbfiebaomabProg.lean LOADS. Nothing in Lean hashes anything: it is a label: what it is worth is what the hold of that sum in a sandbox is worth. -/
noncomputable def Try.pinned : Pinned := { name := "ytnjgdbfiebaomab", sum := "58a397e87de55d2aa67717955fe1daaacce2a002ada6558290e409e7cd836931", checked := Try.checked }
namespace Rows
def none {H : Type} : Left H := { results := [], args := [] }

/-- 'laws.FnExactChallenge': WHATEVER THE INPUT: true; the input reads as it did. -/
def fnExactChallengeSpec : ChangeSpec := { name := "fnExactChallenge", fn := fun _ => fun
  | [d1, d2, d3] => { results := [.lit (.bool true)], args := [d1, d2, d3] }
  | _ => none }
def fnExactChallengeRow : OpenClaim := { program := "ytnjgdbfiebaomab", sum := "58a397e87de55d2aa67717955fe1daaacce2a002ada6558290e409e7cd836931", func := "loop.example/workchain/laws.FnExactChallenge", spec := "fnExactChallenge", apart := false }
def FnExactChallengeSaid : Prop := fnExactChallengeRow.holds Try.pinned (OpenSpec.ofChange fnExactChallengeSpec)

/-- ITS FALSE NEIGHBOUR: 'it returns false'. Refute it at one input. -/
def fnExactChallengeWrong : ChangeSpec := { name := "fnExactChallenge", fn := fun _ => fun
  | [d1, d2, d3] => { results := [.lit (.bool false)], args := [d1, d2, d3] }
  | _ => none }
def FnExactChallengeWrongFalsely : Prop := fnExactChallengeRow.holds Try.pinned (OpenSpec.ofChange fnExactChallengeWrong)

/-- 'laws.FnExactSign': WHATEVER THE INPUT: true; the input reads as it did. -/
def fnExactSignSpec : ChangeSpec := { name := "fnExactSign", fn := fun _ => fun
  | [d1, d2] => { results := [.lit (.bool true)], args := [d1, d2] }
  | _ => none }
def fnExactSignRow : OpenClaim := { program := "ytnjgdbfiebaomab", sum := "58a397e87de55d2aa67717955fe1daaacce2a002ada6558290e409e7cd836931", func := "loop.example/workchain/laws.FnExactSign", spec := "fnExactSign", apart := false }
def FnExactSignSaid : Prop := fnExactSignRow.holds Try.pinned (OpenSpec.ofChange fnExactSignSpec)

/-- ITS FALSE NEIGHBOUR: 'it returns false'. Refute it at one input. -/
def fnExactSignWrong : ChangeSpec := { name := "fnExactSign", fn := fun _ => fun
  | [d1, d2] => { results := [.lit (.bool false)], args := [d1, d2] }
  | _ => none }
def FnExactSignWrongFalsely : Prop := fnExactSignRow.holds Try.pinned (OpenSpec.ofChange fnExactSignWrong)

/-- 'laws.FnExactVerify': WHATEVER THE INPUT: true; the input reads as it did. -/
def fnExactVerifySpec : ChangeSpec := { name := "fnExactVerify", fn := fun _ => fun
  | [d1, d2, d3] => { results := [.lit (.bool true)], args := [d1, d2, d3] }
  | _ => none }
def fnExactVerifyRow : OpenClaim := { program := "ytnjgdbfiebaomab", sum := "58a397e87de55d2aa67717955fe1daaacce2a002ada6558290e409e7cd836931", func := "loop.example/workchain/laws.FnExactVerify", spec := "fnExactVerify", apart := false }
def FnExactVerifySaid : Prop := fnExactVerifyRow.holds Try.pinned (OpenSpec.ofChange fnExactVerifySpec)

/-- ITS FALSE NEIGHBOUR: 'it returns false'. Refute it at one input. -/
def fnExactVerifyWrong : ChangeSpec := { name := "fnExactVerify", fn := fun _ => fun
  | [d1, d2, d3] => { results := [.lit (.bool false)], args := [d1, d2, d3] }
  | _ => none }
def FnExactVerifyWrongFalsely : Prop := fnExactVerifyRow.holds Try.pinned (OpenSpec.ofChange fnExactVerifyWrong)

/-- 'laws.FnExactSecretFrom': WHATEVER THE INPUT: true; the input reads as it did. -/
def fnExactSecretFromSpec : ChangeSpec := { name := "fnExactSecretFrom", fn := fun _ => fun
  | [d1, d2] => { results := [.lit (.bool true)], args := [d1, d2] }
  | _ => none }
def fnExactSecretFromRow : OpenClaim := { program := "ytnjgdbfiebaomab", sum := "58a397e87de55d2aa67717955fe1daaacce2a002ada6558290e409e7cd836931", func := "loop.example/workchain/laws.FnExactSecretFrom", spec := "fnExactSecretFrom", apart := false }
def FnExactSecretFromSaid : Prop := fnExactSecretFromRow.holds Try.pinned (OpenSpec.ofChange fnExactSecretFromSpec)

/-- ITS FALSE NEIGHBOUR: 'it returns false'. Refute it at one input. -/
def fnExactSecretFromWrong : ChangeSpec := { name := "fnExactSecretFrom", fn := fun _ => fun
  | [d1, d2] => { results := [.lit (.bool false)], args := [d1, d2] }
  | _ => none }
def FnExactSecretFromWrongFalsely : Prop := fnExactSecretFromRow.holds Try.pinned (OpenSpec.ofChange fnExactSecretFromWrong)

/-- 'laws.FnExactVerifyBatch': WHATEVER THE INPUT: true; the input reads as it did. -/
def fnExactVerifyBatchSpec : ChangeSpec := { name := "fnExactVerifyBatch", fn := fun _ => fun
  | [d1, d2] => { results := [.lit (.bool true)], args := [d1, d2] }
  | _ => none }
def fnExactVerifyBatchRow : OpenClaim := { program := "ytnjgdbfiebaomab", sum := "58a397e87de55d2aa67717955fe1daaacce2a002ada6558290e409e7cd836931", func := "loop.example/workchain/laws.FnExactVerifyBatch", spec := "fnExactVerifyBatch", apart := false }
def FnExactVerifyBatchSaid : Prop := fnExactVerifyBatchRow.holds Try.pinned (OpenSpec.ofChange fnExactVerifyBatchSpec)

/-- ITS FALSE NEIGHBOUR: 'it returns false'. Refute it at one input. -/
def fnExactVerifyBatchWrong : ChangeSpec := { name := "fnExactVerifyBatch", fn := fun _ => fun
  | [d1, d2] => { results := [.lit (.bool false)], args := [d1, d2] }
  | _ => none }
def FnExactVerifyBatchWrongFalsely : Prop := fnExactVerifyBatchRow.holds Try.pinned (OpenSpec.ofChange fnExactVerifyBatchWrong)

/- THE SECOND FORM. 'bulk': how many values and letters a reading holds, each counted each time it is reached (what is shared counts as often as it is met; a slice's spare places count too). A statement '..UptoSaid' is the law's where the arguments, and the package variables that the reading takes, are together of bulk at most 1048576: NARROWER than '..Said'. Prove '..Said' where nothing that the law and all that it calls make is longer than what came in: it says more and counts as full. Else prove '..UptoSaid'. A law counts once. -/
mutual
def uptoBulk {H : Type} : DataW H → Nat
  | .lit (.string bytes) => bytes.length + 1
  | .lit _ => 1
  | .nil => 1
  | .ptr d => uptoBulk d + 1
  | .slice elems spare => uptoBulkAll elems + uptoBulkAll spare + 1
  | .agg parts => uptoBulkAll parts + 1
  | .iface _ d => uptoBulk d + 1
  | .map entries => uptoBulkEntries entries + 1
  | .held _ => 1
def uptoBulkAll {H : Type} : List (DataW H) → Nat
  | [] => 0
  | d :: r => uptoBulk d + uptoBulkAll r
def uptoBulkEntries {H : Type} : List (Lit × DataW H) → Nat
  | [] => 0
  | x :: r => uptoBulkEntry x + uptoBulkEntries r
def uptoBulkEntry {H : Type} : Lit × DataW H → Nat
  | (.string bytes, d) => bytes.length + uptoBulk d + 1
  | (_, d) => uptoBulk d + 1
 end
def uptoSmall : (H : Type) → List (DataW H) → Bool := fun _ ds => decide (uptoBulkAll ds ≤ 1048576)
def OpenSpec.upto (s : _root_.Go.ChangeSpec) : _root_.Go.OpenSpec := { _root_.Go.OpenSpec.ofChange s with cond := some uptoSmall }

/-- 'laws.FnExactChallenge', WHERE WHAT IT READS IS OF BULK AT MOST 1048576: true; the input reads as it did. -/
def fnExactChallengeUptoRow : OpenClaim := { program := "ytnjgdbfiebaomab", sum := "58a397e87de55d2aa67717955fe1daaacce2a002ada6558290e409e7cd836931", func := "loop.example/workchain/laws.FnExactChallenge", spec := "fnExactChallenge", apart := false, narrowed := true }
def FnExactChallengeUptoSaid : Prop := fnExactChallengeUptoRow.holds Try.pinned (OpenSpec.upto fnExactChallengeSpec)

/-- 'laws.FnExactSign', WHERE WHAT IT READS IS OF BULK AT MOST 1048576: true; the input reads as it did. -/
def fnExactSignUptoRow : OpenClaim := { program := "ytnjgdbfiebaomab", sum := "58a397e87de55d2aa67717955fe1daaacce2a002ada6558290e409e7cd836931", func := "loop.example/workchain/laws.FnExactSign", spec := "fnExactSign", apart := false, narrowed := true }
def FnExactSignUptoSaid : Prop := fnExactSignUptoRow.holds Try.pinned (OpenSpec.upto fnExactSignSpec)

/-- 'laws.FnExactVerify', WHERE WHAT IT READS IS OF BULK AT MOST 1048576: true; the input reads as it did. -/
def fnExactVerifyUptoRow : OpenClaim := { program := "ytnjgdbfiebaomab", sum := "58a397e87de55d2aa67717955fe1daaacce2a002ada6558290e409e7cd836931", func := "loop.example/workchain/laws.FnExactVerify", spec := "fnExactVerify", apart := false, narrowed := true }
def FnExactVerifyUptoSaid : Prop := fnExactVerifyUptoRow.holds Try.pinned (OpenSpec.upto fnExactVerifySpec)

/-- 'laws.FnExactSecretFrom', WHERE WHAT IT READS IS OF BULK AT MOST 1048576: true; the input reads as it did. -/
def fnExactSecretFromUptoRow : OpenClaim := { program := "ytnjgdbfiebaomab", sum := "58a397e87de55d2aa67717955fe1daaacce2a002ada6558290e409e7cd836931", func := "loop.example/workchain/laws.FnExactSecretFrom", spec := "fnExactSecretFrom", apart := false, narrowed := true }
def FnExactSecretFromUptoSaid : Prop := fnExactSecretFromUptoRow.holds Try.pinned (OpenSpec.upto fnExactSecretFromSpec)

/-- 'laws.FnExactVerifyBatch', WHERE WHAT IT READS IS OF BULK AT MOST 1048576: true; the input reads as it did. -/
def fnExactVerifyBatchUptoRow : OpenClaim := { program := "ytnjgdbfiebaomab", sum := "58a397e87de55d2aa67717955fe1daaacce2a002ada6558290e409e7cd836931", func := "loop.example/workchain/laws.FnExactVerifyBatch", spec := "fnExactVerifyBatch", apart := false, narrowed := true }
def FnExactVerifyBatchUptoSaid : Prop := fnExactVerifyBatchUptoRow.holds Try.pinned (OpenSpec.upto fnExactVerifyBatchSpec)

end Rows
end Go.Proofs.Ytnjgdbfiebaomab
