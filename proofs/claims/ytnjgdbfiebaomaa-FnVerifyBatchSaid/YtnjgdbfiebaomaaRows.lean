/-
  No cell of these rows narrows 'for every input' (looked for: loops, veiled, ifaces, maps, wideKeys, modest, calm, conditions, laid).
  DERIVED. THE GIVEN ROWS OF THIS SEAT. 6 by the template 'for every input the law returns true; each argument reads behind the call as it read before'; 0 by the template 'total and deterministic' (their statements: YtnjgdbfiebaomaaTotals.lean).
  GIVEN WITH THE SEED: the statements are not yours to turn. If you find one false, say at which input.
  Laid BY PROGRAM, IN A SANDBOX (cutbox-rows.mjs): the forced cells as the released guide's own fill.sh prints them over the translation 020ee8a7e278ffdd… (all of the seat's roots in one cut). By AI agents, Wed Nov 11 2026. No macro, syntax, notation, axiom, sorry.
-/
import Derived.Test.YtnjgdbfiebaomaaChecked
import GoSem.Claim
import GoSem.ClaimJoined
import GoSem.ClaimMapViews
import Derived.JoinedTies
import Derived.KernelRfl
namespace Go.Proofs.Ytnjgdbfiebaomaa
/- THE CELL 'sum', in the pinned program and in every row, IS THE sha256 OF THE DUMP (.gsa) THAT YtnjgdbfiebaomaaProg.lean LOADS. Nothing in Lean hashes anything: it is a label: what it is worth is what the hold of that sum in a sandbox is worth. -/
noncomputable def Try.pinned : Pinned := { name := "ytnjgdbfiebaomaa", sum := "020ee8a7e278ffdd2637edd959909962d05fe281f50e6ab11ea8ec70a6687628", checked := Try.checked }
namespace Rows
def none {H : Type} : Left H := { results := [], args := [] }

/-- 'laws.FnChallenge': WHATEVER THE INPUT: true; the input reads as it did. -/
def fnChallengeSpec : ChangeSpec := { name := "fnChallenge", fn := fun _ => fun
  | [d] => { results := [.lit (.bool true)], args := [d] }
  | _ => none }
def fnChallengeRow : OpenClaim := { program := "ytnjgdbfiebaomaa", sum := "020ee8a7e278ffdd2637edd959909962d05fe281f50e6ab11ea8ec70a6687628", func := "loop.example/workchain/laws.FnChallenge", spec := "fnChallenge", apart := false }
def FnChallengeSaid : Prop := fnChallengeRow.holds Try.pinned (OpenSpec.ofChange fnChallengeSpec)

/-- ITS FALSE NEIGHBOUR: 'it returns false'. Refute it at one input. -/
def fnChallengeWrong : ChangeSpec := { name := "fnChallenge", fn := fun _ => fun
  | [d] => { results := [.lit (.bool false)], args := [d] }
  | _ => none }
def FnChallengeWrongFalsely : Prop := fnChallengeRow.holds Try.pinned (OpenSpec.ofChange fnChallengeWrong)

/-- 'laws.FnSign': WHATEVER THE INPUT: true; the input reads as it did. -/
def fnSignSpec : ChangeSpec := { name := "fnSign", fn := fun _ => fun
  | [d] => { results := [.lit (.bool true)], args := [d] }
  | _ => none }
def fnSignRow : OpenClaim := { program := "ytnjgdbfiebaomaa", sum := "020ee8a7e278ffdd2637edd959909962d05fe281f50e6ab11ea8ec70a6687628", func := "loop.example/workchain/laws.FnSign", spec := "fnSign", apart := false }
def FnSignSaid : Prop := fnSignRow.holds Try.pinned (OpenSpec.ofChange fnSignSpec)

/-- ITS FALSE NEIGHBOUR: 'it returns false'. Refute it at one input. -/
def fnSignWrong : ChangeSpec := { name := "fnSign", fn := fun _ => fun
  | [d] => { results := [.lit (.bool false)], args := [d] }
  | _ => none }
def FnSignWrongFalsely : Prop := fnSignRow.holds Try.pinned (OpenSpec.ofChange fnSignWrong)

/-- 'laws.FnVerify': WHATEVER THE INPUT: true; the input reads as it did. -/
def fnVerifySpec : ChangeSpec := { name := "fnVerify", fn := fun _ => fun
  | [d] => { results := [.lit (.bool true)], args := [d] }
  | _ => none }
def fnVerifyRow : OpenClaim := { program := "ytnjgdbfiebaomaa", sum := "020ee8a7e278ffdd2637edd959909962d05fe281f50e6ab11ea8ec70a6687628", func := "loop.example/workchain/laws.FnVerify", spec := "fnVerify", apart := false }
def FnVerifySaid : Prop := fnVerifyRow.holds Try.pinned (OpenSpec.ofChange fnVerifySpec)

/-- ITS FALSE NEIGHBOUR: 'it returns false'. Refute it at one input. -/
def fnVerifyWrong : ChangeSpec := { name := "fnVerify", fn := fun _ => fun
  | [d] => { results := [.lit (.bool false)], args := [d] }
  | _ => none }
def FnVerifyWrongFalsely : Prop := fnVerifyRow.holds Try.pinned (OpenSpec.ofChange fnVerifyWrong)

/-- 'laws.FnSecretFrom': WHATEVER THE INPUT: true; the input reads as it did. -/
def fnSecretFromSpec : ChangeSpec := { name := "fnSecretFrom", fn := fun _ => fun
  | [d] => { results := [.lit (.bool true)], args := [d] }
  | _ => none }
def fnSecretFromRow : OpenClaim := { program := "ytnjgdbfiebaomaa", sum := "020ee8a7e278ffdd2637edd959909962d05fe281f50e6ab11ea8ec70a6687628", func := "loop.example/workchain/laws.FnSecretFrom", spec := "fnSecretFrom", apart := false }
def FnSecretFromSaid : Prop := fnSecretFromRow.holds Try.pinned (OpenSpec.ofChange fnSecretFromSpec)

/-- ITS FALSE NEIGHBOUR: 'it returns false'. Refute it at one input. -/
def fnSecretFromWrong : ChangeSpec := { name := "fnSecretFrom", fn := fun _ => fun
  | [d] => { results := [.lit (.bool false)], args := [d] }
  | _ => none }
def FnSecretFromWrongFalsely : Prop := fnSecretFromRow.holds Try.pinned (OpenSpec.ofChange fnSecretFromWrong)

/-- 'laws.FnVerifyBatch': WHATEVER THE INPUT: true; the input reads as it did. -/
def fnVerifyBatchSpec : ChangeSpec := { name := "fnVerifyBatch", fn := fun _ => fun
  | [d] => { results := [.lit (.bool true)], args := [d] }
  | _ => none }
def fnVerifyBatchRow : OpenClaim := { program := "ytnjgdbfiebaomaa", sum := "020ee8a7e278ffdd2637edd959909962d05fe281f50e6ab11ea8ec70a6687628", func := "loop.example/workchain/laws.FnVerifyBatch", spec := "fnVerifyBatch", apart := false }
def FnVerifyBatchSaid : Prop := fnVerifyBatchRow.holds Try.pinned (OpenSpec.ofChange fnVerifyBatchSpec)

/-- ITS FALSE NEIGHBOUR: 'it returns false'. Refute it at one input. -/
def fnVerifyBatchWrong : ChangeSpec := { name := "fnVerifyBatch", fn := fun _ => fun
  | [d] => { results := [.lit (.bool false)], args := [d] }
  | _ => none }
def FnVerifyBatchWrongFalsely : Prop := fnVerifyBatchRow.holds Try.pinned (OpenSpec.ofChange fnVerifyBatchWrong)

/-- 'laws.FnBatchTwo': WHATEVER THE INPUT: true; the input reads as it did. -/
def fnBatchTwoSpec : ChangeSpec := { name := "fnBatchTwo", fn := fun _ => fun
  | [d] => { results := [.lit (.bool true)], args := [d] }
  | _ => none }
def fnBatchTwoRow : OpenClaim := { program := "ytnjgdbfiebaomaa", sum := "020ee8a7e278ffdd2637edd959909962d05fe281f50e6ab11ea8ec70a6687628", func := "loop.example/workchain/laws.FnBatchTwo", spec := "fnBatchTwo", apart := false }
def FnBatchTwoSaid : Prop := fnBatchTwoRow.holds Try.pinned (OpenSpec.ofChange fnBatchTwoSpec)

/-- ITS FALSE NEIGHBOUR: 'it returns false'. Refute it at one input. -/
def fnBatchTwoWrong : ChangeSpec := { name := "fnBatchTwo", fn := fun _ => fun
  | [d] => { results := [.lit (.bool false)], args := [d] }
  | _ => none }
def FnBatchTwoWrongFalsely : Prop := fnBatchTwoRow.holds Try.pinned (OpenSpec.ofChange fnBatchTwoWrong)

/- THE SECOND FORM. 'bulk': how many values and letters a reading holds, each counted each time it is reached (what is shared counts as often as it is met; a slice's spare places count too). A statement '..UptoSaid' is the law's where the arguments, and the package variables that the reading takes, are together of bulk at most 1048576: NARROWER than '..Said'. Prove '..Said' where nothing that the law and all that it calls make is longer than what came in: it says more and counts as full. Else prove '..UptoSaid'. A law counts once. -/
mutual
def uptoBulk {H : Type} : DataW H → Nat
  | .lit (.string bytes) => bytes.length + 1
  | .lit _ => 1
  | .nil => 1
  | .ptr d => uptoBulk d + 1
  | .slice elems spare => uptoBulkAll elems + uptoBulkAll spare + 1
  | .agg parts => uptoBulkAll parts + 1
  | .iface _ d => uptoBulk d + 1
  | .map entries => uptoBulkEntries entries + 1
  | .held _ => 1
def uptoBulkAll {H : Type} : List (DataW H) → Nat
  | [] => 0
  | d :: r => uptoBulk d + uptoBulkAll r
def uptoBulkEntries {H : Type} : List (Lit × DataW H) → Nat
  | [] => 0
  | x :: r => uptoBulkEntry x + uptoBulkEntries r
def uptoBulkEntry {H : Type} : Lit × DataW H → Nat
  | (.string bytes, d) => bytes.length + uptoBulk d + 1
  | (_, d) => uptoBulk d + 1
 end
def uptoSmall : (H : Type) → List (DataW H) → Bool := fun _ ds => decide (uptoBulkAll ds ≤ 1048576)
def OpenSpec.upto (s : _root_.Go.ChangeSpec) : _root_.Go.OpenSpec := { _root_.Go.OpenSpec.ofChange s with cond := some uptoSmall }

/-- 'laws.FnChallenge', WHERE WHAT IT READS IS OF BULK AT MOST 1048576: true; the input reads as it did. -/
def fnChallengeUptoRow : OpenClaim := { program := "ytnjgdbfiebaomaa", sum := "020ee8a7e278ffdd2637edd959909962d05fe281f50e6ab11ea8ec70a6687628", func := "loop.example/workchain/laws.FnChallenge", spec := "fnChallenge", apart := false, narrowed := true }
def FnChallengeUptoSaid : Prop := fnChallengeUptoRow.holds Try.pinned (OpenSpec.upto fnChallengeSpec)

/-- 'laws.FnSign', WHERE WHAT IT READS IS OF BULK AT MOST 1048576: true; the input reads as it did. -/
def fnSignUptoRow : OpenClaim := { program := "ytnjgdbfiebaomaa", sum := "020ee8a7e278ffdd2637edd959909962d05fe281f50e6ab11ea8ec70a6687628", func := "loop.example/workchain/laws.FnSign", spec := "fnSign", apart := false, narrowed := true }
def FnSignUptoSaid : Prop := fnSignUptoRow.holds Try.pinned (OpenSpec.upto fnSignSpec)

/-- 'laws.FnVerify', WHERE WHAT IT READS IS OF BULK AT MOST 1048576: true; the input reads as it did. -/
def fnVerifyUptoRow : OpenClaim := { program := "ytnjgdbfiebaomaa", sum := "020ee8a7e278ffdd2637edd959909962d05fe281f50e6ab11ea8ec70a6687628", func := "loop.example/workchain/laws.FnVerify", spec := "fnVerify", apart := false, narrowed := true }
def FnVerifyUptoSaid : Prop := fnVerifyUptoRow.holds Try.pinned (OpenSpec.upto fnVerifySpec)

/-- 'laws.FnSecretFrom', WHERE WHAT IT READS IS OF BULK AT MOST 1048576: true; the input reads as it did. -/
def fnSecretFromUptoRow : OpenClaim := { program := "ytnjgdbfiebaomaa", sum := "020ee8a7e278ffdd2637edd959909962d05fe281f50e6ab11ea8ec70a6687628", func := "loop.example/workchain/laws.FnSecretFrom", spec := "fnSecretFrom", apart := false, narrowed := true }
def FnSecretFromUptoSaid : Prop := fnSecretFromUptoRow.holds Try.pinned (OpenSpec.upto fnSecretFromSpec)

/-- 'laws.FnVerifyBatch', WHERE WHAT IT READS IS OF BULK AT MOST 1048576: true; the input reads as it did. -/
def fnVerifyBatchUptoRow : OpenClaim := { program := "ytnjgdbfiebaomaa", sum := "020ee8a7e278ffdd2637edd959909962d05fe281f50e6ab11ea8ec70a6687628", func := "loop.example/workchain/laws.FnVerifyBatch", spec := "fnVerifyBatch", apart := false, narrowed := true }
def FnVerifyBatchUptoSaid : Prop := fnVerifyBatchUptoRow.holds Try.pinned (OpenSpec.upto fnVerifyBatchSpec)

/-- 'laws.FnBatchTwo', WHERE WHAT IT READS IS OF BULK AT MOST 1048576: true; the input reads as it did. -/
def fnBatchTwoUptoRow : OpenClaim := { program := "ytnjgdbfiebaomaa", sum := "020ee8a7e278ffdd2637edd959909962d05fe281f50e6ab11ea8ec70a6687628", func := "loop.example/workchain/laws.FnBatchTwo", spec := "fnBatchTwo", apart := false, narrowed := true }
def FnBatchTwoUptoSaid : Prop := fnBatchTwoUptoRow.holds Try.pinned (OpenSpec.upto fnBatchTwoSpec)

end Rows
end Go.Proofs.Ytnjgdbfiebaomaa
