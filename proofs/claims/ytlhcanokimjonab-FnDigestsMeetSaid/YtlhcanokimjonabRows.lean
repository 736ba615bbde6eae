/-
  No cell of these rows narrows 'for every input' (looked for: loops, veiled, ifaces, maps, wideKeys, modest, calm, conditions, laid).
  DERIVED. THE GIVEN ROWS OF THIS SEAT. 6 by the template 'for every input the law returns true; each argument reads behind the call as it read before'; 0 by the template 'total and deterministic' (their statements: YtlhcanokimjonabTotals.lean).
  GIVEN WITH THE SEED: the statements are not yours to turn. If you find one false, say at which input.
  Laid BY PROGRAM, IN A SANDBOX (cutbox-rows.mjs): the forced cells as the released guide's own fill.sh prints them over the translation fbcc12697c7884ce… (all of the seat's roots in one cut). By AI agents, Wed Nov 11 2026. No macro, syntax, notation, axiom, sorry.
-/
import Derived.Test.YtlhcanokimjonabChecked
import GoSem.Claim
import GoSem.ClaimJoined
import GoSem.ClaimMapViews
import Derived.JoinedTies
import Derived.KernelRfl
namespace Go.Proofs.Ytlhcanokimjonab
/- THE CELL 'sum', in the pinned program and in every row, IS THE sha256 OF THE DUMP (.gsa) THAT YtlhcanokimjonabProg.lean LOADS. Nothing in Lean hashes anything: it is a label: what it is worth is what the hold of that sum in a sandbox is worth. -/
noncomputable def Try.pinned : Pinned := { name := "ytlhcanokimjonab", sum := "fbcc12697c7884ce6895e4870c7b70a259bdfbe04a54ec1444c339a4ad3c3efb", checked := Try.checked }
namespace Rows
def none {H : Type} : Left H := { results := [], args := [] }

/-- 'laws.FnDigestBytes': WHATEVER THE INPUT: true; the input reads as it did. -/
def fnDigestBytesSpec : ChangeSpec := { name := "fnDigestBytes", fn := fun _ => fun
  | [d] => { results := [.lit (.bool true)], args := [d] }
  | _ => none }
def fnDigestBytesRow : OpenClaim := { program := "ytlhcanokimjonab", sum := "fbcc12697c7884ce6895e4870c7b70a259bdfbe04a54ec1444c339a4ad3c3efb", func := "loop.example/workchain/laws.FnDigestBytes", spec := "fnDigestBytes", apart := false }
def FnDigestBytesSaid : Prop := fnDigestBytesRow.holds Try.pinned (OpenSpec.ofChange fnDigestBytesSpec)

/-- ITS FALSE NEIGHBOUR: 'it returns false'. Refute it at one input. -/
def fnDigestBytesWrong : ChangeSpec := { name := "fnDigestBytes", fn := fun _ => fun
  | [d] => { results := [.lit (.bool false)], args := [d] }
  | _ => none }
def FnDigestBytesWrongFalsely : Prop := fnDigestBytesRow.holds Try.pinned (OpenSpec.ofChange fnDigestBytesWrong)

/-- 'laws.FnBytesDigest': WHATEVER THE INPUT: true; the input reads as it did. -/
def fnBytesDigestSpec : ChangeSpec := { name := "fnBytesDigest", fn := fun _ => fun
  | [d] => { results := [.lit (.bool true)], args := [d] }
  | _ => none }
def fnBytesDigestRow : OpenClaim := { program := "ytlhcanokimjonab", sum := "fbcc12697c7884ce6895e4870c7b70a259bdfbe04a54ec1444c339a4ad3c3efb", func := "loop.example/workchain/laws.FnBytesDigest", spec := "fnBytesDigest", apart := false }
def FnBytesDigestSaid : Prop := fnBytesDigestRow.holds Try.pinned (OpenSpec.ofChange fnBytesDigestSpec)

/-- ITS FALSE NEIGHBOUR: 'it returns false'. Refute it at one input. -/
def fnBytesDigestWrong : ChangeSpec := { name := "fnBytesDigest", fn := fun _ => fun
  | [d] => { results := [.lit (.bool false)], args := [d] }
  | _ => none }
def FnBytesDigestWrongFalsely : Prop := fnBytesDigestRow.holds Try.pinned (OpenSpec.ofChange fnBytesDigestWrong)

/-- 'laws.FnDigestPair': WHATEVER THE INPUT: true; the input reads as it did. -/
def fnDigestPairSpec : ChangeSpec := { name := "fnDigestPair", fn := fun _ => fun
  | [d] => { results := [.lit (.bool true)], args := [d] }
  | _ => none }
def fnDigestPairRow : OpenClaim := { program := "ytlhcanokimjonab", sum := "fbcc12697c7884ce6895e4870c7b70a259bdfbe04a54ec1444c339a4ad3c3efb", func := "loop.example/workchain/laws.FnDigestPair", spec := "fnDigestPair", apart := false }
def FnDigestPairSaid : Prop := fnDigestPairRow.holds Try.pinned (OpenSpec.ofChange fnDigestPairSpec)

/-- ITS FALSE NEIGHBOUR: 'it returns false'. Refute it at one input. -/
def fnDigestPairWrong : ChangeSpec := { name := "fnDigestPair", fn := fun _ => fun
  | [d] => { results := [.lit (.bool false)], args := [d] }
  | _ => none }
def FnDigestPairWrongFalsely : Prop := fnDigestPairRow.holds Try.pinned (OpenSpec.ofChange fnDigestPairWrong)

/-- 'laws.FnDigestsMeet': WHATEVER THE INPUT: true; the input reads as it did. -/
def fnDigestsMeetSpec : ChangeSpec := { name := "fnDigestsMeet", fn := fun _ => fun
  | [d] => { results := [.lit (.bool true)], args := [d] }
  | _ => none }
def fnDigestsMeetRow : OpenClaim := { program := "ytlhcanokimjonab", sum := "fbcc12697c7884ce6895e4870c7b70a259bdfbe04a54ec1444c339a4ad3c3efb", func := "loop.example/workchain/laws.FnDigestsMeet", spec := "fnDigestsMeet", apart := false }
def FnDigestsMeetSaid : Prop := fnDigestsMeetRow.holds Try.pinned (OpenSpec.ofChange fnDigestsMeetSpec)

/-- ITS FALSE NEIGHBOUR: 'it returns false'. Refute it at one input. -/
def fnDigestsMeetWrong : ChangeSpec := { name := "fnDigestsMeet", fn := fun _ => fun
  | [d] => { results := [.lit (.bool false)], args := [d] }
  | _ => none }
def FnDigestsMeetWrongFalsely : Prop := fnDigestsMeetRow.holds Try.pinned (OpenSpec.ofChange fnDigestsMeetWrong)

/-- 'laws.FnExactEncodeTexts': WHATEVER THE INPUT: true; the input reads as it did. -/
def fnExactEncodeTextsSpec : ChangeSpec := { name := "fnExactEncodeTexts", fn := fun _ => fun
  | [d] => { results := [.lit (.bool true)], args := [d] }
  | _ => none }
def fnExactEncodeTextsRow : OpenClaim := { program := "ytlhcanokimjonab", sum := "fbcc12697c7884ce6895e4870c7b70a259bdfbe04a54ec1444c339a4ad3c3efb", func := "loop.example/workchain/laws.FnExactEncodeTexts", spec := "fnExactEncodeTexts", inPlace := ["internal/abi.NoEscape"], apart := false }
def FnExactEncodeTextsSaid : Prop := fnExactEncodeTextsRow.holds Try.pinned (OpenSpec.ofChange fnExactEncodeTextsSpec)

/-- ITS FALSE NEIGHBOUR: 'it returns false'. Refute it at one input. -/
def fnExactEncodeTextsWrong : ChangeSpec := { name := "fnExactEncodeTexts", fn := fun _ => fun
  | [d] => { results := [.lit (.bool false)], args := [d] }
  | _ => none }
def FnExactEncodeTextsWrongFalsely : Prop := fnExactEncodeTextsRow.holds Try.pinned (OpenSpec.ofChange fnExactEncodeTextsWrong)

/-- 'laws.FnEncodeTexts': WHATEVER THE INPUT: true; the input reads as it did. -/
def fnEncodeTextsSpec : ChangeSpec := { name := "fnEncodeTexts", fn := fun _ => fun
  | [d] => { results := [.lit (.bool true)], args := [d] }
  | _ => none }
def fnEncodeTextsRow : OpenClaim := { program := "ytlhcanokimjonab", sum := "fbcc12697c7884ce6895e4870c7b70a259bdfbe04a54ec1444c339a4ad3c3efb", func := "loop.example/workchain/laws.FnEncodeTexts", spec := "fnEncodeTexts", inPlace := ["internal/abi.NoEscape"], unfollowed := true, recurses := true, apart := false }
def FnEncodeTextsSaid : Prop := fnEncodeTextsRow.holds Try.pinned (OpenSpec.ofChange fnEncodeTextsSpec)

/-- ITS FALSE NEIGHBOUR: 'it returns false'. Refute it at one input. -/
def fnEncodeTextsWrong : ChangeSpec := { name := "fnEncodeTexts", fn := fun _ => fun
  | [d] => { results := [.lit (.bool false)], args := [d] }
  | _ => none }
def FnEncodeTextsWrongFalsely : Prop := fnEncodeTextsRow.holds Try.pinned (OpenSpec.ofChange fnEncodeTextsWrong)

/- THE SECOND FORM. 'bulk': how many values and letters a reading holds, each counted each time it is reached (what is shared counts as often as it is met; a slice's spare places count too). A statement '..UptoSaid' is the law's where the arguments, and the package variables that the reading takes, are together of bulk at most 1048576: NARROWER than '..Said'. Prove '..Said' where nothing that the law and all that it calls make is longer than what came in: it says more and counts as full. Else prove '..UptoSaid'. A law counts once. -/
mutual
def uptoBulk {H : Type} : DataW H → Nat
  | .lit (.string bytes) => bytes.length + 1
  | .lit _ => 1
  | .nil => 1
  | .ptr d => uptoBulk d + 1
  | .slice elems spare => uptoBulkAll elems + uptoBulkAll spare + 1
  | .agg parts => uptoBulkAll parts + 1
  | .iface _ d => uptoBulk d + 1
  | .map entries => uptoBulkEntries entries + 1
  | .held _ => 1
def uptoBulkAll {H : Type} : List (DataW H) → Nat
  | [] => 0
  | d :: r => uptoBulk d + uptoBulkAll r
def uptoBulkEntries {H : Type} : List (Lit × DataW H) → Nat
  | [] => 0
  | x :: r => uptoBulkEntry x + uptoBulkEntries r
def uptoBulkEntry {H : Type} : Lit × DataW H → Nat
  | (.string bytes, d) => bytes.length + uptoBulk d + 1
  | (_, d) => uptoBulk d + 1
 end
def uptoSmall : (H : Type) → List (DataW H) → Bool := fun _ ds => decide (uptoBulkAll ds ≤ 1048576)
def OpenSpec.upto (s : _root_.Go.ChangeSpec) : _root_.Go.OpenSpec := { _root_.Go.OpenSpec.ofChange s with cond := some uptoSmall }

/-- 'laws.FnDigestBytes', WHERE WHAT IT READS IS OF BULK AT MOST 1048576: true; the input reads as it did. -/
def fnDigestBytesUptoRow : OpenClaim := { program := "ytlhcanokimjonab", sum := "fbcc12697c7884ce6895e4870c7b70a259bdfbe04a54ec1444c339a4ad3c3efb", func := "loop.example/workchain/laws.FnDigestBytes", spec := "fnDigestBytes", apart := false, narrowed := true }
def FnDigestBytesUptoSaid : Prop := fnDigestBytesUptoRow.holds Try.pinned (OpenSpec.upto fnDigestBytesSpec)

/-- 'laws.FnBytesDigest', WHERE WHAT IT READS IS OF BULK AT MOST 1048576: true; the input reads as it did. -/
def fnBytesDigestUptoRow : OpenClaim := { program := "ytlhcanokimjonab", sum := "fbcc12697c7884ce6895e4870c7b70a259bdfbe04a54ec1444c339a4ad3c3efb", func := "loop.example/workchain/laws.FnBytesDigest", spec := "fnBytesDigest", apart := false, narrowed := true }
def FnBytesDigestUptoSaid : Prop := fnBytesDigestUptoRow.holds Try.pinned (OpenSpec.upto fnBytesDigestSpec)

/-- 'laws.FnDigestPair', WHERE WHAT IT READS IS OF BULK AT MOST 1048576: true; the input reads as it did. -/
def fnDigestPairUptoRow : OpenClaim := { program := "ytlhcanokimjonab", sum := "fbcc12697c7884ce6895e4870c7b70a259bdfbe04a54ec1444c339a4ad3c3efb", func := "loop.example/workchain/laws.FnDigestPair", spec := "fnDigestPair", apart := false, narrowed := true }
def FnDigestPairUptoSaid : Prop := fnDigestPairUptoRow.holds Try.pinned (OpenSpec.upto fnDigestPairSpec)

/-- 'laws.FnDigestsMeet', WHERE WHAT IT READS IS OF BULK AT MOST 1048576: true; the input reads as it did. -/
def fnDigestsMeetUptoRow : OpenClaim := { program := "ytlhcanokimjonab", sum := "fbcc12697c7884ce6895e4870c7b70a259bdfbe04a54ec1444c339a4ad3c3efb", func := "loop.example/workchain/laws.FnDigestsMeet", spec := "fnDigestsMeet", apart := false, narrowed := true }
def FnDigestsMeetUptoSaid : Prop := fnDigestsMeetUptoRow.holds Try.pinned (OpenSpec.upto fnDigestsMeetSpec)

/-- 'laws.FnExactEncodeTexts', WHERE WHAT IT READS IS OF BULK AT MOST 1048576: true; the input reads as it did. -/
def fnExactEncodeTextsUptoRow : OpenClaim := { program := "ytlhcanokimjonab", sum := "fbcc12697c7884ce6895e4870c7b70a259bdfbe04a54ec1444c339a4ad3c3efb", func := "loop.example/workchain/laws.FnExactEncodeTexts", spec := "fnExactEncodeTexts", inPlace := ["internal/abi.NoEscape"], apart := false, narrowed := true }
def FnExactEncodeTextsUptoSaid : Prop := fnExactEncodeTextsUptoRow.holds Try.pinned (OpenSpec.upto fnExactEncodeTextsSpec)

/-- 'laws.FnEncodeTexts', WHERE WHAT IT READS IS OF BULK AT MOST 1048576: true; the input reads as it did. -/
def fnEncodeTextsUptoRow : OpenClaim := { program := "ytlhcanokimjonab", sum := "fbcc12697c7884ce6895e4870c7b70a259bdfbe04a54ec1444c339a4ad3c3efb", func := "loop.example/workchain/laws.FnEncodeTexts", spec := "fnEncodeTexts", inPlace := ["internal/abi.NoEscape"], unfollowed := true, recurses := true, apart := false, narrowed := true }
def FnEncodeTextsUptoSaid : Prop := fnEncodeTextsUptoRow.holds Try.pinned (OpenSpec.upto fnEncodeTextsSpec)

end Rows
end Go.Proofs.Ytlhcanokimjonab
