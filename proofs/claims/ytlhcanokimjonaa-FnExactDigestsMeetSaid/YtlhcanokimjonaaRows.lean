/-
  No cell of these rows narrows 'for every input' (looked for: loops, veiled, ifaces, maps, wideKeys, modest, calm, conditions, laid).
  DERIVED. THE GIVEN ROWS OF THIS SEAT. 6 by the template 'for every input the law returns true; each argument reads behind the call as it read before'; 0 by the template 'total and deterministic' (their statements: YtlhcanokimjonaaTotals.lean).
  GIVEN WITH THE SEED: the statements are not yours to turn. If you find one false, say at which input.
  Laid BY PROGRAM, IN A SANDBOX (cutbox-rows.mjs): the forced cells as the released guide's own fill.sh prints them over the translation 903ed6f03e2c9343… (all of the seat's roots in one cut). By AI agents, Wed Nov 11 2026. No macro, syntax, notation, axiom, sorry.
-/
import Derived.Test.YtlhcanokimjonaaChecked
import GoSem.Claim
import GoSem.ClaimJoined
import GoSem.ClaimMapViews
import Derived.JoinedTies
import Derived.KernelRfl
namespace Go.Proofs.Ytlhcanokimjonaa
/- THE CELL 'sum', in the pinned program and in every row, IS THE sha256 OF THE DUMP (.gsa) THAT YtlhcanokimjonaaProg.lean LOADS. Nothing in Lean hashes anything: it is a label: what it is worth is what the hold of that sum in a sandbox is worth. -/
noncomputable def Try.pinned : Pinned := { name := "ytlhcanokimjonaa", sum := "903ed6f03e2c934375ee54bb9571873b379c748d64ebff15e99d76163a338098", checked := Try.checked }
namespace Rows
def none {H : Type} : Left H := { results := [], args := [] }

/-- 'laws.FnExactDigest': WHATEVER THE INPUT: true; the input reads as it did. -/
def fnExactDigestSpec : ChangeSpec := { name := "fnExactDigest", fn := fun _ => fun
  | [d] => { results := [.lit (.bool true)], args := [d] }
  | _ => none }
def fnExactDigestRow : OpenClaim := { program := "ytlhcanokimjonaa", sum := "903ed6f03e2c934375ee54bb9571873b379c748d64ebff15e99d76163a338098", func := "loop.example/workchain/laws.FnExactDigest", spec := "fnExactDigest", apart := false }
def FnExactDigestSaid : Prop := fnExactDigestRow.holds Try.pinned (OpenSpec.ofChange fnExactDigestSpec)

/-- ITS FALSE NEIGHBOUR: 'it returns false'. Refute it at one input. -/
def fnExactDigestWrong : ChangeSpec := { name := "fnExactDigest", fn := fun _ => fun
  | [d] => { results := [.lit (.bool false)], args := [d] }
  | _ => none }
def FnExactDigestWrongFalsely : Prop := fnExactDigestRow.holds Try.pinned (OpenSpec.ofChange fnExactDigestWrong)

/-- 'laws.FnExactDigestBytes': WHATEVER THE INPUT: true; the input reads as it did. -/
def fnExactDigestBytesSpec : ChangeSpec := { name := "fnExactDigestBytes", fn := fun _ => fun
  | [d] => { results := [.lit (.bool true)], args := [d] }
  | _ => none }
def fnExactDigestBytesRow : OpenClaim := { program := "ytlhcanokimjonaa", sum := "903ed6f03e2c934375ee54bb9571873b379c748d64ebff15e99d76163a338098", func := "loop.example/workchain/laws.FnExactDigestBytes", spec := "fnExactDigestBytes", apart := false }
def FnExactDigestBytesSaid : Prop := fnExactDigestBytesRow.holds Try.pinned (OpenSpec.ofChange fnExactDigestBytesSpec)

/-- ITS FALSE NEIGHBOUR: 'it returns false'. Refute it at one input. -/
def fnExactDigestBytesWrong : ChangeSpec := { name := "fnExactDigestBytes", fn := fun _ => fun
  | [d] => { results := [.lit (.bool false)], args := [d] }
  | _ => none }
def FnExactDigestBytesWrongFalsely : Prop := fnExactDigestBytesRow.holds Try.pinned (OpenSpec.ofChange fnExactDigestBytesWrong)

/-- 'laws.FnExactBytesDigest': WHATEVER THE INPUT: true; the input reads as it did. -/
def fnExactBytesDigestSpec : ChangeSpec := { name := "fnExactBytesDigest", fn := fun _ => fun
  | [d] => { results := [.lit (.bool true)], args := [d] }
  | _ => none }
def fnExactBytesDigestRow : OpenClaim := { program := "ytlhcanokimjonaa", sum := "903ed6f03e2c934375ee54bb9571873b379c748d64ebff15e99d76163a338098", func := "loop.example/workchain/laws.FnExactBytesDigest", spec := "fnExactBytesDigest", apart := false }
def FnExactBytesDigestSaid : Prop := fnExactBytesDigestRow.holds Try.pinned (OpenSpec.ofChange fnExactBytesDigestSpec)

/-- ITS FALSE NEIGHBOUR: 'it returns false'. Refute it at one input. -/
def fnExactBytesDigestWrong : ChangeSpec := { name := "fnExactBytesDigest", fn := fun _ => fun
  | [d] => { results := [.lit (.bool false)], args := [d] }
  | _ => none }
def FnExactBytesDigestWrongFalsely : Prop := fnExactBytesDigestRow.holds Try.pinned (OpenSpec.ofChange fnExactBytesDigestWrong)

/-- 'laws.FnExactDigestPair': WHATEVER THE INPUT: true; the input reads as it did. -/
def fnExactDigestPairSpec : ChangeSpec := { name := "fnExactDigestPair", fn := fun _ => fun
  | [d1, d2] => { results := [.lit (.bool true)], args := [d1, d2] }
  | _ => none }
def fnExactDigestPairRow : OpenClaim := { program := "ytlhcanokimjonaa", sum := "903ed6f03e2c934375ee54bb9571873b379c748d64ebff15e99d76163a338098", func := "loop.example/workchain/laws.FnExactDigestPair", spec := "fnExactDigestPair", apart := false }
def FnExactDigestPairSaid : Prop := fnExactDigestPairRow.holds Try.pinned (OpenSpec.ofChange fnExactDigestPairSpec)

/-- ITS FALSE NEIGHBOUR: 'it returns false'. Refute it at one input. -/
def fnExactDigestPairWrong : ChangeSpec := { name := "fnExactDigestPair", fn := fun _ => fun
  | [d1, d2] => { results := [.lit (.bool false)], args := [d1, d2] }
  | _ => none }
def FnExactDigestPairWrongFalsely : Prop := fnExactDigestPairRow.holds Try.pinned (OpenSpec.ofChange fnExactDigestPairWrong)

/-- 'laws.FnExactDigestsMeet': WHATEVER THE INPUT: true; the input reads as it did. -/
def fnExactDigestsMeetSpec : ChangeSpec := { name := "fnExactDigestsMeet", fn := fun _ => fun
  | [d] => { results := [.lit (.bool true)], args := [d] }
  | _ => none }
def fnExactDigestsMeetRow : OpenClaim := { program := "ytlhcanokimjonaa", sum := "903ed6f03e2c934375ee54bb9571873b379c748d64ebff15e99d76163a338098", func := "loop.example/workchain/laws.FnExactDigestsMeet", spec := "fnExactDigestsMeet", apart := false }
def FnExactDigestsMeetSaid : Prop := fnExactDigestsMeetRow.holds Try.pinned (OpenSpec.ofChange fnExactDigestsMeetSpec)

/-- ITS FALSE NEIGHBOUR: 'it returns false'. Refute it at one input. -/
def fnExactDigestsMeetWrong : ChangeSpec := { name := "fnExactDigestsMeet", fn := fun _ => fun
  | [d] => { results := [.lit (.bool false)], args := [d] }
  | _ => none }
def FnExactDigestsMeetWrongFalsely : Prop := fnExactDigestsMeetRow.holds Try.pinned (OpenSpec.ofChange fnExactDigestsMeetWrong)

/-- 'laws.FnDigest': WHATEVER THE INPUT: true; the input reads as it did. -/
def fnDigestSpec : ChangeSpec := { name := "fnDigest", fn := fun _ => fun
  | [d] => { results := [.lit (.bool true)], args := [d] }
  | _ => none }
def fnDigestRow : OpenClaim := { program := "ytlhcanokimjonaa", sum := "903ed6f03e2c934375ee54bb9571873b379c748d64ebff15e99d76163a338098", func := "loop.example/workchain/laws.FnDigest", spec := "fnDigest", apart := false }
def FnDigestSaid : Prop := fnDigestRow.holds Try.pinned (OpenSpec.ofChange fnDigestSpec)

/-- ITS FALSE NEIGHBOUR: 'it returns false'. Refute it at one input. -/
def fnDigestWrong : ChangeSpec := { name := "fnDigest", fn := fun _ => fun
  | [d] => { results := [.lit (.bool false)], args := [d] }
  | _ => none }
def FnDigestWrongFalsely : Prop := fnDigestRow.holds Try.pinned (OpenSpec.ofChange fnDigestWrong)

/- THE SECOND FORM. 'bulk': how many values and letters a reading holds, each counted each time it is reached (what is shared counts as often as it is met; a slice's spare places count too). A statement '..UptoSaid' is the law's where the arguments, and the package variables that the reading takes, are together of bulk at most 1048576: NARROWER than '..Said'. Prove '..Said' where nothing that the law and all that it calls make is longer than what came in: it says more and counts as full. Else prove '..UptoSaid'. A law counts once. -/
mutual
def uptoBulk {H : Type} : DataW H → Nat
  | .lit (.string bytes) => bytes.length + 1
  | .lit _ => 1
  | .nil => 1
  | .ptr d => uptoBulk d + 1
  | .slice elems spare => uptoBulkAll elems + uptoBulkAll spare + 1
  | .agg parts => uptoBulkAll parts + 1
  | .iface _ d => uptoBulk d + 1
  | .map entries => uptoBulkEntries entries + 1
  | .held _ => 1
def uptoBulkAll {H : Type} : List (DataW H) → Nat
  | [] => 0
  | d :: r => uptoBulk d + uptoBulkAll r
def uptoBulkEntries {H : Type} : List (Lit × DataW H) → Nat
  | [] => 0
  | x :: r => uptoBulkEntry x + uptoBulkEntries r
def uptoBulkEntry {H : Type} : Lit × DataW H → Nat
  | (.string bytes, d) => bytes.length + uptoBulk d + 1
  | (_, d) => uptoBulk d + 1
 end
def uptoSmall : (H : Type) → List (DataW H) → Bool := fun _ ds => decide (uptoBulkAll ds ≤ 1048576)
def OpenSpec.upto (s : _root_.Go.ChangeSpec) : _root_.Go.OpenSpec := { _root_.Go.OpenSpec.ofChange s with cond := some uptoSmall }

/-- 'laws.FnExactDigest', WHERE WHAT IT READS IS OF BULK AT MOST 1048576: true; the input reads as it did. -/
def fnExactDigestUptoRow : OpenClaim := { program := "ytlhcanokimjonaa", sum := "903ed6f03e2c934375ee54bb9571873b379c748d64ebff15e99d76163a338098", func := "loop.example/workchain/laws.FnExactDigest", spec := "fnExactDigest", apart := false, narrowed := true }
def FnExactDigestUptoSaid : Prop := fnExactDigestUptoRow.holds Try.pinned (OpenSpec.upto fnExactDigestSpec)

/-- 'laws.FnExactDigestBytes', WHERE WHAT IT READS IS OF BULK AT MOST 1048576: true; the input reads as it did. -/
def fnExactDigestBytesUptoRow : OpenClaim := { program := "ytlhcanokimjonaa", sum := "903ed6f03e2c934375ee54bb9571873b379c748d64ebff15e99d76163a338098", func := "loop.example/workchain/laws.FnExactDigestBytes", spec := "fnExactDigestBytes", apart := false, narrowed := true }
def FnExactDigestBytesUptoSaid : Prop := fnExactDigestBytesUptoRow.holds Try.pinned (OpenSpec.upto fnExactDigestBytesSpec)

/-- 'laws.FnExactBytesDigest', WHERE WHAT IT READS IS OF BULK AT MOST 1048576: true; the input reads as it did. -/
def fnExactBytesDigestUptoRow : OpenClaim := { program := "ytlhcanokimjonaa", sum := "903ed6f03e2c934375ee54bb9571873b379c748d64ebff15e99d76163a338098", func := "loop.example/workchain/laws.FnExactBytesDigest", spec := "fnExactBytesDigest", apart := false, narrowed := true }
def FnExactBytesDigestUptoSaid : Prop := fnExactBytesDigestUptoRow.holds Try.pinned (OpenSpec.upto fnExactBytesDigestSpec)

/-- 'laws.FnExactDigestPair', WHERE WHAT IT READS IS OF BULK AT MOST 1048576: true; the input reads as it did. -/
def fnExactDigestPairUptoRow : OpenClaim := { program := "ytlhcanokimjonaa", sum := "903ed6f03e2c934375ee54bb9571873b379c748d64ebff15e99d76163a338098", func := "loop.example/workchain/laws.FnExactDigestPair", spec := "fnExactDigestPair", apart := false, narrowed := true }
def FnExactDigestPairUptoSaid : Prop := fnExactDigestPairUptoRow.holds Try.pinned (OpenSpec.upto fnExactDigestPairSpec)

/-- 'laws.FnExactDigestsMeet', WHERE WHAT IT READS IS OF BULK AT MOST 1048576: true; the input reads as it did. -/
def fnExactDigestsMeetUptoRow : OpenClaim := { program := "ytlhcanokimjonaa", sum := "903ed6f03e2c934375ee54bb9571873b379c748d64ebff15e99d76163a338098", func := "loop.example/workchain/laws.FnExactDigestsMeet", spec := "fnExactDigestsMeet", apart := false, narrowed := true }
def FnExactDigestsMeetUptoSaid : Prop := fnExactDigestsMeetUptoRow.holds Try.pinned (OpenSpec.upto fnExactDigestsMeetSpec)

/-- 'laws.FnDigest', WHERE WHAT IT READS IS OF BULK AT MOST 1048576: true; the input reads as it did. -/
def fnDigestUptoRow : OpenClaim := { program := "ytlhcanokimjonaa", sum := "903ed6f03e2c934375ee54bb9571873b379c748d64ebff15e99d76163a338098", func := "loop.example/workchain/laws.FnDigest", spec := "fnDigest", apart := false, narrowed := true }
def FnDigestUptoSaid : Prop := fnDigestUptoRow.holds Try.pinned (OpenSpec.upto fnDigestSpec)

end Rows
end Go.Proofs.Ytlhcanokimjonaa
