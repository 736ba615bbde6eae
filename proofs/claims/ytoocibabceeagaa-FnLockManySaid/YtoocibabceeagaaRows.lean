/-
  No cell of these rows narrows 'for every input' (looked for: loops, veiled, ifaces, maps, wideKeys, modest, calm, conditions, laid).
  DERIVED. THE GIVEN ROWS OF THIS SEAT. 12 by the template 'for every input the law returns true; each argument reads behind the call as it read before'; 0 by the template 'total and deterministic' (their statements: YtoocibabceeagaaTotals.lean).
  GIVEN WITH THE SEED: the statements are not yours to turn. If you find one false, say at which input.
  Laid BY PROGRAM, IN A SANDBOX (cutbox-rows.mjs): the forced cells as the released guide's own fill.sh prints them over the translation 670222e1980bf13e… (all of the seat's roots in one cut). By AI agents, Wed Nov 11 2026. No macro, syntax, notation, axiom, sorry.
-/
import Derived.Test.YtoocibabceeagaaChecked
import GoSem.Claim
import GoSem.ClaimJoined
import GoSem.ClaimMapViews
import Derived.JoinedTies
import Derived.KernelRfl
namespace Go.Proofs.Ytoocibabceeagaa
/- THE CELL 'sum', in the pinned program and in every row, IS THE sha256 OF THE DUMP (.gsa) THAT YtoocibabceeagaaProg.lean LOADS. Nothing in Lean hashes anything: it is a label: what it is worth is what the hold of that sum in a sandbox is worth. -/
noncomputable def Try.pinned : Pinned := { name := "ytoocibabceeagaa", sum := "670222e1980bf13e9e0df775298c60f7a4ba0d88542955d39c56002aabeae1db", checked := Try.checked }
namespace Rows
def none {H : Type} : Left H := { results := [], args := [] }

/-- 'laws.FnLockKey': WHATEVER THE INPUT: true; the input reads as it did. -/
def fnLockKeySpec : ChangeSpec := { name := "fnLockKey", fn := fun _ => fun
  | [d] => { results := [.lit (.bool true)], args := [d] }
  | _ => none }
def fnLockKeyRow : OpenClaim := { program := "ytoocibabceeagaa", sum := "670222e1980bf13e9e0df775298c60f7a4ba0d88542955d39c56002aabeae1db", func := "loop.example/workchain/laws.FnLockKey", spec := "fnLockKey", inPlace := ["internal/abi.NoEscape"], unfollowed := true, recurses := true, apart := false }
def FnLockKeySaid : Prop := fnLockKeyRow.holds Try.pinned (OpenSpec.ofChange fnLockKeySpec)

/-- ITS FALSE NEIGHBOUR: 'it returns false'. Refute it at one input. -/
def fnLockKeyWrong : ChangeSpec := { name := "fnLockKey", fn := fun _ => fun
  | [d] => { results := [.lit (.bool false)], args := [d] }
  | _ => none }
def FnLockKeyWrongFalsely : Prop := fnLockKeyRow.holds Try.pinned (OpenSpec.ofChange fnLockKeyWrong)

/-- 'laws.FnLockDigest': WHATEVER THE INPUT: true; the input reads as it did. -/
def fnLockDigestSpec : ChangeSpec := { name := "fnLockDigest", fn := fun _ => fun
  | [d] => { results := [.lit (.bool true)], args := [d] }
  | _ => none }
def fnLockDigestRow : OpenClaim := { program := "ytoocibabceeagaa", sum := "670222e1980bf13e9e0df775298c60f7a4ba0d88542955d39c56002aabeae1db", func := "loop.example/workchain/laws.FnLockDigest", spec := "fnLockDigest", inPlace := ["internal/abi.NoEscape"], unfollowed := true, recurses := true, apart := false }
def FnLockDigestSaid : Prop := fnLockDigestRow.holds Try.pinned (OpenSpec.ofChange fnLockDigestSpec)

/-- ITS FALSE NEIGHBOUR: 'it returns false'. Refute it at one input. -/
def fnLockDigestWrong : ChangeSpec := { name := "fnLockDigest", fn := fun _ => fun
  | [d] => { results := [.lit (.bool false)], args := [d] }
  | _ => none }
def FnLockDigestWrongFalsely : Prop := fnLockDigestRow.holds Try.pinned (OpenSpec.ofChange fnLockDigestWrong)

/-- 'laws.FnLockMany': WHATEVER THE INPUT: true; the input reads as it did. -/
def fnLockManySpec : ChangeSpec := { name := "fnLockMany", fn := fun _ => fun
  | [d] => { results := [.lit (.bool true)], args := [d] }
  | _ => none }
def fnLockManyRow : OpenClaim := { program := "ytoocibabceeagaa", sum := "670222e1980bf13e9e0df775298c60f7a4ba0d88542955d39c56002aabeae1db", func := "loop.example/workchain/laws.FnLockMany", spec := "fnLockMany", inPlace := ["internal/abi.NoEscape"], unfollowed := true, recurses := true, apart := false }
def FnLockManySaid : Prop := fnLockManyRow.holds Try.pinned (OpenSpec.ofChange fnLockManySpec)

/-- ITS FALSE NEIGHBOUR: 'it returns false'. Refute it at one input. -/
def fnLockManyWrong : ChangeSpec := { name := "fnLockMany", fn := fun _ => fun
  | [d] => { results := [.lit (.bool false)], args := [d] }
  | _ => none }
def FnLockManyWrongFalsely : Prop := fnLockManyRow.holds Try.pinned (OpenSpec.ofChange fnLockManyWrong)

/-- 'laws.FnLockTimed': WHATEVER THE INPUT: true; the input reads as it did. -/
def fnLockTimedSpec : ChangeSpec := { name := "fnLockTimed", fn := fun _ => fun
  | [d] => { results := [.lit (.bool true)], args := [d] }
  | _ => none }
def fnLockTimedRow : OpenClaim := { program := "ytoocibabceeagaa", sum := "670222e1980bf13e9e0df775298c60f7a4ba0d88542955d39c56002aabeae1db", func := "loop.example/workchain/laws.FnLockTimed", spec := "fnLockTimed", inPlace := ["internal/abi.NoEscape"], unfollowed := true, recurses := true, apart := false }
def FnLockTimedSaid : Prop := fnLockTimedRow.holds Try.pinned (OpenSpec.ofChange fnLockTimedSpec)

/-- ITS FALSE NEIGHBOUR: 'it returns false'. Refute it at one input. -/
def fnLockTimedWrong : ChangeSpec := { name := "fnLockTimed", fn := fun _ => fun
  | [d] => { results := [.lit (.bool false)], args := [d] }
  | _ => none }
def FnLockTimedWrongFalsely : Prop := fnLockTimedRow.holds Try.pinned (OpenSpec.ofChange fnLockTimedWrong)

/-- 'laws.FnLockRevocable': WHATEVER THE INPUT: true; the input reads as it did. -/
def fnLockRevocableSpec : ChangeSpec := { name := "fnLockRevocable", fn := fun _ => fun
  | [d] => { results := [.lit (.bool true)], args := [d] }
  | _ => none }
def fnLockRevocableRow : OpenClaim := { program := "ytoocibabceeagaa", sum := "670222e1980bf13e9e0df775298c60f7a4ba0d88542955d39c56002aabeae1db", func := "loop.example/workchain/laws.FnLockRevocable", spec := "fnLockRevocable", inPlace := ["internal/abi.NoEscape"], unfollowed := true, recurses := true, apart := false }
def FnLockRevocableSaid : Prop := fnLockRevocableRow.holds Try.pinned (OpenSpec.ofChange fnLockRevocableSpec)

/-- ITS FALSE NEIGHBOUR: 'it returns false'. Refute it at one input. -/
def fnLockRevocableWrong : ChangeSpec := { name := "fnLockRevocable", fn := fun _ => fun
  | [d] => { results := [.lit (.bool false)], args := [d] }
  | _ => none }
def FnLockRevocableWrongFalsely : Prop := fnLockRevocableRow.holds Try.pinned (OpenSpec.ofChange fnLockRevocableWrong)

/-- 'laws.FnLockName': WHATEVER THE INPUT: true; the input reads as it did. -/
def fnLockNameSpec : ChangeSpec := { name := "fnLockName", fn := fun _ => fun
  | [d] => { results := [.lit (.bool true)], args := [d] }
  | _ => none }
def fnLockNameRow : OpenClaim := { program := "ytoocibabceeagaa", sum := "670222e1980bf13e9e0df775298c60f7a4ba0d88542955d39c56002aabeae1db", func := "loop.example/workchain/laws.FnLockName", spec := "fnLockName", inPlace := ["internal/abi.NoEscape"], unfollowed := true, recurses := true, apart := false }
def FnLockNameSaid : Prop := fnLockNameRow.holds Try.pinned (OpenSpec.ofChange fnLockNameSpec)

/-- ITS FALSE NEIGHBOUR: 'it returns false'. Refute it at one input. -/
def fnLockNameWrong : ChangeSpec := { name := "fnLockName", fn := fun _ => fun
  | [d] => { results := [.lit (.bool false)], args := [d] }
  | _ => none }
def FnLockNameWrongFalsely : Prop := fnLockNameRow.holds Try.pinned (OpenSpec.ofChange fnLockNameWrong)

/-- 'laws.FnExactLockKey': WHATEVER THE INPUT: true; the input reads as it did. -/
def fnExactLockKeySpec : ChangeSpec := { name := "fnExactLockKey", fn := fun _ => fun
  | [d] => { results := [.lit (.bool true)], args := [d] }
  | _ => none }
def fnExactLockKeyRow : OpenClaim := { program := "ytoocibabceeagaa", sum := "670222e1980bf13e9e0df775298c60f7a4ba0d88542955d39c56002aabeae1db", func := "loop.example/workchain/laws.FnExactLockKey", spec := "fnExactLockKey", inPlace := ["internal/abi.NoEscape"], apart := false }
def FnExactLockKeySaid : Prop := fnExactLockKeyRow.holds Try.pinned (OpenSpec.ofChange fnExactLockKeySpec)

/-- ITS FALSE NEIGHBOUR: 'it returns false'. Refute it at one input. -/
def fnExactLockKeyWrong : ChangeSpec := { name := "fnExactLockKey", fn := fun _ => fun
  | [d] => { results := [.lit (.bool false)], args := [d] }
  | _ => none }
def FnExactLockKeyWrongFalsely : Prop := fnExactLockKeyRow.holds Try.pinned (OpenSpec.ofChange fnExactLockKeyWrong)

/-- 'laws.FnExactLockDigest': WHATEVER THE INPUT: true; the input reads as it did. -/
def fnExactLockDigestSpec : ChangeSpec := { name := "fnExactLockDigest", fn := fun _ => fun
  | [d] => { results := [.lit (.bool true)], args := [d] }
  | _ => none }
def fnExactLockDigestRow : OpenClaim := { program := "ytoocibabceeagaa", sum := "670222e1980bf13e9e0df775298c60f7a4ba0d88542955d39c56002aabeae1db", func := "loop.example/workchain/laws.FnExactLockDigest", spec := "fnExactLockDigest", inPlace := ["internal/abi.NoEscape"], apart := false }
def FnExactLockDigestSaid : Prop := fnExactLockDigestRow.holds Try.pinned (OpenSpec.ofChange fnExactLockDigestSpec)

/-- ITS FALSE NEIGHBOUR: 'it returns false'. Refute it at one input. -/
def fnExactLockDigestWrong : ChangeSpec := { name := "fnExactLockDigest", fn := fun _ => fun
  | [d] => { results := [.lit (.bool false)], args := [d] }
  | _ => none }
def FnExactLockDigestWrongFalsely : Prop := fnExactLockDigestRow.holds Try.pinned (OpenSpec.ofChange fnExactLockDigestWrong)

/-- 'laws.FnExactLockMany': WHATEVER THE INPUT: true; the input reads as it did. -/
def fnExactLockManySpec : ChangeSpec := { name := "fnExactLockMany", fn := fun _ => fun
  | [d1, d2] => { results := [.lit (.bool true)], args := [d1, d2] }
  | _ => none }
def fnExactLockManyRow : OpenClaim := { program := "ytoocibabceeagaa", sum := "670222e1980bf13e9e0df775298c60f7a4ba0d88542955d39c56002aabeae1db", func := "loop.example/workchain/laws.FnExactLockMany", spec := "fnExactLockMany", inPlace := ["internal/abi.NoEscape"], apart := false }
def FnExactLockManySaid : Prop := fnExactLockManyRow.holds Try.pinned (OpenSpec.ofChange fnExactLockManySpec)

/-- ITS FALSE NEIGHBOUR: 'it returns false'. Refute it at one input. -/
def fnExactLockManyWrong : ChangeSpec := { name := "fnExactLockMany", fn := fun _ => fun
  | [d1, d2] => { results := [.lit (.bool false)], args := [d1, d2] }
  | _ => none }
def FnExactLockManyWrongFalsely : Prop := fnExactLockManyRow.holds Try.pinned (OpenSpec.ofChange fnExactLockManyWrong)

/-- 'laws.FnExactLockTimed': WHATEVER THE INPUT: true; the input reads as it did. -/
def fnExactLockTimedSpec : ChangeSpec := { name := "fnExactLockTimed", fn := fun _ => fun
  | [d1, d2, d3, d4] => { results := [.lit (.bool true)], args := [d1, d2, d3, d4] }
  | _ => none }
def fnExactLockTimedRow : OpenClaim := { program := "ytoocibabceeagaa", sum := "670222e1980bf13e9e0df775298c60f7a4ba0d88542955d39c56002aabeae1db", func := "loop.example/workchain/laws.FnExactLockTimed", spec := "fnExactLockTimed", inPlace := ["internal/abi.NoEscape"], apart := false }
def FnExactLockTimedSaid : Prop := fnExactLockTimedRow.holds Try.pinned (OpenSpec.ofChange fnExactLockTimedSpec)

/-- ITS FALSE NEIGHBOUR: 'it returns false'. Refute it at one input. -/
def fnExactLockTimedWrong : ChangeSpec := { name := "fnExactLockTimed", fn := fun _ => fun
  | [d1, d2, d3, d4] => { results := [.lit (.bool false)], args := [d1, d2, d3, d4] }
  | _ => none }
def FnExactLockTimedWrongFalsely : Prop := fnExactLockTimedRow.holds Try.pinned (OpenSpec.ofChange fnExactLockTimedWrong)

/-- 'laws.FnExactLockRevocable': WHATEVER THE INPUT: true; the input reads as it did. -/
def fnExactLockRevocableSpec : ChangeSpec := { name := "fnExactLockRevocable", fn := fun _ => fun
  | [d1, d2, d3] => { results := [.lit (.bool true)], args := [d1, d2, d3] }
  | _ => none }
def fnExactLockRevocableRow : OpenClaim := { program := "ytoocibabceeagaa", sum := "670222e1980bf13e9e0df775298c60f7a4ba0d88542955d39c56002aabeae1db", func := "loop.example/workchain/laws.FnExactLockRevocable", spec := "fnExactLockRevocable", inPlace := ["internal/abi.NoEscape"], apart := false }
def FnExactLockRevocableSaid : Prop := fnExactLockRevocableRow.holds Try.pinned (OpenSpec.ofChange fnExactLockRevocableSpec)

/-- ITS FALSE NEIGHBOUR: 'it returns false'. Refute it at one input. -/
def fnExactLockRevocableWrong : ChangeSpec := { name := "fnExactLockRevocable", fn := fun _ => fun
  | [d1, d2, d3] => { results := [.lit (.bool false)], args := [d1, d2, d3] }
  | _ => none }
def FnExactLockRevocableWrongFalsely : Prop := fnExactLockRevocableRow.holds Try.pinned (OpenSpec.ofChange fnExactLockRevocableWrong)

/-- 'laws.FnExactLockName': WHATEVER THE INPUT: true; the input reads as it did. -/
def fnExactLockNameSpec : ChangeSpec := { name := "fnExactLockName", fn := fun _ => fun
  | [d] => { results := [.lit (.bool true)], args := [d] }
  | _ => none }
def fnExactLockNameRow : OpenClaim := { program := "ytoocibabceeagaa", sum := "670222e1980bf13e9e0df775298c60f7a4ba0d88542955d39c56002aabeae1db", func := "loop.example/workchain/laws.FnExactLockName", spec := "fnExactLockName", inPlace := ["internal/abi.NoEscape"], unfollowed := true, recurses := true, apart := false }
def FnExactLockNameSaid : Prop := fnExactLockNameRow.holds Try.pinned (OpenSpec.ofChange fnExactLockNameSpec)

/-- ITS FALSE NEIGHBOUR: 'it returns false'. Refute it at one input. -/
def fnExactLockNameWrong : ChangeSpec := { name := "fnExactLockName", fn := fun _ => fun
  | [d] => { results := [.lit (.bool false)], args := [d] }
  | _ => none }
def FnExactLockNameWrongFalsely : Prop := fnExactLockNameRow.holds Try.pinned (OpenSpec.ofChange fnExactLockNameWrong)

/- THE SECOND FORM. 'bulk': how many values and letters a reading holds, each counted each time it is reached (what is shared counts as often as it is met; a slice's spare places count too). A statement '..UptoSaid' is the law's where the arguments, and the package variables that the reading takes, are together of bulk at most 1048576: NARROWER than '..Said'. Prove '..Said' where nothing that the law and all that it calls make is longer than what came in: it says more and counts as full. Else prove '..UptoSaid'. A law counts once. -/
mutual
def uptoBulk {H : Type} : DataW H → Nat
  | .lit (.string bytes) => bytes.length + 1
  | .lit _ => 1
  | .nil => 1
  | .ptr d => uptoBulk d + 1
  | .slice elems spare => uptoBulkAll elems + uptoBulkAll spare + 1
  | .agg parts => uptoBulkAll parts + 1
  | .iface _ d => uptoBulk d + 1
  | .map entries => uptoBulkEntries entries + 1
  | .held _ => 1
def uptoBulkAll {H : Type} : List (DataW H) → Nat
  | [] => 0
  | d :: r => uptoBulk d + uptoBulkAll r
def uptoBulkEntries {H : Type} : List (Lit × DataW H) → Nat
  | [] => 0
  | x :: r => uptoBulkEntry x + uptoBulkEntries r
def uptoBulkEntry {H : Type} : Lit × DataW H → Nat
  | (.string bytes, d) => bytes.length + uptoBulk d + 1
  | (_, d) => uptoBulk d + 1
 end
def uptoSmall : (H : Type) → List (DataW H) → Bool := fun _ ds => decide (uptoBulkAll ds ≤ 1048576)
def OpenSpec.upto (s : _root_.Go.ChangeSpec) : _root_.Go.OpenSpec := { _root_.Go.OpenSpec.ofChange s with cond := some uptoSmall }

/-- 'laws.FnLockKey', WHERE WHAT IT READS IS OF BULK AT MOST 1048576: true; the input reads as it did. -/
def fnLockKeyUptoRow : OpenClaim := { program := "ytoocibabceeagaa", sum := "670222e1980bf13e9e0df775298c60f7a4ba0d88542955d39c56002aabeae1db", func := "loop.example/workchain/laws.FnLockKey", spec := "fnLockKey", inPlace := ["internal/abi.NoEscape"], unfollowed := true, recurses := true, apart := false, narrowed := true }
def FnLockKeyUptoSaid : Prop := fnLockKeyUptoRow.holds Try.pinned (OpenSpec.upto fnLockKeySpec)

/-- 'laws.FnLockDigest', WHERE WHAT IT READS IS OF BULK AT MOST 1048576: true; the input reads as it did. -/
def fnLockDigestUptoRow : OpenClaim := { program := "ytoocibabceeagaa", sum := "670222e1980bf13e9e0df775298c60f7a4ba0d88542955d39c56002aabeae1db", func := "loop.example/workchain/laws.FnLockDigest", spec := "fnLockDigest", inPlace := ["internal/abi.NoEscape"], unfollowed := true, recurses := true, apart := false, narrowed := true }
def FnLockDigestUptoSaid : Prop := fnLockDigestUptoRow.holds Try.pinned (OpenSpec.upto fnLockDigestSpec)

/-- 'laws.FnLockMany', WHERE WHAT IT READS IS OF BULK AT MOST 1048576: true; the input reads as it did. -/
def fnLockManyUptoRow : OpenClaim := { program := "ytoocibabceeagaa", sum := "670222e1980bf13e9e0df775298c60f7a4ba0d88542955d39c56002aabeae1db", func := "loop.example/workchain/laws.FnLockMany", spec := "fnLockMany", inPlace := ["internal/abi.NoEscape"], unfollowed := true, recurses := true, apart := false, narrowed := true }
def FnLockManyUptoSaid : Prop := fnLockManyUptoRow.holds Try.pinned (OpenSpec.upto fnLockManySpec)

/-- 'laws.FnLockTimed', WHERE WHAT IT READS IS OF BULK AT MOST 1048576: true; the input reads as it did. -/
def fnLockTimedUptoRow : OpenClaim := { program := "ytoocibabceeagaa", sum := "670222e1980bf13e9e0df775298c60f7a4ba0d88542955d39c56002aabeae1db", func := "loop.example/workchain/laws.FnLockTimed", spec := "fnLockTimed", inPlace := ["internal/abi.NoEscape"], unfollowed := true, recurses := true, apart := false, narrowed := true }
def FnLockTimedUptoSaid : Prop := fnLockTimedUptoRow.holds Try.pinned (OpenSpec.upto fnLockTimedSpec)

/-- 'laws.FnLockRevocable', WHERE WHAT IT READS IS OF BULK AT MOST 1048576: true; the input reads as it did. -/
def fnLockRevocableUptoRow : OpenClaim := { program := "ytoocibabceeagaa", sum := "670222e1980bf13e9e0df775298c60f7a4ba0d88542955d39c56002aabeae1db", func := "loop.example/workchain/laws.FnLockRevocable", spec := "fnLockRevocable", inPlace := ["internal/abi.NoEscape"], unfollowed := true, recurses := true, apart := false, narrowed := true }
def FnLockRevocableUptoSaid : Prop := fnLockRevocableUptoRow.holds Try.pinned (OpenSpec.upto fnLockRevocableSpec)

/-- 'laws.FnLockName', WHERE WHAT IT READS IS OF BULK AT MOST 1048576: true; the input reads as it did. -/
def fnLockNameUptoRow : OpenClaim := { program := "ytoocibabceeagaa", sum := "670222e1980bf13e9e0df775298c60f7a4ba0d88542955d39c56002aabeae1db", func := "loop.example/workchain/laws.FnLockName", spec := "fnLockName", inPlace := ["internal/abi.NoEscape"], unfollowed := true, recurses := true, apart := false, narrowed := true }
def FnLockNameUptoSaid : Prop := fnLockNameUptoRow.holds Try.pinned (OpenSpec.upto fnLockNameSpec)

/-- 'laws.FnExactLockKey', WHERE WHAT IT READS IS OF BULK AT MOST 1048576: true; the input reads as it did. -/
def fnExactLockKeyUptoRow : OpenClaim := { program := "ytoocibabceeagaa", sum := "670222e1980bf13e9e0df775298c60f7a4ba0d88542955d39c56002aabeae1db", func := "loop.example/workchain/laws.FnExactLockKey", spec := "fnExactLockKey", inPlace := ["internal/abi.NoEscape"], apart := false, narrowed := true }
def FnExactLockKeyUptoSaid : Prop := fnExactLockKeyUptoRow.holds Try.pinned (OpenSpec.upto fnExactLockKeySpec)

/-- 'laws.FnExactLockDigest', WHERE WHAT IT READS IS OF BULK AT MOST 1048576: true; the input reads as it did. -/
def fnExactLockDigestUptoRow : OpenClaim := { program := "ytoocibabceeagaa", sum := "670222e1980bf13e9e0df775298c60f7a4ba0d88542955d39c56002aabeae1db", func := "loop.example/workchain/laws.FnExactLockDigest", spec := "fnExactLockDigest", inPlace := ["internal/abi.NoEscape"], apart := false, narrowed := true }
def FnExactLockDigestUptoSaid : Prop := fnExactLockDigestUptoRow.holds Try.pinned (OpenSpec.upto fnExactLockDigestSpec)

/-- 'laws.FnExactLockMany', WHERE WHAT IT READS IS OF BULK AT MOST 1048576: true; the input reads as it did. -/
def fnExactLockManyUptoRow : OpenClaim := { program := "ytoocibabceeagaa", sum := "670222e1980bf13e9e0df775298c60f7a4ba0d88542955d39c56002aabeae1db", func := "loop.example/workchain/laws.FnExactLockMany", spec := "fnExactLockMany", inPlace := ["internal/abi.NoEscape"], apart := false, narrowed := true }
def FnExactLockManyUptoSaid : Prop := fnExactLockManyUptoRow.holds Try.pinned (OpenSpec.upto fnExactLockManySpec)

/-- 'laws.FnExactLockTimed', WHERE WHAT IT READS IS OF BULK AT MOST 1048576: true; the input reads as it did. -/
def fnExactLockTimedUptoRow : OpenClaim := { program := "ytoocibabceeagaa", sum := "670222e1980bf13e9e0df775298c60f7a4ba0d88542955d39c56002aabeae1db", func := "loop.example/workchain/laws.FnExactLockTimed", spec := "fnExactLockTimed", inPlace := ["internal/abi.NoEscape"], apart := false, narrowed := true }
def FnExactLockTimedUptoSaid : Prop := fnExactLockTimedUptoRow.holds Try.pinned (OpenSpec.upto fnExactLockTimedSpec)

/-- 'laws.FnExactLockRevocable', WHERE WHAT IT READS IS OF BULK AT MOST 1048576: true; the input reads as it did. -/
def fnExactLockRevocableUptoRow : OpenClaim := { program := "ytoocibabceeagaa", sum := "670222e1980bf13e9e0df775298c60f7a4ba0d88542955d39c56002aabeae1db", func := "loop.example/workchain/laws.FnExactLockRevocable", spec := "fnExactLockRevocable", inPlace := ["internal/abi.NoEscape"], apart := false, narrowed := true }
def FnExactLockRevocableUptoSaid : Prop := fnExactLockRevocableUptoRow.holds Try.pinned (OpenSpec.upto fnExactLockRevocableSpec)

/-- 'laws.FnExactLockName', WHERE WHAT IT READS IS OF BULK AT MOST 1048576: true; the input reads as it did. -/
def fnExactLockNameUptoRow : OpenClaim := { program := "ytoocibabceeagaa", sum := "670222e1980bf13e9e0df775298c60f7a4ba0d88542955d39c56002aabeae1db", func := "loop.example/workchain/laws.FnExactLockName", spec := "fnExactLockName", inPlace := ["internal/abi.NoEscape"], unfollowed := true, recurses := true, apart := false, narrowed := true }
def FnExactLockNameUptoSaid : Prop := fnExactLockNameUptoRow.holds Try.pinned (OpenSpec.upto fnExactLockNameSpec)

end Rows
end Go.Proofs.Ytoocibabceeagaa
