/-
  No cell of these rows narrows 'for every input' (looked for: loops, veiled, ifaces, maps, wideKeys, modest, calm, conditions, laid).
  DERIVED. THE GIVEN ROWS OF THIS SEAT. 7 by the template 'for every input the law returns true; each argument reads behind the call as it read before'; 0 by the template 'total and deterministic' (their statements: YtohameoomlehlaaTotals.lean).
  GIVEN WITH THE SEED: the statements are not yours to turn. If you find one false, say at which input.
  Laid BY PROGRAM, IN A SANDBOX (cutbox-rows.mjs): the forced cells as the released guide's own fill.sh prints them over the translation 7b015b49a295c0a0… (all of the seat's roots in one cut). By AI agents, Wed Nov 11 2026. No macro, syntax, notation, axiom, sorry.
-/
import Derived.Test.YtohameoomlehlaaChecked
import GoSem.Claim
import GoSem.ClaimJoined
import GoSem.ClaimMapViews
import Derived.JoinedTies
import Derived.KernelRfl
namespace Go.Proofs.Ytohameoomlehlaa
/- THE CELL 'sum', in the pinned program and in every row, IS THE sha256 OF THE DUMP (.gsa) THAT YtohameoomlehlaaProg.lean LOADS. Nothing in Lean hashes anything: it is a label: what it is worth is what the hold of that sum in a sandbox is worth. -/
noncomputable def Try.pinned : Pinned := { name := "ytohameoomlehlaa", sum := "7b015b49a295c0a02f41df8c733043b14786cdb24820cd31d893701d59e6df55", checked := Try.checked }
namespace Rows
def none {H : Type} : Left H := { results := [], args := [] }

/-- 'laws.FnCoinsOk': WHATEVER THE INPUT: true; the input reads as it did. -/
def fnCoinsOkSpec : ChangeSpec := { name := "fnCoinsOk", fn := fun _ => fun
  | [d] => { results := [.lit (.bool true)], args := [d] }
  | _ => none }
def fnCoinsOkRow : OpenClaim := { program := "ytohameoomlehlaa", sum := "7b015b49a295c0a02f41df8c733043b14786cdb24820cd31d893701d59e6df55", func := "loop.example/workchain/laws.FnCoinsOk", spec := "fnCoinsOk", unfollowed := true, recurses := true, plainKeys := false, apart := false }
def FnCoinsOkSaid : Prop := fnCoinsOkRow.holds Try.pinned (OpenSpec.ofChange fnCoinsOkSpec)

/-- ITS FALSE NEIGHBOUR: 'it returns false'. Refute it at one input. -/
def fnCoinsOkWrong : ChangeSpec := { name := "fnCoinsOk", fn := fun _ => fun
  | [d] => { results := [.lit (.bool false)], args := [d] }
  | _ => none }
def FnCoinsOkWrongFalsely : Prop := fnCoinsOkRow.holds Try.pinned (OpenSpec.ofChange fnCoinsOkWrong)

/-- 'laws.FnCoinsFind': WHATEVER THE INPUT: true; the input reads as it did. -/
def fnCoinsFindSpec : ChangeSpec := { name := "fnCoinsFind", fn := fun _ => fun
  | [d] => { results := [.lit (.bool true)], args := [d] }
  | _ => none }
def fnCoinsFindRow : OpenClaim := { program := "ytohameoomlehlaa", sum := "7b015b49a295c0a02f41df8c733043b14786cdb24820cd31d893701d59e6df55", func := "loop.example/workchain/laws.FnCoinsFind", spec := "fnCoinsFind", unfollowed := true, recurses := true, plainKeys := false, apart := false }
def FnCoinsFindSaid : Prop := fnCoinsFindRow.holds Try.pinned (OpenSpec.ofChange fnCoinsFindSpec)

/-- ITS FALSE NEIGHBOUR: 'it returns false'. Refute it at one input. -/
def fnCoinsFindWrong : ChangeSpec := { name := "fnCoinsFind", fn := fun _ => fun
  | [d] => { results := [.lit (.bool false)], args := [d] }
  | _ => none }
def FnCoinsFindWrongFalsely : Prop := fnCoinsFindRow.holds Try.pinned (OpenSpec.ofChange fnCoinsFindWrong)

/-- 'laws.FnCoinsAdd': WHATEVER THE INPUT: true; the input reads as it did. -/
def fnCoinsAddSpec : ChangeSpec := { name := "fnCoinsAdd", fn := fun _ => fun
  | [d] => { results := [.lit (.bool true)], args := [d] }
  | _ => none }
def fnCoinsAddRow : OpenClaim := { program := "ytohameoomlehlaa", sum := "7b015b49a295c0a02f41df8c733043b14786cdb24820cd31d893701d59e6df55", func := "loop.example/workchain/laws.FnCoinsAdd", spec := "fnCoinsAdd", unfollowed := true, recurses := true, plainKeys := false, apart := false }
def FnCoinsAddSaid : Prop := fnCoinsAddRow.holds Try.pinned (OpenSpec.ofChange fnCoinsAddSpec)

/-- ITS FALSE NEIGHBOUR: 'it returns false'. Refute it at one input. -/
def fnCoinsAddWrong : ChangeSpec := { name := "fnCoinsAdd", fn := fun _ => fun
  | [d] => { results := [.lit (.bool false)], args := [d] }
  | _ => none }
def FnCoinsAddWrongFalsely : Prop := fnCoinsAddRow.holds Try.pinned (OpenSpec.ofChange fnCoinsAddWrong)

/-- 'laws.FnCoinsSpend': WHATEVER THE INPUT: true; the input reads as it did. -/
def fnCoinsSpendSpec : ChangeSpec := { name := "fnCoinsSpend", fn := fun _ => fun
  | [d] => { results := [.lit (.bool true)], args := [d] }
  | _ => none }
def fnCoinsSpendRow : OpenClaim := { program := "ytohameoomlehlaa", sum := "7b015b49a295c0a02f41df8c733043b14786cdb24820cd31d893701d59e6df55", func := "loop.example/workchain/laws.FnCoinsSpend", spec := "fnCoinsSpend", unfollowed := true, recurses := true, plainKeys := false, apart := false }
def FnCoinsSpendSaid : Prop := fnCoinsSpendRow.holds Try.pinned (OpenSpec.ofChange fnCoinsSpendSpec)

/-- ITS FALSE NEIGHBOUR: 'it returns false'. Refute it at one input. -/
def fnCoinsSpendWrong : ChangeSpec := { name := "fnCoinsSpend", fn := fun _ => fun
  | [d] => { results := [.lit (.bool false)], args := [d] }
  | _ => none }
def FnCoinsSpendWrongFalsely : Prop := fnCoinsSpendRow.holds Try.pinned (OpenSpec.ofChange fnCoinsSpendWrong)

/-- 'laws.FnCoinsSum': WHATEVER THE INPUT: true; the input reads as it did. -/
def fnCoinsSumSpec : ChangeSpec := { name := "fnCoinsSum", fn := fun _ => fun
  | [d] => { results := [.lit (.bool true)], args := [d] }
  | _ => none }
def fnCoinsSumRow : OpenClaim := { program := "ytohameoomlehlaa", sum := "7b015b49a295c0a02f41df8c733043b14786cdb24820cd31d893701d59e6df55", func := "loop.example/workchain/laws.FnCoinsSum", spec := "fnCoinsSum", unfollowed := true, recurses := true, plainKeys := false, apart := false }
def FnCoinsSumSaid : Prop := fnCoinsSumRow.holds Try.pinned (OpenSpec.ofChange fnCoinsSumSpec)

/-- ITS FALSE NEIGHBOUR: 'it returns false'. Refute it at one input. -/
def fnCoinsSumWrong : ChangeSpec := { name := "fnCoinsSum", fn := fun _ => fun
  | [d] => { results := [.lit (.bool false)], args := [d] }
  | _ => none }
def FnCoinsSumWrongFalsely : Prop := fnCoinsSumRow.holds Try.pinned (OpenSpec.ofChange fnCoinsSumWrong)

/-- 'laws.FnCoinsBytes': WHATEVER THE INPUT: true; the input reads as it did. -/
def fnCoinsBytesSpec : ChangeSpec := { name := "fnCoinsBytes", fn := fun _ => fun
  | [d] => { results := [.lit (.bool true)], args := [d] }
  | _ => none }
def fnCoinsBytesRow : OpenClaim := { program := "ytohameoomlehlaa", sum := "7b015b49a295c0a02f41df8c733043b14786cdb24820cd31d893701d59e6df55", func := "loop.example/workchain/laws.FnCoinsBytes", spec := "fnCoinsBytes", inPlace := ["internal/abi.NoEscape"], unfollowed := true, recurses := true, plainKeys := false, apart := false }
def FnCoinsBytesSaid : Prop := fnCoinsBytesRow.holds Try.pinned (OpenSpec.ofChange fnCoinsBytesSpec)

/-- ITS FALSE NEIGHBOUR: 'it returns false'. Refute it at one input. -/
def fnCoinsBytesWrong : ChangeSpec := { name := "fnCoinsBytes", fn := fun _ => fun
  | [d] => { results := [.lit (.bool false)], args := [d] }
  | _ => none }
def FnCoinsBytesWrongFalsely : Prop := fnCoinsBytesRow.holds Try.pinned (OpenSpec.ofChange fnCoinsBytesWrong)

/-- 'laws.FnCoinsDigest': WHATEVER THE INPUT: true; the input reads as it did. -/
def fnCoinsDigestSpec : ChangeSpec := { name := "fnCoinsDigest", fn := fun _ => fun
  | [d] => { results := [.lit (.bool true)], args := [d] }
  | _ => none }
def fnCoinsDigestRow : OpenClaim := { program := "ytohameoomlehlaa", sum := "7b015b49a295c0a02f41df8c733043b14786cdb24820cd31d893701d59e6df55", func := "loop.example/workchain/laws.FnCoinsDigest", spec := "fnCoinsDigest", inPlace := ["internal/abi.NoEscape"], unfollowed := true, recurses := true, plainKeys := false, apart := false }
def FnCoinsDigestSaid : Prop := fnCoinsDigestRow.holds Try.pinned (OpenSpec.ofChange fnCoinsDigestSpec)

/-- ITS FALSE NEIGHBOUR: 'it returns false'. Refute it at one input. -/
def fnCoinsDigestWrong : ChangeSpec := { name := "fnCoinsDigest", fn := fun _ => fun
  | [d] => { results := [.lit (.bool false)], args := [d] }
  | _ => none }
def FnCoinsDigestWrongFalsely : Prop := fnCoinsDigestRow.holds Try.pinned (OpenSpec.ofChange fnCoinsDigestWrong)

/- THE SECOND FORM. 'bulk': how many values and letters a reading holds, each counted each time it is reached (what is shared counts as often as it is met; a slice's spare places count too). A statement '..UptoSaid' is the law's where the arguments, and the package variables that the reading takes, are together of bulk at most 1048576: NARROWER than '..Said'. Prove '..Said' where nothing that the law and all that it calls make is longer than what came in: it says more and counts as full. Else prove '..UptoSaid'. A law counts once. -/
mutual
def uptoBulk {H : Type} : DataW H → Nat
  | .lit (.string bytes) => bytes.length + 1
  | .lit _ => 1
  | .nil => 1
  | .ptr d => uptoBulk d + 1
  | .slice elems spare => uptoBulkAll elems + uptoBulkAll spare + 1
  | .agg parts => uptoBulkAll parts + 1
  | .iface _ d => uptoBulk d + 1
  | .map entries => uptoBulkEntries entries + 1
  | .held _ => 1
def uptoBulkAll {H : Type} : List (DataW H) → Nat
  | [] => 0
  | d :: r => uptoBulk d + uptoBulkAll r
def uptoBulkEntries {H : Type} : List (Lit × DataW H) → Nat
  | [] => 0
  | x :: r => uptoBulkEntry x + uptoBulkEntries r
def uptoBulkEntry {H : Type} : Lit × DataW H → Nat
  | (.string bytes, d) => bytes.length + uptoBulk d + 1
  | (_, d) => uptoBulk d + 1
 end
def uptoSmall : (H : Type) → List (DataW H) → Bool := fun _ ds => decide (uptoBulkAll ds ≤ 1048576)
def OpenSpec.upto (s : _root_.Go.ChangeSpec) : _root_.Go.OpenSpec := { _root_.Go.OpenSpec.ofChange s with cond := some uptoSmall }

/-- 'laws.FnCoinsOk', WHERE WHAT IT READS IS OF BULK AT MOST 1048576: true; the input reads as it did. -/
def fnCoinsOkUptoRow : OpenClaim := { program := "ytohameoomlehlaa", sum := "7b015b49a295c0a02f41df8c733043b14786cdb24820cd31d893701d59e6df55", func := "loop.example/workchain/laws.FnCoinsOk", spec := "fnCoinsOk", unfollowed := true, recurses := true, plainKeys := false, apart := false, narrowed := true }
def FnCoinsOkUptoSaid : Prop := fnCoinsOkUptoRow.holds Try.pinned (OpenSpec.upto fnCoinsOkSpec)

/-- 'laws.FnCoinsFind', WHERE WHAT IT READS IS OF BULK AT MOST 1048576: true; the input reads as it did. -/
def fnCoinsFindUptoRow : OpenClaim := { program := "ytohameoomlehlaa", sum := "7b015b49a295c0a02f41df8c733043b14786cdb24820cd31d893701d59e6df55", func := "loop.example/workchain/laws.FnCoinsFind", spec := "fnCoinsFind", unfollowed := true, recurses := true, plainKeys := false, apart := false, narrowed := true }
def FnCoinsFindUptoSaid : Prop := fnCoinsFindUptoRow.holds Try.pinned (OpenSpec.upto fnCoinsFindSpec)

/-- 'laws.FnCoinsAdd', WHERE WHAT IT READS IS OF BULK AT MOST 1048576: true; the input reads as it did. -/
def fnCoinsAddUptoRow : OpenClaim := { program := "ytohameoomlehlaa", sum := "7b015b49a295c0a02f41df8c733043b14786cdb24820cd31d893701d59e6df55", func := "loop.example/workchain/laws.FnCoinsAdd", spec := "fnCoinsAdd", unfollowed := true, recurses := true, plainKeys := false, apart := false, narrowed := true }
def FnCoinsAddUptoSaid : Prop := fnCoinsAddUptoRow.holds Try.pinned (OpenSpec.upto fnCoinsAddSpec)

/-- 'laws.FnCoinsSpend', WHERE WHAT IT READS IS OF BULK AT MOST 1048576: true; the input reads as it did. -/
def fnCoinsSpendUptoRow : OpenClaim := { program := "ytohameoomlehlaa", sum := "7b015b49a295c0a02f41df8c733043b14786cdb24820cd31d893701d59e6df55", func := "loop.example/workchain/laws.FnCoinsSpend", spec := "fnCoinsSpend", unfollowed := true, recurses := true, plainKeys := false, apart := false, narrowed := true }
def FnCoinsSpendUptoSaid : Prop := fnCoinsSpendUptoRow.holds Try.pinned (OpenSpec.upto fnCoinsSpendSpec)

/-- 'laws.FnCoinsSum', WHERE WHAT IT READS IS OF BULK AT MOST 1048576: true; the input reads as it did. -/
def fnCoinsSumUptoRow : OpenClaim := { program := "ytohameoomlehlaa", sum := "7b015b49a295c0a02f41df8c733043b14786cdb24820cd31d893701d59e6df55", func := "loop.example/workchain/laws.FnCoinsSum", spec := "fnCoinsSum", unfollowed := true, recurses := true, plainKeys := false, apart := false, narrowed := true }
def FnCoinsSumUptoSaid : Prop := fnCoinsSumUptoRow.holds Try.pinned (OpenSpec.upto fnCoinsSumSpec)

/-- 'laws.FnCoinsBytes', WHERE WHAT IT READS IS OF BULK AT MOST 1048576: true; the input reads as it did. -/
def fnCoinsBytesUptoRow : OpenClaim := { program := "ytohameoomlehlaa", sum := "7b015b49a295c0a02f41df8c733043b14786cdb24820cd31d893701d59e6df55", func := "loop.example/workchain/laws.FnCoinsBytes", spec := "fnCoinsBytes", inPlace := ["internal/abi.NoEscape"], unfollowed := true, recurses := true, plainKeys := false, apart := false, narrowed := true }
def FnCoinsBytesUptoSaid : Prop := fnCoinsBytesUptoRow.holds Try.pinned (OpenSpec.upto fnCoinsBytesSpec)

/-- 'laws.FnCoinsDigest', WHERE WHAT IT READS IS OF BULK AT MOST 1048576: true; the input reads as it did. -/
def fnCoinsDigestUptoRow : OpenClaim := { program := "ytohameoomlehlaa", sum := "7b015b49a295c0a02f41df8c733043b14786cdb24820cd31d893701d59e6df55", func := "loop.example/workchain/laws.FnCoinsDigest", spec := "fnCoinsDigest", inPlace := ["internal/abi.NoEscape"], unfollowed := true, recurses := true, plainKeys := false, apart := false, narrowed := true }
def FnCoinsDigestUptoSaid : Prop := fnCoinsDigestUptoRow.holds Try.pinned (OpenSpec.upto fnCoinsDigestSpec)

end Rows
end Go.Proofs.Ytohameoomlehlaa
