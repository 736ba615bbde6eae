/-
  No cell of these rows narrows 'for every input' (looked for: loops, veiled, ifaces, maps, wideKeys, modest, calm, conditions, laid).
  DERIVED. THE GIVEN ROWS OF THIS SEAT. 8 by the template 'for every input the law returns true; each argument reads behind the call as it read before'; 0 by the template 'total and deterministic' (their statements: YtohameoomlehlabTotals.lean).
  GIVEN WITH THE SEED: the statements are not yours to turn. If you find one false, say at which input.
  Laid BY PROGRAM, IN A SANDBOX (cutbox-rows.mjs): the forced cells as the released guide's own fill.sh prints them over the translation 2d0bb99cd4a29ea3… (all of the seat's roots in one cut). By AI agents, Wed Nov 11 2026. No macro, syntax, notation, axiom, sorry.
-/
import Derived.Test.YtohameoomlehlabChecked
import GoSem.Claim
import GoSem.ClaimJoined
import GoSem.ClaimMapViews
import Derived.JoinedTies
import Derived.KernelRfl
namespace Go.Proofs.Ytohameoomlehlab
/- THE CELL 'sum', in the pinned program and in every row, IS THE sha256 OF THE DUMP (.gsa) THAT YtohameoomlehlabProg.lean LOADS. Nothing in Lean hashes anything: it is a label: what it is worth is what the hold of that sum in a sandbox is worth. -/
noncomputable def Try.pinned : Pinned := { name := "ytohameoomlehlab", sum := "2d0bb99cd4a29ea3425279745fbaa37529ae1c5642b90074645bf40be2d4121c", checked := Try.checked }
namespace Rows
def none {H : Type} : Left H := { results := [], args := [] }

/-- 'laws.FnExactCoinsOk': WHATEVER THE INPUT: true; the input reads as it did. -/
def fnExactCoinsOkSpec : ChangeSpec := { name := "fnExactCoinsOk", fn := fun _ => fun
  | [d] => { results := [.lit (.bool true)], args := [d] }
  | _ => none }
def fnExactCoinsOkRow : OpenClaim := { program := "ytohameoomlehlab", sum := "2d0bb99cd4a29ea3425279745fbaa37529ae1c5642b90074645bf40be2d4121c", func := "loop.example/workchain/laws.FnExactCoinsOk", spec := "fnExactCoinsOk", unfollowed := true, recurses := true, plainKeys := false, apart := false }
def FnExactCoinsOkSaid : Prop := fnExactCoinsOkRow.holds Try.pinned (OpenSpec.ofChange fnExactCoinsOkSpec)

/-- ITS FALSE NEIGHBOUR: 'it returns false'. Refute it at one input. -/
def fnExactCoinsOkWrong : ChangeSpec := { name := "fnExactCoinsOk", fn := fun _ => fun
  | [d] => { results := [.lit (.bool false)], args := [d] }
  | _ => none }
def FnExactCoinsOkWrongFalsely : Prop := fnExactCoinsOkRow.holds Try.pinned (OpenSpec.ofChange fnExactCoinsOkWrong)

/-- 'laws.FnExactCoinsFind': WHATEVER THE INPUT: true; the input reads as it did. -/
def fnExactCoinsFindSpec : ChangeSpec := { name := "fnExactCoinsFind", fn := fun _ => fun
  | [d1, d2, d3] => { results := [.lit (.bool true)], args := [d1, d2, d3] }
  | _ => none }
def fnExactCoinsFindRow : OpenClaim := { program := "ytohameoomlehlab", sum := "2d0bb99cd4a29ea3425279745fbaa37529ae1c5642b90074645bf40be2d4121c", func := "loop.example/workchain/laws.FnExactCoinsFind", spec := "fnExactCoinsFind", unfollowed := true, recurses := true, plainKeys := false, apart := false }
def FnExactCoinsFindSaid : Prop := fnExactCoinsFindRow.holds Try.pinned (OpenSpec.ofChange fnExactCoinsFindSpec)

/-- ITS FALSE NEIGHBOUR: 'it returns false'. Refute it at one input. -/
def fnExactCoinsFindWrong : ChangeSpec := { name := "fnExactCoinsFind", fn := fun _ => fun
  | [d1, d2, d3] => { results := [.lit (.bool false)], args := [d1, d2, d3] }
  | _ => none }
def FnExactCoinsFindWrongFalsely : Prop := fnExactCoinsFindRow.holds Try.pinned (OpenSpec.ofChange fnExactCoinsFindWrong)

/-- 'laws.FnExactCoinsAdd': WHATEVER THE INPUT: true; the input reads as it did. -/
def fnExactCoinsAddSpec : ChangeSpec := { name := "fnExactCoinsAdd", fn := fun _ => fun
  | [d1, d2] => { results := [.lit (.bool true)], args := [d1, d2] }
  | _ => none }
def fnExactCoinsAddRow : OpenClaim := { program := "ytohameoomlehlab", sum := "2d0bb99cd4a29ea3425279745fbaa37529ae1c5642b90074645bf40be2d4121c", func := "loop.example/workchain/laws.FnExactCoinsAdd", spec := "fnExactCoinsAdd", unfollowed := true, recurses := true, plainKeys := false, apart := false }
def FnExactCoinsAddSaid : Prop := fnExactCoinsAddRow.holds Try.pinned (OpenSpec.ofChange fnExactCoinsAddSpec)

/-- ITS FALSE NEIGHBOUR: 'it returns false'. Refute it at one input. -/
def fnExactCoinsAddWrong : ChangeSpec := { name := "fnExactCoinsAdd", fn := fun _ => fun
  | [d1, d2] => { results := [.lit (.bool false)], args := [d1, d2] }
  | _ => none }
def FnExactCoinsAddWrongFalsely : Prop := fnExactCoinsAddRow.holds Try.pinned (OpenSpec.ofChange fnExactCoinsAddWrong)

/-- 'laws.FnExactCoinsSpend': WHATEVER THE INPUT: true; the input reads as it did. -/
def fnExactCoinsSpendSpec : ChangeSpec := { name := "fnExactCoinsSpend", fn := fun _ => fun
  | [d1, d2, d3] => { results := [.lit (.bool true)], args := [d1, d2, d3] }
  | _ => none }
def fnExactCoinsSpendRow : OpenClaim := { program := "ytohameoomlehlab", sum := "2d0bb99cd4a29ea3425279745fbaa37529ae1c5642b90074645bf40be2d4121c", func := "loop.example/workchain/laws.FnExactCoinsSpend", spec := "fnExactCoinsSpend", unfollowed := true, recurses := true, plainKeys := false, apart := false }
def FnExactCoinsSpendSaid : Prop := fnExactCoinsSpendRow.holds Try.pinned (OpenSpec.ofChange fnExactCoinsSpendSpec)

/-- ITS FALSE NEIGHBOUR: 'it returns false'. Refute it at one input. -/
def fnExactCoinsSpendWrong : ChangeSpec := { name := "fnExactCoinsSpend", fn := fun _ => fun
  | [d1, d2, d3] => { results := [.lit (.bool false)], args := [d1, d2, d3] }
  | _ => none }
def FnExactCoinsSpendWrongFalsely : Prop := fnExactCoinsSpendRow.holds Try.pinned (OpenSpec.ofChange fnExactCoinsSpendWrong)

/-- 'laws.FnExactCoinsSum': WHATEVER THE INPUT: true; the input reads as it did. -/
def fnExactCoinsSumSpec : ChangeSpec := { name := "fnExactCoinsSum", fn := fun _ => fun
  | [d] => { results := [.lit (.bool true)], args := [d] }
  | _ => none }
def fnExactCoinsSumRow : OpenClaim := { program := "ytohameoomlehlab", sum := "2d0bb99cd4a29ea3425279745fbaa37529ae1c5642b90074645bf40be2d4121c", func := "loop.example/workchain/laws.FnExactCoinsSum", spec := "fnExactCoinsSum", unfollowed := true, recurses := true, plainKeys := false, apart := false }
def FnExactCoinsSumSaid : Prop := fnExactCoinsSumRow.holds Try.pinned (OpenSpec.ofChange fnExactCoinsSumSpec)

/-- ITS FALSE NEIGHBOUR: 'it returns false'. Refute it at one input. -/
def fnExactCoinsSumWrong : ChangeSpec := { name := "fnExactCoinsSum", fn := fun _ => fun
  | [d] => { results := [.lit (.bool false)], args := [d] }
  | _ => none }
def FnExactCoinsSumWrongFalsely : Prop := fnExactCoinsSumRow.holds Try.pinned (OpenSpec.ofChange fnExactCoinsSumWrong)

/-- 'laws.FnExactCoinsBytes': WHATEVER THE INPUT: true; the input reads as it did. -/
def fnExactCoinsBytesSpec : ChangeSpec := { name := "fnExactCoinsBytes", fn := fun _ => fun
  | [d] => { results := [.lit (.bool true)], args := [d] }
  | _ => none }
def fnExactCoinsBytesRow : OpenClaim := { program := "ytohameoomlehlab", sum := "2d0bb99cd4a29ea3425279745fbaa37529ae1c5642b90074645bf40be2d4121c", func := "loop.example/workchain/laws.FnExactCoinsBytes", spec := "fnExactCoinsBytes", inPlace := ["internal/abi.NoEscape"], unfollowed := true, recurses := true, plainKeys := false, apart := false }
def FnExactCoinsBytesSaid : Prop := fnExactCoinsBytesRow.holds Try.pinned (OpenSpec.ofChange fnExactCoinsBytesSpec)

/-- ITS FALSE NEIGHBOUR: 'it returns false'. Refute it at one input. -/
def fnExactCoinsBytesWrong : ChangeSpec := { name := "fnExactCoinsBytes", fn := fun _ => fun
  | [d] => { results := [.lit (.bool false)], args := [d] }
  | _ => none }
def FnExactCoinsBytesWrongFalsely : Prop := fnExactCoinsBytesRow.holds Try.pinned (OpenSpec.ofChange fnExactCoinsBytesWrong)

/-- 'laws.FnExactCoinsRead': WHATEVER THE INPUT: true; the input reads as it did. -/
def fnExactCoinsReadSpec : ChangeSpec := { name := "fnExactCoinsRead", fn := fun _ => fun
  | [d] => { results := [.lit (.bool true)], args := [d] }
  | _ => none }
def fnExactCoinsReadRow : OpenClaim := { program := "ytohameoomlehlab", sum := "2d0bb99cd4a29ea3425279745fbaa37529ae1c5642b90074645bf40be2d4121c", func := "loop.example/workchain/laws.FnExactCoinsRead", spec := "fnExactCoinsRead", unfollowed := true, recurses := true, plainKeys := false, apart := false }
def FnExactCoinsReadSaid : Prop := fnExactCoinsReadRow.holds Try.pinned (OpenSpec.ofChange fnExactCoinsReadSpec)

/-- ITS FALSE NEIGHBOUR: 'it returns false'. Refute it at one input. -/
def fnExactCoinsReadWrong : ChangeSpec := { name := "fnExactCoinsRead", fn := fun _ => fun
  | [d] => { results := [.lit (.bool false)], args := [d] }
  | _ => none }
def FnExactCoinsReadWrongFalsely : Prop := fnExactCoinsReadRow.holds Try.pinned (OpenSpec.ofChange fnExactCoinsReadWrong)

/-- 'laws.FnExactCoinsDigest': WHATEVER THE INPUT: true; the input reads as it did. -/
def fnExactCoinsDigestSpec : ChangeSpec := { name := "fnExactCoinsDigest", fn := fun _ => fun
  | [d] => { results := [.lit (.bool true)], args := [d] }
  | _ => none }
def fnExactCoinsDigestRow : OpenClaim := { program := "ytohameoomlehlab", sum := "2d0bb99cd4a29ea3425279745fbaa37529ae1c5642b90074645bf40be2d4121c", func := "loop.example/workchain/laws.FnExactCoinsDigest", spec := "fnExactCoinsDigest", inPlace := ["internal/abi.NoEscape"], unfollowed := true, recurses := true, plainKeys := false, apart := false }
def FnExactCoinsDigestSaid : Prop := fnExactCoinsDigestRow.holds Try.pinned (OpenSpec.ofChange fnExactCoinsDigestSpec)

/-- ITS FALSE NEIGHBOUR: 'it returns false'. Refute it at one input. -/
def fnExactCoinsDigestWrong : ChangeSpec := { name := "fnExactCoinsDigest", fn := fun _ => fun
  | [d] => { results := [.lit (.bool false)], args := [d] }
  | _ => none }
def FnExactCoinsDigestWrongFalsely : Prop := fnExactCoinsDigestRow.holds Try.pinned (OpenSpec.ofChange fnExactCoinsDigestWrong)

/- THE SECOND FORM. 'bulk': how many values and letters a reading holds, each counted each time it is reached (what is shared counts as often as it is met; a slice's spare places count too). A statement '..UptoSaid' is the law's where the arguments, and the package variables that the reading takes, are together of bulk at most 1048576: NARROWER than '..Said'. Prove '..Said' where nothing that the law and all that it calls make is longer than what came in: it says more and counts as full. Else prove '..UptoSaid'. A law counts once. -/
mutual
def uptoBulk {H : Type} : DataW H → Nat
  | .lit (.string bytes) => bytes.length + 1
  | .lit _ => 1
  | .nil => 1
  | .ptr d => uptoBulk d + 1
  | .slice elems spare => uptoBulkAll elems + uptoBulkAll spare + 1
  | .agg parts => uptoBulkAll parts + 1
  | .iface _ d => uptoBulk d + 1
  | .map entries => uptoBulkEntries entries + 1
  | .held _ => 1
def uptoBulkAll {H : Type} : List (DataW H) → Nat
  | [] => 0
  | d :: r => uptoBulk d + uptoBulkAll r
def uptoBulkEntries {H : Type} : List (Lit × DataW H) → Nat
  | [] => 0
  | x :: r => uptoBulkEntry x + uptoBulkEntries r
def uptoBulkEntry {H : Type} : Lit × DataW H → Nat
  | (.string bytes, d) => bytes.length + uptoBulk d + 1
  | (_, d) => uptoBulk d + 1
 end
def uptoSmall : (H : Type) → List (DataW H) → Bool := fun _ ds => decide (uptoBulkAll ds ≤ 1048576)
def OpenSpec.upto (s : _root_.Go.ChangeSpec) : _root_.Go.OpenSpec := { _root_.Go.OpenSpec.ofChange s with cond := some uptoSmall }

/-- 'laws.FnExactCoinsOk', WHERE WHAT IT READS IS OF BULK AT MOST 1048576: true; the input reads as it did. -/
def fnExactCoinsOkUptoRow : OpenClaim := { program := "ytohameoomlehlab", sum := "2d0bb99cd4a29ea3425279745fbaa37529ae1c5642b90074645bf40be2d4121c", func := "loop.example/workchain/laws.FnExactCoinsOk", spec := "fnExactCoinsOk", unfollowed := true, recurses := true, plainKeys := false, apart := false, narrowed := true }
def FnExactCoinsOkUptoSaid : Prop := fnExactCoinsOkUptoRow.holds Try.pinned (OpenSpec.upto fnExactCoinsOkSpec)

/-- 'laws.FnExactCoinsFind', WHERE WHAT IT READS IS OF BULK AT MOST 1048576: true; the input reads as it did. -/
def fnExactCoinsFindUptoRow : OpenClaim := { program := "ytohameoomlehlab", sum := "2d0bb99cd4a29ea3425279745fbaa37529ae1c5642b90074645bf40be2d4121c", func := "loop.example/workchain/laws.FnExactCoinsFind", spec := "fnExactCoinsFind", unfollowed := true, recurses := true, plainKeys := false, apart := false, narrowed := true }
def FnExactCoinsFindUptoSaid : Prop := fnExactCoinsFindUptoRow.holds Try.pinned (OpenSpec.upto fnExactCoinsFindSpec)

/-- 'laws.FnExactCoinsAdd', WHERE WHAT IT READS IS OF BULK AT MOST 1048576: true; the input reads as it did. -/
def fnExactCoinsAddUptoRow : OpenClaim := { program := "ytohameoomlehlab", sum := "2d0bb99cd4a29ea3425279745fbaa37529ae1c5642b90074645bf40be2d4121c", func := "loop.example/workchain/laws.FnExactCoinsAdd", spec := "fnExactCoinsAdd", unfollowed := true, recurses := true, plainKeys := false, apart := false, narrowed := true }
def FnExactCoinsAddUptoSaid : Prop := fnExactCoinsAddUptoRow.holds Try.pinned (OpenSpec.upto fnExactCoinsAddSpec)

/-- 'laws.FnExactCoinsSpend', WHERE WHAT IT READS IS OF BULK AT MOST 1048576: true; the input reads as it did. -/
def fnExactCoinsSpendUptoRow : OpenClaim := { program := "ytohameoomlehlab", sum := "2d0bb99cd4a29ea3425279745fbaa37529ae1c5642b90074645bf40be2d4121c", func := "loop.example/workchain/laws.FnExactCoinsSpend", spec := "fnExactCoinsSpend", unfollowed := true, recurses := true, plainKeys := false, apart := false, narrowed := true }
def FnExactCoinsSpendUptoSaid : Prop := fnExactCoinsSpendUptoRow.holds Try.pinned (OpenSpec.upto fnExactCoinsSpendSpec)

/-- 'laws.FnExactCoinsSum', WHERE WHAT IT READS IS OF BULK AT MOST 1048576: true; the input reads as it did. -/
def fnExactCoinsSumUptoRow : OpenClaim := { program := "ytohameoomlehlab", sum := "2d0bb99cd4a29ea3425279745fbaa37529ae1c5642b90074645bf40be2d4121c", func := "loop.example/workchain/laws.FnExactCoinsSum", spec := "fnExactCoinsSum", unfollowed := true, recurses := true, plainKeys := false, apart := false, narrowed := true }
def FnExactCoinsSumUptoSaid : Prop := fnExactCoinsSumUptoRow.holds Try.pinned (OpenSpec.upto fnExactCoinsSumSpec)

/-- 'laws.FnExactCoinsBytes', WHERE WHAT IT READS IS OF BULK AT MOST 1048576: true; the input reads as it did. -/
def fnExactCoinsBytesUptoRow : OpenClaim := { program := "ytohameoomlehlab", sum := "2d0bb99cd4a29ea3425279745fbaa37529ae1c5642b90074645bf40be2d4121c", func := "loop.example/workchain/laws.FnExactCoinsBytes", spec := "fnExactCoinsBytes", inPlace := ["internal/abi.NoEscape"], unfollowed := true, recurses := true, plainKeys := false, apart := false, narrowed := true }
def FnExactCoinsBytesUptoSaid : Prop := fnExactCoinsBytesUptoRow.holds Try.pinned (OpenSpec.upto fnExactCoinsBytesSpec)

/-- 'laws.FnExactCoinsRead', WHERE WHAT IT READS IS OF BULK AT MOST 1048576: true; the input reads as it did. -/
def fnExactCoinsReadUptoRow : OpenClaim := { program := "ytohameoomlehlab", sum := "2d0bb99cd4a29ea3425279745fbaa37529ae1c5642b90074645bf40be2d4121c", func := "loop.example/workchain/laws.FnExactCoinsRead", spec := "fnExactCoinsRead", unfollowed := true, recurses := true, plainKeys := false, apart := false, narrowed := true }
def FnExactCoinsReadUptoSaid : Prop := fnExactCoinsReadUptoRow.holds Try.pinned (OpenSpec.upto fnExactCoinsReadSpec)

/-- 'laws.FnExactCoinsDigest', WHERE WHAT IT READS IS OF BULK AT MOST 1048576: true; the input reads as it did. -/
def fnExactCoinsDigestUptoRow : OpenClaim := { program := "ytohameoomlehlab", sum := "2d0bb99cd4a29ea3425279745fbaa37529ae1c5642b90074645bf40be2d4121c", func := "loop.example/workchain/laws.FnExactCoinsDigest", spec := "fnExactCoinsDigest", inPlace := ["internal/abi.NoEscape"], unfollowed := true, recurses := true, plainKeys := false, apart := false, narrowed := true }
def FnExactCoinsDigestUptoSaid : Prop := fnExactCoinsDigestUptoRow.holds Try.pinned (OpenSpec.upto fnExactCoinsDigestSpec)

end Rows
end Go.Proofs.Ytohameoomlehlab
