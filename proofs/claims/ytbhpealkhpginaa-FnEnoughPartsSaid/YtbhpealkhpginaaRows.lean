/-
  No cell of these rows narrows 'for every input' (looked for: loops, veiled, ifaces, maps, wideKeys, modest, calm, conditions, laid).
  DERIVED. THE GIVEN ROWS OF THIS SEAT. 9 by the template 'for every input the law returns true; each argument reads behind the call as it read before'; 0 by the template 'total and deterministic' (their statements: YtbhpealkhpginaaTotals.lean).
  GIVEN WITH THE SEED: the statements are not yours to turn. If you find one false, say at which input.
  Laid BY PROGRAM, IN A SANDBOX (cutbox-rows.mjs): the forced cells as the released guide's own fill.sh prints them over the translation 575d97c8bfefbd9e… (all of the seat's roots in one cut). By AI agents, Wed Nov 11 2026. No macro, syntax, notation, axiom, sorry.
-/
import Derived.Test.YtbhpealkhpginaaChecked
import GoSem.Claim
import GoSem.ClaimJoined
import GoSem.ClaimMapViews
import Derived.JoinedTies
import Derived.KernelRfl
namespace Go.Proofs.Ytbhpealkhpginaa
/- THE CELL 'sum', in the pinned program and in every row, IS THE sha256 OF THE DUMP (.gsa) THAT YtbhpealkhpginaaProg.lean LOADS. Nothing in Lean hashes anything: it is a label: what it is worth is what the hold of that sum in a sandbox is worth. -/
noncomputable def Try.pinned : Pinned := { name := "ytbhpealkhpginaa", sum := "575d97c8bfefbd9e93862fa3ad372d494a9ef0f3cba21d79482990c62a33766b", checked := Try.checked }
namespace Rows
def none {H : Type} : Left H := { results := [], args := [] }

/-- 'laws.FnSplitSecret': WHATEVER THE INPUT: true; the input reads as it did. -/
def fnSplitSecretSpec : ChangeSpec := { name := "fnSplitSecret", fn := fun _ => fun
  | [d] => { results := [.lit (.bool true)], args := [d] }
  | _ => none }
def fnSplitSecretRow : OpenClaim := { program := "ytbhpealkhpginaa", sum := "575d97c8bfefbd9e93862fa3ad372d494a9ef0f3cba21d79482990c62a33766b", func := "loop.example/workchain/laws.FnSplitSecret", spec := "fnSplitSecret", unfollowed := true, recurses := true, apart := false }
def FnSplitSecretSaid : Prop := fnSplitSecretRow.holds Try.pinned (OpenSpec.ofChange fnSplitSecretSpec)

/-- ITS FALSE NEIGHBOUR: 'it returns false'. Refute it at one input. -/
def fnSplitSecretWrong : ChangeSpec := { name := "fnSplitSecret", fn := fun _ => fun
  | [d] => { results := [.lit (.bool false)], args := [d] }
  | _ => none }
def FnSplitSecretWrongFalsely : Prop := fnSplitSecretRow.holds Try.pinned (OpenSpec.ofChange fnSplitSecretWrong)

/-- 'laws.FnJoinParts': WHATEVER THE INPUT: true; the input reads as it did. -/
def fnJoinPartsSpec : ChangeSpec := { name := "fnJoinParts", fn := fun _ => fun
  | [d] => { results := [.lit (.bool true)], args := [d] }
  | _ => none }
def fnJoinPartsRow : OpenClaim := { program := "ytbhpealkhpginaa", sum := "575d97c8bfefbd9e93862fa3ad372d494a9ef0f3cba21d79482990c62a33766b", func := "loop.example/workchain/laws.FnJoinParts", spec := "fnJoinParts", unfollowed := true, recurses := true, apart := false }
def FnJoinPartsSaid : Prop := fnJoinPartsRow.holds Try.pinned (OpenSpec.ofChange fnJoinPartsSpec)

/-- ITS FALSE NEIGHBOUR: 'it returns false'. Refute it at one input. -/
def fnJoinPartsWrong : ChangeSpec := { name := "fnJoinParts", fn := fun _ => fun
  | [d] => { results := [.lit (.bool false)], args := [d] }
  | _ => none }
def FnJoinPartsWrongFalsely : Prop := fnJoinPartsRow.holds Try.pinned (OpenSpec.ofChange fnJoinPartsWrong)

/-- 'laws.FnPartAt': WHATEVER THE INPUT: true; the input reads as it did. -/
def fnPartAtSpec : ChangeSpec := { name := "fnPartAt", fn := fun _ => fun
  | [d] => { results := [.lit (.bool true)], args := [d] }
  | _ => none }
def fnPartAtRow : OpenClaim := { program := "ytbhpealkhpginaa", sum := "575d97c8bfefbd9e93862fa3ad372d494a9ef0f3cba21d79482990c62a33766b", func := "loop.example/workchain/laws.FnPartAt", spec := "fnPartAt", unfollowed := true, recurses := true, apart := false }
def FnPartAtSaid : Prop := fnPartAtRow.holds Try.pinned (OpenSpec.ofChange fnPartAtSpec)

/-- ITS FALSE NEIGHBOUR: 'it returns false'. Refute it at one input. -/
def fnPartAtWrong : ChangeSpec := { name := "fnPartAt", fn := fun _ => fun
  | [d] => { results := [.lit (.bool false)], args := [d] }
  | _ => none }
def FnPartAtWrongFalsely : Prop := fnPartAtRow.holds Try.pinned (OpenSpec.ofChange fnPartAtWrong)

/-- 'laws.FnHideParts': WHATEVER THE INPUT: true; the input reads as it did. -/
def fnHidePartsSpec : ChangeSpec := { name := "fnHideParts", fn := fun _ => fun
  | [d] => { results := [.lit (.bool true)], args := [d] }
  | _ => none }
def fnHidePartsRow : OpenClaim := { program := "ytbhpealkhpginaa", sum := "575d97c8bfefbd9e93862fa3ad372d494a9ef0f3cba21d79482990c62a33766b", func := "loop.example/workchain/laws.FnHideParts", spec := "fnHideParts", unfollowed := true, recurses := true, apart := false }
def FnHidePartsSaid : Prop := fnHidePartsRow.holds Try.pinned (OpenSpec.ofChange fnHidePartsSpec)

/-- ITS FALSE NEIGHBOUR: 'it returns false'. Refute it at one input. -/
def fnHidePartsWrong : ChangeSpec := { name := "fnHideParts", fn := fun _ => fun
  | [d] => { results := [.lit (.bool false)], args := [d] }
  | _ => none }
def FnHidePartsWrongFalsely : Prop := fnHidePartsRow.holds Try.pinned (OpenSpec.ofChange fnHidePartsWrong)

/-- 'laws.FnEnoughParts': WHATEVER THE INPUT: true; the input reads as it did. -/
def fnEnoughPartsSpec : ChangeSpec := { name := "fnEnoughParts", fn := fun _ => fun
  | [d1, d2] => { results := [.lit (.bool true)], args := [d1, d2] }
  | _ => none }
def fnEnoughPartsRow : OpenClaim := { program := "ytbhpealkhpginaa", sum := "575d97c8bfefbd9e93862fa3ad372d494a9ef0f3cba21d79482990c62a33766b", func := "loop.example/workchain/laws.FnEnoughParts", spec := "fnEnoughParts", unfollowed := true, recurses := true, apart := false }
def FnEnoughPartsSaid : Prop := fnEnoughPartsRow.holds Try.pinned (OpenSpec.ofChange fnEnoughPartsSpec)

/-- ITS FALSE NEIGHBOUR: 'it returns false'. Refute it at one input. -/
def fnEnoughPartsWrong : ChangeSpec := { name := "fnEnoughParts", fn := fun _ => fun
  | [d1, d2] => { results := [.lit (.bool false)], args := [d1, d2] }
  | _ => none }
def FnEnoughPartsWrongFalsely : Prop := fnEnoughPartsRow.holds Try.pinned (OpenSpec.ofChange fnEnoughPartsWrong)

/-- 'laws.FnExactSplitSecret': WHATEVER THE INPUT: true; the input reads as it did. -/
def fnExactSplitSecretSpec : ChangeSpec := { name := "fnExactSplitSecret", fn := fun _ => fun
  | [d1, d2, d3] => { results := [.lit (.bool true)], args := [d1, d2, d3] }
  | _ => none }
def fnExactSplitSecretRow : OpenClaim := { program := "ytbhpealkhpginaa", sum := "575d97c8bfefbd9e93862fa3ad372d494a9ef0f3cba21d79482990c62a33766b", func := "loop.example/workchain/laws.FnExactSplitSecret", spec := "fnExactSplitSecret", unfollowed := true, recurses := true, apart := false }
def FnExactSplitSecretSaid : Prop := fnExactSplitSecretRow.holds Try.pinned (OpenSpec.ofChange fnExactSplitSecretSpec)

/-- ITS FALSE NEIGHBOUR: 'it returns false'. Refute it at one input. -/
def fnExactSplitSecretWrong : ChangeSpec := { name := "fnExactSplitSecret", fn := fun _ => fun
  | [d1, d2, d3] => { results := [.lit (.bool false)], args := [d1, d2, d3] }
  | _ => none }
def FnExactSplitSecretWrongFalsely : Prop := fnExactSplitSecretRow.holds Try.pinned (OpenSpec.ofChange fnExactSplitSecretWrong)

/-- 'laws.FnExactJoinParts': WHATEVER THE INPUT: true; the input reads as it did. -/
def fnExactJoinPartsSpec : ChangeSpec := { name := "fnExactJoinParts", fn := fun _ => fun
  | [d] => { results := [.lit (.bool true)], args := [d] }
  | _ => none }
def fnExactJoinPartsRow : OpenClaim := { program := "ytbhpealkhpginaa", sum := "575d97c8bfefbd9e93862fa3ad372d494a9ef0f3cba21d79482990c62a33766b", func := "loop.example/workchain/laws.FnExactJoinParts", spec := "fnExactJoinParts", unfollowed := true, recurses := true, apart := false }
def FnExactJoinPartsSaid : Prop := fnExactJoinPartsRow.holds Try.pinned (OpenSpec.ofChange fnExactJoinPartsSpec)

/-- ITS FALSE NEIGHBOUR: 'it returns false'. Refute it at one input. -/
def fnExactJoinPartsWrong : ChangeSpec := { name := "fnExactJoinParts", fn := fun _ => fun
  | [d] => { results := [.lit (.bool false)], args := [d] }
  | _ => none }
def FnExactJoinPartsWrongFalsely : Prop := fnExactJoinPartsRow.holds Try.pinned (OpenSpec.ofChange fnExactJoinPartsWrong)

/-- 'laws.FnExactPartAt': WHATEVER THE INPUT: true; the input reads as it did. -/
def fnExactPartAtSpec : ChangeSpec := { name := "fnExactPartAt", fn := fun _ => fun
  | [d1, d2] => { results := [.lit (.bool true)], args := [d1, d2] }
  | _ => none }
def fnExactPartAtRow : OpenClaim := { program := "ytbhpealkhpginaa", sum := "575d97c8bfefbd9e93862fa3ad372d494a9ef0f3cba21d79482990c62a33766b", func := "loop.example/workchain/laws.FnExactPartAt", spec := "fnExactPartAt", unfollowed := true, recurses := true, apart := false }
def FnExactPartAtSaid : Prop := fnExactPartAtRow.holds Try.pinned (OpenSpec.ofChange fnExactPartAtSpec)

/-- ITS FALSE NEIGHBOUR: 'it returns false'. Refute it at one input. -/
def fnExactPartAtWrong : ChangeSpec := { name := "fnExactPartAt", fn := fun _ => fun
  | [d1, d2] => { results := [.lit (.bool false)], args := [d1, d2] }
  | _ => none }
def FnExactPartAtWrongFalsely : Prop := fnExactPartAtRow.holds Try.pinned (OpenSpec.ofChange fnExactPartAtWrong)

/-- 'laws.FnExactHideParts': WHATEVER THE INPUT: true; the input reads as it did. -/
def fnExactHidePartsSpec : ChangeSpec := { name := "fnExactHideParts", fn := fun _ => fun
  | [d1, d2, d3] => { results := [.lit (.bool true)], args := [d1, d2, d3] }
  | _ => none }
def fnExactHidePartsRow : OpenClaim := { program := "ytbhpealkhpginaa", sum := "575d97c8bfefbd9e93862fa3ad372d494a9ef0f3cba21d79482990c62a33766b", func := "loop.example/workchain/laws.FnExactHideParts", spec := "fnExactHideParts", unfollowed := true, recurses := true, apart := false }
def FnExactHidePartsSaid : Prop := fnExactHidePartsRow.holds Try.pinned (OpenSpec.ofChange fnExactHidePartsSpec)

/-- ITS FALSE NEIGHBOUR: 'it returns false'. Refute it at one input. -/
def fnExactHidePartsWrong : ChangeSpec := { name := "fnExactHideParts", fn := fun _ => fun
  | [d1, d2, d3] => { results := [.lit (.bool false)], args := [d1, d2, d3] }
  | _ => none }
def FnExactHidePartsWrongFalsely : Prop := fnExactHidePartsRow.holds Try.pinned (OpenSpec.ofChange fnExactHidePartsWrong)

/- THE SECOND FORM. 'bulk': how many values and letters a reading holds, each counted each time it is reached (what is shared counts as often as it is met; a slice's spare places count too). A statement '..UptoSaid' is the law's where the arguments, and the package variables that the reading takes, are together of bulk at most 1048576: NARROWER than '..Said'. Prove '..Said' where nothing that the law and all that it calls make is longer than what came in: it says more and counts as full. Else prove '..UptoSaid'. A law counts once. -/
mutual
def uptoBulk {H : Type} : DataW H → Nat
  | .lit (.string bytes) => bytes.length + 1
  | .lit _ => 1
  | .nil => 1
  | .ptr d => uptoBulk d + 1
  | .slice elems spare => uptoBulkAll elems + uptoBulkAll spare + 1
  | .agg parts => uptoBulkAll parts + 1
  | .iface _ d => uptoBulk d + 1
  | .map entries => uptoBulkEntries entries + 1
  | .held _ => 1
def uptoBulkAll {H : Type} : List (DataW H) → Nat
  | [] => 0
  | d :: r => uptoBulk d + uptoBulkAll r
def uptoBulkEntries {H : Type} : List (Lit × DataW H) → Nat
  | [] => 0
  | x :: r => uptoBulkEntry x + uptoBulkEntries r
def uptoBulkEntry {H : Type} : Lit × DataW H → Nat
  | (.string bytes, d) => bytes.length + uptoBulk d + 1
  | (_, d) => uptoBulk d + 1
 end
def uptoSmall : (H : Type) → List (DataW H) → Bool := fun _ ds => decide (uptoBulkAll ds ≤ 1048576)
def OpenSpec.upto (s : _root_.Go.ChangeSpec) : _root_.Go.OpenSpec := { _root_.Go.OpenSpec.ofChange s with cond := some uptoSmall }

/-- 'laws.FnSplitSecret', WHERE WHAT IT READS IS OF BULK AT MOST 1048576: true; the input reads as it did. -/
def fnSplitSecretUptoRow : OpenClaim := { program := "ytbhpealkhpginaa", sum := "575d97c8bfefbd9e93862fa3ad372d494a9ef0f3cba21d79482990c62a33766b", func := "loop.example/workchain/laws.FnSplitSecret", spec := "fnSplitSecret", unfollowed := true, recurses := true, apart := false, narrowed := true }
def FnSplitSecretUptoSaid : Prop := fnSplitSecretUptoRow.holds Try.pinned (OpenSpec.upto fnSplitSecretSpec)

/-- 'laws.FnJoinParts', WHERE WHAT IT READS IS OF BULK AT MOST 1048576: true; the input reads as it did. -/
def fnJoinPartsUptoRow : OpenClaim := { program := "ytbhpealkhpginaa", sum := "575d97c8bfefbd9e93862fa3ad372d494a9ef0f3cba21d79482990c62a33766b", func := "loop.example/workchain/laws.FnJoinParts", spec := "fnJoinParts", unfollowed := true, recurses := true, apart := false, narrowed := true }
def FnJoinPartsUptoSaid : Prop := fnJoinPartsUptoRow.holds Try.pinned (OpenSpec.upto fnJoinPartsSpec)

/-- 'laws.FnPartAt', WHERE WHAT IT READS IS OF BULK AT MOST 1048576: true; the input reads as it did. -/
def fnPartAtUptoRow : OpenClaim := { program := "ytbhpealkhpginaa", sum := "575d97c8bfefbd9e93862fa3ad372d494a9ef0f3cba21d79482990c62a33766b", func := "loop.example/workchain/laws.FnPartAt", spec := "fnPartAt", unfollowed := true, recurses := true, apart := false, narrowed := true }
def FnPartAtUptoSaid : Prop := fnPartAtUptoRow.holds Try.pinned (OpenSpec.upto fnPartAtSpec)

/-- 'laws.FnHideParts', WHERE WHAT IT READS IS OF BULK AT MOST 1048576: true; the input reads as it did. -/
def fnHidePartsUptoRow : OpenClaim := { program := "ytbhpealkhpginaa", sum := "575d97c8bfefbd9e93862fa3ad372d494a9ef0f3cba21d79482990c62a33766b", func := "loop.example/workchain/laws.FnHideParts", spec := "fnHideParts", unfollowed := true, recurses := true, apart := false, narrowed := true }
def FnHidePartsUptoSaid : Prop := fnHidePartsUptoRow.holds Try.pinned (OpenSpec.upto fnHidePartsSpec)

/-- 'laws.FnEnoughParts', WHERE WHAT IT READS IS OF BULK AT MOST 1048576: true; the input reads as it did. -/
def fnEnoughPartsUptoRow : OpenClaim := { program := "ytbhpealkhpginaa", sum := "575d97c8bfefbd9e93862fa3ad372d494a9ef0f3cba21d79482990c62a33766b", func := "loop.example/workchain/laws.FnEnoughParts", spec := "fnEnoughParts", unfollowed := true, recurses := true, apart := false, narrowed := true }
def FnEnoughPartsUptoSaid : Prop := fnEnoughPartsUptoRow.holds Try.pinned (OpenSpec.upto fnEnoughPartsSpec)

/-- 'laws.FnExactSplitSecret', WHERE WHAT IT READS IS OF BULK AT MOST 1048576: true; the input reads as it did. -/
def fnExactSplitSecretUptoRow : OpenClaim := { program := "ytbhpealkhpginaa", sum := "575d97c8bfefbd9e93862fa3ad372d494a9ef0f3cba21d79482990c62a33766b", func := "loop.example/workchain/laws.FnExactSplitSecret", spec := "fnExactSplitSecret", unfollowed := true, recurses := true, apart := false, narrowed := true }
def FnExactSplitSecretUptoSaid : Prop := fnExactSplitSecretUptoRow.holds Try.pinned (OpenSpec.upto fnExactSplitSecretSpec)

/-- 'laws.FnExactJoinParts', WHERE WHAT IT READS IS OF BULK AT MOST 1048576: true; the input reads as it did. -/
def fnExactJoinPartsUptoRow : OpenClaim := { program := "ytbhpealkhpginaa", sum := "575d97c8bfefbd9e93862fa3ad372d494a9ef0f3cba21d79482990c62a33766b", func := "loop.example/workchain/laws.FnExactJoinParts", spec := "fnExactJoinParts", unfollowed := true, recurses := true, apart := false, narrowed := true }
def FnExactJoinPartsUptoSaid : Prop := fnExactJoinPartsUptoRow.holds Try.pinned (OpenSpec.upto fnExactJoinPartsSpec)

/-- 'laws.FnExactPartAt', WHERE WHAT IT READS IS OF BULK AT MOST 1048576: true; the input reads as it did. -/
def fnExactPartAtUptoRow : OpenClaim := { program := "ytbhpealkhpginaa", sum := "575d97c8bfefbd9e93862fa3ad372d494a9ef0f3cba21d79482990c62a33766b", func := "loop.example/workchain/laws.FnExactPartAt", spec := "fnExactPartAt", unfollowed := true, recurses := true, apart := false, narrowed := true }
def FnExactPartAtUptoSaid : Prop := fnExactPartAtUptoRow.holds Try.pinned (OpenSpec.upto fnExactPartAtSpec)

/-- 'laws.FnExactHideParts', WHERE WHAT IT READS IS OF BULK AT MOST 1048576: true; the input reads as it did. -/
def fnExactHidePartsUptoRow : OpenClaim := { program := "ytbhpealkhpginaa", sum := "575d97c8bfefbd9e93862fa3ad372d494a9ef0f3cba21d79482990c62a33766b", func := "loop.example/workchain/laws.FnExactHideParts", spec := "fnExactHideParts", unfollowed := true, recurses := true, apart := false, narrowed := true }
def FnExactHidePartsUptoSaid : Prop := fnExactHidePartsUptoRow.holds Try.pinned (OpenSpec.upto fnExactHidePartsSpec)

end Rows
end Go.Proofs.Ytbhpealkhpginaa
