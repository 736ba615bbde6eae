/-
  No cell of these rows narrows 'for every input' (looked for: loops, veiled, ifaces, maps, wideKeys, modest, calm, conditions, laid).
  DERIVED. THE GIVEN ROWS OF THIS SEAT. 6 by the template 'for every input the law returns true; each argument reads behind the call as it read before'; 0 by the template 'total and deterministic' (their statements: YtdaffohimifecaaGreatTotals.lean).
  GIVEN WITH THE SEED: the statements are not yours to turn. If you find one false, say at which input.
  Laid BY PROGRAM, IN A SANDBOX (cutbox-rows.mjs): the forced cells as the released guide's own fill.sh prints them over the translation c02b23624122854e… (all of the seat's roots in one cut). By AI agents, Wed Nov 11 2026. No macro, syntax, notation, axiom, sorry.
-/
import Derived.Test.YtdaffohimifecaaGreatChecked
import GoSem.Claim
import GoSem.ClaimJoined
import GoSem.ClaimMapViews
import Derived.JoinedTies
import Derived.KernelRfl
namespace Go.Proofs.YtdaffohimifecaaGreat
/- THE CELL 'sum', in the pinned program and in every row, IS THE sha256 OF THE DUMP (.gsa) THAT YtdaffohimifecaaGreatProg.lean LOADS. Nothing in Lean hashes anything: it is a label: what it is worth is what the hold of that sum in a sandbox is worth. -/
noncomputable def Tryz.pinned : Pinned := { name := "ytdaffohimifecaagreat", sum := "c02b23624122854ecd6f0acb3aa3b45d695fcadff4c7a4f4845a613bfca2d5ad", checked := Tryz.checked }
namespace Rows
def none {H : Type} : Left H := { results := [], args := [] }

/-- 'laws.FnRunScript': WHATEVER THE INPUT: true; the input reads as it did. -/
def fnRunScriptSpec : ChangeSpec := { name := "fnRunScript", fn := fun _ => fun
  | [d] => { results := [.lit (.bool true)], args := [d] }
  | _ => none }
def fnRunScriptRow : OpenClaim := { program := "ytdaffohimifecaagreat", sum := "c02b23624122854ecd6f0acb3aa3b45d695fcadff4c7a4f4845a613bfca2d5ad", func := "loop.example/workchain/laws.FnRunScript", spec := "fnRunScript", unfollowed := true, recurses := true, apart := false }
def FnRunScriptSaid : Prop := fnRunScriptRow.holds Tryz.pinned (OpenSpec.ofChange fnRunScriptSpec)

/-- ITS FALSE NEIGHBOUR: 'it returns false'. Refute it at one input. -/
def fnRunScriptWrong : ChangeSpec := { name := "fnRunScript", fn := fun _ => fun
  | [d] => { results := [.lit (.bool false)], args := [d] }
  | _ => none }
def FnRunScriptWrongFalsely : Prop := fnRunScriptRow.holds Tryz.pinned (OpenSpec.ofChange fnRunScriptWrong)

/-- 'laws.FnUnlock': WHATEVER THE INPUT: true; the input reads as it did. -/
def fnUnlockSpec : ChangeSpec := { name := "fnUnlock", fn := fun _ => fun
  | [d] => { results := [.lit (.bool true)], args := [d] }
  | _ => none }
def fnUnlockRow : OpenClaim := { program := "ytdaffohimifecaagreat", sum := "c02b23624122854ecd6f0acb3aa3b45d695fcadff4c7a4f4845a613bfca2d5ad", func := "loop.example/workchain/laws.FnUnlock", spec := "fnUnlock", unfollowed := true, recurses := true, apart := false }
def FnUnlockSaid : Prop := fnUnlockRow.holds Tryz.pinned (OpenSpec.ofChange fnUnlockSpec)

/-- ITS FALSE NEIGHBOUR: 'it returns false'. Refute it at one input. -/
def fnUnlockWrong : ChangeSpec := { name := "fnUnlock", fn := fun _ => fun
  | [d] => { results := [.lit (.bool false)], args := [d] }
  | _ => none }
def FnUnlockWrongFalsely : Prop := fnUnlockRow.holds Tryz.pinned (OpenSpec.ofChange fnUnlockWrong)

/-- 'laws.FnRunTwo': WHATEVER THE INPUT: true; the input reads as it did. -/
def fnRunTwoSpec : ChangeSpec := { name := "fnRunTwo", fn := fun _ => fun
  | [d1, d2] => { results := [.lit (.bool true)], args := [d1, d2] }
  | _ => none }
def fnRunTwoRow : OpenClaim := { program := "ytdaffohimifecaagreat", sum := "c02b23624122854ecd6f0acb3aa3b45d695fcadff4c7a4f4845a613bfca2d5ad", func := "loop.example/workchain/laws.FnRunTwo", spec := "fnRunTwo", unfollowed := true, recurses := true, apart := false }
def FnRunTwoSaid : Prop := fnRunTwoRow.holds Tryz.pinned (OpenSpec.ofChange fnRunTwoSpec)

/-- ITS FALSE NEIGHBOUR: 'it returns false'. Refute it at one input. -/
def fnRunTwoWrong : ChangeSpec := { name := "fnRunTwo", fn := fun _ => fun
  | [d1, d2] => { results := [.lit (.bool false)], args := [d1, d2] }
  | _ => none }
def FnRunTwoWrongFalsely : Prop := fnRunTwoRow.holds Tryz.pinned (OpenSpec.ofChange fnRunTwoWrong)

/-- 'laws.FnRunLater': WHATEVER THE INPUT: true; the input reads as it did. -/
def fnRunLaterSpec : ChangeSpec := { name := "fnRunLater", fn := fun _ => fun
  | [d1, d2] => { results := [.lit (.bool true)], args := [d1, d2] }
  | _ => none }
def fnRunLaterRow : OpenClaim := { program := "ytdaffohimifecaagreat", sum := "c02b23624122854ecd6f0acb3aa3b45d695fcadff4c7a4f4845a613bfca2d5ad", func := "loop.example/workchain/laws.FnRunLater", spec := "fnRunLater", unfollowed := true, recurses := true, apart := false }
def FnRunLaterSaid : Prop := fnRunLaterRow.holds Tryz.pinned (OpenSpec.ofChange fnRunLaterSpec)

/-- ITS FALSE NEIGHBOUR: 'it returns false'. Refute it at one input. -/
def fnRunLaterWrong : ChangeSpec := { name := "fnRunLater", fn := fun _ => fun
  | [d1, d2] => { results := [.lit (.bool false)], args := [d1, d2] }
  | _ => none }
def FnRunLaterWrongFalsely : Prop := fnRunLaterRow.holds Tryz.pinned (OpenSpec.ofChange fnRunLaterWrong)

/-- 'laws.FnExactRunScript': WHATEVER THE INPUT: true; the input reads as it did. -/
def fnExactRunScriptSpec : ChangeSpec := { name := "fnExactRunScript", fn := fun _ => fun
  | [d1, d2, d3] => { results := [.lit (.bool true)], args := [d1, d2, d3] }
  | _ => none }
def fnExactRunScriptRow : OpenClaim := { program := "ytdaffohimifecaagreat", sum := "c02b23624122854ecd6f0acb3aa3b45d695fcadff4c7a4f4845a613bfca2d5ad", func := "loop.example/workchain/laws.FnExactRunScript", spec := "fnExactRunScript", unfollowed := true, recurses := true, apart := false }
def FnExactRunScriptSaid : Prop := fnExactRunScriptRow.holds Tryz.pinned (OpenSpec.ofChange fnExactRunScriptSpec)

/-- ITS FALSE NEIGHBOUR: 'it returns false'. Refute it at one input. -/
def fnExactRunScriptWrong : ChangeSpec := { name := "fnExactRunScript", fn := fun _ => fun
  | [d1, d2, d3] => { results := [.lit (.bool false)], args := [d1, d2, d3] }
  | _ => none }
def FnExactRunScriptWrongFalsely : Prop := fnExactRunScriptRow.holds Tryz.pinned (OpenSpec.ofChange fnExactRunScriptWrong)

/-- 'laws.FnExactUnlock': WHATEVER THE INPUT: true; the input reads as it did. -/
def fnExactUnlockSpec : ChangeSpec := { name := "fnExactUnlock", fn := fun _ => fun
  | [d1, d2, d3] => { results := [.lit (.bool true)], args := [d1, d2, d3] }
  | _ => none }
def fnExactUnlockRow : OpenClaim := { program := "ytdaffohimifecaagreat", sum := "c02b23624122854ecd6f0acb3aa3b45d695fcadff4c7a4f4845a613bfca2d5ad", func := "loop.example/workchain/laws.FnExactUnlock", spec := "fnExactUnlock", unfollowed := true, recurses := true, apart := false }
def FnExactUnlockSaid : Prop := fnExactUnlockRow.holds Tryz.pinned (OpenSpec.ofChange fnExactUnlockSpec)

/-- ITS FALSE NEIGHBOUR: 'it returns false'. Refute it at one input. -/
def fnExactUnlockWrong : ChangeSpec := { name := "fnExactUnlock", fn := fun _ => fun
  | [d1, d2, d3] => { results := [.lit (.bool false)], args := [d1, d2, d3] }
  | _ => none }
def FnExactUnlockWrongFalsely : Prop := fnExactUnlockRow.holds Tryz.pinned (OpenSpec.ofChange fnExactUnlockWrong)

/- THE SECOND FORM. 'bulk': how many values and letters a reading holds, each counted each time it is reached (what is shared counts as often as it is met; a slice's spare places count too). A statement '..UptoSaid' is the law's where the arguments, and the package variables that the reading takes, are together of bulk at most 1048576: NARROWER than '..Said'. Prove '..Said' where nothing that the law and all that it calls make is longer than what came in: it says more and counts as full. Else prove '..UptoSaid'. A law counts once. -/
mutual
def uptoBulk {H : Type} : DataW H → Nat
  | .lit (.string bytes) => bytes.length + 1
  | .lit _ => 1
  | .nil => 1
  | .ptr d => uptoBulk d + 1
  | .slice elems spare => uptoBulkAll elems + uptoBulkAll spare + 1
  | .agg parts => uptoBulkAll parts + 1
  | .iface _ d => uptoBulk d + 1
  | .map entries => uptoBulkEntries entries + 1
  | .held _ => 1
def uptoBulkAll {H : Type} : List (DataW H) → Nat
  | [] => 0
  | d :: r => uptoBulk d + uptoBulkAll r
def uptoBulkEntries {H : Type} : List (Lit × DataW H) → Nat
  | [] => 0
  | x :: r => uptoBulkEntry x + uptoBulkEntries r
def uptoBulkEntry {H : Type} : Lit × DataW H → Nat
  | (.string bytes, d) => bytes.length + uptoBulk d + 1
  | (_, d) => uptoBulk d + 1
 end
def uptoSmall : (H : Type) → List (DataW H) → Bool := fun _ ds => decide (uptoBulkAll ds ≤ 1048576)
def OpenSpec.upto (s : _root_.Go.ChangeSpec) : _root_.Go.OpenSpec := { _root_.Go.OpenSpec.ofChange s with cond := some uptoSmall }

/-- 'laws.FnRunScript', WHERE WHAT IT READS IS OF BULK AT MOST 1048576: true; the input reads as it did. -/
def fnRunScriptUptoRow : OpenClaim := { program := "ytdaffohimifecaagreat", sum := "c02b23624122854ecd6f0acb3aa3b45d695fcadff4c7a4f4845a613bfca2d5ad", func := "loop.example/workchain/laws.FnRunScript", spec := "fnRunScript", unfollowed := true, recurses := true, apart := false, narrowed := true }
def FnRunScriptUptoSaid : Prop := fnRunScriptUptoRow.holds Tryz.pinned (OpenSpec.upto fnRunScriptSpec)

/-- 'laws.FnUnlock', WHERE WHAT IT READS IS OF BULK AT MOST 1048576: true; the input reads as it did. -/
def fnUnlockUptoRow : OpenClaim := { program := "ytdaffohimifecaagreat", sum := "c02b23624122854ecd6f0acb3aa3b45d695fcadff4c7a4f4845a613bfca2d5ad", func := "loop.example/workchain/laws.FnUnlock", spec := "fnUnlock", unfollowed := true, recurses := true, apart := false, narrowed := true }
def FnUnlockUptoSaid : Prop := fnUnlockUptoRow.holds Tryz.pinned (OpenSpec.upto fnUnlockSpec)

/-- 'laws.FnRunTwo', WHERE WHAT IT READS IS OF BULK AT MOST 1048576: true; the input reads as it did. -/
def fnRunTwoUptoRow : OpenClaim := { program := "ytdaffohimifecaagreat", sum := "c02b23624122854ecd6f0acb3aa3b45d695fcadff4c7a4f4845a613bfca2d5ad", func := "loop.example/workchain/laws.FnRunTwo", spec := "fnRunTwo", unfollowed := true, recurses := true, apart := false, narrowed := true }
def FnRunTwoUptoSaid : Prop := fnRunTwoUptoRow.holds Tryz.pinned (OpenSpec.upto fnRunTwoSpec)

/-- 'laws.FnRunLater', WHERE WHAT IT READS IS OF BULK AT MOST 1048576: true; the input reads as it did. -/
def fnRunLaterUptoRow : OpenClaim := { program := "ytdaffohimifecaagreat", sum := "c02b23624122854ecd6f0acb3aa3b45d695fcadff4c7a4f4845a613bfca2d5ad", func := "loop.example/workchain/laws.FnRunLater", spec := "fnRunLater", unfollowed := true, recurses := true, apart := false, narrowed := true }
def FnRunLaterUptoSaid : Prop := fnRunLaterUptoRow.holds Tryz.pinned (OpenSpec.upto fnRunLaterSpec)

/-- 'laws.FnExactRunScript', WHERE WHAT IT READS IS OF BULK AT MOST 1048576: true; the input reads as it did. -/
def fnExactRunScriptUptoRow : OpenClaim := { program := "ytdaffohimifecaagreat", sum := "c02b23624122854ecd6f0acb3aa3b45d695fcadff4c7a4f4845a613bfca2d5ad", func := "loop.example/workchain/laws.FnExactRunScript", spec := "fnExactRunScript", unfollowed := true, recurses := true, apart := false, narrowed := true }
def FnExactRunScriptUptoSaid : Prop := fnExactRunScriptUptoRow.holds Tryz.pinned (OpenSpec.upto fnExactRunScriptSpec)

/-- 'laws.FnExactUnlock', WHERE WHAT IT READS IS OF BULK AT MOST 1048576: true; the input reads as it did. -/
def fnExactUnlockUptoRow : OpenClaim := { program := "ytdaffohimifecaagreat", sum := "c02b23624122854ecd6f0acb3aa3b45d695fcadff4c7a4f4845a613bfca2d5ad", func := "loop.example/workchain/laws.FnExactUnlock", spec := "fnExactUnlock", unfollowed := true, recurses := true, apart := false, narrowed := true }
def FnExactUnlockUptoSaid : Prop := fnExactUnlockUptoRow.holds Tryz.pinned (OpenSpec.upto fnExactUnlockSpec)

end Rows
end Go.Proofs.YtdaffohimifecaaGreat
