/-
  No cell of these rows narrows 'for every input' (looked for: loops, veiled, ifaces, maps, wideKeys, modest, calm, conditions, laid).
  DERIVED. THE GIVEN ROWS OF THIS SEAT. 3 by the template 'for every input the law returns true; each argument reads behind the call as it read before'; 0 by the template 'total and deterministic' (their statements: YtlhcanokimjonacTotals.lean).
  GIVEN WITH THE SEED: the statements are not yours to turn. If you find one false, say at which input.
  Laid BY PROGRAM, IN A SANDBOX (cutbox-rows.mjs): the forced cells as the released guide's own fill.sh prints them over the translation 81fa32f1dcfb3294… (all of the seat's roots in one cut). By AI agents, Wed Nov 11 2026. No macro, syntax, notation, axiom, sorry.
-/
import Derived.Test.YtlhcanokimjonacChecked
import GoSem.Claim
import GoSem.ClaimJoined
import GoSem.ClaimMapViews
import Derived.JoinedTies
import Derived.KernelRfl
namespace Go.Proofs.Ytlhcanokimjonac
/- THE CELL 'sum', in the pinned program and in every row, IS THE sha256 OF THE DUMP (.gsa) THAT YtlhcanokimjonacProg.lean LOADS. Nothing in Lean hashes anything: it is a label: what it is worth is what the hold of that sum in a sandbox is worth. -/
noncomputable def Try.pinned : Pinned := { name := "ytlhcanokimjonac", sum := "81fa32f1dcfb3294fe1f6018928328c3cd1d613d14c7a02623b14b5e1fb989c5", checked := Try.checked }
namespace Rows
def none {H : Type} : Left H := { results := [], args := [] }

/-- 'laws.FnExactDecodeTexts': WHATEVER THE INPUT: true; the input reads as it did. -/
def fnExactDecodeTextsSpec : ChangeSpec := { name := "fnExactDecodeTexts", fn := fun _ => fun
  | [d] => { results := [.lit (.bool true)], args := [d] }
  | _ => none }
def fnExactDecodeTextsRow : OpenClaim := { program := "ytlhcanokimjonac", sum := "81fa32f1dcfb3294fe1f6018928328c3cd1d613d14c7a02623b14b5e1fb989c5", func := "loop.example/workchain/laws.FnExactDecodeTexts", spec := "fnExactDecodeTexts", unfollowed := true, recurses := true, apart := false }
def FnExactDecodeTextsSaid : Prop := fnExactDecodeTextsRow.holds Try.pinned (OpenSpec.ofChange fnExactDecodeTextsSpec)

/-- ITS FALSE NEIGHBOUR: 'it returns false'. Refute it at one input. -/
def fnExactDecodeTextsWrong : ChangeSpec := { name := "fnExactDecodeTexts", fn := fun _ => fun
  | [d] => { results := [.lit (.bool false)], args := [d] }
  | _ => none }
def FnExactDecodeTextsWrongFalsely : Prop := fnExactDecodeTextsRow.holds Try.pinned (OpenSpec.ofChange fnExactDecodeTextsWrong)

/-- 'laws.FnDecodeTexts': WHATEVER THE INPUT: true; the input reads as it did. -/
def fnDecodeTextsSpec : ChangeSpec := { name := "fnDecodeTexts", fn := fun _ => fun
  | [d] => { results := [.lit (.bool true)], args := [d] }
  | _ => none }
def fnDecodeTextsRow : OpenClaim := { program := "ytlhcanokimjonac", sum := "81fa32f1dcfb3294fe1f6018928328c3cd1d613d14c7a02623b14b5e1fb989c5", func := "loop.example/workchain/laws.FnDecodeTexts", spec := "fnDecodeTexts", inPlace := ["internal/abi.NoEscape"], unfollowed := true, recurses := true, apart := false }
def FnDecodeTextsSaid : Prop := fnDecodeTextsRow.holds Try.pinned (OpenSpec.ofChange fnDecodeTextsSpec)

/-- ITS FALSE NEIGHBOUR: 'it returns false'. Refute it at one input. -/
def fnDecodeTextsWrong : ChangeSpec := { name := "fnDecodeTexts", fn := fun _ => fun
  | [d] => { results := [.lit (.bool false)], args := [d] }
  | _ => none }
def FnDecodeTextsWrongFalsely : Prop := fnDecodeTextsRow.holds Try.pinned (OpenSpec.ofChange fnDecodeTextsWrong)

/-- 'laws.FnTextsJoin': WHATEVER THE INPUT: true; the input reads as it did. -/
def fnTextsJoinSpec : ChangeSpec := { name := "fnTextsJoin", fn := fun _ => fun
  | [d1, d2] => { results := [.lit (.bool true)], args := [d1, d2] }
  | _ => none }
def fnTextsJoinRow : OpenClaim := { program := "ytlhcanokimjonac", sum := "81fa32f1dcfb3294fe1f6018928328c3cd1d613d14c7a02623b14b5e1fb989c5", func := "loop.example/workchain/laws.FnTextsJoin", spec := "fnTextsJoin", inPlace := ["internal/abi.NoEscape"], unfollowed := true, recurses := true, apart := false }
def FnTextsJoinSaid : Prop := fnTextsJoinRow.holds Try.pinned (OpenSpec.ofChange fnTextsJoinSpec)

/-- ITS FALSE NEIGHBOUR: 'it returns false'. Refute it at one input. -/
def fnTextsJoinWrong : ChangeSpec := { name := "fnTextsJoin", fn := fun _ => fun
  | [d1, d2] => { results := [.lit (.bool false)], args := [d1, d2] }
  | _ => none }
def FnTextsJoinWrongFalsely : Prop := fnTextsJoinRow.holds Try.pinned (OpenSpec.ofChange fnTextsJoinWrong)

/- THE SECOND FORM. 'bulk': how many values and letters a reading holds, each counted each time it is reached (what is shared counts as often as it is met; a slice's spare places count too). A statement '..UptoSaid' is the law's where the arguments, and the package variables that the reading takes, are together of bulk at most 1048576: NARROWER than '..Said'. Prove '..Said' where nothing that the law and all that it calls make is longer than what came in: it says more and counts as full. Else prove '..UptoSaid'. A law counts once. -/
mutual
def uptoBulk {H : Type} : DataW H → Nat
  | .lit (.string bytes) => bytes.length + 1
  | .lit _ => 1
  | .nil => 1
  | .ptr d => uptoBulk d + 1
  | .slice elems spare => uptoBulkAll elems + uptoBulkAll spare + 1
  | .agg parts => uptoBulkAll parts + 1
  | .iface _ d => uptoBulk d + 1
  | .map entries => uptoBulkEntries entries + 1
  | .held _ => 1
def uptoBulkAll {H : Type} : List (DataW H) → Nat
  | [] => 0
  | d :: r => uptoBulk d + uptoBulkAll r
def uptoBulkEntries {H : Type} : List (Lit × DataW H) → Nat
  | [] => 0
  | x :: r => uptoBulkEntry x + uptoBulkEntries r
def uptoBulkEntry {H : Type} : Lit × DataW H → Nat
  | (.string bytes, d) => bytes.length + uptoBulk d + 1
  | (_, d) => uptoBulk d + 1
 end
def uptoSmall : (H : Type) → List (DataW H) → Bool := fun _ ds => decide (uptoBulkAll ds ≤ 1048576)
def OpenSpec.upto (s : _root_.Go.ChangeSpec) : _root_.Go.OpenSpec := { _root_.Go.OpenSpec.ofChange s with cond := some uptoSmall }

/-- 'laws.FnExactDecodeTexts', WHERE WHAT IT READS IS OF BULK AT MOST 1048576: true; the input reads as it did. -/
def fnExactDecodeTextsUptoRow : OpenClaim := { program := "ytlhcanokimjonac", sum := "81fa32f1dcfb3294fe1f6018928328c3cd1d613d14c7a02623b14b5e1fb989c5", func := "loop.example/workchain/laws.FnExactDecodeTexts", spec := "fnExactDecodeTexts", unfollowed := true, recurses := true, apart := false, narrowed := true }
def FnExactDecodeTextsUptoSaid : Prop := fnExactDecodeTextsUptoRow.holds Try.pinned (OpenSpec.upto fnExactDecodeTextsSpec)

/-- 'laws.FnDecodeTexts', WHERE WHAT IT READS IS OF BULK AT MOST 1048576: true; the input reads as it did. -/
def fnDecodeTextsUptoRow : OpenClaim := { program := "ytlhcanokimjonac", sum := "81fa32f1dcfb3294fe1f6018928328c3cd1d613d14c7a02623b14b5e1fb989c5", func := "loop.example/workchain/laws.FnDecodeTexts", spec := "fnDecodeTexts", inPlace := ["internal/abi.NoEscape"], unfollowed := true, recurses := true, apart := false, narrowed := true }
def FnDecodeTextsUptoSaid : Prop := fnDecodeTextsUptoRow.holds Try.pinned (OpenSpec.upto fnDecodeTextsSpec)

/-- 'laws.FnTextsJoin', WHERE WHAT IT READS IS OF BULK AT MOST 1048576: true; the input reads as it did. -/
def fnTextsJoinUptoRow : OpenClaim := { program := "ytlhcanokimjonac", sum := "81fa32f1dcfb3294fe1f6018928328c3cd1d613d14c7a02623b14b5e1fb989c5", func := "loop.example/workchain/laws.FnTextsJoin", spec := "fnTextsJoin", inPlace := ["internal/abi.NoEscape"], unfollowed := true, recurses := true, apart := false, narrowed := true }
def FnTextsJoinUptoSaid : Prop := fnTextsJoinUptoRow.holds Try.pinned (OpenSpec.upto fnTextsJoinSpec)

end Rows
end Go.Proofs.Ytlhcanokimjonac
