/-
  No cell of these rows narrows 'for every input' (looked for: loops, veiled, ifaces, maps, wideKeys, modest, calm, conditions, laid).
  DERIVED. THE GIVEN ROWS OF THIS SEAT. 4 by the template 'for every input the law returns true; each argument reads behind the call as it read before'; 0 by the template 'total and deterministic' (their statements: YtdgepneaeieogacTotals.lean).
  GIVEN WITH THE SEED: the statements are not yours to turn. If you find one false, say at which input.
  Laid BY PROGRAM, IN A SANDBOX (cutbox-rows.mjs): the forced cells as the released guide's own fill.sh prints them over the translation 2e551fc97a255679… (all of the seat's roots in one cut). By AI agents, Wed Nov 11 2026. No macro, syntax, notation, axiom, sorry.
-/
import Derived.Test.YtdgepneaeieogacChecked
import GoSem.Claim
import GoSem.ClaimJoined
import GoSem.ClaimMapViews
import Derived.JoinedTies
import Derived.KernelRfl
namespace Go.Proofs.Ytdgepneaeieogac
/- THE CELL 'sum', in the pinned program and in every row, IS THE sha256 OF THE DUMP (.gsa) THAT YtdgepneaeieogacProg.lean LOADS. Nothing in Lean hashes anything: it is a label: what it is worth is what the hold of that sum in a sandbox is worth. -/
noncomputable def Try.pinned : Pinned := { name := "ytdgepneaeieogac", sum := "2e551fc97a25567911af6600d14d7e1a370c2c3632984272157ca766ec97b942", checked := Try.checked }
namespace Rows
def none {H : Type} : Left H := { results := [], args := [] }

/-- 'laws.FnPeaksAdd': WHATEVER THE INPUT: true; the input reads as it did. -/
def fnPeaksAddSpec : ChangeSpec := { name := "fnPeaksAdd", fn := fun _ => fun
  | [d] => { results := [.lit (.bool true)], args := [d] }
  | _ => none }
def fnPeaksAddRow : OpenClaim := { program := "ytdgepneaeieogac", sum := "2e551fc97a25567911af6600d14d7e1a370c2c3632984272157ca766ec97b942", func := "loop.example/workchain/laws.FnPeaksAdd", spec := "fnPeaksAdd", recurses := true, apart := false }
def FnPeaksAddSaid : Prop := fnPeaksAddRow.holds Try.pinned (OpenSpec.ofChange fnPeaksAddSpec)

/-- ITS FALSE NEIGHBOUR: 'it returns false'. Refute it at one input. -/
def fnPeaksAddWrong : ChangeSpec := { name := "fnPeaksAdd", fn := fun _ => fun
  | [d] => { results := [.lit (.bool false)], args := [d] }
  | _ => none }
def FnPeaksAddWrongFalsely : Prop := fnPeaksAddRow.holds Try.pinned (OpenSpec.ofChange fnPeaksAddWrong)

/-- 'laws.FnPeaksRoot': WHATEVER THE INPUT: true; the input reads as it did. -/
def fnPeaksRootSpec : ChangeSpec := { name := "fnPeaksRoot", fn := fun _ => fun
  | [d] => { results := [.lit (.bool true)], args := [d] }
  | _ => none }
def fnPeaksRootRow : OpenClaim := { program := "ytdgepneaeieogac", sum := "2e551fc97a25567911af6600d14d7e1a370c2c3632984272157ca766ec97b942", func := "loop.example/workchain/laws.FnPeaksRoot", spec := "fnPeaksRoot", recurses := true, apart := false }
def FnPeaksRootSaid : Prop := fnPeaksRootRow.holds Try.pinned (OpenSpec.ofChange fnPeaksRootSpec)

/-- ITS FALSE NEIGHBOUR: 'it returns false'. Refute it at one input. -/
def fnPeaksRootWrong : ChangeSpec := { name := "fnPeaksRoot", fn := fun _ => fun
  | [d] => { results := [.lit (.bool false)], args := [d] }
  | _ => none }
def FnPeaksRootWrongFalsely : Prop := fnPeaksRootRow.holds Try.pinned (OpenSpec.ofChange fnPeaksRootWrong)

/-- 'laws.FnPeaksGrow': WHATEVER THE INPUT: true; the input reads as it did. -/
def fnPeaksGrowSpec : ChangeSpec := { name := "fnPeaksGrow", fn := fun _ => fun
  | [d1, d2] => { results := [.lit (.bool true)], args := [d1, d2] }
  | _ => none }
def fnPeaksGrowRow : OpenClaim := { program := "ytdgepneaeieogac", sum := "2e551fc97a25567911af6600d14d7e1a370c2c3632984272157ca766ec97b942", func := "loop.example/workchain/laws.FnPeaksGrow", spec := "fnPeaksGrow", recurses := true, apart := false }
def FnPeaksGrowSaid : Prop := fnPeaksGrowRow.holds Try.pinned (OpenSpec.ofChange fnPeaksGrowSpec)

/-- ITS FALSE NEIGHBOUR: 'it returns false'. Refute it at one input. -/
def fnPeaksGrowWrong : ChangeSpec := { name := "fnPeaksGrow", fn := fun _ => fun
  | [d1, d2] => { results := [.lit (.bool false)], args := [d1, d2] }
  | _ => none }
def FnPeaksGrowWrongFalsely : Prop := fnPeaksGrowRow.holds Try.pinned (OpenSpec.ofChange fnPeaksGrowWrong)

/-- 'laws.FnMerkleBinds': WHATEVER THE INPUT: true; the input reads as it did. -/
def fnMerkleBindsSpec : ChangeSpec := { name := "fnMerkleBinds", fn := fun _ => fun
  | [d] => { results := [.lit (.bool true)], args := [d] }
  | _ => none }
def fnMerkleBindsRow : OpenClaim := { program := "ytdgepneaeieogac", sum := "2e551fc97a25567911af6600d14d7e1a370c2c3632984272157ca766ec97b942", func := "loop.example/workchain/laws.FnMerkleBinds", spec := "fnMerkleBinds", recurses := true, apart := false }
def FnMerkleBindsSaid : Prop := fnMerkleBindsRow.holds Try.pinned (OpenSpec.ofChange fnMerkleBindsSpec)

/-- ITS FALSE NEIGHBOUR: 'it returns false'. Refute it at one input. -/
def fnMerkleBindsWrong : ChangeSpec := { name := "fnMerkleBinds", fn := fun _ => fun
  | [d] => { results := [.lit (.bool false)], args := [d] }
  | _ => none }
def FnMerkleBindsWrongFalsely : Prop := fnMerkleBindsRow.holds Try.pinned (OpenSpec.ofChange fnMerkleBindsWrong)

/- THE SECOND FORM. 'bulk': how many values and letters a reading holds, each counted each time it is reached (what is shared counts as often as it is met; a slice's spare places count too). A statement '..UptoSaid' is the law's where the arguments, and the package variables that the reading takes, are together of bulk at most 1048576: NARROWER than '..Said'. Prove '..Said' where nothing that the law and all that it calls make is longer than what came in: it says more and counts as full. Else prove '..UptoSaid'. A law counts once. -/
mutual
def uptoBulk {H : Type} : DataW H → Nat
  | .lit (.string bytes) => bytes.length + 1
  | .lit _ => 1
  | .nil => 1
  | .ptr d => uptoBulk d + 1
  | .slice elems spare => uptoBulkAll elems + uptoBulkAll spare + 1
  | .agg parts => uptoBulkAll parts + 1
  | .iface _ d => uptoBulk d + 1
  | .map entries => uptoBulkEntries entries + 1
  | .held _ => 1
def uptoBulkAll {H : Type} : List (DataW H) → Nat
  | [] => 0
  | d :: r => uptoBulk d + uptoBulkAll r
def uptoBulkEntries {H : Type} : List (Lit × DataW H) → Nat
  | [] => 0
  | x :: r => uptoBulkEntry x + uptoBulkEntries r
def uptoBulkEntry {H : Type} : Lit × DataW H → Nat
  | (.string bytes, d) => bytes.length + uptoBulk d + 1
  | (_, d) => uptoBulk d + 1
 end
def uptoSmall : (H : Type) → List (DataW H) → Bool := fun _ ds => decide (uptoBulkAll ds ≤ 1048576)
def OpenSpec.upto (s : _root_.Go.ChangeSpec) : _root_.Go.OpenSpec := { _root_.Go.OpenSpec.ofChange s with cond := some uptoSmall }

/-- 'laws.FnPeaksAdd', WHERE WHAT IT READS IS OF BULK AT MOST 1048576: true; the input reads as it did. -/
def fnPeaksAddUptoRow : OpenClaim := { program := "ytdgepneaeieogac", sum := "2e551fc97a25567911af6600d14d7e1a370c2c3632984272157ca766ec97b942", func := "loop.example/workchain/laws.FnPeaksAdd", spec := "fnPeaksAdd", recurses := true, apart := false, narrowed := true }
def FnPeaksAddUptoSaid : Prop := fnPeaksAddUptoRow.holds Try.pinned (OpenSpec.upto fnPeaksAddSpec)

/-- 'laws.FnPeaksRoot', WHERE WHAT IT READS IS OF BULK AT MOST 1048576: true; the input reads as it did. -/
def fnPeaksRootUptoRow : OpenClaim := { program := "ytdgepneaeieogac", sum := "2e551fc97a25567911af6600d14d7e1a370c2c3632984272157ca766ec97b942", func := "loop.example/workchain/laws.FnPeaksRoot", spec := "fnPeaksRoot", recurses := true, apart := false, narrowed := true }
def FnPeaksRootUptoSaid : Prop := fnPeaksRootUptoRow.holds Try.pinned (OpenSpec.upto fnPeaksRootSpec)

/-- 'laws.FnPeaksGrow', WHERE WHAT IT READS IS OF BULK AT MOST 1048576: true; the input reads as it did. -/
def fnPeaksGrowUptoRow : OpenClaim := { program := "ytdgepneaeieogac", sum := "2e551fc97a25567911af6600d14d7e1a370c2c3632984272157ca766ec97b942", func := "loop.example/workchain/laws.FnPeaksGrow", spec := "fnPeaksGrow", recurses := true, apart := false, narrowed := true }
def FnPeaksGrowUptoSaid : Prop := fnPeaksGrowUptoRow.holds Try.pinned (OpenSpec.upto fnPeaksGrowSpec)

/-- 'laws.FnMerkleBinds', WHERE WHAT IT READS IS OF BULK AT MOST 1048576: true; the input reads as it did. -/
def fnMerkleBindsUptoRow : OpenClaim := { program := "ytdgepneaeieogac", sum := "2e551fc97a25567911af6600d14d7e1a370c2c3632984272157ca766ec97b942", func := "loop.example/workchain/laws.FnMerkleBinds", spec := "fnMerkleBinds", recurses := true, apart := false, narrowed := true }
def FnMerkleBindsUptoSaid : Prop := fnMerkleBindsUptoRow.holds Try.pinned (OpenSpec.upto fnMerkleBindsSpec)

end Rows
end Go.Proofs.Ytdgepneaeieogac
