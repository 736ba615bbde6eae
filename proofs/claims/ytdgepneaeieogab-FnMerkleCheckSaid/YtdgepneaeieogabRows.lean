/-
  No cell of these rows narrows 'for every input' (looked for: loops, veiled, ifaces, maps, wideKeys, modest, calm, conditions, laid).
  DERIVED. THE GIVEN ROWS OF THIS SEAT. 6 by the template 'for every input the law returns true; each argument reads behind the call as it read before'; 0 by the template 'total and deterministic' (their statements: YtdgepneaeieogabTotals.lean).
  GIVEN WITH THE SEED: the statements are not yours to turn. If you find one false, say at which input.
  Laid BY PROGRAM, IN A SANDBOX (cutbox-rows.mjs): the forced cells as the released guide's own fill.sh prints them over the translation 42f3b3d75ee427d6… (all of the seat's roots in one cut). By AI agents, Wed Nov 11 2026. No macro, syntax, notation, axiom, sorry.
-/
import Derived.Test.YtdgepneaeieogabChecked
import GoSem.Claim
import GoSem.ClaimJoined
import GoSem.ClaimMapViews
import Derived.JoinedTies
import Derived.KernelRfl
namespace Go.Proofs.Ytdgepneaeieogab
/- THE CELL 'sum', in the pinned program and in every row, IS THE sha256 OF THE DUMP (.gsa) THAT YtdgepneaeieogabProg.lean LOADS. Nothing in Lean hashes anything: it is a label: what it is worth is what the hold of that sum in a sandbox is worth. -/
noncomputable def Try.pinned : Pinned := { name := "ytdgepneaeieogab", sum := "42f3b3d75ee427d6323250228fabc1f0afb82e1030fad5e8d456cfbdf7bf7f35", checked := Try.checked }
namespace Rows
def none {H : Type} : Left H := { results := [], args := [] }

/-- 'laws.FnExactPeaksRoot': WHATEVER THE INPUT: true; the input reads as it did. -/
def fnExactPeaksRootSpec : ChangeSpec := { name := "fnExactPeaksRoot", fn := fun _ => fun
  | [d] => { results := [.lit (.bool true)], args := [d] }
  | _ => none }
def fnExactPeaksRootRow : OpenClaim := { program := "ytdgepneaeieogab", sum := "42f3b3d75ee427d6323250228fabc1f0afb82e1030fad5e8d456cfbdf7bf7f35", func := "loop.example/workchain/laws.FnExactPeaksRoot", spec := "fnExactPeaksRoot", apart := false }
def FnExactPeaksRootSaid : Prop := fnExactPeaksRootRow.holds Try.pinned (OpenSpec.ofChange fnExactPeaksRootSpec)

/-- ITS FALSE NEIGHBOUR: 'it returns false'. Refute it at one input. -/
def fnExactPeaksRootWrong : ChangeSpec := { name := "fnExactPeaksRoot", fn := fun _ => fun
  | [d] => { results := [.lit (.bool false)], args := [d] }
  | _ => none }
def FnExactPeaksRootWrongFalsely : Prop := fnExactPeaksRootRow.holds Try.pinned (OpenSpec.ofChange fnExactPeaksRootWrong)

/-- 'laws.FnMerkleRoot': WHATEVER THE INPUT: true; the input reads as it did. -/
def fnMerkleRootSpec : ChangeSpec := { name := "fnMerkleRoot", fn := fun _ => fun
  | [d] => { results := [.lit (.bool true)], args := [d] }
  | _ => none }
def fnMerkleRootRow : OpenClaim := { program := "ytdgepneaeieogab", sum := "42f3b3d75ee427d6323250228fabc1f0afb82e1030fad5e8d456cfbdf7bf7f35", func := "loop.example/workchain/laws.FnMerkleRoot", spec := "fnMerkleRoot", recurses := true, apart := false }
def FnMerkleRootSaid : Prop := fnMerkleRootRow.holds Try.pinned (OpenSpec.ofChange fnMerkleRootSpec)

/-- ITS FALSE NEIGHBOUR: 'it returns false'. Refute it at one input. -/
def fnMerkleRootWrong : ChangeSpec := { name := "fnMerkleRoot", fn := fun _ => fun
  | [d] => { results := [.lit (.bool false)], args := [d] }
  | _ => none }
def FnMerkleRootWrongFalsely : Prop := fnMerkleRootRow.holds Try.pinned (OpenSpec.ofChange fnMerkleRootWrong)

/-- 'laws.FnMerkleProof': WHATEVER THE INPUT: true; the input reads as it did. -/
def fnMerkleProofSpec : ChangeSpec := { name := "fnMerkleProof", fn := fun _ => fun
  | [d] => { results := [.lit (.bool true)], args := [d] }
  | _ => none }
def fnMerkleProofRow : OpenClaim := { program := "ytdgepneaeieogab", sum := "42f3b3d75ee427d6323250228fabc1f0afb82e1030fad5e8d456cfbdf7bf7f35", func := "loop.example/workchain/laws.FnMerkleProof", spec := "fnMerkleProof", recurses := true, apart := false }
def FnMerkleProofSaid : Prop := fnMerkleProofRow.holds Try.pinned (OpenSpec.ofChange fnMerkleProofSpec)

/-- ITS FALSE NEIGHBOUR: 'it returns false'. Refute it at one input. -/
def fnMerkleProofWrong : ChangeSpec := { name := "fnMerkleProof", fn := fun _ => fun
  | [d] => { results := [.lit (.bool false)], args := [d] }
  | _ => none }
def FnMerkleProofWrongFalsely : Prop := fnMerkleProofRow.holds Try.pinned (OpenSpec.ofChange fnMerkleProofWrong)

/-- 'laws.FnMerkleCheck': WHATEVER THE INPUT: true; the input reads as it did. -/
def fnMerkleCheckSpec : ChangeSpec := { name := "fnMerkleCheck", fn := fun _ => fun
  | [d] => { results := [.lit (.bool true)], args := [d] }
  | _ => none }
def fnMerkleCheckRow : OpenClaim := { program := "ytdgepneaeieogab", sum := "42f3b3d75ee427d6323250228fabc1f0afb82e1030fad5e8d456cfbdf7bf7f35", func := "loop.example/workchain/laws.FnMerkleCheck", spec := "fnMerkleCheck", recurses := true, apart := false }
def FnMerkleCheckSaid : Prop := fnMerkleCheckRow.holds Try.pinned (OpenSpec.ofChange fnMerkleCheckSpec)

/-- ITS FALSE NEIGHBOUR: 'it returns false'. Refute it at one input. -/
def fnMerkleCheckWrong : ChangeSpec := { name := "fnMerkleCheck", fn := fun _ => fun
  | [d] => { results := [.lit (.bool false)], args := [d] }
  | _ => none }
def FnMerkleCheckWrongFalsely : Prop := fnMerkleCheckRow.holds Try.pinned (OpenSpec.ofChange fnMerkleCheckWrong)

/-- 'laws.FnMerkleCollision': WHATEVER THE INPUT: true; the input reads as it did. -/
def fnMerkleCollisionSpec : ChangeSpec := { name := "fnMerkleCollision", fn := fun _ => fun
  | [d] => { results := [.lit (.bool true)], args := [d] }
  | _ => none }
def fnMerkleCollisionRow : OpenClaim := { program := "ytdgepneaeieogab", sum := "42f3b3d75ee427d6323250228fabc1f0afb82e1030fad5e8d456cfbdf7bf7f35", func := "loop.example/workchain/laws.FnMerkleCollision", spec := "fnMerkleCollision", recurses := true, apart := false }
def FnMerkleCollisionSaid : Prop := fnMerkleCollisionRow.holds Try.pinned (OpenSpec.ofChange fnMerkleCollisionSpec)

/-- ITS FALSE NEIGHBOUR: 'it returns false'. Refute it at one input. -/
def fnMerkleCollisionWrong : ChangeSpec := { name := "fnMerkleCollision", fn := fun _ => fun
  | [d] => { results := [.lit (.bool false)], args := [d] }
  | _ => none }
def FnMerkleCollisionWrongFalsely : Prop := fnMerkleCollisionRow.holds Try.pinned (OpenSpec.ofChange fnMerkleCollisionWrong)

/-- 'laws.FnMerklePeaks': WHATEVER THE INPUT: true; the input reads as it did. -/
def fnMerklePeaksSpec : ChangeSpec := { name := "fnMerklePeaks", fn := fun _ => fun
  | [d] => { results := [.lit (.bool true)], args := [d] }
  | _ => none }
def fnMerklePeaksRow : OpenClaim := { program := "ytdgepneaeieogab", sum := "42f3b3d75ee427d6323250228fabc1f0afb82e1030fad5e8d456cfbdf7bf7f35", func := "loop.example/workchain/laws.FnMerklePeaks", spec := "fnMerklePeaks", recurses := true, apart := false }
def FnMerklePeaksSaid : Prop := fnMerklePeaksRow.holds Try.pinned (OpenSpec.ofChange fnMerklePeaksSpec)

/-- ITS FALSE NEIGHBOUR: 'it returns false'. Refute it at one input. -/
def fnMerklePeaksWrong : ChangeSpec := { name := "fnMerklePeaks", fn := fun _ => fun
  | [d] => { results := [.lit (.bool false)], args := [d] }
  | _ => none }
def FnMerklePeaksWrongFalsely : Prop := fnMerklePeaksRow.holds Try.pinned (OpenSpec.ofChange fnMerklePeaksWrong)

/- THE SECOND FORM. 'bulk': how many values and letters a reading holds, each counted each time it is reached (what is shared counts as often as it is met; a slice's spare places count too). A statement '..UptoSaid' is the law's where the arguments, and the package variables that the reading takes, are together of bulk at most 1048576: NARROWER than '..Said'. Prove '..Said' where nothing that the law and all that it calls make is longer than what came in: it says more and counts as full. Else prove '..UptoSaid'. A law counts once. -/
mutual
def uptoBulk {H : Type} : DataW H → Nat
  | .lit (.string bytes) => bytes.length + 1
  | .lit _ => 1
  | .nil => 1
  | .ptr d => uptoBulk d + 1
  | .slice elems spare => uptoBulkAll elems + uptoBulkAll spare + 1
  | .agg parts => uptoBulkAll parts + 1
  | .iface _ d => uptoBulk d + 1
  | .map entries => uptoBulkEntries entries + 1
  | .held _ => 1
def uptoBulkAll {H : Type} : List (DataW H) → Nat
  | [] => 0
  | d :: r => uptoBulk d + uptoBulkAll r
def uptoBulkEntries {H : Type} : List (Lit × DataW H) → Nat
  | [] => 0
  | x :: r => uptoBulkEntry x + uptoBulkEntries r
def uptoBulkEntry {H : Type} : Lit × DataW H → Nat
  | (.string bytes, d) => bytes.length + uptoBulk d + 1
  | (_, d) => uptoBulk d + 1
 end
def uptoSmall : (H : Type) → List (DataW H) → Bool := fun _ ds => decide (uptoBulkAll ds ≤ 1048576)
def OpenSpec.upto (s : _root_.Go.ChangeSpec) : _root_.Go.OpenSpec := { _root_.Go.OpenSpec.ofChange s with cond := some uptoSmall }

/-- 'laws.FnExactPeaksRoot', WHERE WHAT IT READS IS OF BULK AT MOST 1048576: true; the input reads as it did. -/
def fnExactPeaksRootUptoRow : OpenClaim := { program := "ytdgepneaeieogab", sum := "42f3b3d75ee427d6323250228fabc1f0afb82e1030fad5e8d456cfbdf7bf7f35", func := "loop.example/workchain/laws.FnExactPeaksRoot", spec := "fnExactPeaksRoot", apart := false, narrowed := true }
def FnExactPeaksRootUptoSaid : Prop := fnExactPeaksRootUptoRow.holds Try.pinned (OpenSpec.upto fnExactPeaksRootSpec)

/-- 'laws.FnMerkleRoot', WHERE WHAT IT READS IS OF BULK AT MOST 1048576: true; the input reads as it did. -/
def fnMerkleRootUptoRow : OpenClaim := { program := "ytdgepneaeieogab", sum := "42f3b3d75ee427d6323250228fabc1f0afb82e1030fad5e8d456cfbdf7bf7f35", func := "loop.example/workchain/laws.FnMerkleRoot", spec := "fnMerkleRoot", recurses := true, apart := false, narrowed := true }
def FnMerkleRootUptoSaid : Prop := fnMerkleRootUptoRow.holds Try.pinned (OpenSpec.upto fnMerkleRootSpec)

/-- 'laws.FnMerkleProof', WHERE WHAT IT READS IS OF BULK AT MOST 1048576: true; the input reads as it did. -/
def fnMerkleProofUptoRow : OpenClaim := { program := "ytdgepneaeieogab", sum := "42f3b3d75ee427d6323250228fabc1f0afb82e1030fad5e8d456cfbdf7bf7f35", func := "loop.example/workchain/laws.FnMerkleProof", spec := "fnMerkleProof", recurses := true, apart := false, narrowed := true }
def FnMerkleProofUptoSaid : Prop := fnMerkleProofUptoRow.holds Try.pinned (OpenSpec.upto fnMerkleProofSpec)

/-- 'laws.FnMerkleCheck', WHERE WHAT IT READS IS OF BULK AT MOST 1048576: true; the input reads as it did. -/
def fnMerkleCheckUptoRow : OpenClaim := { program := "ytdgepneaeieogab", sum := "42f3b3d75ee427d6323250228fabc1f0afb82e1030fad5e8d456cfbdf7bf7f35", func := "loop.example/workchain/laws.FnMerkleCheck", spec := "fnMerkleCheck", recurses := true, apart := false, narrowed := true }
def FnMerkleCheckUptoSaid : Prop := fnMerkleCheckUptoRow.holds Try.pinned (OpenSpec.upto fnMerkleCheckSpec)

/-- 'laws.FnMerkleCollision', WHERE WHAT IT READS IS OF BULK AT MOST 1048576: true; the input reads as it did. -/
def fnMerkleCollisionUptoRow : OpenClaim := { program := "ytdgepneaeieogab", sum := "42f3b3d75ee427d6323250228fabc1f0afb82e1030fad5e8d456cfbdf7bf7f35", func := "loop.example/workchain/laws.FnMerkleCollision", spec := "fnMerkleCollision", recurses := true, apart := false, narrowed := true }
def FnMerkleCollisionUptoSaid : Prop := fnMerkleCollisionUptoRow.holds Try.pinned (OpenSpec.upto fnMerkleCollisionSpec)

/-- 'laws.FnMerklePeaks', WHERE WHAT IT READS IS OF BULK AT MOST 1048576: true; the input reads as it did. -/
def fnMerklePeaksUptoRow : OpenClaim := { program := "ytdgepneaeieogab", sum := "42f3b3d75ee427d6323250228fabc1f0afb82e1030fad5e8d456cfbdf7bf7f35", func := "loop.example/workchain/laws.FnMerklePeaks", spec := "fnMerklePeaks", recurses := true, apart := false, narrowed := true }
def FnMerklePeaksUptoSaid : Prop := fnMerklePeaksUptoRow.holds Try.pinned (OpenSpec.upto fnMerklePeaksSpec)

end Rows
end Go.Proofs.Ytdgepneaeieogab
