/-
  No cell of these rows narrows 'for every input' (looked for: loops, veiled, ifaces, maps, wideKeys, modest, calm, conditions, laid).
  DERIVED. THE GIVEN ROWS OF THIS SEAT. 6 by the template 'for every input the law returns true; each argument reads behind the call as it read before'; 0 by the template 'total and deterministic' (their statements: YtdgepneaeieogaaTotals.lean).
  GIVEN WITH THE SEED: the statements are not yours to turn. If you find one false, say at which input.
  Laid BY PROGRAM, IN A SANDBOX (cutbox-rows.mjs): the forced cells as the released guide's own fill.sh prints them over the translation af75be62df0617e8… (all of the seat's roots in one cut). By AI agents, Wed Nov 11 2026. No macro, syntax, notation, axiom, sorry.
-/
import Derived.Test.YtdgepneaeieogaaChecked
import GoSem.Claim
import GoSem.ClaimJoined
import GoSem.ClaimMapViews
import Derived.JoinedTies
import Derived.KernelRfl
namespace Go.Proofs.Ytdgepneaeieogaa
/- THE CELL 'sum', in the pinned program and in every row, IS THE sha256 OF THE DUMP (.gsa) THAT YtdgepneaeieogaaProg.lean LOADS. Nothing in Lean hashes anything: it is a label: what it is worth is what the hold of that sum in a sandbox is worth. -/
noncomputable def Try.pinned : Pinned := { name := "ytdgepneaeieogaa", sum := "af75be62df0617e8f2eaf725a2b307efd2cd620eee1afd7b412ee15c73892595", checked := Try.checked }
namespace Rows
def none {H : Type} : Left H := { results := [], args := [] }

/-- 'laws.FnExactMerkleRoot': WHATEVER THE INPUT: true; the input reads as it did. -/
def fnExactMerkleRootSpec : ChangeSpec := { name := "fnExactMerkleRoot", fn := fun _ => fun
  | [d] => { results := [.lit (.bool true)], args := [d] }
  | _ => none }
def fnExactMerkleRootRow : OpenClaim := { program := "ytdgepneaeieogaa", sum := "af75be62df0617e8f2eaf725a2b307efd2cd620eee1afd7b412ee15c73892595", func := "loop.example/workchain/laws.FnExactMerkleRoot", spec := "fnExactMerkleRoot", recurses := true, apart := false }
def FnExactMerkleRootSaid : Prop := fnExactMerkleRootRow.holds Try.pinned (OpenSpec.ofChange fnExactMerkleRootSpec)

/-- ITS FALSE NEIGHBOUR: 'it returns false'. Refute it at one input. -/
def fnExactMerkleRootWrong : ChangeSpec := { name := "fnExactMerkleRoot", fn := fun _ => fun
  | [d] => { results := [.lit (.bool false)], args := [d] }
  | _ => none }
def FnExactMerkleRootWrongFalsely : Prop := fnExactMerkleRootRow.holds Try.pinned (OpenSpec.ofChange fnExactMerkleRootWrong)

/-- 'laws.FnExactMerkleProof': WHATEVER THE INPUT: true; the input reads as it did. -/
def fnExactMerkleProofSpec : ChangeSpec := { name := "fnExactMerkleProof", fn := fun _ => fun
  | [d1, d2] => { results := [.lit (.bool true)], args := [d1, d2] }
  | _ => none }
def fnExactMerkleProofRow : OpenClaim := { program := "ytdgepneaeieogaa", sum := "af75be62df0617e8f2eaf725a2b307efd2cd620eee1afd7b412ee15c73892595", func := "loop.example/workchain/laws.FnExactMerkleProof", spec := "fnExactMerkleProof", recurses := true, apart := false }
def FnExactMerkleProofSaid : Prop := fnExactMerkleProofRow.holds Try.pinned (OpenSpec.ofChange fnExactMerkleProofSpec)

/-- ITS FALSE NEIGHBOUR: 'it returns false'. Refute it at one input. -/
def fnExactMerkleProofWrong : ChangeSpec := { name := "fnExactMerkleProof", fn := fun _ => fun
  | [d1, d2] => { results := [.lit (.bool false)], args := [d1, d2] }
  | _ => none }
def FnExactMerkleProofWrongFalsely : Prop := fnExactMerkleProofRow.holds Try.pinned (OpenSpec.ofChange fnExactMerkleProofWrong)

/-- 'laws.FnExactMerkleCheck': WHATEVER THE INPUT: true; the input reads as it did. -/
def fnExactMerkleCheckSpec : ChangeSpec := { name := "fnExactMerkleCheck", fn := fun _ => fun
  | [d1, d2, d3, d4, d5] => { results := [.lit (.bool true)], args := [d1, d2, d3, d4, d5] }
  | _ => none }
def fnExactMerkleCheckRow : OpenClaim := { program := "ytdgepneaeieogaa", sum := "af75be62df0617e8f2eaf725a2b307efd2cd620eee1afd7b412ee15c73892595", func := "loop.example/workchain/laws.FnExactMerkleCheck", spec := "fnExactMerkleCheck", recurses := true, apart := false }
def FnExactMerkleCheckSaid : Prop := fnExactMerkleCheckRow.holds Try.pinned (OpenSpec.ofChange fnExactMerkleCheckSpec)

/-- ITS FALSE NEIGHBOUR: 'it returns false'. Refute it at one input. -/
def fnExactMerkleCheckWrong : ChangeSpec := { name := "fnExactMerkleCheck", fn := fun _ => fun
  | [d1, d2, d3, d4, d5] => { results := [.lit (.bool false)], args := [d1, d2, d3, d4, d5] }
  | _ => none }
def FnExactMerkleCheckWrongFalsely : Prop := fnExactMerkleCheckRow.holds Try.pinned (OpenSpec.ofChange fnExactMerkleCheckWrong)

/-- 'laws.FnExactMerkleCollision': WHATEVER THE INPUT: true; the input reads as it did. -/
def fnExactMerkleCollisionSpec : ChangeSpec := { name := "fnExactMerkleCollision", fn := fun _ => fun
  | [d1, d2, d3, d4] => { results := [.lit (.bool true)], args := [d1, d2, d3, d4] }
  | _ => none }
def fnExactMerkleCollisionRow : OpenClaim := { program := "ytdgepneaeieogaa", sum := "af75be62df0617e8f2eaf725a2b307efd2cd620eee1afd7b412ee15c73892595", func := "loop.example/workchain/laws.FnExactMerkleCollision", spec := "fnExactMerkleCollision", recurses := true, apart := false }
def FnExactMerkleCollisionSaid : Prop := fnExactMerkleCollisionRow.holds Try.pinned (OpenSpec.ofChange fnExactMerkleCollisionSpec)

/-- ITS FALSE NEIGHBOUR: 'it returns false'. Refute it at one input. -/
def fnExactMerkleCollisionWrong : ChangeSpec := { name := "fnExactMerkleCollision", fn := fun _ => fun
  | [d1, d2, d3, d4] => { results := [.lit (.bool false)], args := [d1, d2, d3, d4] }
  | _ => none }
def FnExactMerkleCollisionWrongFalsely : Prop := fnExactMerkleCollisionRow.holds Try.pinned (OpenSpec.ofChange fnExactMerkleCollisionWrong)

/-- 'laws.FnExactMerklePeaks': WHATEVER THE INPUT: true; the input reads as it did. -/
def fnExactMerklePeaksSpec : ChangeSpec := { name := "fnExactMerklePeaks", fn := fun _ => fun
  | [d] => { results := [.lit (.bool true)], args := [d] }
  | _ => none }
def fnExactMerklePeaksRow : OpenClaim := { program := "ytdgepneaeieogaa", sum := "af75be62df0617e8f2eaf725a2b307efd2cd620eee1afd7b412ee15c73892595", func := "loop.example/workchain/laws.FnExactMerklePeaks", spec := "fnExactMerklePeaks", recurses := true, apart := false }
def FnExactMerklePeaksSaid : Prop := fnExactMerklePeaksRow.holds Try.pinned (OpenSpec.ofChange fnExactMerklePeaksSpec)

/-- ITS FALSE NEIGHBOUR: 'it returns false'. Refute it at one input. -/
def fnExactMerklePeaksWrong : ChangeSpec := { name := "fnExactMerklePeaks", fn := fun _ => fun
  | [d] => { results := [.lit (.bool false)], args := [d] }
  | _ => none }
def FnExactMerklePeaksWrongFalsely : Prop := fnExactMerklePeaksRow.holds Try.pinned (OpenSpec.ofChange fnExactMerklePeaksWrong)

/-- 'laws.FnExactPeaksAdd': WHATEVER THE INPUT: true; the input reads as it did. -/
def fnExactPeaksAddSpec : ChangeSpec := { name := "fnExactPeaksAdd", fn := fun _ => fun
  | [d1, d2, d3] => { results := [.lit (.bool true)], args := [d1, d2, d3] }
  | _ => none }
def fnExactPeaksAddRow : OpenClaim := { program := "ytdgepneaeieogaa", sum := "af75be62df0617e8f2eaf725a2b307efd2cd620eee1afd7b412ee15c73892595", func := "loop.example/workchain/laws.FnExactPeaksAdd", spec := "fnExactPeaksAdd", apart := false }
def FnExactPeaksAddSaid : Prop := fnExactPeaksAddRow.holds Try.pinned (OpenSpec.ofChange fnExactPeaksAddSpec)

/-- ITS FALSE NEIGHBOUR: 'it returns false'. Refute it at one input. -/
def fnExactPeaksAddWrong : ChangeSpec := { name := "fnExactPeaksAdd", fn := fun _ => fun
  | [d1, d2, d3] => { results := [.lit (.bool false)], args := [d1, d2, d3] }
  | _ => none }
def FnExactPeaksAddWrongFalsely : Prop := fnExactPeaksAddRow.holds Try.pinned (OpenSpec.ofChange fnExactPeaksAddWrong)

/- THE SECOND FORM. 'bulk': how many values and letters a reading holds, each counted each time it is reached (what is shared counts as often as it is met; a slice's spare places count too). A statement '..UptoSaid' is the law's where the arguments, and the package variables that the reading takes, are together of bulk at most 1048576: NARROWER than '..Said'. Prove '..Said' where nothing that the law and all that it calls make is longer than what came in: it says more and counts as full. Else prove '..UptoSaid'. A law counts once. -/
mutual
def uptoBulk {H : Type} : DataW H → Nat
  | .lit (.string bytes) => bytes.length + 1
  | .lit _ => 1
  | .nil => 1
  | .ptr d => uptoBulk d + 1
  | .slice elems spare => uptoBulkAll elems + uptoBulkAll spare + 1
  | .agg parts => uptoBulkAll parts + 1
  | .iface _ d => uptoBulk d + 1
  | .map entries => uptoBulkEntries entries + 1
  | .held _ => 1
def uptoBulkAll {H : Type} : List (DataW H) → Nat
  | [] => 0
  | d :: r => uptoBulk d + uptoBulkAll r
def uptoBulkEntries {H : Type} : List (Lit × DataW H) → Nat
  | [] => 0
  | x :: r => uptoBulkEntry x + uptoBulkEntries r
def uptoBulkEntry {H : Type} : Lit × DataW H → Nat
  | (.string bytes, d) => bytes.length + uptoBulk d + 1
  | (_, d) => uptoBulk d + 1
 end
def uptoSmall : (H : Type) → List (DataW H) → Bool := fun _ ds => decide (uptoBulkAll ds ≤ 1048576)
def OpenSpec.upto (s : _root_.Go.ChangeSpec) : _root_.Go.OpenSpec := { _root_.Go.OpenSpec.ofChange s with cond := some uptoSmall }

/-- 'laws.FnExactMerkleRoot', WHERE WHAT IT READS IS OF BULK AT MOST 1048576: true; the input reads as it did. -/
def fnExactMerkleRootUptoRow : OpenClaim := { program := "ytdgepneaeieogaa", sum := "af75be62df0617e8f2eaf725a2b307efd2cd620eee1afd7b412ee15c73892595", func := "loop.example/workchain/laws.FnExactMerkleRoot", spec := "fnExactMerkleRoot", recurses := true, apart := false, narrowed := true }
def FnExactMerkleRootUptoSaid : Prop := fnExactMerkleRootUptoRow.holds Try.pinned (OpenSpec.upto fnExactMerkleRootSpec)

/-- 'laws.FnExactMerkleProof', WHERE WHAT IT READS IS OF BULK AT MOST 1048576: true; the input reads as it did. -/
def fnExactMerkleProofUptoRow : OpenClaim := { program := "ytdgepneaeieogaa", sum := "af75be62df0617e8f2eaf725a2b307efd2cd620eee1afd7b412ee15c73892595", func := "loop.example/workchain/laws.FnExactMerkleProof", spec := "fnExactMerkleProof", recurses := true, apart := false, narrowed := true }
def FnExactMerkleProofUptoSaid : Prop := fnExactMerkleProofUptoRow.holds Try.pinned (OpenSpec.upto fnExactMerkleProofSpec)

/-- 'laws.FnExactMerkleCheck', WHERE WHAT IT READS IS OF BULK AT MOST 1048576: true; the input reads as it did. -/
def fnExactMerkleCheckUptoRow : OpenClaim := { program := "ytdgepneaeieogaa", sum := "af75be62df0617e8f2eaf725a2b307efd2cd620eee1afd7b412ee15c73892595", func := "loop.example/workchain/laws.FnExactMerkleCheck", spec := "fnExactMerkleCheck", recurses := true, apart := false, narrowed := true }
def FnExactMerkleCheckUptoSaid : Prop := fnExactMerkleCheckUptoRow.holds Try.pinned (OpenSpec.upto fnExactMerkleCheckSpec)

/-- 'laws.FnExactMerkleCollision', WHERE WHAT IT READS IS OF BULK AT MOST 1048576: true; the input reads as it did. -/
def fnExactMerkleCollisionUptoRow : OpenClaim := { program := "ytdgepneaeieogaa", sum := "af75be62df0617e8f2eaf725a2b307efd2cd620eee1afd7b412ee15c73892595", func := "loop.example/workchain/laws.FnExactMerkleCollision", spec := "fnExactMerkleCollision", recurses := true, apart := false, narrowed := true }
def FnExactMerkleCollisionUptoSaid : Prop := fnExactMerkleCollisionUptoRow.holds Try.pinned (OpenSpec.upto fnExactMerkleCollisionSpec)

/-- 'laws.FnExactMerklePeaks', WHERE WHAT IT READS IS OF BULK AT MOST 1048576: true; the input reads as it did. -/
def fnExactMerklePeaksUptoRow : OpenClaim := { program := "ytdgepneaeieogaa", sum := "af75be62df0617e8f2eaf725a2b307efd2cd620eee1afd7b412ee15c73892595", func := "loop.example/workchain/laws.FnExactMerklePeaks", spec := "fnExactMerklePeaks", recurses := true, apart := false, narrowed := true }
def FnExactMerklePeaksUptoSaid : Prop := fnExactMerklePeaksUptoRow.holds Try.pinned (OpenSpec.upto fnExactMerklePeaksSpec)

/-- 'laws.FnExactPeaksAdd', WHERE WHAT IT READS IS OF BULK AT MOST 1048576: true; the input reads as it did. -/
def fnExactPeaksAddUptoRow : OpenClaim := { program := "ytdgepneaeieogaa", sum := "af75be62df0617e8f2eaf725a2b307efd2cd620eee1afd7b412ee15c73892595", func := "loop.example/workchain/laws.FnExactPeaksAdd", spec := "fnExactPeaksAdd", apart := false, narrowed := true }
def FnExactPeaksAddUptoSaid : Prop := fnExactPeaksAddUptoRow.holds Try.pinned (OpenSpec.upto fnExactPeaksAddSpec)

end Rows
end Go.Proofs.Ytdgepneaeieogaa
