/-
  Contracts of the model's chapter 3: MerkleCollision.
-/
import Derived.Test.YtdgepneaeieogacMw
namespace Go.Proofs.Ytdgepneaeieogac
open Go.RowKit

/-- Whether MerkleCollision answers with a collision, and what it answers. -/
def Me.colOk (ss : List ByteArray) (i : Int) (s : ByteArray) (p : List Int) : Prop :=
  (1 ≤ ss.length ∧ ss.length ≤ 32) ∧ Me.good (Me.root ss) ss.length i s p ∧ ss.getD i.toNat ByteArray.empty ≠ s
noncomputable def Me.colA (ss : List ByteArray) (i : Int) (s : ByteArray) (p : List Int) : Value :=
  open Classical in if Me.colOk ss i s p then .tuple #[.string (Me.clash ss i.toNat s p).1, .string (Me.clash ss i.toNat s p).2, .bool true] else .tuple #[.string ⟨#[]⟩, .string ⟨#[]⟩, .bool false]
theorem Me.colA_yes {ss : List ByteArray} {i : Int} {s : ByteArray} {p : List Int} (h : Me.colOk ss i s p) : Me.colA ss i s p = .tuple #[.string (Me.clash ss i.toNat s p).1, .string (Me.clash ss i.toNat s p).2, .bool true] := if_pos h
theorem Me.colA_no {ss : List ByteArray} {i : Int} {s : ByteArray} {p : List Int} (h : ¬ Me.colOk ss i s p) : Me.colA ss i s p = .tuple #[.string ⟨#[]⟩, .string ⟨#[]⟩, .bool false] := if_neg h
theorem ba_eq {s t : ByteArray} (h : s = t) : (s.toList == t.toList) = true := by simp [h]
theorem ba_ne {s t : ByteArray} (h : s ≠ t) : (s.toList == t.toList) = false := by
  rw [Bool.eq_false_iff]
  intro h1
  have h' : s.toList = t.toList := by simpa using h1
  rw [ByteArray.toList_eq, ByteArray.toList_eq] at h'
  exact h (ByteArray.ext (Array.toList_inj.1 h'))

end Go.Proofs.Ytdgepneaeieogac
