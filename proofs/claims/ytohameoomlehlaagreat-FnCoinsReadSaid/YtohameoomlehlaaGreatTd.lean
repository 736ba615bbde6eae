/-
  Lists of strings read: contracts of DecodeTexts (program and model), and what they call.
-/
import Derived.Test.YtohameoomlehlaaGreatTs
namespace Go.Proofs.YtohameoomlehlaaGreat
open Go.RowKit

/-- Reading a number of at most top, and so many strings. -/
def En.decLt (s : ByteArray) (top : Int) : Option (List ByteArray × ByteArray) := match En.bel s top with
  | none => none
  | some x => En.decL x.2 x.1.toNat
theorem En.decLt_bel {s : ByteArray} {top : Int} (h : En.bel s top = none) : En.decLt s top = none := by unfold En.decLt; rw [h]
theorem En.decLt_eq {s : ByteArray} {top : Int} {x : Int × ByteArray} (h : En.bel s top = some x) : En.decLt s top = En.decL x.2 x.1.toNat := by unfold En.decLt; rw [h]
theorem En.decTs_none {s : ByteArray} (h : En.decLt s 40 = none) : En.decTs s = none := by
  unfold En.decLt at h
  unfold En.decTs
  cases hb : En.bel s 40 with
  | none => rfl
  | some x => rw [hb] at h; simp only [] at h ⊢; rw [h]
theorem En.decTs_more {s : ByteArray} {l : List ByteArray} {r : ByteArray} (h : En.decLt s 40 = some (l, r)) (h0 : r.size ≠ 0) : En.decTs s = none := by
  unfold En.decLt at h
  cases hb : En.bel s 40 with
  | none => rw [hb] at h; cases h
  | some x => rw [hb] at h; exact En.decTs_rest hb h h0
theorem En.decTs_all {s : ByteArray} {l : List ByteArray} {r : ByteArray} (h : En.decLt s 40 = some (l, r)) (h0 : r.size = 0) : En.decTs s = some l := by
  unfold En.decLt at h
  cases hb : En.bel s 40 with
  | none => rw [hb] at h; cases h
  | some x => rw [hb] at h; exact En.decTs_ok hb h h0
/-- What takeTexts does. -/
def TkTs (B : Nat) (s : ByteArray) (w : World) (e : Ending) (w' : World) : Prop :=
  (En.decLt s 40 = none ∧ e = .returned (.tuple #[.slice none 0 0, .bool false]) ∧ ∃ r, Tk B w w' r) ∨
  ∃ l r a cap, En.decLt s 40 = some (l, r) ∧ e = .returned (.tuple #[.slice a l.length cap, .bool true]) ∧ Tk B w w' r ∧ w'.ownsRow w.heap.size 9 1 (.slice a l.length cap) l.length (l.map Value.string)

def DecR (s : ByteArray) (w : World) (e : Ending) (w' : World) : Prop :=
  ((En.decTs s = none ∧ e = .returned (.tuple #[.slice none 0 0, .bool false])) ∨
   ∃ l a cap, En.decTs s = some l ∧ e = .returned (.tuple #[.slice a l.length cap, .bool true]) ∧ w'.ownsRow w.heap.size 9 1 (.slice a l.length cap) l.length (l.map Value.string)) ∧ Below w.heap.size w w'
/-- The same in one piece: the list (none at all counts as the empty one) and whether there is one. -/
def En.dl (s : ByteArray) : List ByteArray := (En.decTs s).getD []
def En.dok (s : ByteArray) : Bool := (En.decTs s).isSome
theorem En.dl_len (s : ByteArray) : (En.dl s).length ≤ 40 := by
  unfold En.dl
  cases h : En.decTs s with
  | none => simp
  | some l =>
    have := (En.texts_decTs h).2.2
    simp only [Option.getD_some]
    omega
theorem DecR.one {s : ByteArray} {w : World} {e : Ending} {w' : World} (h : DecR s w e w') :
    ∃ a cap, e = .returned (.tuple #[.slice a (En.dl s).length cap, .bool (En.dok s)]) ∧ w'.ownsRow w.heap.size 9 1 (.slice a (En.dl s).length cap) (En.dl s).length ((En.dl s).map Value.string) ∧ Below w.heap.size w w' := by
  rcases h with ⟨⟨h1, h2⟩ | ⟨l, a, cap, h1, h2, h3⟩, hb⟩
  · unfold En.dl En.dok
    rw [h1]
    exact ⟨none, 0, h2, ⟨rfl, .inl ⟨rfl, rfl⟩⟩, hb⟩
  · unfold En.dl En.dok
    rw [h1]
    exact ⟨a, cap, h2, h3, hb⟩
theorem ba_some {s : ByteArray} (h : s.size ≠ 0) : s.toList.isEmpty = false := by
  rw [Bool.eq_false_iff]
  intro h1
  have h' := List.isEmpty_iff.1 h1
  rw [toList_nil_iff_emptyBytes] at h'
  rw [h'] at h
  exact h rfl
theorem ba_none {s : ByteArray} (h : s.size = 0) : s.toList.isEmpty = true := by
  rw [List.isEmpty_iff, toList_nil_iff_emptyBytes]
  exact ba_nil h

end Go.Proofs.YtohameoomlehlaaGreat
