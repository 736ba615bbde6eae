/-
  Contracts of the model's chapter 3: collisions.
-/
import Derived.Test.YtdgepneaeieogacMu
namespace Go.Proofs.Ytdgepneaeieogac
open Go.RowKit

/-- Both strings of the first node that differs. -/
def Me.clash (l : List ByteArray) (i : Nat) (s : ByteArray) (p : List Int) : ByteArray × ByteArray :=
  if _h : l.length ≤ 1 ∨ Me.told l.length i s p ≠ Me.str l then (Me.told l.length i s p, Me.str l)
  else if i < Me.half l.length then Me.clash (l.take (Me.half l.length)) i s (p.take (p.length - 1))
  else Me.clash (l.drop (Me.half l.length)) (i - Me.half l.length) s (p.take (p.length - 1))
termination_by l.length
decreasing_by
  · have := Me.half_lt l.length (by omega); rw [List.length_take]; omega
  · have := Me.half_pos l.length; rw [List.length_drop]; omega
theorem Me.clash_end {l : List ByteArray} {i : Nat} {s : ByteArray} {p : List Int} (h : l.length ≤ 1 ∨ Me.told l.length i s p ≠ Me.str l) : Me.clash l i s p = (Me.told l.length i s p, Me.str l) := by rw [Me.clash, dif_pos h]
theorem Me.clash_left {l : List ByteArray} {i : Nat} {s : ByteArray} {p : List Int} (h : 2 ≤ l.length) (he : Me.told l.length i s p = Me.str l) (hi : i < Me.half l.length) : Me.clash l i s p = Me.clash (l.take (Me.half l.length)) i s (p.take (p.length - 1)) := by
  rw [Me.clash, dif_neg (by
    intro hh
    rcases hh with hh | hh
    · omega
    · exact hh he), if_pos hi]
theorem Me.clash_right {l : List ByteArray} {i : Nat} {s : ByteArray} {p : List Int} (h : 2 ≤ l.length) (he : Me.told l.length i s p = Me.str l) (hi : ¬ i < Me.half l.length) : Me.clash l i s p = Me.clash (l.drop (Me.half l.length)) (i - Me.half l.length) s (p.take (p.length - 1)) := by
  rw [Me.clash, dif_neg (by
    intro hh
    rcases hh with hh | hh
    · omega
    · exact hh he), if_neg hi]
theorem Dg.pair_inj {a b c d : Int} (ha : 0 ≤ a ∧ a ≤ 4294967295) (hb : 0 ≤ b ∧ b ≤ 4294967295) (hc : 0 ≤ c ∧ c ≤ 4294967295) (hd : 0 ≤ d ∧ d ≤ 4294967295) (h : Dg.pair a b = Dg.pair c d) : a = c ∧ b = d := by
  unfold Dg.pair at h
  have h' := congrArg (fun s : ByteArray => s.data.toList) h
  simp only [ByteArray.data_append, Array.toList_append, List.append_assoc] at h'
  have h2 := List.append_cancel_left h'
  have l1 : (Dg.bytes a).data.toList.length = 4 := by have := Dg.bytes_size a; rw [Array.length_toList]; exact this
  have l2 : (Dg.bytes c).data.toList.length = 4 := by have := Dg.bytes_size c; rw [Array.length_toList]; exact this
  obtain ⟨h3, h4⟩ := List.append_inj h2 (by rw [l1, l2])
  have e1 : Dg.bytes a = Dg.bytes c := ByteArray.ext (Array.toList_inj.1 h3)
  have e2 : Dg.bytes b = Dg.bytes d := ByteArray.ext (Array.toList_inj.1 h4)
  have f1 := congrArg Dg.num e1
  have f2 := congrArg Dg.num e2
  rw [Dg.num_bytes _ ha.1 ha.2, Dg.num_bytes _ hc.1 hc.2] at f1
  rw [Dg.num_bytes _ hb.1 hb.2, Dg.num_bytes _ hd.1 hd.2] at f2
  exact ⟨f1, f2⟩
theorem Me.leaf_inj {s t : ByteArray} (h : Me.leaf s = Me.leaf t) : s = t := by
  unfold Me.leaf at h
  have h' := congrArg (fun s : ByteArray => s.data.toList) h
  simp only [ByteArray.data_append, Array.toList_append] at h'
  exact ByteArray.ext (Array.toList_inj.1 (List.append_cancel_left h'))
/-- A wrong proof is a collision. -/
theorem Me.clash_meets : ∀ (n : Nat) (l : List ByteArray) (i : Nat) (s : ByteArray) (p : List Int), l.length = n → 1 ≤ n → i < n → p.length = Me.steps n i → Me.digests p → Dg.of (Me.told n i s p) = Dg.of (Me.str l) → s ≠ l.getD i ByteArray.empty →
    (Me.clash l i s p).1 ≠ (Me.clash l i s p).2 ∧ Dg.of (Me.clash l i s p).1 = Dg.of (Me.clash l i s p).2 := by
  intro n
  induction n using Nat.strongRecOn with
  | ind n ih =>
    intro l i s p hl h1 hi hp hdg he hs
    subst hl
    by_cases h : l.length ≤ 1
    · rw [Me.clash_end (.inl h)]
      refine ⟨fun hh => hs ?_, he⟩
      simp only [] at hh
      rw [Me.told_one h, Me.str_one h] at hh
      have : i = 0 := by omega
      rw [this]
      exact Me.leaf_inj hh
    · by_cases hne : Me.told l.length i s p = Me.str l
      · have h2 : 2 ≤ l.length := by omega
        have hh1 := Me.half_lt l.length h2
        have hh0 := Me.half_pos l.length
        by_cases hik : i < Me.half l.length
        · rw [Me.clash_left h2 hne hik]
          rw [Me.steps_left h2 hik] at hp
          rw [Me.told_left h2 hik, Me.str_two h2] at hne
          have hlast := hdg _ (getD_memI (zs := p) (i := p.length - 1) (by omega))
          obtain ⟨e1, _⟩ := Dg.pair_inj (Dg.of_bd _) hlast (Me.root_bd _) (Me.root_bd _) hne
          exact ih _ hh1 _ i s _ (Me.take_len h2) hh0 hik (by rw [List.length_take]; omega) (Me.digests_take hdg _) e1 (by rw [Me.getD_take' hik]; exact hs)
        · rw [Me.clash_right h2 hne hik]
          rw [Me.steps_right h2 hik] at hp
          rw [Me.told_right h2 hik, Me.str_two h2] at hne
          have hlast := hdg _ (getD_memI (zs := p) (i := p.length - 1) (by omega))
          obtain ⟨_, e1⟩ := Dg.pair_inj hlast (Dg.of_bd _) (Me.root_bd _) (Me.root_bd _) hne
          exact ih (l.length - Me.half l.length) (by omega) _ (i - Me.half l.length) s _ List.length_drop (by omega) (by omega) (by rw [List.length_take]; omega) (Me.digests_take hdg _) e1 (by rw [Me.getD_drop', show Me.half l.length + (i - Me.half l.length) = i by omega]; exact hs)
      · rw [Me.clash_end (.inr hne)]
        exact ⟨hne, he⟩

def Me.clashV (l : List ByteArray) (i : Nat) (s : ByteArray) (p : List Int) : Value := .tuple #[.string (Me.clash l i s p).1, .string (Me.clash l i s p).2]
end Go.Proofs.Ytdgepneaeieogac
