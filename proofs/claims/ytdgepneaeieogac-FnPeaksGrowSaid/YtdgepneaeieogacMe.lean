/-
  Plain mathematics of chapter 3: trees, proofs, peaks.
-/
import Derived.Test.YtdgepneaeieogacDg
namespace Go.Proofs.Ytdgepneaeieogac

/-- The greatest power of 2 below n (n from 2 to 64). -/
def Me.half (n : Nat) : Nat := if n ≤ 2 then 1 else if n ≤ 4 then 2 else if n ≤ 8 then 4 else if n ≤ 16 then 8 else if n ≤ 32 then 16 else 32
theorem Me.half_pos (n : Nat) : 1 ≤ Me.half n := by unfold Me.half; repeat' split
                                                    all_goals omega
theorem Me.half_lt (n : Nat) (h : 2 ≤ n) : Me.half n < n := by unfold Me.half; repeat' split
                                                               all_goals omega
theorem Me.half_le (n : Nat) (h : n ≤ 64) : n ≤ 2 * Me.half n := by unfold Me.half; repeat' split
                                                                    all_goals omega
def Me.leaf (s : ByteArray) : ByteArray := ⟨#[0]⟩ ++ s
/-- The string of the node of a list. -/
def Me.str (l : List ByteArray) : ByteArray :=
  if _h : l.length ≤ 1 then Me.leaf (l.getD 0 ByteArray.empty)
  else Dg.pair (Dg.of (Me.str (l.take (Me.half l.length)))) (Dg.of (Me.str (l.drop (Me.half l.length))))
termination_by l.length
decreasing_by
  · have := Me.half_lt l.length (by omega); rw [List.length_take]; omega
  · have := Me.half_pos l.length; rw [List.length_drop]; omega
def Me.root (l : List ByteArray) : Int := Dg.of (Me.str l)
theorem Me.str_one {l : List ByteArray} (h : l.length ≤ 1) : Me.str l = Me.leaf (l.getD 0 ByteArray.empty) := by rw [Me.str, dif_pos h]
theorem Me.str_two {l : List ByteArray} (h : 2 ≤ l.length) : Me.str l = Dg.pair (Me.root (l.take (Me.half l.length))) (Me.root (l.drop (Me.half l.length))) := by rw [Me.str, dif_neg (by omega)]; rfl
theorem Me.root_bd (l : List ByteArray) : 0 ≤ Me.root l ∧ Me.root l ≤ 4294967295 := Dg.of_bd _
/-- The proof of the leaf with index i. -/
def Me.proof (l : List ByteArray) (i : Nat) : List Int :=
  if _h : l.length ≤ 1 then []
  else if i < Me.half l.length then Me.proof (l.take (Me.half l.length)) i ++ [Me.root (l.drop (Me.half l.length))]
  else Me.proof (l.drop (Me.half l.length)) (i - Me.half l.length) ++ [Me.root (l.take (Me.half l.length))]
termination_by l.length
decreasing_by
  · have := Me.half_lt l.length (by omega); rw [List.length_take]; omega
  · have := Me.half_pos l.length; rw [List.length_drop]; omega
theorem Me.proof_one {l : List ByteArray} {i : Nat} (h : l.length ≤ 1) : Me.proof l i = [] := by rw [Me.proof, dif_pos h]
theorem Me.proof_left {l : List ByteArray} {i : Nat} (h : 2 ≤ l.length) (hi : i < Me.half l.length) : Me.proof l i = Me.proof (l.take (Me.half l.length)) i ++ [Me.root (l.drop (Me.half l.length))] := by rw [Me.proof, dif_neg (by omega), if_pos hi]
theorem Me.proof_right {l : List ByteArray} {i : Nat} (h : 2 ≤ l.length) (hi : ¬ i < Me.half l.length) : Me.proof l i = Me.proof (l.drop (Me.half l.length)) (i - Me.half l.length) ++ [Me.root (l.take (Me.half l.length))] := by rw [Me.proof, dif_neg (by omega), if_neg hi]
/-- How many siblings the path to leaf i of n has. -/
def Me.steps (n i : Nat) : Nat :=
  if _h : n ≤ 1 then 0 else if i < Me.half n then 1 + Me.steps (Me.half n) i else 1 + Me.steps (n - Me.half n) (i - Me.half n)
termination_by n
decreasing_by
  · exact Me.half_lt n (by omega)
  · have := Me.half_pos n; omega
theorem Me.steps_one {n i : Nat} (h : n ≤ 1) : Me.steps n i = 0 := by rw [Me.steps, dif_pos h]
theorem Me.steps_left {n i : Nat} (h : 2 ≤ n) (hi : i < Me.half n) : Me.steps n i = 1 + Me.steps (Me.half n) i := by rw [Me.steps, dif_neg (by omega), if_pos hi]
theorem Me.steps_right {n i : Nat} (h : 2 ≤ n) (hi : ¬ i < Me.half n) : Me.steps n i = 1 + Me.steps (n - Me.half n) (i - Me.half n) := by rw [Me.steps, dif_neg (by omega), if_neg hi]
theorem Me.steps_le (n : Nat) : ∀ i, Me.steps n i ≤ n := by
  induction n using Nat.strongRecOn with
  | ind n ih =>
    intro i
    by_cases h : n ≤ 1
    · rw [Me.steps_one h]; omega
    · have h1 := Me.half_lt n (by omega)
      have h2 := Me.half_pos n
      by_cases hi : i < Me.half n
      · rw [Me.steps_left (by omega) hi]; have := ih _ h1 i; omega
      · rw [Me.steps_right (by omega) hi]; have := ih (n - Me.half n) (by omega) (i - Me.half n); omega
theorem Me.steps_zero {n i : Nat} (h : Me.steps n i = 0) : n ≤ 1 := by
  by_cases hn : n ≤ 1
  · exact hn
  · by_cases hi : i < Me.half n
    · rw [Me.steps_left (by omega) hi] at h; omega
    · rw [Me.steps_right (by omega) hi] at h; omega
/-- The string of the node that is computed from a leaf and a proof. -/
def Me.told (n i : Nat) (s : ByteArray) (p : List Int) : ByteArray :=
  if _h : n ≤ 1 then Me.leaf s
  else if i < Me.half n then Dg.pair (Dg.of (Me.told (Me.half n) i s (p.take (p.length - 1)))) (p.getD (p.length - 1) 0)
  else Dg.pair (p.getD (p.length - 1) 0) (Dg.of (Me.told (n - Me.half n) (i - Me.half n) s (p.take (p.length - 1))))
termination_by n
decreasing_by
  · exact Me.half_lt n (by omega)
  · have := Me.half_pos n; omega
theorem Me.told_one {n i : Nat} {s : ByteArray} {p : List Int} (h : n ≤ 1) : Me.told n i s p = Me.leaf s := by rw [Me.told, dif_pos h]
theorem Me.told_left {n i : Nat} {s : ByteArray} {p : List Int} (h : 2 ≤ n) (hi : i < Me.half n) : Me.told n i s p = Dg.pair (Dg.of (Me.told (Me.half n) i s (p.take (p.length - 1)))) (p.getD (p.length - 1) 0) := by rw [Me.told, dif_neg (by omega), if_pos hi]
theorem Me.told_right {n i : Nat} {s : ByteArray} {p : List Int} (h : 2 ≤ n) (hi : ¬ i < Me.half n) : Me.told n i s p = Dg.pair (p.getD (p.length - 1) 0) (Dg.of (Me.told (n - Me.half n) (i - Me.half n) s (p.take (p.length - 1)))) := by rw [Me.told, dif_neg (by omega), if_neg hi]
theorem Me.snoc_last (q : List Int) (x : Int) : (q ++ [x]).take ((q ++ [x]).length - 1) = q ∧ (q ++ [x]).getD ((q ++ [x]).length - 1) 0 = x := by
  rw [List.length_append]
  simp
theorem Me.take_len {l : List ByteArray} (h : 2 ≤ l.length) : (l.take (Me.half l.length)).length = Me.half l.length := by
  have := Me.half_lt l.length h
  rw [List.length_take]; omega
theorem Me.getD_take' {l : List ByteArray} {k i : Nat} (h : i < k) : (l.take k).getD i ByteArray.empty = l.getD i ByteArray.empty := by
  rw [List.getD_eq_getElem?_getD, List.getD_eq_getElem?_getD, List.getElem?_take_of_lt h]
theorem Me.getD_drop' (l : List ByteArray) (k i : Nat) : (l.drop k).getD i ByteArray.empty = l.getD (k + i) ByteArray.empty := by
  rw [List.getD_eq_getElem?_getD, List.getD_eq_getElem?_getD, List.getElem?_drop]
/-- Each proof is accepted. -/
theorem Me.told_proof : ∀ (n : Nat) (l : List ByteArray) (i : Nat), l.length = n → i < n → Me.told n i (l.getD i ByteArray.empty) (Me.proof l i) = Me.str l ∧ (Me.proof l i).length = Me.steps n i := by
  intro n
  induction n using Nat.strongRecOn with
  | ind n ih =>
    intro l i hl hi
    subst hl
    by_cases h : l.length ≤ 1
    · have : i = 0 := by omega
      subst this
      rw [Me.told_one h, Me.str_one h, Me.proof_one h, Me.steps_one h]
      exact ⟨rfl, rfl⟩
    · have h2 : 2 ≤ l.length := by omega
      have h1 := Me.half_lt l.length h2
      have h0 := Me.half_pos l.length
      by_cases hik : i < Me.half l.length
      · obtain ⟨e1, e2⟩ := ih _ h1 (l.take (Me.half l.length)) i (Me.take_len h2) hik
        rw [Me.getD_take' hik] at e1
        obtain ⟨s1, s2⟩ := Me.snoc_last (Me.proof (l.take (Me.half l.length)) i) (Me.root (l.drop (Me.half l.length)))
        rw [Me.told_left h2 hik, Me.proof_left h2 hik, s1, s2, e1, Me.str_two h2, Me.steps_left h2 hik, List.length_append, e2]
        exact ⟨rfl, by simp; omega⟩
      · obtain ⟨e1, e2⟩ := ih (l.length - Me.half l.length) (by omega) (l.drop (Me.half l.length)) (i - Me.half l.length) (by rw [List.length_drop]) (by omega)
        rw [Me.getD_drop', show Me.half l.length + (i - Me.half l.length) = i by omega] at e1
        obtain ⟨s1, s2⟩ := Me.snoc_last (Me.proof (l.drop (Me.half l.length)) (i - Me.half l.length)) (Me.root (l.take (Me.half l.length)))
        rw [Me.told_right h2 hik, Me.proof_right h2 hik, s1, s2, e1, Me.str_two h2, Me.steps_right h2 hik, List.length_append, e2]
        exact ⟨rfl, by simp; omega⟩
def Me.digests (p : List Int) : Prop := ∀ d ∈ p, 0 ≤ d ∧ d ≤ 4294967295
theorem Me.proof_digests : ∀ (n : Nat) (l : List ByteArray) (i : Nat), l.length = n → Me.digests (Me.proof l i) := by
  intro n
  induction n using Nat.strongRecOn with
  | ind n ih =>
    intro l i hl
    subst hl
    by_cases h : l.length ≤ 1
    · rw [Me.proof_one h]; intro d hd; cases hd
    · have h2 : 2 ≤ l.length := by omega
      have h1 := Me.half_lt l.length h2
      have h0 := Me.half_pos l.length
      by_cases hik : i < Me.half l.length
      · rw [Me.proof_left h2 hik]
        intro d hd
        rcases List.mem_append.1 hd with hd | hd
        · exact ih _ h1 _ i (Me.take_len h2) d hd
        · simp at hd; subst hd; exact Me.root_bd _
      · rw [Me.proof_right h2 hik]
        intro d hd
        rcases List.mem_append.1 hd with hd | hd
        · exact ih (l.length - Me.half l.length) (by omega) _ _ (by rw [List.length_drop]) d hd
        · simp at hd; subst hd; exact Me.root_bd _

/-! ### peaks -/
def Me.peaks (l : List ByteArray) : List Int :=
  if _h : l.length = 0 then [] else Me.root (l.take (Me.half (l.length + 1))) :: Me.peaks (l.drop (Me.half (l.length + 1)))
termination_by l.length
decreasing_by
  have := Me.half_pos (l.length + 1); rw [List.length_drop]; omega
theorem Me.peaks_nil {l : List ByteArray} (h : l.length = 0) : Me.peaks l = [] := by rw [Me.peaks, dif_pos h]
theorem Me.peaks_cons {l : List ByteArray} (h : 1 ≤ l.length) : Me.peaks l = Me.root (l.take (Me.half (l.length + 1))) :: Me.peaks (l.drop (Me.half (l.length + 1))) := by rw [Me.peaks, dif_neg (by omega)]
/-- What PeaksRoot answers. -/
def Me.fold : List Int → Int
  | [] => 0
  | [p] => p
  | p :: q :: r => Dg.of (Dg.pair p (Me.fold (q :: r)))
theorem Me.fold_cons {p : Int} {l : List Int} (h : l ≠ []) : Me.fold (p :: l) = Dg.of (Dg.pair p (Me.fold l)) := by
  cases l with
  | nil => exact absurd rfl h
  | cons q r => rfl
theorem Me.peaks_ne {l : List ByteArray} (h : 1 ≤ l.length) : Me.peaks l ≠ [] := by rw [Me.peaks_cons h]; exact List.cons_ne_nil _ _
/-- The root by its peaks. -/
theorem Me.fold_peaks : ∀ (n : Nat) (l : List ByteArray), l.length = n → 1 ≤ n → n ≤ 32 → Me.fold (Me.peaks l) = Me.root l := by
  intro n
  induction n using Nat.strongRecOn with
  | ind n ih =>
    intro l hl h1 h32
    subst hl
    by_cases hp : Me.half (l.length + 1) = l.length
    · rw [Me.peaks_cons h1, hp, List.take_length, List.drop_length, Me.peaks_nil rfl]
      rfl
    · have hk0 := Me.half_pos (l.length + 1)
      have hk1 := Me.half_lt (l.length + 1) (by omega)
      have h2 : 2 ≤ l.length := by
        rcases Nat.lt_or_ge l.length 2 with h | h
        · have : l.length = 1 := by omega
          rw [this] at hp
          exact absurd rfl hp
        · exact h
      have he : Me.half (l.length + 1) = Me.half l.length := by
        unfold Me.half at hp ⊢
        repeat' split
        all_goals (repeat' split at hp)
        all_goals omega
      rw [Me.peaks_cons h1, he]
      have hlt := Me.half_lt l.length h2
      have hpos := Me.half_pos l.length
      have hd : (l.drop (Me.half l.length)).length = l.length - Me.half l.length := List.length_drop
      rw [Me.fold_cons (Me.peaks_ne (by omega)), ih (l.length - Me.half l.length) (by omega) _ hd (by omega) (by omega)]
      unfold Me.root
      rw [Me.str_two h2]
      rfl
/-- How many binary digits 1. -/
def Me.ones (n : Nat) : Nat := if _h : n = 0 then 0 else n % 2 + Me.ones (n / 2)
termination_by n
decreasing_by omega
theorem Me.ones_zero : Me.ones 0 = 0 := by rw [Me.ones, dif_pos rfl]
theorem Me.ones_pos {n : Nat} (h : 0 < n) : Me.ones n = n % 2 + Me.ones (n / 2) := by rw [Me.ones, dif_neg (by omega)]
end Go.Proofs.Ytdgepneaeieogac
