/-
  Plain mathematics of chapter 3: peaks grow leaf by leaf.
-/
import Derived.Test.YtdgepneaeieogacMe
namespace Go.Proofs.Ytdgepneaeieogac

/-- What PeaksAdd makes of the peaks of n leaves and the digest of one leaf more. -/
def Me.addP (n : Nat) (ps : List Int) (d : Int) : List Int :=
  if _h : n % 2 = 1 then Me.addP (n / 2) (ps.take (ps.length - 1)) (Dg.of (Dg.pair (ps.getD (ps.length - 1) 0) d)) else ps ++ [d]
termination_by n
decreasing_by omega
theorem Me.addP_odd {n : Nat} {ps : List Int} {d : Int} (h : n % 2 = 1) : Me.addP n ps d = Me.addP (n / 2) (ps.take (ps.length - 1)) (Dg.of (Dg.pair (ps.getD (ps.length - 1) 0) d)) := by rw [Me.addP, dif_pos h]
theorem Me.addP_even {n : Nat} {ps : List Int} {d : Int} (h : ¬ n % 2 = 1) : Me.addP n ps d = ps ++ [d] := by rw [Me.addP, dif_neg h]
theorem Me.ones_top : ∀ (t m : Nat), m < 2 ^ t → Me.ones (2 ^ t + m) = 1 + Me.ones m := by
  intro t
  induction t with
  | zero =>
    intro m hm
    have : m = 0 := by simpa using hm
    subst this
    rw [Me.ones_pos (by simp), Me.ones_zero]
    try simp [Me.ones_zero]
  | succ t ih =>
    intro m hm
    have h2 : 2 ^ (t + 1) = 2 * 2 ^ t := by rw [Nat.pow_succ, Nat.mul_comm]
    have hp : 0 < 2 ^ t := Nat.pos_of_ne_zero (by simp)
    rw [h2] at hm ⊢
    rw [Me.ones_pos (by omega), show (2 * 2 ^ t + m) / 2 = 2 ^ t + m / 2 by omega, ih (m / 2) (by omega), show (2 * 2 ^ t + m) % 2 = m % 2 by omega]
    by_cases h0 : m = 0
    · subst h0; rw [Me.ones_zero]
    · rw [Me.ones_pos (show 0 < m by omega)]; omega
theorem Me.half_pow (n : Nat) : ∃ t, Me.half n = 2 ^ t := by
  unfold Me.half
  split
  · exact ⟨0, rfl⟩
  · split
    · exact ⟨1, rfl⟩
    · split
      · exact ⟨2, rfl⟩
      · split
        · exact ⟨3, rfl⟩
        · split
          · exact ⟨4, rfl⟩
          · exact ⟨5, rfl⟩
theorem Me.addP_top : ∀ (t m : Nat) (ps : List Int) (r d : Int), m < 2 ^ t → ps.length = Me.ones m →
    (m + 1 = 2 ^ t → ∃ e, Me.addP m ps d = [e] ∧ Me.addP (2 ^ t + m) (r :: ps) d = [Dg.of (Dg.pair r e)]) ∧ (m + 1 < 2 ^ t → Me.addP (2 ^ t + m) (r :: ps) d = r :: Me.addP m ps d) := by
  intro t
  induction t with
  | zero =>
    intro m ps r d hm hps
    have : m = 0 := by simpa using hm
    subst this
    rw [Me.ones_zero] at hps
    have : ps = [] := List.eq_nil_of_length_eq_zero hps
    subst this
    refine ⟨fun _ => ⟨d, Me.addP_even (by decide), ?_⟩, fun h => by simp at h⟩
    rw [Me.addP_odd (by decide)]
    exact Me.addP_even (by decide)
  | succ t ih =>
    intro m ps r d hm hps
    have h2 : 2 ^ (t + 1) = 2 * 2 ^ t := by rw [Nat.pow_succ, Nat.mul_comm]
    have hp : 0 < 2 ^ t := Nat.pos_of_ne_zero (by simp)
    rw [h2] at hm ⊢
    by_cases hodd : m % 2 = 1
    · rw [Me.ones_pos (show 0 < m by omega), hodd] at hps
      have hne : ps ≠ [] := by
        intro h
        subst h
        simp at hps
        omega
      have hlen : 1 ≤ ps.length := by omega
      have e1 : (r :: ps).take ((r :: ps).length - 1) = r :: ps.take (ps.length - 1) := by
        rw [List.length_cons, Nat.add_sub_cancel]
        obtain ⟨q, hq⟩ : ∃ q, ps.length = q + 1 := ⟨ps.length - 1, by omega⟩
        rw [hq, Nat.add_sub_cancel]
        rfl
      have e2 : (r :: ps).getD ((r :: ps).length - 1) 0 = ps.getD (ps.length - 1) 0 := by
        rw [List.length_cons, Nat.add_sub_cancel]
        obtain ⟨q, hq⟩ : ∃ q, ps.length = q + 1 := ⟨ps.length - 1, by omega⟩
        rw [hq, Nat.add_sub_cancel]
        rfl
      have hi := ih (m / 2) (ps.take (ps.length - 1)) r (Dg.of (Dg.pair (ps.getD (ps.length - 1) 0) d)) (by omega) (by rw [List.length_take]; omega)
      rw [Me.addP_odd hodd, Me.addP_odd (show (2 * 2 ^ t + m) % 2 = 1 by omega), e1, e2, show (2 * 2 ^ t + m) / 2 = 2 ^ t + m / 2 by omega]
      exact ⟨fun h => hi.1 (by omega), fun h => hi.2 (by omega)⟩
    · refine ⟨fun h => absurd h (by omega), fun _ => ?_⟩
      rw [Me.addP_even hodd, Me.addP_even (show ¬ (2 * 2 ^ t + m) % 2 = 1 by omega)]
      rfl
/-- As many peaks as binary digits 1. -/
theorem Me.peaks_ones : ∀ (n : Nat) (l : List ByteArray), l.length = n → n ≤ 63 → (Me.peaks l).length = Me.ones n := by
  intro n
  induction n using Nat.strongRecOn with
  | ind n ih =>
    intro l hl h63
    subst hl
    by_cases h0 : l.length = 0
    · rw [Me.peaks_nil h0, h0, Me.ones_zero]; rfl
    · obtain ⟨t, ht⟩ := Me.half_pow (l.length + 1)
      have hk0 := Me.half_pos (l.length + 1)
      have hk1 := Me.half_lt (l.length + 1) (by omega)
      have hk2 := Me.half_le (l.length + 1) (by omega)
      rw [Me.peaks_cons (by omega), List.length_cons, ih (l.length - Me.half (l.length + 1)) (by omega) _ List.length_drop (by omega)]
      have := Me.ones_top t (l.length - Me.half (l.length + 1)) (by omega)
      rw [← ht, show Me.half (l.length + 1) + (l.length - Me.half (l.length + 1)) = l.length by omega] at this
      omega
theorem Me.half_stay {n k : Nat} (hk : Me.half (n + 1) = k) (h : n + 1 < 2 * k) (hn : n ≤ 62) : Me.half (n + 2) = k := by
  unfold Me.half at hk ⊢
  repeat' split
  all_goals (repeat' split at hk)
  all_goals omega
theorem Me.half_full {n k : Nat} (hk : Me.half (n + 1) = k) (h : n + 1 = 2 * k) (hn : n ≤ 31) : Me.half (n + 2) = n + 1 ∧ Me.half (n + 1) = k ∧ Me.half (k + 1) = k := by
  refine ⟨?_, hk, ?_⟩
  · unfold Me.half at hk ⊢
    repeat' split
    all_goals (repeat' split at hk)
    all_goals omega
  · unfold Me.half at hk ⊢
    repeat' split
    all_goals (repeat' split at hk)
    all_goals omega
/-- Peaks grow leaf by leaf. -/
theorem Me.peaks_grow (x : ByteArray) : ∀ (n : Nat) (l : List ByteArray), l.length = n → n ≤ 31 → Me.addP n (Me.peaks l) (Dg.of (Me.leaf x)) = Me.peaks (l ++ [x]) := by
  intro n
  induction n using Nat.strongRecOn with
  | ind n ih =>
    intro l hl h31
    subst hl
    have hlx : (l ++ [x]).length = l.length + 1 := by simp
    by_cases h0 : l.length = 0
    · have : l = [] := List.eq_nil_of_length_eq_zero h0
      subst this
      have hh : Me.half (([] ++ [x] : List ByteArray).length + 1) = 1 := rfl
      rw [Me.peaks_nil rfl, Me.addP_even (by decide), Me.peaks_cons (by simp), hh, Me.peaks_nil (by simp)]
      unfold Me.root
      rw [Me.str_one (by simp)]
      rfl
    · obtain ⟨t, ht⟩ := Me.half_pow (l.length + 1)
      have hk0 := Me.half_pos (l.length + 1)
      have hk1 := Me.half_lt (l.length + 1) (by omega)
      have hk2 := Me.half_le (l.length + 1) (by omega)
      obtain ⟨k, hk⟩ : ∃ k, Me.half (l.length + 1) = k := ⟨_, rfl⟩
      rw [hk] at ht hk0 hk1 hk2
      obtain ⟨m, hm⟩ : ∃ m, l.length - k = m := ⟨_, rfl⟩
      have hnk : l.length = 2 ^ t + m := by omega
      have hmk : m < 2 ^ t := by omega
      have hdl : (l.drop k).length = m := by rw [List.length_drop]; exact hm
      have htop := Me.addP_top t m (Me.peaks (l.drop k)) (Me.root (l.take k)) (Dg.of (Me.leaf x)) hmk (Me.peaks_ones m _ hdl (by omega))
      have hih := ih m (by omega) (l.drop k) hdl (by omega)
      have htk : (l ++ [x]).take k = l.take k := List.take_append_of_le_length (by omega)
      have hdk : (l ++ [x]).drop k = l.drop k ++ [x] := List.drop_append_of_le_length (by omega)
      have hpk : Me.peaks l = Me.root (l.take k) :: Me.peaks (l.drop k) := by rw [Me.peaks_cons (by omega), hk]
      rw [hpk, hnk]
      by_cases hfull : m + 1 = 2 ^ t
      · obtain ⟨e, e1, e2⟩ := htop.1 hfull
        obtain ⟨f1, f2, f3⟩ := Me.half_full hk (by omega) h31
        rw [e2]
        rw [hih] at e1
        have hdx : (l.drop k ++ [x]).length = k := by rw [List.length_append, hdl]; simp; omega
        have e3 : Me.peaks (l.drop k ++ [x]) = [Me.root (l.drop k ++ [x])] := by
          have hh : Me.half ((l.drop k ++ [x]).length + 1) = k := by rw [hdx]; exact f3
          rw [Me.peaks_cons (by omega), hh, List.take_of_length_le (Nat.le_of_eq hdx), Me.peaks_nil (by rw [List.length_drop]; omega)]
        rw [e3] at e1
        have e4 : e = Me.root (l.drop k ++ [x]) := by injection e1 with h1 _; exact h1.symm
        have hh : Me.half ((l ++ [x]).length + 1) = l.length + 1 := by rw [hlx]; exact f1
        rw [Me.peaks_cons (show 1 ≤ (l ++ [x]).length by omega), hh, List.take_of_length_le (l := l ++ [x]) (Nat.le_of_eq hlx), Me.peaks_nil (by rw [List.length_drop]; omega), e4]
        have : Me.root (l ++ [x]) = Dg.of (Dg.pair (Me.root (l.take k)) (Me.root (l.drop k ++ [x]))) := by
          unfold Me.root
          rw [Me.str_two (by omega), hlx, hk, htk, hdk]
          rfl
        rw [this]
      · rw [htop.2 (by omega), hih, Me.peaks_cons (show 1 ≤ (l ++ [x]).length by omega), hlx, Me.half_stay hk (by omega) (by omega), htk, hdk]
end Go.Proofs.Ytdgepneaeieogac
