/-
  Plain mathematics of chapter 3: what the laws ask of roots, proofs and peaks.
-/
import Derived.Test.YtdgepneaeieogacMy
import Derived.Test.YtdgepneaeieogacMw
import Derived.Test.YtdgepneaeieogacMv
import Derived.Test.YtdgepneaeieogacMx
namespace Go.Proofs.Ytdgepneaeieogac

theorem Me.ones_step (m : Nat) : Me.ones m = m % 2 + Me.ones (m / 2) := by
  by_cases h0 : m = 0
  · subst h0; simp [Me.ones_zero]
  · exact Me.ones_pos (by omega)
theorem Me.ones_6 {n : Nat} (h : n ≤ 63) : Me.ones n ≤ 6 := by
  rw [Me.ones_step n, Me.ones_step (n / 2), Me.ones_step (n / 2 / 2), Me.ones_step (n / 2 / 2 / 2), Me.ones_step (n / 2 / 2 / 2 / 2), Me.ones_step (n / 2 / 2 / 2 / 2 / 2), show n / 2 / 2 / 2 / 2 / 2 / 2 = 0 by omega, Me.ones_zero]
  omega
theorem Me.peaks_digests : ∀ (n : Nat) (l : List ByteArray), l.length = n → Me.digests (Me.peaks l) := by
  intro n
  induction n using Nat.strongRecOn with
  | ind n ih =>
    intro l hl
    subst hl
    by_cases h0 : l.length = 0
    · rw [Me.peaks_nil h0]; intro d hd; cases hd
    · have hk0 := Me.half_pos (l.length + 1)
      rw [Me.peaks_cons (by omega)]
      intro d hd
      rcases List.mem_cons.1 hd with h | h
      · subst h; exact Me.root_bd _
      · exact ih (l.length - Me.half (l.length + 1)) (by omega) _ List.length_drop d h
/-- The root by its peaks. -/
theorem Me.prA_peaks {l : List ByteArray} (h1 : 1 ≤ l.length) (h32 : l.length ≤ 32) : Me.prA (Me.peaks l) = .tuple #[.int .i64 (Me.root l), .bool true] := by
  have hlen := Me.peaks_ones l.length l rfl (by omega)
  have h6 := Me.ones_6 (n := l.length) (by omega)
  have hne := Me.peaks_ne h1
  have hpos : 1 ≤ (Me.peaks l).length := by
    cases h : Me.peaks l with
    | nil => exact absurd h hne
    | cons a b => simp
  have hok : Me.prOk (Me.peaks l) := ⟨⟨hpos, by omega⟩, Me.peaks_digests l.length l rfl⟩
  have : Me.prA (Me.peaks l) = .tuple #[.int .i64 (Me.fold (Me.peaks l)), .bool true] := if_pos hok
  rw [this, Me.fold_peaks l.length l rfl h1 h32]
/-- Each proof is accepted. -/
theorem Me.good_proof {l : List ByteArray} {i : Nat} (h1 : 1 ≤ l.length) (h32 : l.length ≤ 32) (hi : i < l.length) : Me.good (Me.root l) (l.length : Int) (i : Int) (l.getD i ByteArray.empty) (Me.proof l i) := by
  obtain ⟨e1, e2⟩ := Me.told_proof l.length l i rfl hi
  refine ⟨by omega, by omega, Me.proof_digests l.length l i rfl, by rw [Int.toNat_natCast, Int.toNat_natCast]; exact e2, ?_⟩
  rw [Int.toNat_natCast, Int.toNat_natCast, e1]
  rfl
/-- An accepted proof without elements shows the leaf's digest. -/
theorem Me.good_nil {r n i : Int} {s : ByteArray} {p : List Int} (h : Me.good r n i s p) (hp : p.length = 0) : Dg.of (Me.leaf s) = r := by
  have h4 := h.2.2.2.1
  have h1 := Me.steps_zero (n := n.toNat) (i := i.toNat) (by omega)
  have h5 := h.2.2.2.2
  rw [Me.told_one h1] at h5
  exact h5
theorem Me.addP_pos : ∀ (n : Nat) (ps : List Int) (d : Int), 1 ≤ (Me.addP n ps d).length := by
  intro n
  induction n using Nat.strongRecOn with
  | ind n ih =>
    intro ps d
    by_cases h : n % 2 = 1
    · rw [Me.addP_odd h]
      exact ih (n / 2) (by omega) _ _
    · rw [Me.addP_even h]
      simp
end Go.Proofs.Ytdgepneaeieogac
