/-
  Contracts of the program's chapter 3: powers of 2, halves.
-/
import Derived.Test.YtdgepneaeieogacMs
import Derived.Lib.Tables
namespace Go.Proofs.Ytdgepneaeieogac
open Go.RowKit

theorem Me.len8 : ∀ n : Fin 64, Lib.len8 (n.val : Int) = (if n.val = 0 then 0 else if n.val < 2 then 1 else if n.val < 4 then 2 else if n.val < 8 then 3 else if n.val < 16 then 4 else if n.val < 32 then 5 else 6 : Int) := by decide +kernel

set_option maxRecDepth 100000 in
set_option maxHeartbeats 1600000 in
theorem bitsLen64_any (n : Nat) (w : World) (h : n ≤ 63) :
    Calls Try.prog 68 #[.int .u64 (n : Int)] w fun e w' => e = .returned (.int .i64 (Lib.len8 (n : Int))) ∧ w' = w := by
  have hm : (n : Int) % 256 = (n : Int) := by omega
  have hl := Me.len8 ⟨n, by omega⟩
  have hl0 : 0 ≤ Lib.len8 (n : Int) ∧ Lib.len8 (n : Int) ≤ 6 := by
    simp only [] at hl
    rw [hl]
    repeat' split
    all_goals omega
  clear hl
  obtain ⟨T, HT⟩ : ∃ T, Hid (Lib.len8 (n : Int) = T) := ⟨_, Lib.hid rfl⟩
  have hrun : ∀ W, (Instr.index 9 (.string Lib.len8tab) (.int .u8 (n : Int))).run Try.prog W = .ok (.int .u8 T) W := fun W => by
    rw [← HT.out]; exact Lib.run_index_len8tab W 9 .u8 _ rfl (by omega) (by omega)
  rw [HT.out] at hl0 ⊢
  obtain ⟨L, HL⟩ : ∃ L, Hid (Lib.len8tab = L) := ⟨_, Lib.hid rfl⟩
  rw [HL.out] at hrun
  obtain ⟨x, HX⟩ : ∃ x : Int, Hid ((n : Int) = x) := ⟨_, Lib.hid rfl⟩
  have hx0 : 0 ≤ x ∧ x ≤ 63 := by rw [← HX.out]; omega
  rw [HX.out] at hrun hm ⊢
  go_enter Try.func68, Try.ntmps68
  conv in (Value.string _) => change Value.string Lib.len8tab
  rw [HL.out]
  go_wp2
  go_ret
  exact ⟨rfl, rfl⟩

set_option maxHeartbeats 800000 in
theorem bitsLen_any (n : Nat) (w : World) (h : n ≤ 63) :
    Calls Try.prog 66 #[.int .u64 (n : Int)] w fun e w' => e = .returned (.int .i64 (Lib.len8 (n : Int))) ∧ w' = w := by
  obtain ⟨T, HT⟩ : ∃ T, Hid (Lib.len8 (n : Int) = T) := ⟨_, Lib.hid rfl⟩
  rw [HT.out]
  go_enter Try.func66, Try.ntmps66
  go_wp2_with fail
  refine (bitsLen64_any n _ h).mono ?_
  rw [HT.out]
  rintro e w1 ⟨rfl, rfl⟩
  go_wp2
  go_ret
  exact ⟨rfl, rfl⟩

set_option maxRecDepth 100000 in
set_option maxHeartbeats 800000 in
theorem powerWithin_any (n : Nat) (w : World) (h1 : 1 ≤ n) (h : n ≤ 63) :
    Calls Try.prog 59 #[.int .i64 (n : Int)] w fun e w' => e = .returned (.int .i64 (Me.half (n + 1) : Int)) ∧ w' = w := by
  have hl := Me.len8 ⟨n, by omega⟩
  simp only [] at hl
  obtain ⟨T, HT⟩ : ∃ T, Hid (Lib.len8 (n : Int) = T) := ⟨_, Lib.hid rfl⟩
  obtain ⟨k, HK⟩ : ∃ k, Hid (Me.half (n + 1) = k) := ⟨_, Lib.hid rfl⟩
  have hk : (T = 1 ∧ k = 1) ∨ (T = 2 ∧ k = 2) ∨ (T = 3 ∧ k = 4) ∨ (T = 4 ∧ k = 8) ∨ (T = 5 ∧ k = 16) ∨ (T = 6 ∧ k = 32) := by
    rw [← HT.out, ← HK.out, hl]
    unfold Me.half
    clear hl HT HK
    repeat' split
    all_goals omega
  clear hl
  rw [HK.out]
  rcases hk with ⟨rfl, rfl⟩ | ⟨rfl, rfl⟩ | ⟨rfl, rfl⟩ | ⟨rfl, rfl⟩ | ⟨rfl, rfl⟩ | ⟨rfl, rfl⟩
  all_goals
    go_enter Try.func59, Try.ntmps59
    go_wp2_with fail
    refine (bitsLen_any n _ h).mono ?_
    rw [HT.out]
    rintro e w1 ⟨rfl, rfl⟩
    go_wp2
    go_ret
    exact ⟨rfl, rfl⟩

theorem slice_front3 (b off n cap k : Nat) (hk : k ≤ cap) (W : World) :
    (Instr.slice 33 (.slice (some ⟨b, off, none⟩) n cap) none (some (.int .i64 (k : Int))) (some (.int .i64 (k : Int)))).run Try.prog W = .ok (.slice (some ⟨b, off, none⟩) k k) W := by
  have e1 : (0 : Int) ≤ (k : Int) := by omega
  simp [Instr.slice, Instr.sliceBounds, Instr.sliceBound, asIntOf, run_underlying Try.underlying33, e1, hk, Addr.add]
theorem slice_back3 (b off n cap k : Nat) (hk : k < n) (hn : n ≤ cap) (W : World) :
    (Instr.slice 33 (.slice (some ⟨b, off, none⟩) n cap) (some (.int .i64 (k : Int))) (some (.int .i64 (n : Int))) (some (.int .i64 (n : Int)))).run Try.prog W = .ok (.slice (some ⟨b, off + k, none⟩) (n - k) (n - k)) W := by
  have e1 : (0 : Int) ≤ (k : Int) := by omega
  have e2 : (0 : Int) ≤ (n : Int) := by omega
  have e3 : ¬ n = k := by omega
  have e4 : k ≤ n := by omega
  simp [Instr.slice, Instr.sliceBounds, Instr.sliceBound, asIntOf, run_underlying Try.underlying33, e1, e2, e3, e4, hn]
  unfold Addr.add
  by_cases hk0 : k = 0 <;> simp [hk0]

theorem SR.back3 {w : World} {b off n : Nat} {ss : List ByteArray} (h : SR w (some ⟨b, off, none⟩) n ss) (k : Nat) (hk : k < n) : SR w (some ⟨b, off + k, none⟩) (n - k) (ss.drop k) := by
  refine ⟨by rw [List.length_drop, h.1], fun h0 => ?_⟩
  obtain ⟨b', off', he, hb, hc⟩ := h.2 (by omega)
  cases he
  refine ⟨b, off + k, rfl, hb, fun i hi => ?_⟩
  rw [Me.getD_drop', Nat.add_assoc]
  exact hc (k + i) (by omega)

set_option maxHeartbeats 800000 in
theorem halves_any (b off n cap : Nat) (w : World) (h2 : 2 ≤ n) (h : n ≤ 64) (hcap : n ≤ cap) :
    Calls Try.prog 63 #[.slice (some ⟨b, off, none⟩) n cap] w fun e w' => e = .returned (.tuple #[.slice (some ⟨b, off, none⟩) (Me.half n) (Me.half n), .slice (some ⟨b, off + Me.half n, none⟩) (n - Me.half n) (n - Me.half n)]) ∧ Below w.heap.size w w' := by
  have hh1 := Me.half_lt n (by omega)
  have hh0 := Me.half_pos n
  obtain ⟨k, HK⟩ : ∃ k, Hid (Me.half n = k) := ⟨_, Lib.hid rfl⟩
  rw [HK.out] at hh0 hh1 ⊢
  have hs1 := slice_front3 b off n cap k (by omega)
  have hs2 := slice_back3 b off n cap k (by omega) hcap
  have hn1 : (n : Int) - 1 = ((n - 1 : Nat) : Int) := by omega
  go_enter Try.func63, Try.ntmps63
  go_wp2_with fail
  try rw [hn1]
  refine (powerWithin_any (n - 1) _ (by omega) (by omega)).mono ?_
  rw [show n - 1 + 1 = n by omega, HK.out]
  rintro e w1 ⟨rfl, rfl⟩
  go_wp2
  clear hn1
  go_quiet (fail)
  go_wp2
  go_ret2
  exact ⟨rfl, below_drewN (Below.refl _ _) _⟩
end Go.Proofs.Ytdgepneaeieogac
