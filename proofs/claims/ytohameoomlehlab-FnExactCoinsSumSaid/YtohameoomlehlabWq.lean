/-
  Contracts of the program: isStack.
-/
import Derived.Test.YtohameoomlehlabWa
import Derived.Test.YtohameoomlehlabSl
import Derived.Below
import Derived.WalkKit
import Derived.WalkSpells
import Derived.LoopTactic
import Derived.Shelf.Abstract
namespace Go.Proofs.Ytohameoomlehlab
open Go.RowKit

theorem isLong_any (s : ByteArray) (w : World) (hs : s.size ≤ 9223372036854775807) : Calls Try.prog 106 #[.string s] w fun e w' => e = .returned (.bool (decide (80 < s.size))) ∧ w' = w := by
  have HQ : Hid (decide ((80 : Int) < s.size) = decide (80 < s.size)) := Lib.hid (by rw [decide_eq_decide]; omega)
  go_enter Try.func106, Try.ntmps106
  go_wp2
  go_ret
  exact ⟨by rw [← HQ.out]; rfl, rfl⟩
set_option maxRecDepth 100000 in
set_option maxHeartbeats 1600000 in
theorem indexLong_any (a : Option Addr) (n c : Nat) (ss : List ByteArray) (w : World) (h : SR w a n ss) (hm : n ≤ 9223372036854775807) (hz : ∀ s ∈ ss, s.size ≤ 9223372036854775807) :
    Calls Try.prog 114 #[.slice a n c, .func (Fn.func 106) #[] #[]] w fun e w' => ∃ i : Int, e = .returned (.int .i64 i) ∧ (0 ≤ i ↔ ∃ s ∈ ss, 80 < s.size) ∧ w' = w := by
  have he : ∀ args w, (callFunc 106 args).run Try.prog w = .ok (.enter 106 args) w := enters_of Try.func106 (by kernel_rfl) rfl
  have hl := h.1
  go_enter Try.func114, Try.ntmps114
  go_wp2
  go_loopw [5, 8] (fun _ i wr => wr = w ∧ ∃ k : Nat, k ≤ n ∧ i = .int .i64 (k : Int) ∧ ∀ j, j < k → ¬ 80 < (ss.getD j ByteArray.empty).size)
    (fun _ i _ => n - (intOf i).toNat)
  case atStart => exact ⟨rfl, 0, by omega, rfl, fun j hj => absurd hj (by omega)⟩
  case round =>
    obtain ⟨rfl, k, hk, rfl, hj⟩ := hrel
    by_cases hlt : k < n
    · obtain ⟨g, off, rfl, _, hc⟩ := h.2 (by omega)
      have hck := hc k hlt
      have HJ := Lib.hid hj
      have hmem : ss.getD k ByteArray.empty ∈ ss := getD_mem (by omega)
      have hzk := hz _ hmem
      clear hj hc h hz
      obtain ⟨t, HT⟩ : ∃ t, Hid (ss.getD k ByteArray.empty = t) := ⟨_, Lib.hid rfl⟩
      rw [HT.out] at hck hmem hzk
      have hlg := isLong_any t wr hzk
      by_cases hv : 80 < t.size
      · rw [decide_eq_true hv] at hlg
        have HV := Lib.hid hv
        clear hv
        go_wp2_with fail
        refine hlg.mono ?_
        rintro e w1 ⟨rfl, rfl⟩
        go_wp2
        go_ret
        exact ⟨_, rfl, ⟨fun _ => ⟨t, hmem, HV.out⟩, fun _ => by omega⟩, rfl⟩
      · rw [decide_eq_false hv] at hlg
        have HV := Lib.hid hv
        clear hv hmem
        go_wp2_with fail
        refine hlg.mono ?_
        rintro e w1 ⟨rfl, rfl⟩
        go_wp2
        go_roundw
        case rel =>
          refine ⟨trivial, k + 1, by omega, by simp, fun j hj => ?_⟩
          by_cases hjk : j < k
          · exact HJ.out j hjk
          · rw [show j = k by omega, HT.out]; exact HV.out
        case measure => simp [intOf]; omega
    · have hk2 : k = n := by omega
      have HJ := Lib.hid hj
      clear hj h hz
      go_wp2
      go_ret
      refine ⟨_, rfl, ⟨fun h => by omega, fun h => ?_⟩, rfl⟩
      obtain ⟨s, hs, h8⟩ := h
      obtain ⟨j, hjl, hje⟩ := List.getElem_of_mem hs
      have := HJ.out j (by omega)
      rw [List.getD_eq_getElem?_getD, List.getElem?_eq_getElem hjl] at this
      simp [hje] at this
      omega
theorem containsLong_any (a : Option Addr) (n c : Nat) (ss : List ByteArray) (w : World) (h : SR w a n ss) (hm : n ≤ 9223372036854775807) (hz : ∀ s ∈ ss, s.size ≤ 9223372036854775807) :
    Calls Try.prog 105 #[.slice a n c, .func (Fn.func 106) #[] #[]] w fun e w' => e = .returned (.bool (decide (∃ s ∈ ss, 80 < s.size))) ∧ w' = w := by
  go_enter Try.func105, Try.ntmps105
  go_wp2_with fail
  refine (indexLong_any a n c ss _ h hm hz).mono ?_
  rintro e w1 ⟨i, rfl, hi, rfl⟩
  have hq : decide (0 ≤ i) = decide (∃ s ∈ ss, 80 < s.size) := by rw [decide_eq_decide]; exact hi
  have HQ := Lib.hid hq
  clear h hi hq hz
  go_wp2
  go_ret
  exact ⟨by rw [← HQ.out]; rfl, rfl⟩
set_option maxRecDepth 100000 in
theorem isStack_any (a : Option Addr) (n c : Nat) (ss : List ByteArray) (w : World) (h : SR w a n ss) (hm : n ≤ 9223372036854775807) (hz : ∀ s ∈ ss, s.size ≤ 9223372036854775807) :
    Calls Try.prog 86 #[.slice a n c] w fun e w' => e = .returned (.bool (decide (Vm.fits ss))) ∧ w' = w := by
  have hl := h.1
  by_cases hn : 24 < n
  · have HQ : Hid (decide (Vm.fits ss) = false) := Lib.hid (decide_eq_false (fun g => by have := g.1; omega))
    have hi : (24 : Int) < n := by omega
    clear h hz hn
    go_enter Try.func86, Try.ntmps86
    go_wp2
    go_ret
    exact ⟨by rw [HQ.out]; rfl, rfl⟩
  · have hcon := containsLong_any a n c ss w h hm hz
    have HQ : Hid (decide (Vm.fits ss) = !decide (∃ s ∈ ss, 80 < s.size)) := Lib.hid (by
      rw [Bool.eq_iff_iff, decide_eq_true_eq, Bool.not_eq_true', decide_eq_false_iff_not]
      unfold Vm.fits
      constructor
      · rintro ⟨_, h2⟩ ⟨s, hs, h8⟩
        have := h2 s hs
        omega
      · intro h2
        refine ⟨by omega, fun s hs => ?_⟩
        rcases Nat.lt_or_ge 80 s.size with h8 | h8
        · exact absurd ⟨s, hs, h8⟩ h2
        · exact h8)
    rw [HQ.out]
    obtain ⟨q, HV⟩ : ∃ q, Hid (decide (∃ s ∈ ss, 80 < s.size) = q) := ⟨_, Lib.hid rfl⟩
    rw [HV.out] at hcon ⊢
    clear HQ HV h hz
    go_enter Try.func86, Try.ntmps86
    go_wp2_with fail
    refine hcon.mono ?_
    rintro e w1 ⟨rfl, rfl⟩
    go_wp2
    go_ret
    exact ⟨rfl, rfl⟩
end Go.Proofs.Ytohameoomlehlab
