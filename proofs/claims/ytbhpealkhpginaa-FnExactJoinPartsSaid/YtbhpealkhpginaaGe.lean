/-
  Contracts of chapter 4: scalars and keys, of the program and of the model; the rest of the model's group.
-/
import Derived.Test.YtbhpealkhpginaaGd
namespace Go.Proofs.Ytbhpealkhpginaa
open Go.RowKit

theorem Gr.sok_yes {x : Int} (h0 : 1 ≤ x) (h1 : x ≤ 1073741788) : Gr.sok x = true := by unfold Gr.sok; simp [h0, h1]
theorem Gr.sok_no {x : Int} (h : ¬ (1 ≤ x ∧ x ≤ 1073741788)) : Gr.sok x = false := by unfold Gr.sok; simp; omega
theorem Gr.kok_one : Gr.kok 1 = false := by unfold Gr.kok; simp
set_option maxRecDepth 100000 in
set_option maxHeartbeats 800000 in
theorem isScalar_any (x : Int) (w : World) :
    Calls Try.prog 48 #[.int .i64 x] w fun r w' => r = .returned (.bool (Gr.sok x)) ∧ w' = w := by
  by_cases h0 : 1 ≤ x
  · by_cases h1 : x ≤ 1073741788
    · rw [Gr.sok_yes h0 h1]
      have h2 : x < 1073741789 := by omega
      clear h1
      go_enter Try.func48, Try.ntmps48
      go_wp2
      go_ret
      exact ⟨rfl, rfl⟩
    · rw [Gr.sok_no (by omega)]
      have h2 : decide (x < 1073741789) = false := by simp; omega
      clear h1
      go_enter Try.func48, Try.ntmps48
      go_wp2
      go_ret
      exact ⟨rfl, rfl⟩
  · rw [Gr.sok_no (by omega)]
    have h2 : x < 1 := by omega
    clear h0
    go_enter Try.func48, Try.ntmps48
    go_wp2
    go_ret
    exact ⟨rfl, rfl⟩

set_option maxRecDepth 100000 in
set_option maxHeartbeats 800000 in
theorem l4Inv_any (x : Int) (w : World) (h0 : 0 ≤ x) (h1 : x < 1073741789) :
    Calls Try.prog 64 #[.int .i64 x] w fun r w' => r = .returned (.int .i64 (Gr.pw 1073741789 x 1073741787)) ∧ w' = w := by
  go_enter Try.func64, Try.ntmps64
  go_wp2_with fail
  refine (l4Pow_any x 1073741787 1073741789 _ (by omega) (by omega) h0 h1 (by omega)).mono ?_
  rintro e1 w1 ⟨rfl, rfl⟩
  go_wp2
  go_ret
  exact ⟨rfl, rfl⟩
end Go.Proofs.Ytbhpealkhpginaa
