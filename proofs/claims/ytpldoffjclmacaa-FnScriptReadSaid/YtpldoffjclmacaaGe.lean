/-
  Contracts of chapter 4: scalars and keys, of the program and of the model; the rest of the model's group.
-/
import Derived.Test.YtpldoffjclmacaaGd
namespace Go.Proofs.Ytpldoffjclmacaa
open Go.RowKit

theorem Gr.sok_yes {x : Int} (h0 : 1 ≤ x) (h1 : x ≤ 1073741788) : Gr.sok x = true := by unfold Gr.sok; simp [h0, h1]
theorem Gr.sok_no {x : Int} (h : ¬ (1 ≤ x ∧ x ≤ 1073741788)) : Gr.sok x = false := by unfold Gr.sok; simp; omega
theorem Gr.kok_one : Gr.kok 1 = false := by unfold Gr.kok; simp

set_option maxRecDepth 100000 in
set_option maxHeartbeats 800000 in
theorem l4Base_any (e : Int) (w : World) (he2 : e ≤ 9223372036854775807) :
    Calls Try.prog 58 #[.int .i64 e] w fun x w' => x = .returned (.int .i64 (Gr.pw 2147483579 4 e)) ∧ w' = w := by
  go_enter Try.func58, Try.ntmps58
  go_wp2_with fail
  refine (l4Exp_any 4 e _ (by omega) (by omega) he2).mono ?_
  rintro e1 w1 ⟨rfl, rfl⟩
  go_wp2
  go_ret
  exact ⟨rfl, rfl⟩
set_option maxRecDepth 100000 in
set_option maxHeartbeats 800000 in
theorem specKeyOk_any (a : Int) (w : World) :
    Calls Try.prog 71 #[.int .i64 a] w fun r w' => r = .returned (.bool (Gr.kok a)) ∧ w' = w := by
  have HK : Hid (Gr.kok a = (Gr.ok a && !(a == 1))) := rfl
  by_cases hk : Gr.ok a = true
  · have HA := Lib.hid hk
    rw [HK.out, HA.out, Bool.true_and]
    clear hk HK
    have hn : (a != 1) = !(a == 1) := rfl
    go_enter Try.func71, Try.ntmps71
    go_wp2_with fail
    refine (specGroupOk_any a _).mono ?_
    rw [HA.out]
    rintro e2 w2 ⟨rfl, rfl⟩
    go_wp2
    go_ret
    exact ⟨rfl, rfl⟩
  · have HA : Hid (Gr.ok a = false) := Lib.hid (by simpa using hk)
    rw [HK.out, HA.out, Bool.false_and]
    clear hk HK
    go_enter Try.func71, Try.ntmps71
    go_wp2_with fail
    refine (specGroupOk_any a _).mono ?_
    rw [HA.out]
    rintro e2 w2 ⟨rfl, rfl⟩
    go_wp2
    go_ret
    exact ⟨rfl, rfl⟩
end Go.Proofs.Ytpldoffjclmacaa
