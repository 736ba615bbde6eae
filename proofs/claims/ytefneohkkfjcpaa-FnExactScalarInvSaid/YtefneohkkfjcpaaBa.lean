/-
  Contracts that many others want: l6In; 'string(b)' of a new block.
-/
import Derived.Test.YtefneohkkfjcpaaChecked
import Derived.WalkKit
import Derived.WalkSpells
import Derived.Below
import Derived.Outline
import Derived.Laws.Concat
import Derived.Laws.BytesArg
namespace Go.Proofs.Ytefneohkkfjcpaa
open Go.RowKit

set_option maxHeartbeats 400000 in
theorem l6In_any (n a b : Int) (w : World) :
    Calls Try.prog 21 #[.int .i64 n, .int .i64 a, .int .i64 b] w fun e w' => e = .returned (.bool (decide (a ≤ n) && decide (n ≤ b))) ∧ w = w' := by
  by_cases h : a ≤ n
  · go_enter Try.func21, Try.ntmps21
    go_wp2
    go_ret
    exact ⟨by simp [h], rfl⟩
  · have hf : decide (a ≤ n) = false := by simpa using h
    go_enter Try.func21, Try.ntmps21
    go_wp2
    go_ret
    exact ⟨rfl, rfl⟩
end Go.Proofs.Ytefneohkkfjcpaa
