/-
  Contracts that many others want: l6In; 'string(b)' of a new block.
-/
import Derived.Test.YtohameoomlehlaaGreatChecked
import Derived.WalkKit
import Derived.WalkSpells
import Derived.Below
import Derived.Outline
import Derived.Laws.Concat
import Derived.Laws.BytesArg
namespace Go.Proofs.YtohameoomlehlaaGreat
open Go.RowKit

/-- 'string(b)' of a new block of bytes. -/
theorem conv_new (xs : List Int) (cap : Nat) (W : World) :
    (convert 22 9 (.slice (some ⟨W.heap.size, 0, none⟩) xs.length cap)).run Tryz.prog (W.alloc (.cells (xs.map (Value.int .u8)).toArray 5)) =
      .ok (.string (strOfNums xs)) (W.alloc (.cells (xs.map (Value.int .u8)).toArray 5)) := by
  refine run_convert_bytes_arg (P := Tryz.prog) _ 22 5 (by kernel_rfl) (by kernel_rfl) W.heap.size 0 xs.length cap xs rfl (fun i hi => ?_) 9 (by kernel_rfl)
  rw [Nat.zero_add]
  exact (World.cell?_alloc_mark W _ _ _ i).trans (by simp [List.getD, List.getElem?_eq_getElem hi])

set_option maxHeartbeats 400000 in
theorem l6In_any (n a b : Int) (w : World) :
    Calls Tryz.prog 59 #[.int .i64 n, .int .i64 a, .int .i64 b] w fun e w' => e = .returned (.bool (decide (a ≤ n) && decide (n ≤ b))) ∧ w = w' := by
  by_cases h : a ≤ n
  · go_enter Tryz.func59, Tryz.ntmps59
    go_wp2
    go_ret
    exact ⟨by simp [h], rfl⟩
  · have hf : decide (a ≤ n) = false := by simpa using h
    go_enter Tryz.func59, Tryz.ntmps59
    go_wp2
    go_ret
    exact ⟨rfl, rfl⟩
end Go.Proofs.YtohameoomlehlaaGreat
