/-
  The laws' own helpers for signatures and signed messages; structs as arguments.
-/
import Derived.Test.YtabihimhenhnnaaSk
import Derived.ChangeSame
import Derived.Deep.Strs
import Derived.Lib.SmallJoins
import Derived.OpenShut
import Derived.WideShapes
namespace Go.Proofs.Ytabihimhenhnnaa
open Go.RowKit Go.Joins Go.WideShapes Go.ChangeShapes Go.Deep

set_option maxRecDepth 100000 in
set_option maxHeartbeats 800000 in
theorem eqSig_any (R S : Int) (w : World) :
    Calls Try.prog 18 #[.agg #[.int .i64 R, .int .i64 S], .agg #[.int .i64 R, .int .i64 S]] w fun e w' => e = .returned (.bool true) ∧ Below w.heap.size w w' := by
  have hc := below_alloc (below_alloc (Below.refl w.heap.size w) (.cells #[.int .i64 R, .int .i64 S] 32 (0, 0))) (.cells #[.int .i64 R, .int .i64 S] 32 (0, 0))
  go_enter Try.func18, Try.ntmps18
  go_wp2
  try go_region
  go_wp2
  try go_region
  go_wp2
  go_ret
  exact ⟨rfl, by first | exact hc | exact hc.drew | exact hc.drew.drew⟩
section
variable {H : Type} {enc : TypeId × Value → H} {W : World} {base : Nat} {spare : Nat → Bool} {held : Bool}
end
end Go.Proofs.Ytabihimhenhnnaa
