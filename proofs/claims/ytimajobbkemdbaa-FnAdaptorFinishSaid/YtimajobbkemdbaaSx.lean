/-
  The laws' own helpers for signatures and signed messages; structs as arguments.
-/
import Derived.Test.YtimajobbkemdbaaSk
import Derived.ChangeSame
import Derived.Deep.Strs
import Derived.Lib.SmallJoins
import Derived.OpenShut
import Derived.WideShapes
namespace Go.Proofs.Ytimajobbkemdbaa
open Go.RowKit Go.Joins Go.WideShapes Go.ChangeShapes Go.Deep

set_option maxRecDepth 100000 in
set_option maxHeartbeats 800000 in
theorem eqSig_any (R S : Int) (w : World) :
    Calls Try.prog 29 #[.agg #[.int .i64 R, .int .i64 S], .agg #[.int .i64 R, .int .i64 S]] w fun e w' => e = .returned (.bool true) ∧ Below w.heap.size w w' := by
  have hc := below_alloc (below_alloc (Below.refl w.heap.size w) (.cells #[.int .i64 R, .int .i64 S] 35 (0, 0))) (.cells #[.int .i64 R, .int .i64 S] 35 (0, 0))
  go_enter Try.func29, Try.ntmps29
  go_wp2
  try go_region
  go_wp2
  try go_region
  go_wp2
  go_ret
  exact ⟨rfl, by first | exact hc | exact hc.drew | exact hc.drew.drew⟩
set_option maxRecDepth 100000 in
set_option maxHeartbeats 800000 in
theorem toSig_any (R S : Int) (w : World) :
    Calls Try.prog 30 #[.agg #[.int .i64 R, .int .i64 S]] w fun e w' => e = .returned (.agg #[.int .i64 R, .int .i64 S]) ∧ Below w.heap.size w w' := by
  go_enter Try.func30, Try.ntmps30
  go_wp2
  refine bodyPost_ret (results_cell_row (P := Try.prog) rfl _ _ (w.heap.size + 1) 35 _ (0, 0) _ rfl ((Bk.new' (w.alloc _) 35 #[.int .i64 R, .int .i64 S] _ (by simp)).alloc _).held Try.underlying35 rfl (by kernel_rfl)) rfl ?_
  exact ⟨rfl, below_alloc (below_alloc (below_alloc (Below.refl _ _) _) _) _⟩
section
variable {H : Type} {enc : TypeId × Value → H} {W : World} {base : Nat} {spare : Nat → Bool} {held : Bool}
theorem open_sig {r : Reach} {b0 : Nat} {v : Value} {d : DataW H} {p : List MemPlace} (hv : Value.okWide Try.prog W r b0 54 v) (h : DataW.Trod enc Try.prog W base spare held 54 v d p) :
    ∃ R S : Int, v = .agg #[.int .i64 R, .int .i64 S] ∧ d = .agg [.lit (.int .i64 R), .lit (.int .i64 S)] ∧ p = [] ∧ (Lit.int .i64 R).wf = true ∧ (Lit.int .i64 S).wf = true := by
  obtain ⟨c0, c1, y0, y1, m, rfl, rfl, rfl, hy0, hy1⟩ := open_agg2 Try.underlying54 (by kernel_rfl) (by kernel_rfl) hv h
  obtain ⟨a, e0, rfl, wa⟩ := DataW.trod_int Try.underlying3 hy0
  obtain ⟨b, e1, rfl, wb⟩ := DataW.trod_int Try.underlying3 hy1
  simp at e0 e1
  subst e0 e1
  exact ⟨a, b, rfl, rfl, rfl, wa, wb⟩
theorem shut_sig (R S : Int) (wa : (Lit.int .i64 R).wf = true) (wb : (Lit.int .i64 S).wf = true) :
    DataW.Trod enc Try.prog W base spare held 54 (.agg #[.int .i64 R, .int .i64 S]) (.agg [.lit (.int .i64 R), .lit (.int .i64 S)]) [] :=
  shut_agg2 (y0 := (.lit (.int .i64 R), [])) (y1 := (.lit (.int .i64 S), [])) Try.underlying54 (by kernel_rfl) (by kernel_rfl) ⟨1, by simp [DataW.trod, Try.underlying3, wa]⟩ ⟨1, by simp [DataW.trod, Try.underlying3, wb]⟩
end
end Go.Proofs.Ytimajobbkemdbaa
