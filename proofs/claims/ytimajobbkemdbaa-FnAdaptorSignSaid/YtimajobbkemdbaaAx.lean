/-
  The laws' own helpers for adaptor signatures; an adaptor signature as an argument.
-/
import Derived.Test.YtimajobbkemdbaaAj
import Derived.Test.YtimajobbkemdbaaSx
import Derived.ChangeSame
import Derived.Deep.Strs
import Derived.Lib.SmallJoins
import Derived.OpenShut
import Derived.WideShapes
namespace Go.Proofs.Ytimajobbkemdbaa
open Go.RowKit Go.Joins Go.WideShapes Go.ChangeShapes Go.Deep

def Ad.a0 (u : Int) (t : ByteArray) (p : Int) : Int := if Gr.sok u && Gr.kok p then Sg.sr u t else 0
def Ad.a1 (u : Int) (t : ByteArray) (p : Int) : Int := if Gr.sok u && Gr.kok p then Ad.ss u t p else 0
def Ad.a2 (u : Int) (p : Int) : Int := if Gr.sok u && Gr.kok p then p else 0
theorem implAdaptorSign_any (u : Int) (t : ByteArray) (p : Int) (w : World) (ht : t.size ≤ 1048576) :
    Calls Try.prog 12 #[.int .i64 u, .string t, .int .i64 p] w fun x w' => x = .returned (.tuple #[.agg #[.int .i64 (Ad.a0 u t p), .int .i64 (Ad.a1 u t p), .int .i64 (Ad.a2 u p)], .bool (Gr.sok u && Gr.kok p)]) ∧ Below w.heap.size w w' := by
  unfold Ad.a0 Ad.a1 Ad.a2
  cases hs : Gr.sok u
  · exact implAdaptorSign_no1 u t p w hs
  · cases hp : Gr.kok p
    · exact implAdaptorSign_no2 u t p w hs hp
    · exact implAdaptorSign_yes u t p w hs hp ht
theorem specAdaptorSign_any (u : Int) (t : ByteArray) (p : Int) (w : World) (ht : t.size ≤ 1048576) :
    Calls Try.prog 13 #[.int .i64 u, .string t, .int .i64 p] w fun x w' => x = .returned (.tuple #[.agg #[.int .i64 (Ad.a0 u t p), .int .i64 (Ad.a1 u t p), .int .i64 (Ad.a2 u p)], .bool (Gr.sok u && Gr.kok p)]) ∧ Below w.heap.size w w' := by
  unfold Ad.a0 Ad.a1 Ad.a2
  cases hs : Gr.sok u
  · exact specAdaptorSign_no1 u t p w hs
  · cases hp : Gr.kok p
    · exact specAdaptorSign_no2 u t p w hs hp
    · exact specAdaptorSign_yes u t p w hs hp ht
theorem eq_adaptor (a b c : Int) (w : World) : (Op.equalIn 10000 26 (.agg #[.int .i64 a, .int .i64 b, .int .i64 c]) (.agg #[.int .i64 a, .int .i64 b, .int .i64 c])).run Try.prog w = .ok true w := by
  have u3 := Try.underlying3
  have a3 := Try.isAgg3
  have z3 := Try.sizeOf3
  have hS : Try.prog.underlying 26 = some (.struct (Try.prog.fieldsOf 26)) := by kernel_rfl
  rw [show (10000 : Nat) = 9999 + 1 from rfl, run_equalIn_agg w 9999 26 _ _ hS (by kernel_rfl)]
  simp only [Program.fieldsOf, Try.underlying26]
  go_simp
theorem noGuard_adaptor : Try.prog.eqGuardType Try.prog.depth 26 = false := by kernel_rfl
set_option maxRecDepth 100000 in
set_option maxHeartbeats 800000 in
theorem eqAdaptor_any (R S P : Int) (w : World) :
    Calls Try.prog 27 #[.agg #[.int .i64 R, .int .i64 S, .int .i64 P], .agg #[.int .i64 R, .int .i64 S, .int .i64 P]] w fun e w' => e = .returned (.bool true) ∧ Below w.heap.size w w' := by
  have hc := below_alloc (below_alloc (Below.refl w.heap.size w) (.cells #[.int .i64 R, .int .i64 S, .int .i64 P] 26 (0, 0))) (.cells #[.int .i64 R, .int .i64 S, .int .i64 P] 26 (0, 0))
  go_enter Try.func27, Try.ntmps27
  go_wp2
  try go_region
  go_wp2
  try go_region
  go_wp2
  try go_region
  go_wp2
  go_ret
  exact ⟨rfl, by first | exact hc | exact hc.drew | exact hc.drew.drew | exact hc.drew.drew.drew⟩
set_option maxRecDepth 100000 in
set_option maxHeartbeats 800000 in
theorem toAdaptor_any (R S P : Int) (w : World) :
    Calls Try.prog 28 #[.agg #[.int .i64 R, .int .i64 S, .int .i64 P]] w fun e w' => e = .returned (.agg #[.int .i64 R, .int .i64 S, .int .i64 P]) ∧ Below w.heap.size w w' := by
  go_enter Try.func28, Try.ntmps28
  go_wp2
  refine bodyPost_ret (results_cell_row (P := Try.prog) rfl _ _ (w.heap.size + 1) 26 _ (0, 0) _ rfl ((Bk.new' (w.alloc _) 26 #[.int .i64 R, .int .i64 S, .int .i64 P] _ (by simp)).alloc _).held Try.underlying26 rfl (by kernel_rfl)) rfl ?_
  exact ⟨rfl, below_alloc (below_alloc (below_alloc (Below.refl _ _) _) _) _⟩
section
variable {H : Type} {enc : TypeId × Value → H} {W : World} {base : Nat} {spare : Nat → Bool} {held : Bool}
theorem open_adaptor_cells {fuel : Nat} {cs : List Value} {x : DataW H × List MemPlace} (h : DataW.trod enc Try.prog W base spare held fuel 49 cs = some x) :
    ∃ R S P : Int, cs = [.int .i64 R, .int .i64 S, .int .i64 P] ∧ x = (.agg [.lit (.int .i64 R), .lit (.int .i64 S), .lit (.int .i64 P)], []) ∧ (Lit.int .i64 R).wf = true ∧ (Lit.int .i64 S).wf = true ∧ (Lit.int .i64 P).wf = true := by
  obtain ⟨y0, y1, y2, n, rfl, hl, h0, h1, h2⟩ := trod_struct3 Try.underlying49 h
  obtain ⟨a, e0, rfl, wa⟩ := DataW.trod_int Try.underlying3 h0
  obtain ⟨b, e1, rfl, wb⟩ := DataW.trod_int Try.underlying3 h1
  obtain ⟨c, e2, rfl, wc⟩ := DataW.trod_int Try.underlying3 h2
  have hC : Try.prog.cellsOf 49 = 3 := by kernel_rfl
  have hC1 : Try.prog.cellsOf 3 = 1 := by kernel_rfl
  rw [hC] at hl
  obtain ⟨x0, x1, x2, rfl⟩ : ∃ x0 x1 x2, cs = [x0, x1, x2] := by
    rcases cs with _ | ⟨x0, _ | ⟨x1, _ | ⟨x2, _ | ⟨x3, r⟩⟩⟩⟩ <;> simp at hl
    exact ⟨x0, x1, x2, rfl⟩
  simp [hC1] at e0 e1 e2
  subst e0 e1 e2
  exact ⟨a, b, c, rfl, by simp, wa, wb, wc⟩
theorem open_adaptor {r : Reach} {b0 : Nat} {v : Value} {d : DataW H} {p : List MemPlace} (hv : Value.okWide Try.prog W r b0 49 v) (h : DataW.Trod enc Try.prog W base spare held 49 v d p) :
    ∃ R S P : Int, v = .agg #[.int .i64 R, .int .i64 S, .int .i64 P] ∧ d = .agg [.lit (.int .i64 R), .lit (.int .i64 S), .lit (.int .i64 P)] ∧ p = [] ∧ (Lit.int .i64 R).wf = true ∧ (Lit.int .i64 S).wf = true ∧ (Lit.int .i64 P).wf = true := by
  obtain ⟨cs, rfl, hsz⟩ := okWide_struct Try.underlying49 hv
  obtain ⟨fuel, hf⟩ := h
  obtain ⟨R, S, P, e, hx, w1, w2, w3⟩ := open_adaptor_cells hf
  simp only [Prod.mk.injEq] at hx
  refine ⟨R, S, P, ?_, hx.1, hx.2, w1, w2, w3⟩
  congr 1
  apply Array.toList_inj.mp
  simpa [Value.cells] using e
theorem shut_adaptor (R S P : Int) (wa : (Lit.int .i64 R).wf = true) (wb : (Lit.int .i64 S).wf = true) (wc : (Lit.int .i64 P).wf = true) :
    DataW.Trod enc Try.prog W base spare held 49 (.agg #[.int .i64 R, .int .i64 S, .int .i64 P]) (.agg [.lit (.int .i64 R), .lit (.int .i64 S), .lit (.int .i64 P)]) [] := by
  have hC1 : Try.prog.cellsOf 3 = 1 := by kernel_rfl
  have := trod_struct3_mk (enc := enc) (w := W) (base := base) (spare := spare) (held := held) (n := 1) (cs := [.int .i64 R, .int .i64 S, .int .i64 P]) (y0 := (.lit (.int .i64 R), [])) (y1 := (.lit (.int .i64 S), [])) (y2 := (.lit (.int .i64 P), [])) Try.underlying49 (by kernel_rfl)
    (by simp [hC1, DataW.trod, Try.underlying3, wa]) (by simp [hC1, DataW.trod, Try.underlying3, wb]) (by simp [hC1, DataW.trod, Try.underlying3, wc])
  exact ⟨2, by simpa [Value.cells] using this⟩
end
end Go.Proofs.Ytimajobbkemdbaa
