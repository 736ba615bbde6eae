/-
  The laws' own helpers for signatures and signed messages; structs as arguments.
-/
import Derived.Test.YtimajobbkemdbabSk
import Derived.ChangeSame
import Derived.Deep.Strs
import Derived.Lib.SmallJoins
import Derived.OpenShut
import Derived.WideShapes
namespace Go.Proofs.Ytimajobbkemdbab
open Go.RowKit Go.Joins Go.WideShapes Go.ChangeShapes Go.Deep

set_option maxRecDepth 100000 in
set_option maxHeartbeats 800000 in
theorem eqSig_any (R S : Int) (w : World) :
    Calls Try.prog 23 #[.agg #[.int .i64 R, .int .i64 S], .agg #[.int .i64 R, .int .i64 S]] w fun e w' => e = .returned (.bool true) ∧ Below w.heap.size w w' := by
  have hc := below_alloc (below_alloc (Below.refl w.heap.size w) (.cells #[.int .i64 R, .int .i64 S] 32 (0, 0))) (.cells #[.int .i64 R, .int .i64 S] 32 (0, 0))
  go_enter Try.func23, Try.ntmps23
  go_wp2
  try go_region
  go_wp2
  try go_region
  go_wp2
  go_ret
  exact ⟨rfl, by first | exact hc | exact hc.drew | exact hc.drew.drew⟩
set_option maxRecDepth 100000 in
set_option maxHeartbeats 800000 in
theorem toSig_any (R S : Int) (w : World) :
    Calls Try.prog 83 #[.agg #[.int .i64 R, .int .i64 S]] w fun e w' => e = .returned (.agg #[.int .i64 R, .int .i64 S]) ∧ Below w.heap.size w w' := by
  go_enter Try.func83, Try.ntmps83
  go_wp2
  refine bodyPost_ret (results_cell_row (P := Try.prog) rfl _ _ (w.heap.size + 1) 32 _ (0, 0) _ rfl ((Bk.new' (w.alloc _) 32 #[.int .i64 R, .int .i64 S] _ (by simp)).alloc _).held Try.underlying32 rfl (by kernel_rfl)) rfl ?_
  exact ⟨rfl, below_alloc (below_alloc (below_alloc (Below.refl _ _) _) _) _⟩
set_option maxRecDepth 100000 in
set_option maxHeartbeats 800000 in
theorem toSigned_any (K R S : Int) (t : ByteArray) (w : World) :
    Calls Try.prog 63 #[.agg #[.int .i64 K, .string t, .int .i64 R, .int .i64 S]] w fun e w' => e = .returned (.agg #[.int .i64 K, .string t, .int .i64 R, .int .i64 S]) ∧ Below w.heap.size w w' := by
  have HO : ∀ A B, Bk (w.heap.size + 1 + 1) 42 #[.int .i64 K, .string t, .int .i64 0, .int .i64 0] (((w.alloc A).alloc B).alloc (.cells #[.int .i64 K, .string t, .int .i64 0, .int .i64 0] 42 (0, 0))) := fun A B => Bk.new' _ _ _ _ (by simp)
  have HX : ∀ A B, Bk (w.heap.size + 1) 42 #[.int .i64 0, .string ⟨#[]⟩, .int .i64 0, .int .i64 0] (((w.alloc A).alloc (.cells #[.int .i64 0, .string ⟨#[]⟩, .int .i64 0, .int .i64 0] 42 (0, 0))).alloc B) := fun A B => (Bk.new' _ _ _ _ (by simp)).alloc B
  go_enter Try.func63, Try.ntmps63
  go_wp2_with fail
  refine (toSig_any R S _).mono ?_
  rintro e1 w1 ⟨rfl, hb1⟩
  have HO1 := (HO _ _).below hb1
  have HX1 := (HX _ _).below hb1
  have hc1 := below_after (below_alloc (below_alloc (below_alloc (Below.refl _ _) _) _) _) hb1
  clear HO HX hb1
  obtain ⟨o0, o1, o2, o3⟩ := Bk.c4 HO1
  obtain ⟨f0, f1, f2, f3⟩ := HO1.f4
  have HO2 : Bk (w.heap.size + 1 + 1) 42 #[.int .i64 K, .string t, .int .i64 R, .int .i64 0] _ := HO1.set 2 (.int .i64 R)
  have HO3 : Bk (w.heap.size + 1 + 1) 42 #[.int .i64 K, .string t, .int .i64 R, .int .i64 S] _ := HO2.set 3 (.int .i64 S)
  have HX3 := (HX1.oset (w.heap.size + 1 + 1) 2 (.int .i64 R) (by omega)).oset (w.heap.size + 1 + 1) 3 (.int .i64 S) (by omega)
  have hc3 := (hc1.setCell (p := ⟨w.heap.size + 1 + 1, 2, none⟩) (by show w.heap.size ≤ w.heap.size + 1 + 1; omega) (.int .i64 R)).setCell (p := ⟨w.heap.size + 1 + 1, 3, none⟩) (by show w.heap.size ≤ w.heap.size + 1 + 1; omega) (.int .i64 S)
  obtain ⟨x0, x1, x2, x3⟩ := Bk.c4 HX3
  obtain ⟨g0, g1, g2, g3⟩ := HX3.f4
  obtain ⟨p0, p1, p2, p3⟩ := Bk.c4 HO3
  have HX4 := Bk.store4 HX3 (.int .i64 K) (.string t) (.int .i64 R) (.int .i64 S)
  have hc4 := below_store4 hc3 (w.heap.size + 1) (by omega) (.int .i64 K) (.string t) (.int .i64 R) (.int .i64 S)
  clear HO1 HO2 HO3 HX1 HX3 hc1 hc3
  go_wp2
  refine bodyPost_ret (results_cell_row (P := Try.prog) rfl _ _ (w.heap.size + 1) 42 _ (0, 0) _ rfl HX4.held Try.underlying42 rfl (by kernel_rfl)) rfl ?_
  exact ⟨rfl, hc4⟩
set_option maxRecDepth 100000 in
set_option maxHeartbeats 800000 in
theorem szSigned_any (K R S left : Int) (t : ByteArray) (w : World) (l0 : 0 ≤ left) (l1 : left ≤ 1048576) (ht : t.size ≤ 9223372036854775807) :
    Calls Try.prog 62 #[.agg #[.int .i64 K, .string t, .int .i64 R, .int .i64 S], .int .i64 left] w fun e w' => ∃ v : Int, e = .returned (.int .i64 v) ∧ (v < 0 ∨ (v = left - t.size ∧ (t.size : Int) ≤ left)) ∧ Below w.heap.size w w' := by
  by_cases h : left - (t.size : Int) < 0
  · go_enter Try.func62, Try.ntmps62
    go_wp2
    go_ret
    exact ⟨-1, rfl, .inl (by decide), below_alloc (Below.refl _ _) _⟩
  · go_enter Try.func62, Try.ntmps62
    go_wp2
    go_ret
    exact ⟨_, rfl, .inr ⟨rfl, by omega⟩, below_alloc (Below.refl _ _) _⟩
section
variable {H : Type} {enc : TypeId × Value → H} {W : World} {base : Nat} {spare : Nat → Bool} {held : Bool}
set_option maxRecDepth 100000 in
theorem open_sig {r : Reach} {b0 : Nat} {v : Value} {d : DataW H} {p : List MemPlace} (hv : Value.okWide Try.prog W r b0 90 v) (h : DataW.Trod enc Try.prog W base spare held 90 v d p) :
    ∃ R S : Int, v = .agg #[.int .i64 R, .int .i64 S] ∧ d = .agg [.lit (.int .i64 R), .lit (.int .i64 S)] ∧ p = [] ∧ (Lit.int .i64 R).wf = true ∧ (Lit.int .i64 S).wf = true := by
  obtain ⟨c0, c1, y0, y1, m, rfl, rfl, rfl, hy0, hy1⟩ := open_agg2 Try.underlying90 (by kernel_rfl) (by kernel_rfl) hv h
  obtain ⟨a, e0, rfl, wa⟩ := DataW.trod_int Try.underlying3 hy0
  obtain ⟨b, e1, rfl, wb⟩ := DataW.trod_int Try.underlying3 hy1
  simp at e0 e1
  subst e0 e1
  exact ⟨a, b, rfl, rfl, rfl, wa, wb⟩
set_option maxRecDepth 100000 in
theorem shut_sig (R S : Int) (wa : (Lit.int .i64 R).wf = true) (wb : (Lit.int .i64 S).wf = true) :
    DataW.Trod enc Try.prog W base spare held 90 (.agg #[.int .i64 R, .int .i64 S]) (.agg [.lit (.int .i64 R), .lit (.int .i64 S)]) [] :=
  shut_agg2 (y0 := (.lit (.int .i64 R), [])) (y1 := (.lit (.int .i64 S), [])) Try.underlying90 (by kernel_rfl) (by kernel_rfl) ⟨1, by simp [DataW.trod, Try.underlying3, wa]⟩ ⟨1, by simp [DataW.trod, Try.underlying3, wb]⟩
set_option maxRecDepth 100000 in
theorem open_signed_cells {fuel : Nat} {cs : List Value} {x : DataW H × List MemPlace} (h : DataW.trod enc Try.prog W base spare held fuel 92 cs = some x) :
    ∃ (K R S : Int) (t : ByteArray), cs = [.int .i64 K, .string t, .int .i64 R, .int .i64 S] ∧ x = (.agg [.lit (.int .i64 K), .lit (.string t.data.toList), .agg [.lit (.int .i64 R), .lit (.int .i64 S)]], []) ∧ (Lit.int .i64 K).wf = true ∧ t.size ≤ maxLen ∧ (Lit.int .i64 R).wf = true ∧ (Lit.int .i64 S).wf = true := by
  obtain ⟨y0, y1, y2, n, rfl, hl, h0, h1, h2⟩ := trod_struct3 Try.underlying92 h
  obtain ⟨z0, z1, m, rfl, hl2, k0, k1⟩ := trod_struct2 Try.underlying90 h2
  obtain ⟨a, e0, rfl, wa⟩ := DataW.trod_int Try.underlying3 h0
  obtain ⟨s, e1, rfl, ws⟩ := DataW.trod_string Try.underlying9 h1
  obtain ⟨b, e2, rfl, wb⟩ := DataW.trod_int Try.underlying3 k0
  obtain ⟨c, e3, rfl, wc⟩ := DataW.trod_int Try.underlying3 k1
  have hC : Try.prog.cellsOf 92 = 4 := by kernel_rfl
  have hC1 : Try.prog.cellsOf 3 = 1 := by kernel_rfl
  have hC2 : Try.prog.cellsOf 9 = 1 := by kernel_rfl
  have hC3 : Try.prog.cellsOf 90 = 2 := by kernel_rfl
  rw [hC] at hl
  obtain ⟨x0, x1, x2, x3, rfl⟩ : ∃ x0 x1 x2 x3, cs = [x0, x1, x2, x3] := by
    rcases cs with _ | ⟨x0, _ | ⟨x1, _ | ⟨x2, _ | ⟨x3, _ | ⟨x4, r⟩⟩⟩⟩⟩ <;> simp at hl
    exact ⟨x0, x1, x2, x3, rfl⟩
  simp [hC1, hC2, hC3] at e0 e1 e2 e3
  subst e0 e1 e2 e3
  exact ⟨a, b, c, s, rfl, by simp, wa, ws, wb, wc⟩
set_option maxRecDepth 100000 in
theorem open_signed {r : Reach} {b0 : Nat} {v : Value} {d : DataW H} {p : List MemPlace} (hv : Value.okWide Try.prog W r b0 92 v) (h : DataW.Trod enc Try.prog W base spare held 92 v d p) :
    ∃ (K R S : Int) (t : ByteArray), v = .agg #[.int .i64 K, .string t, .int .i64 R, .int .i64 S] ∧ d = .agg [.lit (.int .i64 K), .lit (.string t.data.toList), .agg [.lit (.int .i64 R), .lit (.int .i64 S)]] ∧ p = [] ∧ (Lit.int .i64 K).wf = true ∧ t.size ≤ maxLen ∧ (Lit.int .i64 R).wf = true ∧ (Lit.int .i64 S).wf = true := by
  obtain ⟨cs, rfl, hsz⟩ := okWide_struct Try.underlying92 hv
  obtain ⟨fuel, hf⟩ := h
  obtain ⟨K, R, S, t, e, hx, w1, w2, w3, w4⟩ := open_signed_cells hf
  simp only [Prod.mk.injEq] at hx
  refine ⟨K, R, S, t, ?_, hx.1, hx.2, w1, w2, w3, w4⟩
  congr 1
  apply Array.toList_inj.mp
  simpa [Value.cells] using e
set_option maxRecDepth 100000 in
theorem shut_signed_cells (K R S : Int) (t : ByteArray) (w1 : (Lit.int .i64 K).wf = true) (w2 : t.size ≤ maxLen) (w3 : (Lit.int .i64 R).wf = true) (w4 : (Lit.int .i64 S).wf = true) :
    DataW.trod enc Try.prog W base spare held 3 92 [.int .i64 K, .string t, .int .i64 R, .int .i64 S] = some (.agg [.lit (.int .i64 K), .lit (.string t.data.toList), .agg [.lit (.int .i64 R), .lit (.int .i64 S)]], []) := by
  have hC1 : Try.prog.cellsOf 3 = 1 := by kernel_rfl
  have hC2 : Try.prog.cellsOf 9 = 1 := by kernel_rfl
  have hC3 : Try.prog.cellsOf 90 = 2 := by kernel_rfl
  have hs : DataW.trod enc Try.prog W base spare held 2 90 [.int .i64 R, .int .i64 S] = some (.agg [.lit (.int .i64 R), .lit (.int .i64 S)], []) := by
    have := trod_struct2_mk (enc := enc) (w := W) (base := base) (spare := spare) (held := held) (n := 1) (cs := [.int .i64 R, .int .i64 S]) (y0 := (.lit (.int .i64 R), [])) (y1 := (.lit (.int .i64 S), [])) Try.underlying90 (by kernel_rfl)
      (by simp [hC1, DataW.trod, Try.underlying3, w3]) (by simp [hC1, DataW.trod, Try.underlying3, w4])
    simpa using this
  have := trod_struct3_mk (enc := enc) (w := W) (base := base) (spare := spare) (held := held) (n := 2) (cs := [.int .i64 K, .string t, .int .i64 R, .int .i64 S]) (y0 := (.lit (.int .i64 K), [])) (y1 := (.lit (.string t.data.toList), [])) (y2 := (.agg [.lit (.int .i64 R), .lit (.int .i64 S)], [])) Try.underlying92 (by kernel_rfl)
    (by simp [hC1, DataW.trod, Try.underlying3, w1]) (by simp [hC2, DataW.trod, Try.underlying9, w2]) (by simpa [hC3] using hs)
  simpa using this
set_option maxRecDepth 100000 in
theorem shut_signed (K R S : Int) (t : ByteArray) (w1 : (Lit.int .i64 K).wf = true) (w2 : t.size ≤ maxLen) (w3 : (Lit.int .i64 R).wf = true) (w4 : (Lit.int .i64 S).wf = true) :
    DataW.Trod enc Try.prog W base spare held 92 (.agg #[.int .i64 K, .string t, .int .i64 R, .int .i64 S]) (.agg [.lit (.int .i64 K), .lit (.string t.data.toList), .agg [.lit (.int .i64 R), .lit (.int .i64 S)]]) [] :=
  ⟨3, by simpa [Value.cells] using shut_signed_cells K R S t w1 w2 w3 w4⟩
end
end Go.Proofs.Ytimajobbkemdbab
