/-
  Contracts of chapter 5: equations, Verify; of the program.
-/
import Derived.Test.YtabihimhenhnnaaSh
import Derived.Test.YtabihimhenhnnaaBk
import Derived.Deep.RegionHeld3
import Derived.Deep.DeepMust
import Derived.Laws.StructEq
namespace Go.Proofs.Ytabihimhenhnnaa
open Go.RowKit

/-- The cells of an equation. -/
abbrev Sg.eqv (key e r s : Int) : Array Value := #[.int .i64 s, .int .i64 1073741789, .int .i64 r, .int .i64 2147483579, .int .i64 key, .int .i64 2147483579, .int .i64 e, .int .i64 1073741789]
abbrev Sg.eq0 : Array Value := #[.int .i64 0, .int .i64 0, .int .i64 0, .int .i64 0, .int .i64 0, .int .i64 0, .int .i64 0, .int .i64 0]
theorem Sg.win_of {key r s : Int} (h : Sg.shape key r s = true) : Gr.kok key = true ∧ Gr.ok r = true ∧ Sg.win s = true := by
  unfold Sg.shape at h
  rw [Bool.and_eq_true, Bool.and_eq_true] at h
  exact ⟨h.1.1, h.1.2, h.2⟩
theorem Sg.kok_ok {key : Int} (h : Gr.kok key = true) : Gr.ok key = true := by unfold Gr.kok at h; rw [Bool.and_eq_true] at h; exact h.1
set_option maxRecDepth 100000 in
set_option maxHeartbeats 1600000 in
theorem asEquation_yes (key r s : Int) (t : ByteArray) (w : World) (hs : Sg.shape key r s = true) (ht : t.size ≤ 1048576) :
    Calls Try.prog 47 #[.agg #[.int .i64 key, .string t, .int .i64 r, .int .i64 s]] w fun x w' => x = .returned (.tuple #[.agg (Sg.eqv key (Sg.ch r key t) r s), .bool true]) ∧ Below w.heap.size w w' := by
  obtain ⟨h1, h2, h3⟩ := Sg.win_of hs
  have HK := Lib.hid h1
  have HR := Lib.hid h2
  have HW := Lib.hid h3
  have hC := fun W => implChallenge_yes r key t W h2 (Sg.kok_ok h1) ht
  clear hs h1 h2 h3
  obtain ⟨E, HE⟩ : ∃ E, Hid (Sg.ch r key t = E) := ⟨_, Lib.hid rfl⟩
  rw [HE.out] at hC ⊢
  have HM : ∀ A, Bk w.heap.size 75 #[.int .i64 key, .string t, .int .i64 r, .int .i64 s] ((w.alloc (.cells #[.int .i64 key, .string t, .int .i64 r, .int .i64 s] 75 (0, 0))).alloc A) := fun A => (Bk.new w _ _).alloc A
  have HZ : ∀ A, Bk (w.heap.size + 1) 72 Sg.eq0 ((w.alloc A).alloc (.cells Sg.eq0 72 (0, 0))) := fun A => Bk.new' _ _ _ _ (by simp)
  go_enter Try.func47, Try.ntmps47
  go_wp2_with fail
  refine (implKeyOk_any key _).mono ?_
  rw [HK.out]
  rintro e1 w1 ⟨rfl, hb1⟩
  have HM1 := (HM _).below hb1
  have HZ1 := (HZ _).below hb1
  have hc1 := below_after (below_alloc (below_alloc (Below.refl _ _) _) _) hb1
  clear HM HZ hb1
  have m2 := HM1.cell 2
  simp at m2
  go_wp2_with fail
  refine (implGroupOk_any r _).mono ?_
  rw [HR.out]
  rintro e2 w2 ⟨rfl, hb2⟩
  have HM2 := HM1.below hb2
  have HZ2 := HZ1.below hb2
  have hc2 := below_after hc1 hb2
  clear HM1 HZ1 hb2 hc1 m2
  have m3 := HM2.cell 3
  simp at m3
  go_wp2_with fail
  refine (isScalar0_any s _).mono ?_
  rw [HW.out]
  rintro e3 w3 ⟨rfl, rfl⟩
  have hS2 := Bk.c4 HM2.drew
  go_wp2
  go_region_held3 (fun W => W.cell? ⟨w.heap.size, 0, none⟩ = some (.int .i64 key) ∧ W.cell? ⟨w.heap.size, 1, none⟩ = some (.string t) ∧ W.cell? ⟨w.heap.size, 2, none⟩ = some (.int .i64 r) ∧ W.cell? ⟨w.heap.size, 3, none⟩ = some (.int .i64 s)) (first | with_reducible exact hS2 | with_reducible exact hS4 | with_reducible exact hS5)
    (first | (go_at_call 38; refine (hC _).mono ?_; rintro e4 w4 ⟨rfl, hb4⟩; have HM4 := HM2.drew.below hb4; have hS4 := Bk.c4 HM4; have HZ4 := HZ2.drew.below hb4; obtain ⟨z0, z1, z2, z3, z4, z5, z6, z7⟩ := Bk.c8 HZ4; obtain ⟨f0, f1, f2, f3, f4, f5, f6, f7⟩ := HZ4.f8; have hc4 := below_after hc2.drew hb4; have HZ5 := Bk.store8 HZ4 (.int .i64 s) (.int .i64 1073741789) (.int .i64 r) (.int .i64 2147483579) (.int .i64 key) (.int .i64 2147483579) (.int .i64 E) (.int .i64 1073741789); have hS5 := Bk.c4 (Bk.other8 HM4 (w.heap.size + 1) (by omega) (.int .i64 s) (.int .i64 1073741789) (.int .i64 r) (.int .i64 2147483579) (.int .i64 key) (.int .i64 2147483579) (.int .i64 E) (.int .i64 1073741789)); have hb5 := below_store8 hc4 (w.heap.size + 1) (by omega) (.int .i64 s) (.int .i64 1073741789) (.int .i64 r) (.int .i64 2147483579) (.int .i64 key) (.int .i64 2147483579) (.int .i64 E) (.int .i64 1073741789)))
  go_wp2
  refine bodyPost_ret (results_cell_row2 (P := Try.prog) rfl _ _ (w.heap.size + 1) 72 _ (0, 0) _ rfl HZ5.held Try.underlying72 rfl (by kernel_rfl)) rfl ?_
  exact ⟨rfl, hb5⟩
set_option maxRecDepth 100000 in
set_option maxHeartbeats 1600000 in
theorem asEquation_no1 (key r s : Int) (t : ByteArray) (w : World) (hk : Gr.kok key = false) :
    Calls Try.prog 47 #[.agg #[.int .i64 key, .string t, .int .i64 r, .int .i64 s]] w fun x w' => x = .returned (.tuple #[.agg Sg.eq0, .bool false]) ∧ Below w.heap.size w w' := by
  have HK := Lib.hid hk
  clear hk
  have HM : ∀ A, Bk w.heap.size 75 #[.int .i64 key, .string t, .int .i64 r, .int .i64 s] ((w.alloc (.cells #[.int .i64 key, .string t, .int .i64 r, .int .i64 s] 75 (0, 0))).alloc A) := fun A => (Bk.new w _ _).alloc A
  have HZ : ∀ A, Bk (w.heap.size + 1) 72 Sg.eq0 ((w.alloc A).alloc (.cells Sg.eq0 72 (0, 0))) := fun A => Bk.new' _ _ _ _ (by simp)
  go_enter Try.func47, Try.ntmps47
  go_wp2_with fail
  refine (implKeyOk_any key _).mono ?_
  rw [HK.out]
  rintro e1 w1 ⟨rfl, hb1⟩
  have HM1 := (HM _).below hb1
  have HZ1 := (HZ _).below hb1
  have hc1 := below_after (below_alloc (below_alloc (Below.refl _ _) _) _) hb1
  clear HM HZ hb1
  obtain ⟨z0, z1, z2, z3, z4, z5, z6, z7⟩ := Bk.c8 HZ1
  obtain ⟨f0, f1, f2, f3, f4, f5, f6, f7⟩ := HZ1.f8
  have HZ5 := Bk.store8 HZ1 (.int .i64 0) (.int .i64 0) (.int .i64 0) (.int .i64 0) (.int .i64 0) (.int .i64 0) (.int .i64 0) (.int .i64 0)
  have hb5 := below_store8 hc1 (w.heap.size + 1) (by omega) (.int .i64 0) (.int .i64 0) (.int .i64 0) (.int .i64 0) (.int .i64 0) (.int .i64 0) (.int .i64 0) (.int .i64 0)
  clear HZ1 HM1 hc1
  go_wp2
  refine bodyPost_ret (results_cell_row2 (P := Try.prog) rfl _ _ (w.heap.size + 1) 72 _ (0, 0) _ rfl HZ5.held Try.underlying72 rfl (by kernel_rfl)) rfl ?_
  exact ⟨rfl, hb5⟩
set_option maxRecDepth 100000 in
set_option maxHeartbeats 1600000 in
theorem asEquation_no2 (key r s : Int) (t : ByteArray) (w : World) (hk : Gr.kok key = true) (hr : Gr.ok r = false) :
    Calls Try.prog 47 #[.agg #[.int .i64 key, .string t, .int .i64 r, .int .i64 s]] w fun x w' => x = .returned (.tuple #[.agg Sg.eq0, .bool false]) ∧ Below w.heap.size w w' := by
  have HK := Lib.hid hk
  have HR := Lib.hid hr
  clear hk hr
  have HM : ∀ A, Bk w.heap.size 75 #[.int .i64 key, .string t, .int .i64 r, .int .i64 s] ((w.alloc (.cells #[.int .i64 key, .string t, .int .i64 r, .int .i64 s] 75 (0, 0))).alloc A) := fun A => (Bk.new w _ _).alloc A
  have HZ : ∀ A, Bk (w.heap.size + 1) 72 Sg.eq0 ((w.alloc A).alloc (.cells Sg.eq0 72 (0, 0))) := fun A => Bk.new' _ _ _ _ (by simp)
  go_enter Try.func47, Try.ntmps47
  go_wp2_with fail
  refine (implKeyOk_any key _).mono ?_
  rw [HK.out]
  rintro e1 w1 ⟨rfl, hb1⟩
  have HM1 := (HM _).below hb1
  have HZ1 := (HZ _).below hb1
  have hc1 := below_after (below_alloc (below_alloc (Below.refl _ _) _) _) hb1
  clear HM HZ hb1
  have m2 := HM1.cell 2
  simp at m2
  go_wp2_with fail
  refine (implGroupOk_any r _).mono ?_
  rw [HR.out]
  rintro e2 w2 ⟨rfl, hb2⟩
  have HM2 := HM1.below hb2
  have HZ2 := HZ1.below hb2
  have hc2 := below_after hc1 hb2
  clear HM1 HZ1 hb2 hc1 m2
  obtain ⟨z0, z1, z2, z3, z4, z5, z6, z7⟩ := Bk.c8 HZ2
  obtain ⟨f0, f1, f2, f3, f4, f5, f6, f7⟩ := HZ2.f8
  have HZ5 := Bk.store8 HZ2 (.int .i64 0) (.int .i64 0) (.int .i64 0) (.int .i64 0) (.int .i64 0) (.int .i64 0) (.int .i64 0) (.int .i64 0)
  have hb5 := below_store8 hc2 (w.heap.size + 1) (by omega) (.int .i64 0) (.int .i64 0) (.int .i64 0) (.int .i64 0) (.int .i64 0) (.int .i64 0) (.int .i64 0) (.int .i64 0)
  clear HZ2 HM2 hc2
  go_wp2
  refine bodyPost_ret (results_cell_row2 (P := Try.prog) rfl _ _ (w.heap.size + 1) 72 _ (0, 0) _ rfl HZ5.held Try.underlying72 rfl (by kernel_rfl)) rfl ?_
  exact ⟨rfl, hb5⟩
set_option maxRecDepth 100000 in
set_option maxHeartbeats 1600000 in
theorem asEquation_no3 (key r s : Int) (t : ByteArray) (w : World) (hk : Gr.kok key = true) (hr : Gr.ok r = true) (hs : Sg.win s = false) :
    Calls Try.prog 47 #[.agg #[.int .i64 key, .string t, .int .i64 r, .int .i64 s]] w fun x w' => x = .returned (.tuple #[.agg Sg.eq0, .bool false]) ∧ Below w.heap.size w w' := by
  have HK := Lib.hid hk
  have HR := Lib.hid hr
  have HW := Lib.hid hs
  clear hk hr hs
  have HM : ∀ A, Bk w.heap.size 75 #[.int .i64 key, .string t, .int .i64 r, .int .i64 s] ((w.alloc (.cells #[.int .i64 key, .string t, .int .i64 r, .int .i64 s] 75 (0, 0))).alloc A) := fun A => (Bk.new w _ _).alloc A
  have HZ : ∀ A, Bk (w.heap.size + 1) 72 Sg.eq0 ((w.alloc A).alloc (.cells Sg.eq0 72 (0, 0))) := fun A => Bk.new' _ _ _ _ (by simp)
  go_enter Try.func47, Try.ntmps47
  go_wp2_with fail
  refine (implKeyOk_any key _).mono ?_
  rw [HK.out]
  rintro e1 w1 ⟨rfl, hb1⟩
  have HM1 := (HM _).below hb1
  have HZ1 := (HZ _).below hb1
  have hc1 := below_after (below_alloc (below_alloc (Below.refl _ _) _) _) hb1
  clear HM HZ hb1
  have m2 := HM1.cell 2
  simp at m2
  go_wp2_with fail
  refine (implGroupOk_any r _).mono ?_
  rw [HR.out]
  rintro e2 w2 ⟨rfl, hb2⟩
  have HM2 := HM1.below hb2
  have HZ2 := HZ1.below hb2
  have hc2 := below_after hc1 hb2
  clear HM1 HZ1 hb2 hc1 m2
  have m3 := HM2.cell 3
  simp at m3
  go_wp2_with fail
  refine (isScalar0_any s _).mono ?_
  rw [HW.out]
  rintro e3 w3 ⟨rfl, rfl⟩
  obtain ⟨z0, z1, z2, z3, z4, z5, z6, z7⟩ := Bk.c8 HZ2
  obtain ⟨f0, f1, f2, f3, f4, f5, f6, f7⟩ := HZ2.f8
  have HZ5 := Bk.store8 HZ2 (.int .i64 0) (.int .i64 0) (.int .i64 0) (.int .i64 0) (.int .i64 0) (.int .i64 0) (.int .i64 0) (.int .i64 0)
  have hb5 := below_store8 hc2 (w.heap.size + 1) (by omega) (.int .i64 0) (.int .i64 0) (.int .i64 0) (.int .i64 0) (.int .i64 0) (.int .i64 0) (.int .i64 0) (.int .i64 0)
  clear HZ2 HM2 hc2
  go_wp2
  refine bodyPost_ret (results_cell_row2 (P := Try.prog) rfl _ _ (w.heap.size + 1) 72 _ (0, 0) _ rfl HZ5.held Try.underlying72 rfl (by kernel_rfl)) rfl ?_
  exact ⟨rfl, hb5⟩
theorem asEquation_no (key r s : Int) (t : ByteArray) (w : World) (hs : Sg.shape key r s = false) :
    Calls Try.prog 47 #[.agg #[.int .i64 key, .string t, .int .i64 r, .int .i64 s]] w fun x w' => x = .returned (.tuple #[.agg Sg.eq0, .bool false]) ∧ Below w.heap.size w w' := by
  cases hk : Gr.kok key
  · exact asEquation_no1 key r s t w hk
  · cases hr : Gr.ok r
    · exact asEquation_no2 key r s t w hk hr
    · refine asEquation_no3 key r s t w hk hr ?_
      unfold Sg.shape at hs
      rw [hk, hr, Bool.true_and, Bool.true_and] at hs
      exact hs

/-- The right side's power: the term of one equation with a weight. -/
def Sg.tm (key e r wgt : Int) : Int := Gr.pw 2147483579 r wgt * Gr.pw 2147483579 key (wgt * e % 1073741789) % 2147483579
theorem Sg.tm_one {key e r : Int} (r0 : 0 ≤ r) (r1 : r < 2147483579) (e0 : 0 ≤ e) (e1 : e < 1073741789) : Sg.tm key e r 1 = Sg.rt key e r := by
  unfold Sg.tm Sg.rt
  rw [Gr.pw_one _ r r0 r1, Int.one_mul, Int.emod_eq_of_lt e0 e1]
theorem Sg.tm_bd (key e r wgt : Int) : 0 ≤ Sg.tm key e r wgt ∧ Sg.tm key e r wgt < 2147483579 := ⟨Int.emod_nonneg _ (by decide), Int.emod_lt_of_pos _ (by decide)⟩
set_option maxRecDepth 100000 in
set_option maxHeartbeats 1600000 in
theorem rightSide_any (key e r s wgt : Int) (w : World) (k0 : 0 ≤ key) (k1 : key < 2147483579) (r0 : 0 ≤ r) (r1 : r < 2147483579) (e0 : 0 ≤ e) (e1 : e < 1073741789) (g0 : 0 ≤ wgt) (g1 : wgt < 1073741789) :
    Calls Try.prog 64 #[.agg #[.int .i64 s, .int .i64 1073741789, .int .i64 r, .int .i64 2147483579, .int .i64 key, .int .i64 2147483579, .int .i64 e, .int .i64 1073741789], .agg #[.int .i64 wgt, .int .i64 1073741789]] w fun x w' => x = .returned (.agg #[.int .i64 (Sg.tm key e r wgt), .int .i64 2147483579]) ∧ Below w.heap.size w w' := by
  obtain ⟨P1, HP1⟩ : ∃ P1, Hid (Gr.pw 2147483579 r wgt = P1) := ⟨_, Lib.hid rfl⟩
  obtain ⟨T1, HT1⟩ : ∃ T1, Hid (wgt * e % 1073741789 = T1) := ⟨_, Lib.hid rfl⟩
  obtain ⟨P2, HP2⟩ : ∃ P2, Hid (Gr.pw 2147483579 key T1 = P2) := ⟨_, Lib.hid rfl⟩
  obtain ⟨T2, HT2⟩ : ∃ T2, Hid (P1 * P2 % 2147483579 = T2) := ⟨_, Lib.hid rfl⟩
  have HR : Hid (Sg.tm key e r wgt = T2) := by unfold Sg.tm; rw [HP1.out, HT1.out, HP2.out, HT2.out]; exact rfl
  obtain ⟨p0, p1⟩ := Gr.pb r wgt
  rw [HP1.out] at p0 p1
  obtain ⟨q0, q1⟩ := Gr.pb key T1
  rw [HP2.out] at q0 q1
  have t0 : 0 ≤ T1 := by rw [← HT1.out]; exact Int.emod_nonneg _ (by decide)
  have t1 : T1 < 1073741789 := by rw [← HT1.out]; exact Int.emod_lt_of_pos _ (by decide)
  have hcon1 := fun W => power_any r 2147483579 wgt W (by omega) (by omega) r0 r1 (by omega)
  have hcon2 := fun W => times_any wgt e 1073741789 W (by omega) (by omega) g0 g1 e0 e1
  have hcon3 := fun W => power_any key 2147483579 T1 W (by omega) (by omega) k0 k1 (by omega)
  have hcon4 := fun W => times_any P1 P2 2147483579 W (by omega) (by omega) p0 p1 q0 q1
  rw [HP1.out] at hcon1
  rw [HT1.out] at hcon2
  rw [HP2.out] at hcon3
  rw [HT2.out] at hcon4
  rw [HR.out]
  clear HP1 HT1 HP2 HT2 HR k0 k1 r0 r1 e0 e1 g0 g1 p0 p1 q0 q1 t0 t1
  have hf := field_n T1 1073741789
  have HE0 : Bk w.heap.size 72 #[.int .i64 s, .int .i64 1073741789, .int .i64 r, .int .i64 2147483579, .int .i64 key, .int .i64 2147483579, .int .i64 e, .int .i64 1073741789] (((w.alloc (.cells #[.int .i64 s, .int .i64 1073741789, .int .i64 r, .int .i64 2147483579, .int .i64 key, .int .i64 2147483579, .int .i64 e, .int .i64 1073741789] 72 (0, 0))).alloc (.cells #[.int .i64 wgt, .int .i64 1073741789] 50 (0, 0))).alloc (.cells #[.int .i64 0, .int .i64 0] 50 (0, 0))) ∧ Bk (w.heap.size + 1) 50 #[.int .i64 wgt, .int .i64 1073741789] (((w.alloc (.cells #[.int .i64 s, .int .i64 1073741789, .int .i64 r, .int .i64 2147483579, .int .i64 key, .int .i64 2147483579, .int .i64 e, .int .i64 1073741789] 72 (0, 0))).alloc (.cells #[.int .i64 wgt, .int .i64 1073741789] 50 (0, 0))).alloc (.cells #[.int .i64 0, .int .i64 0] 50 (0, 0))) ∧ Bk (w.heap.size + 1 + 1) 50 #[.int .i64 0, .int .i64 0] (((w.alloc (.cells #[.int .i64 s, .int .i64 1073741789, .int .i64 r, .int .i64 2147483579, .int .i64 key, .int .i64 2147483579, .int .i64 e, .int .i64 1073741789] 72 (0, 0))).alloc (.cells #[.int .i64 wgt, .int .i64 1073741789] 50 (0, 0))).alloc (.cells #[.int .i64 0, .int .i64 0] 50 (0, 0))) :=
    ⟨((Bk.new w _ _).alloc _).alloc _, (Bk.new' _ _ _ _ (by simp)).alloc _, Bk.new' _ _ _ _ (by simp)⟩
  have hc0 : Below w.heap.size w (((w.alloc (.cells #[.int .i64 s, .int .i64 1073741789, .int .i64 r, .int .i64 2147483579, .int .i64 key, .int .i64 2147483579, .int .i64 e, .int .i64 1073741789] 72 (0, 0))).alloc (.cells #[.int .i64 wgt, .int .i64 1073741789] 50 (0, 0))).alloc (.cells #[.int .i64 0, .int .i64 0] 50 (0, 0))) := below_alloc (below_alloc (below_alloc (Below.refl _ _) _) _) _
  have hSof : ∀ W, Bk w.heap.size 72 #[.int .i64 s, .int .i64 1073741789, .int .i64 r, .int .i64 2147483579, .int .i64 key, .int .i64 2147483579, .int .i64 e, .int .i64 1073741789] W → Bk (w.heap.size + 1) 50 #[.int .i64 wgt, .int .i64 1073741789] W → W.cell? ⟨w.heap.size, 0, none⟩ = some (.int .i64 s) ∧ W.cell? ⟨w.heap.size, 1, none⟩ = some (.int .i64 1073741789) ∧ W.cell? ⟨w.heap.size, 2, none⟩ = some (.int .i64 r) ∧ W.cell? ⟨w.heap.size, 3, none⟩ = some (.int .i64 2147483579) ∧ W.cell? ⟨w.heap.size, 4, none⟩ = some (.int .i64 key) ∧ W.cell? ⟨w.heap.size, 5, none⟩ = some (.int .i64 2147483579) ∧ W.cell? ⟨w.heap.size, 6, none⟩ = some (.int .i64 e) ∧ W.cell? ⟨w.heap.size, 7, none⟩ = some (.int .i64 1073741789) ∧ W.cell? ⟨w.heap.size + 1, 0, none⟩ = some (.int .i64 wgt) ∧ W.cell? ⟨w.heap.size + 1, 1, none⟩ = some (.int .i64 1073741789) :=
    fun W h k => ⟨h.cell 0, h.cell 1, h.cell 2, h.cell 3, h.cell 4, h.cell 5, h.cell 6, h.cell 7, k.cell 0, k.cell 1⟩
  have hS0 := hSof _ HE0.1.drew HE0.2.1.drew
  go_enter Try.func64, Try.ntmps64
  go_wp2
  go_region_held3 (fun W => W.cell? ⟨w.heap.size, 0, none⟩ = some (.int .i64 s) ∧ W.cell? ⟨w.heap.size, 1, none⟩ = some (.int .i64 1073741789) ∧ W.cell? ⟨w.heap.size, 2, none⟩ = some (.int .i64 r) ∧ W.cell? ⟨w.heap.size, 3, none⟩ = some (.int .i64 2147483579) ∧ W.cell? ⟨w.heap.size, 4, none⟩ = some (.int .i64 key) ∧ W.cell? ⟨w.heap.size, 5, none⟩ = some (.int .i64 2147483579) ∧ W.cell? ⟨w.heap.size, 6, none⟩ = some (.int .i64 e) ∧ W.cell? ⟨w.heap.size, 7, none⟩ = some (.int .i64 1073741789) ∧ W.cell? ⟨w.heap.size + 1, 0, none⟩ = some (.int .i64 wgt) ∧ W.cell? ⟨w.heap.size + 1, 1, none⟩ = some (.int .i64 1073741789)) (first | with_reducible exact hS0 | with_reducible exact hS1 | with_reducible exact hS2 | with_reducible exact hS3 | with_reducible exact hS4 | with_reducible exact hS5)
    (first
      | (go_at_call_of 53 (Value.int .i64 wgt); refine (hcon1 _).mono ?_; rintro x1 w1 ⟨rfl, hb1⟩; have HE1 := And.intro (HE0.1.drew.below hb1) (And.intro (HE0.2.1.drew.below hb1) (HE0.2.2.drew.below hb1)); have hS1 := hSof _ HE1.1 HE1.2.1; have hc1 := below_after hc0.drew hb1)
      | (go_at_call_of 35 (Value.agg #[.int .i64 wgt, .int .i64 1073741789]); refine (hcon2 _).mono ?_; rintro x2 w2 ⟨rfl, hb2⟩; have HE2 := And.intro (HE1.1.below hb2) (And.intro (HE1.2.1.below hb2) (HE1.2.2.below hb2)); have hS2 := hSof _ HE2.1 HE2.2.1; have hc2 := below_after hc1 hb2)
      | (go_at_call_of 53 (Value.int .i64 T1); refine (hcon3 _).mono ?_; rintro x3 w3 ⟨rfl, hb3⟩; have HE3 := And.intro (HE2.1.below hb3) (And.intro (HE2.2.1.below hb3) (HE2.2.2.below hb3)); have hS3 := hSof _ HE3.1 HE3.2.1; have hc3 := below_after hc2 hb3)
      | (go_at_call_of 35 (Value.agg #[.int .i64 P1, .int .i64 2147483579]); refine (hcon4 _).mono ?_; rintro x4 w4 ⟨rfl, hb4⟩; have HE4 := And.intro (HE3.1.below hb4) (And.intro (HE3.2.1.below hb4) (HE3.2.2.below hb4)); have hS4 := hSof _ HE4.1 HE4.2.1; have hc4 := below_after hc3 hb4; obtain ⟨z0, z1⟩ := Bk.c2 HE4.2.2; obtain ⟨f0, f1⟩ := HE4.2.2.f2; have HZ5 := Bk.store2 HE4.2.2 (.int .i64 T2) (.int .i64 2147483579); have hS5 := hSof _ (Bk.other2 HE4.1 (w.heap.size + 1 + 1) (by omega) (.int .i64 T2) (.int .i64 2147483579)) (Bk.other2 HE4.2.1 (w.heap.size + 1 + 1) (by omega) (.int .i64 T2) (.int .i64 2147483579)); have hb5 := below_store2 hc4 (w.heap.size + 1 + 1) (by omega) (.int .i64 T2) (.int .i64 2147483579)))
  go_wp2
  refine bodyPost_ret (results_cell_row (P := Try.prog) rfl _ _ (w.heap.size + 1 + 1) 50 _ (0, 0) _ rfl HZ5.held Try.underlying50 rfl (by kernel_rfl)) rfl ?_
  exact ⟨rfl, hb5⟩
theorem eq_residue (a b c d : Int) (w : World) : (Op.equalIn 10000 50 (.agg #[.int .i64 a, .int .i64 b]) (.agg #[.int .i64 c, .int .i64 d])).run Try.prog w = .ok (a == c && b == d) w := by
  have u3 := Try.underlying3
  have a3 := Try.isAgg3
  have z3 := Try.sizeOf3
  have hS : Try.prog.underlying 50 = some (.struct (Try.prog.fieldsOf 50)) := by kernel_rfl
  rw [show (10000 : Nat) = 9999 + 1 from rfl, run_equalIn_agg w 9999 50 _ _ hS (by kernel_rfl)]
  simp only [Program.fieldsOf, Try.underlying50]
  go_simp
  by_cases h1 : a = c <;> by_cases h2 : b = d <;> simp [h1, h2]
theorem eq_sig (a b c d : Int) (w : World) : (Op.equalIn 10000 32 (.agg #[.int .i64 a, .int .i64 b]) (.agg #[.int .i64 c, .int .i64 d])).run Try.prog w = .ok (a == c && b == d) w := by
  have u3 := Try.underlying3
  have a3 := Try.isAgg3
  have z3 := Try.sizeOf3
  have hS : Try.prog.underlying 32 = some (.struct (Try.prog.fieldsOf 32)) := by kernel_rfl
  rw [show (10000 : Nat) = 9999 + 1 from rfl, run_equalIn_agg w 9999 32 _ _ hS (by kernel_rfl)]
  simp only [Program.fieldsOf, Try.underlying32]
  go_simp
  by_cases h1 : a = c <;> by_cases h2 : b = d <;> simp [h1, h2]
theorem noGuard_residue : Try.prog.eqGuardType Try.prog.depth 50 = false := by kernel_rfl
theorem noGuard_sig : Try.prog.eqGuardType Try.prog.depth 32 = false := by kernel_rfl
set_option maxRecDepth 100000 in
set_option maxHeartbeats 1600000 in
theorem holds_any (key e r s : Int) (w : World) (k0 : 0 ≤ key) (k1 : key < 2147483579) (r0 : 0 ≤ r) (r1 : r < 2147483579) (e0 : 0 ≤ e) (e1 : e < 1073741789) (s1 : s < 1073741789) :
    Calls Try.prog 48 #[.agg #[.int .i64 s, .int .i64 1073741789, .int .i64 r, .int .i64 2147483579, .int .i64 key, .int .i64 2147483579, .int .i64 e, .int .i64 1073741789]] w fun x w' => x = .returned (.bool (Sg.eqn key e r s)) ∧ Below w.heap.size w w' := by
  have hcon1 := fun W => basePower_any s 1073741789 W (by omega)
  have hcon2 := fun W => rightSide_any key e r s 1 W k0 k1 r0 r1 e0 e1 (by omega) (by omega)
  rw [Sg.tm_one r0 r1 e0 e1] at hcon2
  have HQ : Hid (Sg.eqn key e r s = (Sg.gp s == Sg.rt key e r)) := Lib.hid rfl
  obtain ⟨G, HG⟩ : ∃ G, Hid (Sg.gp s = G) := ⟨_, Lib.hid rfl⟩
  obtain ⟨R, HR⟩ : ∃ R, Hid (Sg.rt key e r = R) := ⟨_, Lib.hid rfl⟩
  rw [HG.out] at hcon1 HQ
  rw [HR.out] at hcon2 HQ
  rw [HQ.out]
  clear HQ HG HR k0 k1 r0 r1 e0 e1 s1
  have HE0 : Bk w.heap.size 72 #[.int .i64 s, .int .i64 1073741789, .int .i64 r, .int .i64 2147483579, .int .i64 key, .int .i64 2147483579, .int .i64 e, .int .i64 1073741789] (w.alloc (.cells #[.int .i64 s, .int .i64 1073741789, .int .i64 r, .int .i64 2147483579, .int .i64 key, .int .i64 2147483579, .int .i64 e, .int .i64 1073741789] 72 (0, 0))) := Bk.new _ _ _
  have hc0 : Below w.heap.size w (w.alloc (.cells #[.int .i64 s, .int .i64 1073741789, .int .i64 r, .int .i64 2147483579, .int .i64 key, .int .i64 2147483579, .int .i64 e, .int .i64 1073741789] 72 (0, 0))) := below_alloc (Below.refl _ _) _
  have hSof : ∀ W, Bk w.heap.size 72 #[.int .i64 s, .int .i64 1073741789, .int .i64 r, .int .i64 2147483579, .int .i64 key, .int .i64 2147483579, .int .i64 e, .int .i64 1073741789] W → W.cell? ⟨w.heap.size, 0, none⟩ = some (.int .i64 s) ∧ W.cell? ⟨w.heap.size, 1, none⟩ = some (.int .i64 1073741789) ∧ W.cell? ⟨w.heap.size, 2, none⟩ = some (.int .i64 r) ∧ W.cell? ⟨w.heap.size, 3, none⟩ = some (.int .i64 2147483579) ∧ W.cell? ⟨w.heap.size, 4, none⟩ = some (.int .i64 key) ∧ W.cell? ⟨w.heap.size, 5, none⟩ = some (.int .i64 2147483579) ∧ W.cell? ⟨w.heap.size, 6, none⟩ = some (.int .i64 e) ∧ W.cell? ⟨w.heap.size, 7, none⟩ = some (.int .i64 1073741789) := fun W h => Bk.c8 h
  have hS0 := hSof _ HE0.drew
  have hq1 := fun W => eq_residue G 2147483579 R 2147483579 W
  rw [show ((2147483579 : Int) == 2147483579) = true from rfl, Bool.and_true] at hq1
  have hq2 := noGuard_residue
  go_enter Try.func48, Try.ntmps48
  go_wp2
  go_region_held3 (fun W => W.cell? ⟨w.heap.size, 0, none⟩ = some (.int .i64 s) ∧ W.cell? ⟨w.heap.size, 1, none⟩ = some (.int .i64 1073741789) ∧ W.cell? ⟨w.heap.size, 2, none⟩ = some (.int .i64 r) ∧ W.cell? ⟨w.heap.size, 3, none⟩ = some (.int .i64 2147483579) ∧ W.cell? ⟨w.heap.size, 4, none⟩ = some (.int .i64 key) ∧ W.cell? ⟨w.heap.size, 5, none⟩ = some (.int .i64 2147483579) ∧ W.cell? ⟨w.heap.size, 6, none⟩ = some (.int .i64 e) ∧ W.cell? ⟨w.heap.size, 7, none⟩ = some (.int .i64 1073741789)) (first | with_reducible exact hS0 | with_reducible exact hS1 | with_reducible exact hS2)
    (first
      | (go_at_call 36; refine (hcon1 _).mono ?_; rintro x1 w1 ⟨rfl, hb1⟩; have HE1 := HE0.drew.below hb1; have hS1 := hSof _ HE1; have hc1 := below_after hc0.drew hb1)
      | (go_at_call 64; refine (hcon2 _).mono ?_; rintro x2 w2 ⟨rfl, hb2⟩; have HE2 := HE1.below hb2; have hS2 := hSof _ HE2; have hc2 := below_after hc1 hb2))
  go_wp2
  go_ret
  exact ⟨rfl, hc2⟩
end Go.Proofs.Ytabihimhenhnnaa
