/-
  Contracts of chapter 7: making and finishing; of the model.
-/
import Derived.Test.YtimajobbkemdbaaAg
namespace Go.Proofs.Ytimajobbkemdbaa
open Go.RowKit

set_option maxRecDepth 100000 in
set_option maxHeartbeats 1600000 in
theorem specAdaptorSign_no1 (u : Int) (t : ByteArray) (p : Int) (w : World) (hs : Gr.sok u = false) :
    Calls Try.prog 13 #[.int .i64 u, .string t, .int .i64 p] w fun x w' => x = .returned (.tuple #[.agg #[.int .i64 0, .int .i64 0, .int .i64 0], .bool false]) ∧ Below w.heap.size w w' := by
  have hin := fun W => l6In_any u 1 1073741788 W
  rw [show (decide (1 ≤ u) && decide (u ≤ 1073741788)) = Gr.sok u from rfl] at hin
  rw [hs] at hin
  clear hs
  have HX0 : Bk w.heap.size 26 #[.int .i64 0, .int .i64 0, .int .i64 0] (w.alloc (.cells #[.int .i64 0, .int .i64 0, .int .i64 0] 26 (0, 0))) := Bk.new _ _ _
  have hc0 := below_alloc (Below.refl w.heap.size w) (.cells #[.int .i64 0, .int .i64 0, .int .i64 0] 26 (0, 0))
  go_enter Try.func13, Try.ntmps13
  go_wp2_with fail
  refine (hin _).mono ?_
  rintro x1 v1 ⟨rfl, hv1⟩
  subst v1
  go_wp2
  refine bodyPost_ret (results_cell_row2 (P := Try.prog) rfl _ _ (w.heap.size) 26 _ (0, 0) _ rfl HX0.held Try.underlying26 rfl (by kernel_rfl)) rfl ?_
  exact ⟨rfl, hc0⟩
set_option maxRecDepth 100000 in
set_option maxHeartbeats 1600000 in
theorem specAdaptorSign_no2 (u : Int) (t : ByteArray) (p : Int) (w : World) (hs : Gr.sok u = true) (hp : Gr.kok p = false) :
    Calls Try.prog 13 #[.int .i64 u, .string t, .int .i64 p] w fun x w' => x = .returned (.tuple #[.agg #[.int .i64 0, .int .i64 0, .int .i64 0], .bool false]) ∧ Below w.heap.size w w' := by
  have hin := fun W => l6In_any u 1 1073741788 W
  rw [show (decide (1 ≤ u) && decide (u ≤ 1073741788)) = Gr.sok u from rfl] at hin
  rw [hs] at hin
  have H1 := Lib.hid hp
  clear hs hp
  have HX0 : Bk w.heap.size 26 #[.int .i64 0, .int .i64 0, .int .i64 0] (w.alloc (.cells #[.int .i64 0, .int .i64 0, .int .i64 0] 26 (0, 0))) := Bk.new _ _ _
  have hc0 := below_alloc (Below.refl w.heap.size w) (.cells #[.int .i64 0, .int .i64 0, .int .i64 0] 26 (0, 0))
  go_enter Try.func13, Try.ntmps13
  go_wp2_with fail
  refine (hin _).mono ?_
  rintro x1 v1 ⟨rfl, hv1⟩
  subst v1
  go_wp2_with fail
  refine (specKeyOk_any p _).mono ?_
  rw [H1.out]
  rintro x2 v2 ⟨rfl, hv2⟩
  subst v2
  go_wp2
  refine bodyPost_ret (results_cell_row2 (P := Try.prog) rfl _ _ (w.heap.size) 26 _ (0, 0) _ rfl HX0.held Try.underlying26 rfl (by kernel_rfl)) rfl ?_
  exact ⟨rfl, hc0⟩
set_option maxRecDepth 100000 in
set_option maxHeartbeats 1600000 in
theorem specAdaptorSign_yes (u : Int) (t : ByteArray) (p : Int) (w : World) (hs : Gr.sok u = true) (hp : Gr.kok p = true) (ht : t.size ≤ 1048576) :
    Calls Try.prog 13 #[.int .i64 u, .string t, .int .i64 p] w fun x w' => x = .returned (.tuple #[.agg #[.int .i64 (Sg.sr u t), .int .i64 (Ad.ss u t p), .int .i64 p], .bool true]) ∧ Below w.heap.size w w' := by
  have hin := fun W => l6In_any u 1 1073741788 W
  rw [show (decide (1 ≤ u) && decide (u ≤ 1073741788)) = Gr.sok u from rfl] at hin
  rw [hs] at hin
  obtain ⟨u0, u1⟩ := (Gr.sok_iff u).mp hs
  obtain ⟨n0, n1⟩ := Sg.no_bd u t
  obtain ⟨c0, c1⟩ := Ad.ch_bd (Sg.gp u) t (Sg.sr u t) p
  have hRE : Gr.E (Sg.sr u t) := Sg.gp_E (by omega)
  have hPE := ((Sg.kok_iff p).mp hp).1
  obtain ⟨b0, b1⟩ := Gr.E_bd hPE
  obtain ⟨r0, r1⟩ := Gr.E_bd hRE
  obtain ⟨g0, g1⟩ := Sg.gp_bd u
  obtain ⟨f0, f1⟩ := Ad.fin_bd (Sg.sr u t) p
  have hcon2 := fun W => specKeyOk_any p W
  rw [hp] at hcon2
  have hcon3 := fun W => l5Nonce_any u t W (by omega) (by omega) ht
  have hcon4 := fun W => l4Base_any (Sg.no u t) W (by omega)
  have hcon5 := fun W => l4Mul_any (Sg.sr u t) p W (by omega) (by omega) (by omega) (by omega)
  have hcon6 := fun W => l4Base_any u W (by omega)
  have hcon7 := fun W => l5Challenge_any (Ad.fin (Sg.sr u t) p) (Sg.gp u) t W (by omega) (by omega) (by omega) (by omega) ht
  rw [show Gr.pw 2147483579 4 (Sg.no u t) = Sg.sr u t from rfl] at hcon4
  rw [show Gr.pw 2147483579 4 u = Sg.gp u from rfl] at hcon6
  rw [show Sg.sr u t * p % 2147483579 = Ad.fin (Sg.sr u t) p from rfl] at hcon5
  rw [show Sg.ch (Ad.fin (Sg.sr u t) p) (Sg.gp u) t = Ad.ch (Sg.gp u) t (Sg.sr u t) p from rfl] at hcon7
  have HS : Hid (Ad.ss u t p = (Sg.no u t + Ad.ch (Sg.gp u) t (Sg.sr u t) p * u) % 1073741789) := Lib.hid rfl
  obtain ⟨C, HC⟩ : ∃ C, Hid (Ad.ch (Sg.gp u) t (Sg.sr u t) p = C) := ⟨_, Lib.hid rfl⟩
  obtain ⟨N, HN⟩ : ∃ N, Hid (Sg.no u t = N) := ⟨_, Lib.hid rfl⟩
  rw [HC.out] at hcon7 HS c0 c1
  rw [HN.out] at hcon3 hcon4 HS n0 n1
  obtain ⟨F, HF⟩ : ∃ F, Hid (Ad.fin (Sg.sr u t) p = F) := ⟨_, Lib.hid rfl⟩
  rw [HF.out] at hcon5 hcon7
  obtain ⟨K, HK⟩ : ∃ K, Hid (Sg.gp u = K) := ⟨_, Lib.hid rfl⟩
  obtain ⟨R, HR⟩ : ∃ R, Hid (Sg.sr u t = R) := ⟨_, Lib.hid rfl⟩
  rw [HR.out] at hcon4 hcon5 ⊢
  rw [HK.out] at hcon6 hcon7
  rw [HS.out]
  obtain ⟨p0, p1⟩ := Gr.mul_bd C u 1073741789 c0 c1 (by omega) u1 (by omega)
  clear hs hp hRE hPE HC HN HF HK HR HS b0 b1 r0 r1 g0 g1 f0 f1 c0 c1 u0 u1
  have HX0 : Bk w.heap.size 26 #[.int .i64 0, .int .i64 0, .int .i64 0] (w.alloc (.cells #[.int .i64 0, .int .i64 0, .int .i64 0] 26 (0, 0))) := Bk.new _ _ _
  have hc0 := below_alloc (Below.refl w.heap.size w) (.cells #[.int .i64 0, .int .i64 0, .int .i64 0] 26 (0, 0))
  go_enter Try.func13, Try.ntmps13
  go_wp2_with fail
  refine (hin _).mono ?_
  rintro x1 v1 ⟨rfl, hv1⟩
  subst v1
  go_wp2_with fail
  refine (hcon2 _).mono ?_
  rintro x2 v2 ⟨rfl, hv2⟩
  subst v2
  go_wp2_with fail
  refine (hcon3 _).mono ?_
  rintro e1 w1 ⟨rfl, hb1⟩
  have HX1 := HX0.below hb1
  have hc1 := below_after hc0 hb1
  clear hb1 hc0 HX0
  go_wp2_with fail
  refine (hcon4 _).mono ?_
  rintro x3 v3 ⟨rfl, hv3⟩
  subst v3
  go_wp2_with fail
  refine (hcon5 _).mono ?_
  rintro x4 v4 ⟨rfl, hv4⟩
  subst v4
  go_wp2_with fail
  refine (hcon6 _).mono ?_
  rintro x5 v5 ⟨rfl, hv5⟩
  subst v5
  go_wp2_with fail
  refine (hcon7 _).mono ?_
  rintro e2 w2 ⟨rfl, hb2⟩
  have HX2 := HX1.below hb2
  have hc2 := below_after hc1 hb2
  clear hb2 hc1 HX1
  obtain ⟨z0, z1, z2⟩ := Bk.c3 HX2
  obtain ⟨f0, f1, f2⟩ := HX2.f3
  have HZ9 := Bk.store3 HX2 (.int .i64 R) (.int .i64 ((N + C * u) % 1073741789)) (.int .i64 p)
  have hc9 := below_store3 hc2 w.heap.size (by omega) (.int .i64 R) (.int .i64 ((N + C * u) % 1073741789)) (.int .i64 p)
  go_wp2
  refine bodyPost_ret (results_cell_row2 (P := Try.prog) rfl _ _ (w.heap.size) 26 _ (0, 0) _ rfl HZ9.held Try.underlying26 rfl (by kernel_rfl)) rfl ?_
  exact ⟨rfl, hc9⟩
set_option maxRecDepth 100000 in
set_option maxHeartbeats 1600000 in
theorem specAdaptorFinish_no1 (r s p u : Int) (w : World) (hs : Gr.sok u = false) :
    Calls Try.prog 23 #[.agg #[.int .i64 r, .int .i64 s, .int .i64 p], .int .i64 u] w fun x w' => x = .returned (.tuple #[.agg #[.int .i64 0, .int .i64 0], .bool false]) ∧ Below w.heap.size w w' := by
  have hcon1 := fun W => specKeyOf_any u W
  have hcon2 := fun W => specGroupOk_any r W
  have hcon3 := fun W => l6In_any s 0 1073741788 W
  rw [show (decide (0 ≤ s) && decide (s ≤ 1073741788)) = Sg.win s from rfl] at hcon3
  obtain ⟨K, HK⟩ : ∃ K, Hid (Gr.key u = K) := ⟨_, Lib.hid rfl⟩
  obtain ⟨O, HO⟩ : ∃ O, Hid (Gr.sok u = O) := ⟨_, Lib.hid rfl⟩
  rw [HK.out, HO.out] at hcon1
  rw [HO.out] at hs
  subst hs
  clear HK HO
  have HA0 : Bk w.heap.size 26 #[.int .i64 r, .int .i64 s, .int .i64 p] ((w.alloc (.cells #[.int .i64 r, .int .i64 s, .int .i64 p] 26 (0, 0))).alloc (.cells #[.int .i64 0, .int .i64 0] 35 (0, 0))) := (Bk.new w _ _).alloc _
  have HZ0 : Bk (w.heap.size + 1) 35 #[.int .i64 0, .int .i64 0] ((w.alloc (.cells #[.int .i64 r, .int .i64 s, .int .i64 p] 26 (0, 0))).alloc (.cells #[.int .i64 0, .int .i64 0] 35 (0, 0))) := Bk.new' _ _ _ _ (by simp)
  have hc0 : Below w.heap.size w ((w.alloc (.cells #[.int .i64 r, .int .i64 s, .int .i64 p] 26 (0, 0))).alloc (.cells #[.int .i64 0, .int .i64 0] 35 (0, 0))) := below_alloc (below_alloc (Below.refl _ _) _) _
  have m0 := HA0.cell 0
  have m1 := HA0.cell 1
  have m2 := HA0.cell 2
  simp at m0 m1 m2
  go_enter Try.func23, Try.ntmps23
  go_wp2_with fail
  refine (hcon1 _).mono ?_
  rintro x1 v1 ⟨rfl, hv1⟩
  subst v1
  go_wp2
  refine bodyPost_ret (results_cell_row2 (P := Try.prog) rfl _ _ (w.heap.size + 1) 35 _ (0, 0) _ rfl HZ0.held Try.underlying35 rfl (by kernel_rfl)) rfl ?_
  exact ⟨rfl, hc0⟩
set_option maxRecDepth 100000 in
set_option maxHeartbeats 1600000 in
theorem specAdaptorFinish_no2 (r s p u : Int) (w : World) (hs : Gr.sok u = true) (hk : Gr.key u ≠ p) :
    Calls Try.prog 23 #[.agg #[.int .i64 r, .int .i64 s, .int .i64 p], .int .i64 u] w fun x w' => x = .returned (.tuple #[.agg #[.int .i64 0, .int .i64 0], .bool false]) ∧ Below w.heap.size w w' := by
  have hcon1 := fun W => specKeyOf_any u W
  have hcon2 := fun W => specGroupOk_any r W
  have hcon3 := fun W => l6In_any s 0 1073741788 W
  rw [show (decide (0 ≤ s) && decide (s ≤ 1073741788)) = Sg.win s from rfl] at hcon3
  obtain ⟨K, HK⟩ : ∃ K, Hid (Gr.key u = K) := ⟨_, Lib.hid rfl⟩
  obtain ⟨O, HO⟩ : ∃ O, Hid (Gr.sok u = O) := ⟨_, Lib.hid rfl⟩
  rw [HK.out, HO.out] at hcon1
  rw [HO.out] at hs
  subst hs
  rw [HK.out] at hk
  have hd : decide (K = p) = false := decide_eq_false hk
  have hd2 : (K == p) = false := beq_eq_false_iff_ne.mpr hk
  clear HK HO
  have HA0 : Bk w.heap.size 26 #[.int .i64 r, .int .i64 s, .int .i64 p] ((w.alloc (.cells #[.int .i64 r, .int .i64 s, .int .i64 p] 26 (0, 0))).alloc (.cells #[.int .i64 0, .int .i64 0] 35 (0, 0))) := (Bk.new w _ _).alloc _
  have HZ0 : Bk (w.heap.size + 1) 35 #[.int .i64 0, .int .i64 0] ((w.alloc (.cells #[.int .i64 r, .int .i64 s, .int .i64 p] 26 (0, 0))).alloc (.cells #[.int .i64 0, .int .i64 0] 35 (0, 0))) := Bk.new' _ _ _ _ (by simp)
  have hc0 : Below w.heap.size w ((w.alloc (.cells #[.int .i64 r, .int .i64 s, .int .i64 p] 26 (0, 0))).alloc (.cells #[.int .i64 0, .int .i64 0] 35 (0, 0))) := below_alloc (below_alloc (Below.refl _ _) _) _
  have m0 := HA0.cell 0
  have m1 := HA0.cell 1
  have m2 := HA0.cell 2
  simp at m0 m1 m2
  go_enter Try.func23, Try.ntmps23
  go_wp2_with fail
  refine (hcon1 _).mono ?_
  rintro x1 v1 ⟨rfl, hv1⟩
  subst v1
  go_wp2
  refine bodyPost_ret (results_cell_row2 (P := Try.prog) rfl _ _ (w.heap.size + 1) 35 _ (0, 0) _ rfl HZ0.held Try.underlying35 rfl (by kernel_rfl)) rfl ?_
  exact ⟨rfl, hc0⟩
set_option maxRecDepth 100000 in
set_option maxHeartbeats 1600000 in
theorem specAdaptorFinish_no3 (r s p u : Int) (w : World) (hs : Gr.sok u = true) (hk : Gr.key u = p) (hf : Gr.ok r = false) :
    Calls Try.prog 23 #[.agg #[.int .i64 r, .int .i64 s, .int .i64 p], .int .i64 u] w fun x w' => x = .returned (.tuple #[.agg #[.int .i64 0, .int .i64 0], .bool false]) ∧ Below w.heap.size w w' := by
  have hcon1 := fun W => specKeyOf_any u W
  have hcon2 := fun W => specGroupOk_any r W
  have hcon3 := fun W => l6In_any s 0 1073741788 W
  rw [show (decide (0 ≤ s) && decide (s ≤ 1073741788)) = Sg.win s from rfl] at hcon3
  obtain ⟨K, HK⟩ : ∃ K, Hid (Gr.key u = K) := ⟨_, Lib.hid rfl⟩
  obtain ⟨O, HO⟩ : ∃ O, Hid (Gr.sok u = O) := ⟨_, Lib.hid rfl⟩
  rw [HK.out, HO.out] at hcon1
  rw [HO.out] at hs
  subst hs
  rw [HK.out] at hk
  subst hk
  rw [hf] at hcon2
  clear HK HO hf
  have HA0 : Bk w.heap.size 26 #[.int .i64 r, .int .i64 s, .int .i64 K] ((w.alloc (.cells #[.int .i64 r, .int .i64 s, .int .i64 K] 26 (0, 0))).alloc (.cells #[.int .i64 0, .int .i64 0] 35 (0, 0))) := (Bk.new w _ _).alloc _
  have HZ0 : Bk (w.heap.size + 1) 35 #[.int .i64 0, .int .i64 0] ((w.alloc (.cells #[.int .i64 r, .int .i64 s, .int .i64 K] 26 (0, 0))).alloc (.cells #[.int .i64 0, .int .i64 0] 35 (0, 0))) := Bk.new' _ _ _ _ (by simp)
  have hc0 : Below w.heap.size w ((w.alloc (.cells #[.int .i64 r, .int .i64 s, .int .i64 K] 26 (0, 0))).alloc (.cells #[.int .i64 0, .int .i64 0] 35 (0, 0))) := below_alloc (below_alloc (Below.refl _ _) _) _
  have m0 := HA0.cell 0
  have m1 := HA0.cell 1
  have m2 := HA0.cell 2
  simp at m0 m1 m2
  go_enter Try.func23, Try.ntmps23
  go_wp2_with fail
  refine (hcon1 _).mono ?_
  rintro x1 v1 ⟨rfl, hv1⟩
  subst v1
  go_wp2_with fail
  refine (hcon2 _).mono ?_
  rintro x2 v2 ⟨rfl, hv2⟩
  subst v2
  go_wp2
  refine bodyPost_ret (results_cell_row2 (P := Try.prog) rfl _ _ (w.heap.size + 1) 35 _ (0, 0) _ rfl HZ0.held Try.underlying35 rfl (by kernel_rfl)) rfl ?_
  exact ⟨rfl, hc0⟩
set_option maxRecDepth 100000 in
set_option maxHeartbeats 1600000 in
theorem specAdaptorFinish_no4 (r s p u : Int) (w : World) (hs : Gr.sok u = true) (hk : Gr.key u = p) (hf : Gr.ok r = true) (hw : Sg.win s = false) :
    Calls Try.prog 23 #[.agg #[.int .i64 r, .int .i64 s, .int .i64 p], .int .i64 u] w fun x w' => x = .returned (.tuple #[.agg #[.int .i64 0, .int .i64 0], .bool false]) ∧ Below w.heap.size w w' := by
  have hcon1 := fun W => specKeyOf_any u W
  have hcon2 := fun W => specGroupOk_any r W
  have hcon3 := fun W => l6In_any s 0 1073741788 W
  rw [show (decide (0 ≤ s) && decide (s ≤ 1073741788)) = Sg.win s from rfl] at hcon3
  obtain ⟨K, HK⟩ : ∃ K, Hid (Gr.key u = K) := ⟨_, Lib.hid rfl⟩
  obtain ⟨O, HO⟩ : ∃ O, Hid (Gr.sok u = O) := ⟨_, Lib.hid rfl⟩
  rw [HK.out, HO.out] at hcon1
  rw [HO.out] at hs
  subst hs
  rw [HK.out] at hk
  subst hk
  rw [hf] at hcon2
  rw [hw] at hcon3
  clear HK HO hf hw
  have HA0 : Bk w.heap.size 26 #[.int .i64 r, .int .i64 s, .int .i64 K] ((w.alloc (.cells #[.int .i64 r, .int .i64 s, .int .i64 K] 26 (0, 0))).alloc (.cells #[.int .i64 0, .int .i64 0] 35 (0, 0))) := (Bk.new w _ _).alloc _
  have HZ0 : Bk (w.heap.size + 1) 35 #[.int .i64 0, .int .i64 0] ((w.alloc (.cells #[.int .i64 r, .int .i64 s, .int .i64 K] 26 (0, 0))).alloc (.cells #[.int .i64 0, .int .i64 0] 35 (0, 0))) := Bk.new' _ _ _ _ (by simp)
  have hc0 : Below w.heap.size w ((w.alloc (.cells #[.int .i64 r, .int .i64 s, .int .i64 K] 26 (0, 0))).alloc (.cells #[.int .i64 0, .int .i64 0] 35 (0, 0))) := below_alloc (below_alloc (Below.refl _ _) _) _
  have m0 := HA0.cell 0
  have m1 := HA0.cell 1
  have m2 := HA0.cell 2
  simp at m0 m1 m2
  go_enter Try.func23, Try.ntmps23
  go_wp2_with fail
  refine (hcon1 _).mono ?_
  rintro x1 v1 ⟨rfl, hv1⟩
  subst v1
  go_wp2_with fail
  refine (hcon2 _).mono ?_
  rintro x2 v2 ⟨rfl, hv2⟩
  subst v2
  go_wp2_with fail
  refine (hcon3 _).mono ?_
  rintro x3 v3 ⟨rfl, hv3⟩
  subst v3
  go_wp2
  refine bodyPost_ret (results_cell_row2 (P := Try.prog) rfl _ _ (w.heap.size + 1) 35 _ (0, 0) _ rfl HZ0.held Try.underlying35 rfl (by kernel_rfl)) rfl ?_
  exact ⟨rfl, hc0⟩
set_option maxRecDepth 100000 in
set_option maxHeartbeats 1600000 in
theorem specAdaptorFinish_yes (r s p u : Int) (w : World) (hh : Ad.fok r s p u = true) :
    Calls Try.prog 23 #[.agg #[.int .i64 r, .int .i64 s, .int .i64 p], .int .i64 u] w fun x w' => x = .returned (.tuple #[.agg #[.int .i64 (Ad.fin r p), .int .i64 ((s + u) % 1073741789)], .bool true]) ∧ Below w.heap.size w w' := by
  obtain ⟨⟨u0, u1⟩, hg, hr, s0, s1⟩ := (Ad.fok_iff r s p u).mp hh
  have hsk : Gr.sok u = true := (Gr.sok_iff u).mpr ⟨u0, u1⟩
  have hpE : Gr.E p := by rw [← hg]; exact Sg.gp_E (by omega)
  obtain ⟨b0, b1⟩ := Gr.E_bd hpE
  obtain ⟨r0, r1⟩ := Gr.E_bd hr
  have hcon1 := fun W => specKeyOf_any u W
  have hcon2 := fun W => specGroupOk_any r W
  have hcon3 := fun W => l6In_any s 0 1073741788 W
  rw [show (decide (0 ≤ s) && decide (s ≤ 1073741788)) = Sg.win s from rfl, (Sg.win_iff s).mpr ⟨s0, s1⟩] at hcon3
  rw [hsk, Sg.key_ok hsk, hg] at hcon1
  rw [Gr.ok_yes hr] at hcon2
  have hcon4 := fun W => l4Mul_any r p W (by omega) (by omega) (by omega) (by omega)
  rw [show r * p % 2147483579 = Ad.fin r p from rfl] at hcon4
  obtain ⟨F, HF⟩ : ∃ F, Hid (Ad.fin r p = F) := ⟨_, Lib.hid rfl⟩
  rw [HF.out] at hcon4 ⊢
  have hw1 : IntKind.i64.wrap (s + u) = s + u := by unfold IntKind.wrap; simp [IntKind.bits, IntKind.signed]; omega
  have hw2 : Int.tmod (s + u) 1073741789 = (s + u) % 1073741789 := Int.tmod_eq_emod_of_nonneg (by omega)
  clear hh hsk hpE hg hr HF b0 b1 r0 r1
  have HA0 : Bk w.heap.size 26 #[.int .i64 r, .int .i64 s, .int .i64 p] ((w.alloc (.cells #[.int .i64 r, .int .i64 s, .int .i64 p] 26 (0, 0))).alloc (.cells #[.int .i64 0, .int .i64 0] 35 (0, 0))) := (Bk.new w _ _).alloc _
  have HZ0 : Bk (w.heap.size + 1) 35 #[.int .i64 0, .int .i64 0] ((w.alloc (.cells #[.int .i64 r, .int .i64 s, .int .i64 p] 26 (0, 0))).alloc (.cells #[.int .i64 0, .int .i64 0] 35 (0, 0))) := Bk.new' _ _ _ _ (by simp)
  have hc0 : Below w.heap.size w ((w.alloc (.cells #[.int .i64 r, .int .i64 s, .int .i64 p] 26 (0, 0))).alloc (.cells #[.int .i64 0, .int .i64 0] 35 (0, 0))) := below_alloc (below_alloc (Below.refl _ _) _) _
  have m0 := HA0.cell 0
  have m1 := HA0.cell 1
  have m2 := HA0.cell 2
  simp at m0 m1 m2
  go_enter Try.func23, Try.ntmps23
  go_wp2_with fail
  refine (hcon1 _).mono ?_
  rintro x1 v1 ⟨rfl, hv1⟩
  subst v1
  go_wp2_with fail
  refine (hcon2 _).mono ?_
  rintro x2 v2 ⟨rfl, hv2⟩
  subst v2
  go_wp2_with fail
  refine (hcon3 _).mono ?_
  rintro x3 v3 ⟨rfl, hv3⟩
  subst v3
  clear m0 m1 m2
  have hS0 := Bk.c3 HA0.drew
  have HB : Bk w.heap.size 26 #[.int .i64 r, .int .i64 s, .int .i64 p] ((w.alloc (.cells #[.int .i64 r, .int .i64 s, .int .i64 p] 26 (0, 0))).alloc (.cells #[.int .i64 F, .int .i64 ((s + u) % 1073741789)] 35 (0, 0))) := (Bk.new w _ _).alloc _
  have HZ9 : Bk (w.heap.size + 1) 35 #[.int .i64 F, .int .i64 ((s + u) % 1073741789)] ((w.alloc (.cells #[.int .i64 r, .int .i64 s, .int .i64 p] 26 (0, 0))).alloc (.cells #[.int .i64 F, .int .i64 ((s + u) % 1073741789)] 35 (0, 0))).drew := (Bk.new' _ _ _ _ (by simp)).drew
  have hS1 := Bk.c3 HB.drew
  have hc9 : Below w.heap.size w ((w.alloc (.cells #[.int .i64 r, .int .i64 s, .int .i64 p] 26 (0, 0))).alloc (.cells #[.int .i64 F, .int .i64 ((s + u) % 1073741789)] 35 (0, 0))).drew := (below_alloc (below_alloc (Below.refl _ _) _) _).drew
  go_wp2
  go_region_held3 (fun W => W.cell? ⟨w.heap.size, 0, none⟩ = some (.int .i64 r) ∧ W.cell? ⟨w.heap.size, 1, none⟩ = some (.int .i64 s) ∧ W.cell? ⟨w.heap.size, 2, none⟩ = some (.int .i64 p)) (first | with_reducible exact hS0 | with_reducible exact hS1)
    (first | (go_at_call 45; refine (hcon4 _).mono ?_; rintro x9 v9 ⟨rfl, hv9⟩; subst v9))
  go_wp2
  refine bodyPost_ret (results_cell_row2 (P := Try.prog) rfl _ _ (w.heap.size + 1) 35 _ (0, 0) _ rfl HZ9.held Try.underlying35 rfl (by kernel_rfl)) rfl ?_
  exact ⟨rfl, hc9⟩
theorem specAdaptorFinish_any (r s p u : Int) (w : World) :
    Calls Try.prog 23 #[.agg #[.int .i64 r, .int .i64 s, .int .i64 p], .int .i64 u] w fun x w' => x = .returned (.tuple #[.agg #[.int .i64 (Ad.f0 r s p u), .int .i64 (Ad.f1 r s p u)], .bool (Ad.fok r s p u)]) ∧ Below w.heap.size w w' := by
  unfold Ad.f0 Ad.f1
  cases hh : Ad.fok r s p u
  · simp only [Bool.false_eq_true, if_false]
    cases hs : Gr.sok u
    · exact specAdaptorFinish_no1 r s p u w hs
    · by_cases hk : Gr.key u = p
      · cases hf : Gr.ok r
        · exact specAdaptorFinish_no3 r s p u w hs hk hf
        · cases hw : Sg.win s
          · exact specAdaptorFinish_no4 r s p u w hs hk hf hw
          · exfalso
            rw [Sg.key_ok hs] at hk
            unfold Ad.fok at hh
            rw [hs, hk, hf, hw] at hh
            simp at hh
      · exact specAdaptorFinish_no2 r s p u w hs hk
  · simp only [if_true]
    exact specAdaptorFinish_yes r s p u w hh
end Go.Proofs.Ytimajobbkemdbaa
