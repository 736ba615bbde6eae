/-
  Contracts of chapter 7: making, finishing and revealing; of the program.
-/
import Derived.Test.YtimajobbkemdbaaAe
namespace Go.Proofs.Ytimajobbkemdbaa
open Go.RowKit

set_option maxRecDepth 100000 in
set_option maxHeartbeats 1600000 in
theorem implAdaptorSign_no1 (u : Int) (t : ByteArray) (p : Int) (w : World) (hs : Gr.sok u = false) :
    Calls Try.prog 12 #[.int .i64 u, .string t, .int .i64 p] w fun x w' => x = .returned (.tuple #[.agg #[.int .i64 0, .int .i64 0, .int .i64 0], .bool false]) ∧ Below w.heap.size w w' := by
  have H0 := Lib.hid hs
  clear hs
  have HX0 : Bk w.heap.size 26 #[.int .i64 0, .int .i64 0, .int .i64 0] (w.alloc (.cells #[.int .i64 0, .int .i64 0, .int .i64 0] 26 (0, 0))) := Bk.new _ _ _
  have hc0 := below_alloc (Below.refl w.heap.size w) (.cells #[.int .i64 0, .int .i64 0, .int .i64 0] 26 (0, 0))
  go_enter Try.func12, Try.ntmps12
  go_wp2_with fail
  refine (implKeyOf_any u _).mono ?_
  rw [H0.out]
  rintro e1 w1 ⟨rfl, hb1⟩
  have HX1 := HX0.below hb1
  have hc1 := below_after hc0 hb1
  clear hb1 hc0 HX0
  obtain ⟨z0, z1, z2⟩ := Bk.c3 HX1
  obtain ⟨f0, f1, f2⟩ := HX1.f3
  have HZ9 := Bk.store3 HX1 (.int .i64 0) (.int .i64 0) (.int .i64 0)
  have hc9 := below_store3 hc1 w.heap.size (by omega) (.int .i64 0) (.int .i64 0) (.int .i64 0)
  go_wp2
  refine bodyPost_ret (results_cell_row2 (P := Try.prog) rfl _ _ (w.heap.size) 26 _ (0, 0) _ rfl HZ9.held Try.underlying26 rfl (by kernel_rfl)) rfl ?_
  exact ⟨rfl, hc9⟩
set_option maxRecDepth 100000 in
set_option maxHeartbeats 1600000 in
theorem implAdaptorSign_no2 (u : Int) (t : ByteArray) (p : Int) (w : World) (hs : Gr.sok u = true) (hp : Gr.kok p = false) :
    Calls Try.prog 12 #[.int .i64 u, .string t, .int .i64 p] w fun x w' => x = .returned (.tuple #[.agg #[.int .i64 0, .int .i64 0, .int .i64 0], .bool false]) ∧ Below w.heap.size w w' := by
  have H0 := Lib.hid hs
  have H1 := Lib.hid hp
  clear hs hp
  have HX0 : Bk w.heap.size 26 #[.int .i64 0, .int .i64 0, .int .i64 0] (w.alloc (.cells #[.int .i64 0, .int .i64 0, .int .i64 0] 26 (0, 0))) := Bk.new _ _ _
  have hc0 := below_alloc (Below.refl w.heap.size w) (.cells #[.int .i64 0, .int .i64 0, .int .i64 0] 26 (0, 0))
  go_enter Try.func12, Try.ntmps12
  go_wp2_with fail
  refine (implKeyOf_any u _).mono ?_
  rw [H0.out]
  rintro e1 w1 ⟨rfl, hb1⟩
  have HX1 := HX0.below hb1
  have hc1 := below_after hc0 hb1
  clear hb1 hc0 HX0
  go_wp2_with fail
  refine (implKeyOk_any p _).mono ?_
  rw [H1.out]
  rintro e2 w2 ⟨rfl, hb2⟩
  have HX2 := HX1.below hb2
  have hc2 := below_after hc1 hb2
  clear hb2 hc1 HX1
  obtain ⟨z0, z1, z2⟩ := Bk.c3 HX2
  obtain ⟨f0, f1, f2⟩ := HX2.f3
  have HZ9 := Bk.store3 HX2 (.int .i64 0) (.int .i64 0) (.int .i64 0)
  have hc9 := below_store3 hc2 w.heap.size (by omega) (.int .i64 0) (.int .i64 0) (.int .i64 0)
  go_wp2
  refine bodyPost_ret (results_cell_row2 (P := Try.prog) rfl _ _ (w.heap.size) 26 _ (0, 0) _ rfl HZ9.held Try.underlying26 rfl (by kernel_rfl)) rfl ?_
  exact ⟨rfl, hc9⟩
set_option maxRecDepth 100000 in
set_option maxHeartbeats 1600000 in
theorem implAdaptorSign_yes (u : Int) (t : ByteArray) (p : Int) (w : World) (hs : Gr.sok u = true) (hp : Gr.kok p = true) (ht : t.size ≤ 1048576) :
    Calls Try.prog 12 #[.int .i64 u, .string t, .int .i64 p] w fun x w' => x = .returned (.tuple #[.agg #[.int .i64 (Sg.sr u t), .int .i64 (Ad.ss u t p), .int .i64 p], .bool true]) ∧ Below w.heap.size w w' := by
  obtain ⟨u0, u1⟩ := (Gr.sok_iff u).mp hs
  obtain ⟨n0, n1⟩ := Sg.no_bd u t
  obtain ⟨c0, c1⟩ := Ad.ch_bd (Sg.gp u) t (Sg.sr u t) p
  have hkk := Sg.kok_ok (Gr.key_kok hs)
  rw [Sg.key_ok hs] at hkk
  have hRE : Gr.E (Sg.sr u t) := Sg.gp_E (by omega)
  have hPE := ((Sg.kok_iff p).mp hp).1
  obtain ⟨b0, b1⟩ := Gr.E_bd hPE
  obtain ⟨r0, r1⟩ := Gr.E_bd hRE
  have hcon1 := fun W => implKeyOf_any u W
  rw [hs, Sg.key_ok hs] at hcon1
  have hcon2 := fun W => implKeyOk_any p W
  rw [hp] at hcon2
  have hcon3 := fun W => nonceOf_any u t W (by omega) (by omega) ht
  have hcon5 := fun W => times_any (Sg.sr u t) p 2147483579 W (by omega) (by omega) (by omega) (by omega) (by omega) (by omega)
  have hcon6 := fun W => implChallenge_yes (Ad.fin (Sg.sr u t) p) (Sg.gp u) t W (Gr.ok_yes (Ad.fin_E hRE hPE)) hkk ht
  rw [show Sg.sr u t * p % 2147483579 = Ad.fin (Sg.sr u t) p from rfl] at hcon5
  rw [show Sg.ch (Ad.fin (Sg.sr u t) p) (Sg.gp u) t = Ad.ch (Sg.gp u) t (Sg.sr u t) p from rfl] at hcon6
  have HS : Hid (Ad.ss u t p = (Sg.no u t + Ad.ch (Sg.gp u) t (Sg.sr u t) p * u) % 1073741789) := Lib.hid rfl
  have HR : Hid (Sg.gp (Sg.no u t) = Sg.sr u t) := Lib.hid rfl
  clear hs hp hkk hRE hPE
  obtain ⟨K, HK⟩ : ∃ K, Hid (Sg.gp u = K) := ⟨_, Lib.hid rfl⟩
  obtain ⟨N, HN⟩ : ∃ N, Hid (Sg.no u t = N) := ⟨_, Lib.hid rfl⟩
  obtain ⟨R, HR2⟩ : ∃ R, Hid (Sg.sr u t = R) := ⟨_, Lib.hid rfl⟩
  rw [HK.out, HR2.out] at hcon6 HS c0 c1
  rw [HR2.out] at hcon5 HR r0 r1 ⊢
  rw [HK.out] at hcon1
  rw [HN.out] at hcon3 HS HR n0 n1
  obtain ⟨C, HC⟩ : ∃ C, Hid (Ad.ch K t R p = C) := ⟨_, Lib.hid rfl⟩
  obtain ⟨F, HF⟩ : ∃ F, Hid (Ad.fin R p = F) := ⟨_, Lib.hid rfl⟩
  rw [HF.out] at hcon5 hcon6
  rw [HC.out] at hcon6 HS c0 c1
  have hcon4 := fun W => basePower_any N 1073741789 W (by omega)
  rw [HR.out] at hcon4
  have hcon7 := fun W => answer_any N C u W (by omega) n1 c0 c1 (by omega) u1
  obtain ⟨S, HS2⟩ : ∃ S, Hid ((N + C * u) % 1073741789 = S) := ⟨_, Lib.hid rfl⟩
  rw [HS.out, HS2.out]
  rw [HS2.out] at hcon7
  have hf := field_n F 2147483579
  clear HK HN HR2 HR HC HF HS HS2 n0 n1 c0 c1 u0 u1 b0 b1 r0 r1
  have HX0 : Bk w.heap.size 26 #[.int .i64 0, .int .i64 0, .int .i64 0] (w.alloc (.cells #[.int .i64 0, .int .i64 0, .int .i64 0] 26 (0, 0))) := Bk.new _ _ _
  have hc0 := below_alloc (Below.refl w.heap.size w) (.cells #[.int .i64 0, .int .i64 0, .int .i64 0] 26 (0, 0))
  go_enter Try.func12, Try.ntmps12
  go_wp2_with fail
  refine (hcon1 _).mono ?_
  rintro e1 w1 ⟨rfl, hb1⟩
  have HX1 := HX0.below hb1
  have hc1 := below_after hc0 hb1
  clear hb1 hc0 HX0
  go_wp2_with fail
  refine (hcon2 _).mono ?_
  rintro e2 w2 ⟨rfl, hb2⟩
  have HX2 := HX1.below hb2
  have hc2 := below_after hc1 hb2
  clear hb2 hc1 HX1
  go_wp2_with fail
  refine (hcon3 _).mono ?_
  rintro e3 w3 ⟨rfl, hb3⟩
  have HX3 := (HX2.below hb3).alloc (.cells #[.int .i64 N, .int .i64 1073741789] 63 (0, 0))
  have HN3 : Bk (w3.heap.size) 63 #[.int .i64 N, .int .i64 1073741789] _ := Bk.new (w3) 63 #[.int .i64 N, .int .i64 1073741789]
  have hc3 := below_alloc (below_after hc2 hb3) (.cells #[.int .i64 N, .int .i64 1073741789] 63 (0, 0))
  clear hb3 hc2 HX2
  go_wp2_with fail
  refine (hcon4 _).mono ?_
  rintro e4 w4 ⟨rfl, hb4⟩
  have HX4 := (HX3.below hb4).alloc (.cells #[.int .i64 R, .int .i64 2147483579] 63 (0, 0))
  have HN4 := (HN3.below hb4).alloc (.cells #[.int .i64 R, .int .i64 2147483579] 63 (0, 0))
  have HR4 : Bk (w4.heap.size) 63 #[.int .i64 R, .int .i64 2147483579] _ := Bk.new (w4) 63 #[.int .i64 R, .int .i64 2147483579]
  have hc4 := below_alloc (below_after hc3 hb4) (.cells #[.int .i64 R, .int .i64 2147483579] 63 (0, 0))
  clear hb4 hc3 HX3 HN3
  go_wp2_with fail
  refine (hcon5 _).mono ?_
  rintro e5 w5 ⟨rfl, hb5⟩
  have HX5 := HX4.below hb5
  have HN5 := HN4.below hb5
  have HR5 := HR4.below hb5
  have hc5 := below_after hc4 hb5
  clear hb5 hc4 HX4 HN4 HR4
  have hS5 := Bk.c2 HN5.drew
  have hT5 := Bk.c2 (HN5.alloc (.cells #[.int .i64 0, .int .i64 0] 63 (0, 0))).drew
  have l1 := HX5.lt
  have l2 := HN5.lt
  have l3 := HR5.lt
  go_wp2
  go_region_held3 (fun W => W.cell? ⟨w3.heap.size, 0, none⟩ = some (.int .i64 N) ∧ W.cell? ⟨w3.heap.size, 1, none⟩ = some (.int .i64 1073741789)) (first | with_reducible exact hS5 | with_reducible exact hT5 | with_reducible exact hS6 | with_reducible exact hT6 | with_reducible exact hS7 | with_reducible exact hT7 | with_reducible exact hU7 | with_reducible exact hT8)
    (first
      | (go_at_call 18; refine (hcon6 w5.drew).mono ?_; rintro e6 w6 ⟨rfl, hb6⟩; have HX6 := HX5.drew.below hb6; have HN6 := HN5.drew.below hb6; have HR6 := HR5.drew.below hb6; have hS6 := Bk.c2 HN6; have hT6 := Bk.c2 (HN6.alloc (.cells #[.int .i64 0, .int .i64 0] 63 (0, 0))); have hc6 := below_after hc5.drew hb6)
      | (go_at_call 18; refine (hcon6 (w5.alloc (.cells #[.int .i64 0, .int .i64 0] 63 (0, 0))).drew).mono ?_; rintro e6 w6 ⟨rfl, hb6⟩; have HX6 := (HX5.alloc (.cells #[.int .i64 0, .int .i64 0] 63 (0, 0))).drew.below hb6; have HN6 := (HN5.alloc (.cells #[.int .i64 0, .int .i64 0] 63 (0, 0))).drew.below hb6; have HR6 := (HR5.alloc (.cells #[.int .i64 0, .int .i64 0] 63 (0, 0))).drew.below hb6; have HZ6 := (Bk.new w5 63 #[.int .i64 0, .int .i64 0]).drew.below hb6; have hS6 := Bk.c2 HN6; have hc6 := below_after (below_alloc hc5 (.cells #[.int .i64 0, .int .i64 0] 63 (0, 0))).drew hb6)
      | (go_at_call 39; refine (hcon7 w6).mono ?_; rintro e7 w7 ⟨rfl, hb7⟩; have HZ7 := HZ6.below hb7; have HX7 := HX6.below hb7; have HN7 := HN6.below hb7; have HR7 := HR6.below hb7; have hS7 := Bk.c2 HN7; have hc7 := below_after hc6 hb7; obtain ⟨z0, z1⟩ := Bk.c2 HZ7; obtain ⟨f0, f1⟩ := HZ7.f2; have l4 := hc5.size; have HX8 := Bk.other2 HX7 w5.heap.size (by omega) (.int .i64 S) (.int .i64 1073741789); have HN8 := Bk.other2 HN7 w5.heap.size (by omega) (.int .i64 S) (.int .i64 1073741789); have HR8 := Bk.other2 HR7 w5.heap.size (by omega) (.int .i64 S) (.int .i64 1073741789); have hT8 := Bk.c2 HN8; have HZ8 := Bk.store2 HZ7 (.int .i64 S) (.int .i64 1073741789); have hc8 := below_store2 hc7 w5.heap.size (by omega) (.int .i64 S) (.int .i64 1073741789))
      | (go_at_call 39; refine (hcon7 (w6.alloc (.cells #[.int .i64 0, .int .i64 0] 63 (0, 0)))).mono ?_; rintro e7 w7 ⟨rfl, hb7⟩; have HZ7 := (Bk.new w6 63 #[.int .i64 0, .int .i64 0]).below hb7; have m1 := HX6.lt; have m2 := HN6.lt; have m3 := HR6.lt; have m4 := hc6.size; have HX7 := (HX6.alloc (.cells #[.int .i64 0, .int .i64 0] 63 (0, 0))).below hb7; have HN7 := (HN6.alloc (.cells #[.int .i64 0, .int .i64 0] 63 (0, 0))).below hb7; have HR7 := (HR6.alloc (.cells #[.int .i64 0, .int .i64 0] 63 (0, 0))).below hb7; have hS7 := Bk.c2 HN7; have hc7 := below_after (below_alloc hc6 (.cells #[.int .i64 0, .int .i64 0] 63 (0, 0))) hb7; obtain ⟨z0, z1⟩ := Bk.c2 HZ7; obtain ⟨f0, f1⟩ := HZ7.f2; have HX8 := Bk.other2 HX7 w6.heap.size (by omega) (.int .i64 S) (.int .i64 1073741789); have HN8 := Bk.other2 HN7 w6.heap.size (by omega) (.int .i64 S) (.int .i64 1073741789); have HR8 := Bk.other2 HR7 w6.heap.size (by omega) (.int .i64 S) (.int .i64 1073741789); have hT8 := Bk.c2 HN8; have HZ8 := Bk.store2 HZ7 (.int .i64 S) (.int .i64 1073741789); have hc8 := below_store2 hc7 w6.heap.size (by omega) (.int .i64 S) (.int .i64 1073741789))
      | (go_at_call 39; refine (hcon7 w6).mono ?_; rintro e7 w7 ⟨rfl, hb7⟩; have HX7 := HX6.below hb7; have HN7 := HN6.below hb7; have HR7 := HR6.below hb7; have hS7 := Bk.c2 HN7; have hT7 := Bk.c2 (HN7.alloc (.cells #[.int .i64 0, .int .i64 0] 63 (0, 0))); have hU7 := Bk.c2 (HN7.alloc (.cells #[.int .i64 S, .int .i64 1073741789] 63 (0, 0))); have HZ8 := Bk.new w7 63 #[.int .i64 S, .int .i64 1073741789]; have HX8 := HX7.alloc (.cells #[.int .i64 S, .int .i64 1073741789] 63 (0, 0)); have HN8 := HN7.alloc (.cells #[.int .i64 S, .int .i64 1073741789] 63 (0, 0)); have HR8 := HR7.alloc (.cells #[.int .i64 S, .int .i64 1073741789] 63 (0, 0)); have hc8 := below_alloc (below_after hc6 hb7) (.cells #[.int .i64 S, .int .i64 1073741789] 63 (0, 0))))
  all_goals
    obtain ⟨z0, z1, z2⟩ := Bk.c3 HX8
    obtain ⟨f0, f1, f2⟩ := HX8.f3
    have q0 := HZ8.cell 0
    have q1 := HR8.cell 0
    simp at q0 q1
    have HX9 := Bk.store3 HX8 (.int .i64 R) (.int .i64 S) (.int .i64 p)
    have hb9 := below_store3 hc8 w.heap.size (by omega) (.int .i64 R) (.int .i64 S) (.int .i64 p)
    clear HX8 hc8 HX7 HX6 HX5 HZ8
    go_wp2
    refine bodyPost_ret (results_cell_row2 (P := Try.prog) rfl _ _ (w.heap.size) 26 _ (0, 0) _ rfl HX9.held Try.underlying26 rfl (by kernel_rfl)) rfl ?_
    exact ⟨rfl, hb9⟩
set_option maxRecDepth 100000 in
set_option maxHeartbeats 1600000 in
theorem implAdaptorFinish_no1 (r s p u : Int) (w : World) (hs : Gr.sok u = false) :
    Calls Try.prog 22 #[.agg #[.int .i64 r, .int .i64 s, .int .i64 p], .int .i64 u] w fun x w' => x = .returned (.tuple #[.agg #[.int .i64 0, .int .i64 0], .bool false]) ∧ Below w.heap.size w w' := by
  have hcon1 := fun W => implKeyOf_any u W
  have hcon2 := fun W => finishedR_any r s p W
  obtain ⟨K, HK⟩ : ∃ K, Hid (Gr.key u = K) := ⟨_, Lib.hid rfl⟩
  obtain ⟨O, HO⟩ : ∃ O, Hid (Gr.sok u = O) := ⟨_, Lib.hid rfl⟩
  obtain ⟨F, HF⟩ : ∃ F, Hid (Gr.mul r p = F) := ⟨_, Lib.hid rfl⟩
  obtain ⟨B, HB⟩ : ∃ B, Hid ((Gr.ok r && Gr.ok p) = B) := ⟨_, Lib.hid rfl⟩
  rw [HK.out, HO.out] at hcon1
  rw [HF.out, HB.out] at hcon2
  rw [HO.out] at hs
  subst hs
  clear HK HO HF HB
  have HA0 : Bk w.heap.size 26 #[.int .i64 r, .int .i64 s, .int .i64 p] ((w.alloc (.cells #[.int .i64 r, .int .i64 s, .int .i64 p] 26 (0, 0))).alloc (.cells #[.int .i64 0, .int .i64 0] 35 (0, 0))) := (Bk.new w _ _).alloc _
  have HZ0 : Bk (w.heap.size + 1) 35 #[.int .i64 0, .int .i64 0] ((w.alloc (.cells #[.int .i64 r, .int .i64 s, .int .i64 p] 26 (0, 0))).alloc (.cells #[.int .i64 0, .int .i64 0] 35 (0, 0))) := Bk.new' _ _ _ _ (by simp)
  have hc0 : Below w.heap.size w ((w.alloc (.cells #[.int .i64 r, .int .i64 s, .int .i64 p] 26 (0, 0))).alloc (.cells #[.int .i64 0, .int .i64 0] 35 (0, 0))) := below_alloc (below_alloc (Below.refl _ _) _) _
  go_enter Try.func22, Try.ntmps22
  go_wp2_with fail
  refine (hcon1 _).mono ?_
  rintro e1 w1 ⟨rfl, hb1⟩
  have HA1 := HA0.below hb1
  have HZ1 := HZ0.below hb1
  have hc1 := below_after hc0 hb1
  clear hb1 hc0 HA0 HZ0
  have m0 := HA1.cell 0
  have m1 := HA1.cell 1
  have m2 := HA1.cell 2
  simp at m0 m1 m2
  go_wp2_with fail
  refine (hcon2 _).mono ?_
  rintro e2 w2 ⟨rfl, hb2⟩
  have HA2 := HA1.below hb2
  have HZ2 := HZ1.below hb2
  have hc2 := below_after hc1 hb2
  clear hb2 hc1 HA1 HZ1
  clear m0 m1 m2
  have m0 := HA2.cell 0
  have m1 := HA2.cell 1
  have m2 := HA2.cell 2
  simp at m0 m1 m2
  obtain ⟨z0, z1⟩ := Bk.c2 HZ2
  obtain ⟨f0, f1⟩ := HZ2.f2
  have HZ9 := Bk.store2 HZ2 (.int .i64 0) (.int .i64 0)
  have hc9 := below_store2 hc2 (w.heap.size + 1) (by omega) (.int .i64 0) (.int .i64 0)
  go_wp2
  refine bodyPost_ret (results_cell_row2 (P := Try.prog) rfl _ _ ((w.heap.size + 1)) 35 _ (0, 0) _ rfl HZ9.held Try.underlying35 rfl (by kernel_rfl)) rfl ?_
  exact ⟨rfl, hc9⟩
set_option maxRecDepth 100000 in
set_option maxHeartbeats 1600000 in
theorem implAdaptorFinish_no2 (r s p u : Int) (w : World) (hs : Gr.sok u = true) (hk : Gr.key u ≠ p) :
    Calls Try.prog 22 #[.agg #[.int .i64 r, .int .i64 s, .int .i64 p], .int .i64 u] w fun x w' => x = .returned (.tuple #[.agg #[.int .i64 0, .int .i64 0], .bool false]) ∧ Below w.heap.size w w' := by
  have hcon1 := fun W => implKeyOf_any u W
  have hcon2 := fun W => finishedR_any r s p W
  obtain ⟨K, HK⟩ : ∃ K, Hid (Gr.key u = K) := ⟨_, Lib.hid rfl⟩
  obtain ⟨O, HO⟩ : ∃ O, Hid (Gr.sok u = O) := ⟨_, Lib.hid rfl⟩
  obtain ⟨F, HF⟩ : ∃ F, Hid (Gr.mul r p = F) := ⟨_, Lib.hid rfl⟩
  obtain ⟨B, HB⟩ : ∃ B, Hid ((Gr.ok r && Gr.ok p) = B) := ⟨_, Lib.hid rfl⟩
  rw [HK.out, HO.out] at hcon1
  rw [HF.out, HB.out] at hcon2
  rw [HO.out] at hs
  subst hs
  rw [HK.out] at hk
  have hd : decide (K = p) = false := decide_eq_false hk
  have hd2 : (K == p) = false := beq_eq_false_iff_ne.mpr hk
  clear HK HO HF HB
  have HA0 : Bk w.heap.size 26 #[.int .i64 r, .int .i64 s, .int .i64 p] ((w.alloc (.cells #[.int .i64 r, .int .i64 s, .int .i64 p] 26 (0, 0))).alloc (.cells #[.int .i64 0, .int .i64 0] 35 (0, 0))) := (Bk.new w _ _).alloc _
  have HZ0 : Bk (w.heap.size + 1) 35 #[.int .i64 0, .int .i64 0] ((w.alloc (.cells #[.int .i64 r, .int .i64 s, .int .i64 p] 26 (0, 0))).alloc (.cells #[.int .i64 0, .int .i64 0] 35 (0, 0))) := Bk.new' _ _ _ _ (by simp)
  have hc0 : Below w.heap.size w ((w.alloc (.cells #[.int .i64 r, .int .i64 s, .int .i64 p] 26 (0, 0))).alloc (.cells #[.int .i64 0, .int .i64 0] 35 (0, 0))) := below_alloc (below_alloc (Below.refl _ _) _) _
  go_enter Try.func22, Try.ntmps22
  go_wp2_with fail
  refine (hcon1 _).mono ?_
  rintro e1 w1 ⟨rfl, hb1⟩
  have HA1 := HA0.below hb1
  have HZ1 := HZ0.below hb1
  have hc1 := below_after hc0 hb1
  clear hb1 hc0 HA0 HZ0
  have m0 := HA1.cell 0
  have m1 := HA1.cell 1
  have m2 := HA1.cell 2
  simp at m0 m1 m2
  go_wp2_with fail
  refine (hcon2 _).mono ?_
  rintro e2 w2 ⟨rfl, hb2⟩
  have HA2 := HA1.below hb2
  have HZ2 := HZ1.below hb2
  have hc2 := below_after hc1 hb2
  clear hb2 hc1 HA1 HZ1
  clear m0 m1 m2
  have m0 := HA2.cell 0
  have m1 := HA2.cell 1
  have m2 := HA2.cell 2
  simp at m0 m1 m2
  obtain ⟨z0, z1⟩ := Bk.c2 HZ2
  obtain ⟨f0, f1⟩ := HZ2.f2
  have HZ9 := Bk.store2 HZ2 (.int .i64 0) (.int .i64 0)
  have hc9 := below_store2 hc2 (w.heap.size + 1) (by omega) (.int .i64 0) (.int .i64 0)
  go_wp2
  refine bodyPost_ret (results_cell_row2 (P := Try.prog) rfl _ _ ((w.heap.size + 1)) 35 _ (0, 0) _ rfl HZ9.held Try.underlying35 rfl (by kernel_rfl)) rfl ?_
  exact ⟨rfl, hc9⟩
set_option maxRecDepth 100000 in
set_option maxHeartbeats 1600000 in
theorem implAdaptorFinish_no3 (r s p u : Int) (w : World) (hs : Gr.sok u = true) (hk : Gr.key u = p) (hf : (Gr.ok r && Gr.ok p) = false) :
    Calls Try.prog 22 #[.agg #[.int .i64 r, .int .i64 s, .int .i64 p], .int .i64 u] w fun x w' => x = .returned (.tuple #[.agg #[.int .i64 0, .int .i64 0], .bool false]) ∧ Below w.heap.size w w' := by
  have hcon1 := fun W => implKeyOf_any u W
  have hcon2 := fun W => finishedR_any r s p W
  obtain ⟨K, HK⟩ : ∃ K, Hid (Gr.key u = K) := ⟨_, Lib.hid rfl⟩
  obtain ⟨O, HO⟩ : ∃ O, Hid (Gr.sok u = O) := ⟨_, Lib.hid rfl⟩
  obtain ⟨F, HF⟩ : ∃ F, Hid (Gr.mul r p = F) := ⟨_, Lib.hid rfl⟩
  obtain ⟨B, HB⟩ : ∃ B, Hid ((Gr.ok r && Gr.ok p) = B) := ⟨_, Lib.hid rfl⟩
  rw [HK.out, HO.out] at hcon1
  rw [HF.out, HB.out] at hcon2
  rw [HO.out] at hs
  subst hs
  rw [HK.out] at hk
  subst hk
  rw [HB.out] at hf
  subst hf
  clear HK HO HF HB
  have HA0 : Bk w.heap.size 26 #[.int .i64 r, .int .i64 s, .int .i64 K] ((w.alloc (.cells #[.int .i64 r, .int .i64 s, .int .i64 K] 26 (0, 0))).alloc (.cells #[.int .i64 0, .int .i64 0] 35 (0, 0))) := (Bk.new w _ _).alloc _
  have HZ0 : Bk (w.heap.size + 1) 35 #[.int .i64 0, .int .i64 0] ((w.alloc (.cells #[.int .i64 r, .int .i64 s, .int .i64 K] 26 (0, 0))).alloc (.cells #[.int .i64 0, .int .i64 0] 35 (0, 0))) := Bk.new' _ _ _ _ (by simp)
  have hc0 : Below w.heap.size w ((w.alloc (.cells #[.int .i64 r, .int .i64 s, .int .i64 K] 26 (0, 0))).alloc (.cells #[.int .i64 0, .int .i64 0] 35 (0, 0))) := below_alloc (below_alloc (Below.refl _ _) _) _
  go_enter Try.func22, Try.ntmps22
  go_wp2_with fail
  refine (hcon1 _).mono ?_
  rintro e1 w1 ⟨rfl, hb1⟩
  have HA1 := HA0.below hb1
  have HZ1 := HZ0.below hb1
  have hc1 := below_after hc0 hb1
  clear hb1 hc0 HA0 HZ0
  have m0 := HA1.cell 0
  have m1 := HA1.cell 1
  have m2 := HA1.cell 2
  simp at m0 m1 m2
  go_wp2_with fail
  refine (hcon2 _).mono ?_
  rintro e2 w2 ⟨rfl, hb2⟩
  have HA2 := HA1.below hb2
  have HZ2 := HZ1.below hb2
  have hc2 := below_after hc1 hb2
  clear hb2 hc1 HA1 HZ1
  clear m0 m1 m2
  have m0 := HA2.cell 0
  have m1 := HA2.cell 1
  have m2 := HA2.cell 2
  simp at m0 m1 m2
  obtain ⟨z0, z1⟩ := Bk.c2 HZ2
  obtain ⟨f0, f1⟩ := HZ2.f2
  have HZ9 := Bk.store2 HZ2 (.int .i64 0) (.int .i64 0)
  have hc9 := below_store2 hc2 (w.heap.size + 1) (by omega) (.int .i64 0) (.int .i64 0)
  go_wp2
  refine bodyPost_ret (results_cell_row2 (P := Try.prog) rfl _ _ ((w.heap.size + 1)) 35 _ (0, 0) _ rfl HZ9.held Try.underlying35 rfl (by kernel_rfl)) rfl ?_
  exact ⟨rfl, hc9⟩
set_option maxRecDepth 100000 in
set_option maxHeartbeats 1600000 in
theorem implAdaptorFinish_no4 (r s p u : Int) (w : World) (hs : Gr.sok u = true) (hk : Gr.key u = p) (hf : (Gr.ok r && Gr.ok p) = true) (hw : Sg.win s = false) :
    Calls Try.prog 22 #[.agg #[.int .i64 r, .int .i64 s, .int .i64 p], .int .i64 u] w fun x w' => x = .returned (.tuple #[.agg #[.int .i64 0, .int .i64 0], .bool false]) ∧ Below w.heap.size w w' := by
  have hcon1 := fun W => implKeyOf_any u W
  have hcon2 := fun W => finishedR_any r s p W
  obtain ⟨K, HK⟩ : ∃ K, Hid (Gr.key u = K) := ⟨_, Lib.hid rfl⟩
  obtain ⟨O, HO⟩ : ∃ O, Hid (Gr.sok u = O) := ⟨_, Lib.hid rfl⟩
  obtain ⟨F, HF⟩ : ∃ F, Hid (Gr.mul r p = F) := ⟨_, Lib.hid rfl⟩
  obtain ⟨B, HB⟩ : ∃ B, Hid ((Gr.ok r && Gr.ok p) = B) := ⟨_, Lib.hid rfl⟩
  rw [HK.out, HO.out] at hcon1
  rw [HF.out, HB.out] at hcon2
  rw [HO.out] at hs
  subst hs
  rw [HK.out] at hk
  subst hk
  rw [HB.out] at hf
  subst hf
  have HW := Lib.hid hw
  clear HK HO HF HB hw
  have HA0 : Bk w.heap.size 26 #[.int .i64 r, .int .i64 s, .int .i64 K] ((w.alloc (.cells #[.int .i64 r, .int .i64 s, .int .i64 K] 26 (0, 0))).alloc (.cells #[.int .i64 0, .int .i64 0] 35 (0, 0))) := (Bk.new w _ _).alloc _
  have HZ0 : Bk (w.heap.size + 1) 35 #[.int .i64 0, .int .i64 0] ((w.alloc (.cells #[.int .i64 r, .int .i64 s, .int .i64 K] 26 (0, 0))).alloc (.cells #[.int .i64 0, .int .i64 0] 35 (0, 0))) := Bk.new' _ _ _ _ (by simp)
  have hc0 : Below w.heap.size w ((w.alloc (.cells #[.int .i64 r, .int .i64 s, .int .i64 K] 26 (0, 0))).alloc (.cells #[.int .i64 0, .int .i64 0] 35 (0, 0))) := below_alloc (below_alloc (Below.refl _ _) _) _
  go_enter Try.func22, Try.ntmps22
  go_wp2_with fail
  refine (hcon1 _).mono ?_
  rintro e1 w1 ⟨rfl, hb1⟩
  have HA1 := HA0.below hb1
  have HZ1 := HZ0.below hb1
  have hc1 := below_after hc0 hb1
  clear hb1 hc0 HA0 HZ0
  have m0 := HA1.cell 0
  have m1 := HA1.cell 1
  have m2 := HA1.cell 2
  simp at m0 m1 m2
  go_wp2_with fail
  refine (hcon2 _).mono ?_
  rintro e2 w2 ⟨rfl, hb2⟩
  have HA2 := HA1.below hb2
  have HZ2 := HZ1.below hb2
  have hc2 := below_after hc1 hb2
  clear hb2 hc1 HA1 HZ1
  clear m0 m1 m2
  have m0 := HA2.cell 0
  have m1 := HA2.cell 1
  have m2 := HA2.cell 2
  simp at m0 m1 m2
  go_wp2_with fail
  refine (isScalar0_any s _).mono ?_
  rw [HW.out]
  rintro e3 w3 ⟨rfl, rfl⟩
  obtain ⟨z0, z1⟩ := Bk.c2 HZ2
  obtain ⟨f0, f1⟩ := HZ2.f2
  have HZ9 := Bk.store2 HZ2 (.int .i64 0) (.int .i64 0)
  have hc9 := below_store2 hc2 (w.heap.size + 1) (by omega) (.int .i64 0) (.int .i64 0)
  go_wp2
  refine bodyPost_ret (results_cell_row2 (P := Try.prog) rfl _ _ ((w.heap.size + 1)) 35 _ (0, 0) _ rfl HZ9.held Try.underlying35 rfl (by kernel_rfl)) rfl ?_
  exact ⟨rfl, hc9⟩
set_option maxRecDepth 100000 in
set_option maxHeartbeats 1600000 in
theorem implAdaptorFinish_yes (r s p u : Int) (w : World) (hh : Ad.fok r s p u = true) :
    Calls Try.prog 22 #[.agg #[.int .i64 r, .int .i64 s, .int .i64 p], .int .i64 u] w fun x w' => x = .returned (.tuple #[.agg #[.int .i64 (Ad.fin r p), .int .i64 ((s + u) % 1073741789)], .bool true]) ∧ Below w.heap.size w w' := by
  obtain ⟨⟨u0, u1⟩, hg, hr, s0, s1⟩ := (Ad.fok_iff r s p u).mp hh
  have hsk : Gr.sok u = true := (Gr.sok_iff u).mpr ⟨u0, u1⟩
  have hpE : Gr.E p := by rw [← hg]; exact Sg.gp_E (by omega)
  have hcon1 := fun W => implKeyOf_any u W
  have hcon2 := fun W => finishedR_any r s p W
  rw [hsk, Sg.key_ok hsk, hg] at hcon1
  rw [Gr.mul_ok hr hpE, Gr.ok_yes hr, Gr.ok_yes hpE, show r * p % 2147483579 = Ad.fin r p from rfl] at hcon2
  simp only [Bool.and_self] at hcon2
  obtain ⟨F, HF⟩ : ∃ F, Hid (Ad.fin r p = F) := ⟨_, Lib.hid rfl⟩
  rw [HF.out] at hcon2 ⊢
  have HW := Lib.hid ((Sg.win_iff s).mpr ⟨s0, s1⟩)
  have hcon4 := fun W => plus_any s u 1073741789 W (by omega) (by omega) s0 s1 (by omega) u1
  obtain ⟨S, HS⟩ : ∃ S, Hid ((s + u) % 1073741789 = S) := ⟨_, Lib.hid rfl⟩
  rw [HS.out] at hcon4 ⊢
  have hfl := field_n S 1073741789
  clear hh hsk hpE hg hr HF HS u0 u1 s0 s1
  have HA0 : Bk w.heap.size 26 #[.int .i64 r, .int .i64 s, .int .i64 p] ((w.alloc (.cells #[.int .i64 r, .int .i64 s, .int .i64 p] 26 (0, 0))).alloc (.cells #[.int .i64 0, .int .i64 0] 35 (0, 0))) := (Bk.new w _ _).alloc _
  have HZ0 : Bk (w.heap.size + 1) 35 #[.int .i64 0, .int .i64 0] ((w.alloc (.cells #[.int .i64 r, .int .i64 s, .int .i64 p] 26 (0, 0))).alloc (.cells #[.int .i64 0, .int .i64 0] 35 (0, 0))) := Bk.new' _ _ _ _ (by simp)
  have hc0 : Below w.heap.size w ((w.alloc (.cells #[.int .i64 r, .int .i64 s, .int .i64 p] 26 (0, 0))).alloc (.cells #[.int .i64 0, .int .i64 0] 35 (0, 0))) := below_alloc (below_alloc (Below.refl _ _) _) _
  go_enter Try.func22, Try.ntmps22
  go_wp2_with fail
  refine (hcon1 _).mono ?_
  rintro e1 w1 ⟨rfl, hb1⟩
  have HA1 := HA0.below hb1
  have HZ1 := HZ0.below hb1
  have hc1 := below_after hc0 hb1
  clear hb1 hc0 HA0 HZ0
  have m0 := HA1.cell 0
  have m1 := HA1.cell 1
  have m2 := HA1.cell 2
  simp at m0 m1 m2
  go_wp2_with fail
  refine (hcon2 _).mono ?_
  rintro e2 w2 ⟨rfl, hb2⟩
  have HA2 := HA1.below hb2
  have HZ2 := HZ1.below hb2
  have hc2 := below_after hc1 hb2
  clear hb2 hc1 HA1 HZ1
  clear m0 m1 m2
  have m0 := HA2.cell 0
  have m1 := HA2.cell 1
  have m2 := HA2.cell 2
  simp at m0 m1 m2
  go_wp2_with fail
  refine (isScalar0_any s _).mono ?_
  rw [HW.out]
  rintro e3 w3 ⟨rfl, rfl⟩
  clear m0 m1 m2
  have m0 := HA2.cell 0
  have m1 := HA2.cell 1
  have m2 := HA2.cell 2
  simp at m0 m1 m2
  go_wp2_with fail
  refine (hcon4 _).mono ?_
  rintro e3 w3 ⟨rfl, hb3⟩
  have HA3 := (HA2.below hb3).alloc (.cells #[.int .i64 S, .int .i64 1073741789] 63 (0, 0))
  have HZ3 := (HZ2.below hb3).alloc (.cells #[.int .i64 S, .int .i64 1073741789] 63 (0, 0))
  have HP3 : Bk (w3.heap.size) 63 #[.int .i64 S, .int .i64 1073741789] _ := Bk.new (w3) 63 #[.int .i64 S, .int .i64 1073741789]
  have hc3 := below_alloc (below_after hc2 hb3) (.cells #[.int .i64 S, .int .i64 1073741789] 63 (0, 0))
  clear hb3 hc2 HA2 HZ2
  have l1 := HZ3.lt
  have q0 := HP3.cell 0
  simp at q0
  obtain ⟨z0, z1⟩ := Bk.c2 HZ3
  obtain ⟨f0, f1⟩ := HZ3.f2
  have HZ9 := Bk.store2 HZ3 (.int .i64 F) (.int .i64 S)
  have hc9 := below_store2 hc3 (w.heap.size + 1) (by omega) (.int .i64 F) (.int .i64 S)
  go_wp2
  refine bodyPost_ret (results_cell_row2 (P := Try.prog) rfl _ _ (w.heap.size + 1) 35 _ (0, 0) _ rfl HZ9.held Try.underlying35 rfl (by kernel_rfl)) rfl ?_
  exact ⟨rfl, hc9⟩
def Ad.f0 (r s p u : Int) : Int := if Ad.fok r s p u then Ad.fin r p else 0
def Ad.f1 (r s p u : Int) : Int := if Ad.fok r s p u then (s + u) % 1073741789 else 0
theorem implAdaptorFinish_any (r s p u : Int) (w : World) :
    Calls Try.prog 22 #[.agg #[.int .i64 r, .int .i64 s, .int .i64 p], .int .i64 u] w fun x w' => x = .returned (.tuple #[.agg #[.int .i64 (Ad.f0 r s p u), .int .i64 (Ad.f1 r s p u)], .bool (Ad.fok r s p u)]) ∧ Below w.heap.size w w' := by
  unfold Ad.f0 Ad.f1
  cases hh : Ad.fok r s p u
  · simp only [Bool.false_eq_true, if_false]
    cases hs : Gr.sok u
    · exact implAdaptorFinish_no1 r s p u w hs
    · by_cases hk : Gr.key u = p
      · cases hf : (Gr.ok r && Gr.ok p)
        · exact implAdaptorFinish_no3 r s p u w hs hk hf
        · cases hw : Sg.win s
          · exact implAdaptorFinish_no4 r s p u w hs hk hf hw
          · exfalso
            rw [Bool.and_eq_true] at hf
            rw [Sg.key_ok hs] at hk
            unfold Ad.fok at hh
            rw [hs, hk, hf.1, hw] at hh
            simp at hh
      · exact implAdaptorFinish_no2 r s p u w hs hk
  · simp only [if_true]
    exact implAdaptorFinish_yes r s p u w hh
end Go.Proofs.Ytimajobbkemdbaa
