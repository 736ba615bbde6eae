/-
  Contracts of chapter 7: revealing; of the program.
-/
import Derived.Test.YtimajobbkemdbaaAg
namespace Go.Proofs.Ytimajobbkemdbaa
open Go.RowKit

set_option maxRecDepth 100000 in
set_option maxHeartbeats 1600000 in
theorem implAdaptorReveal_no1 (key r s p r2 s2 : Int) (t : ByteArray) (w : World) (hf : (Gr.ok r && Gr.ok p) = false) :
    Calls Try.prog 25 #[.int .i64 key, .string t, .agg #[.int .i64 r, .int .i64 s, .int .i64 p], .agg #[.int .i64 r2, .int .i64 s2]] w fun x w' => x = .returned (.tuple #[.int .i64 0, .bool false]) ∧ Below w.heap.size w w' := by
  have hcon1 := fun W => finishedR_any r s p W
  obtain ⟨F, HF⟩ : ∃ F, Hid (Gr.mul r p = F) := ⟨_, Lib.hid rfl⟩
  rw [HF.out] at hcon1
  rw [hf] at hcon1
  clear HF hf
  have HA0 : Bk w.heap.size 26 #[.int .i64 r, .int .i64 s, .int .i64 p] ((w.alloc (.cells #[.int .i64 r, .int .i64 s, .int .i64 p] 26 (0, 0))).alloc (.cells #[.int .i64 r2, .int .i64 s2] 35 (0, 0))) := (Bk.new w _ _).alloc _
  have HG0 : Bk (w.heap.size + 1) 35 #[.int .i64 r2, .int .i64 s2] ((w.alloc (.cells #[.int .i64 r, .int .i64 s, .int .i64 p] 26 (0, 0))).alloc (.cells #[.int .i64 r2, .int .i64 s2] 35 (0, 0))) := Bk.new' _ _ _ _ (by simp)
  have hc0 : Below w.heap.size w ((w.alloc (.cells #[.int .i64 r, .int .i64 s, .int .i64 p] 26 (0, 0))).alloc (.cells #[.int .i64 r2, .int .i64 s2] 35 (0, 0))) := below_alloc (below_alloc (Below.refl _ _) _) _
  go_enter Try.func25, Try.ntmps25
  have m0 := HA0.cell 0
  have m1 := HA0.cell 1
  have m2 := HA0.cell 2
  have g0 := HG0.cell 0
  have g1 := HG0.cell 1
  simp at m0 m1 m2 g0 g1
  go_wp2_with fail
  refine (hcon1 _).mono ?_
  rintro e1 w1 ⟨rfl, hb1⟩
  have HA1 := HA0.below hb1
  have HG1 := HG0.below hb1
  have hc1 := below_after hc0 hb1
  clear hb1 hc0 HA0 HG0
  clear m0 m1 m2 g0 g1
  have m0 := HA1.cell 0
  have m1 := HA1.cell 1
  have m2 := HA1.cell 2
  have g0 := HG1.cell 0
  have g1 := HG1.cell 1
  simp at m0 m1 m2 g0 g1
  go_wp2
  go_ret2
  exact ⟨rfl, hc1⟩
set_option maxRecDepth 100000 in
set_option maxHeartbeats 1600000 in
theorem implAdaptorReveal_no2 (key r s p r2 s2 : Int) (t : ByteArray) (w : World) (hf : (Gr.ok r && Gr.ok p) = true) (hk : Gr.mul r p ≠ r2) :
    Calls Try.prog 25 #[.int .i64 key, .string t, .agg #[.int .i64 r, .int .i64 s, .int .i64 p], .agg #[.int .i64 r2, .int .i64 s2]] w fun x w' => x = .returned (.tuple #[.int .i64 0, .bool false]) ∧ Below w.heap.size w w' := by
  have hcon1 := fun W => finishedR_any r s p W
  obtain ⟨F, HF⟩ : ∃ F, Hid (Gr.mul r p = F) := ⟨_, Lib.hid rfl⟩
  rw [HF.out] at hcon1
  rw [hf] at hcon1
  rw [HF.out] at hk
  have hd : decide (F = r2) = false := decide_eq_false hk
  have hd2 : (F == r2) = false := beq_eq_false_iff_ne.mpr hk
  clear HF hf
  have HA0 : Bk w.heap.size 26 #[.int .i64 r, .int .i64 s, .int .i64 p] ((w.alloc (.cells #[.int .i64 r, .int .i64 s, .int .i64 p] 26 (0, 0))).alloc (.cells #[.int .i64 r2, .int .i64 s2] 35 (0, 0))) := (Bk.new w _ _).alloc _
  have HG0 : Bk (w.heap.size + 1) 35 #[.int .i64 r2, .int .i64 s2] ((w.alloc (.cells #[.int .i64 r, .int .i64 s, .int .i64 p] 26 (0, 0))).alloc (.cells #[.int .i64 r2, .int .i64 s2] 35 (0, 0))) := Bk.new' _ _ _ _ (by simp)
  have hc0 : Below w.heap.size w ((w.alloc (.cells #[.int .i64 r, .int .i64 s, .int .i64 p] 26 (0, 0))).alloc (.cells #[.int .i64 r2, .int .i64 s2] 35 (0, 0))) := below_alloc (below_alloc (Below.refl _ _) _) _
  go_enter Try.func25, Try.ntmps25
  have m0 := HA0.cell 0
  have m1 := HA0.cell 1
  have m2 := HA0.cell 2
  have g0 := HG0.cell 0
  have g1 := HG0.cell 1
  simp at m0 m1 m2 g0 g1
  go_wp2_with fail
  refine (hcon1 _).mono ?_
  rintro e1 w1 ⟨rfl, hb1⟩
  have HA1 := HA0.below hb1
  have HG1 := HG0.below hb1
  have hc1 := below_after hc0 hb1
  clear hb1 hc0 HA0 HG0
  clear m0 m1 m2 g0 g1
  have m0 := HA1.cell 0
  have m1 := HA1.cell 1
  have m2 := HA1.cell 2
  have g0 := HG1.cell 0
  have g1 := HG1.cell 1
  simp at m0 m1 m2 g0 g1
  go_wp2
  go_ret2
  exact ⟨rfl, hc1⟩
set_option maxRecDepth 100000 in
set_option maxHeartbeats 1600000 in
theorem implAdaptorReveal_no3 (key r s p r2 s2 : Int) (t : ByteArray) (w : World) (hf : (Gr.ok r && Gr.ok p) = true) (hk : Gr.mul r p = r2) (hv : Ad.ver key t r s p = false) (ht : t.size ≤ 1048576) :
    Calls Try.prog 25 #[.int .i64 key, .string t, .agg #[.int .i64 r, .int .i64 s, .int .i64 p], .agg #[.int .i64 r2, .int .i64 s2]] w fun x w' => x = .returned (.tuple #[.int .i64 0, .bool false]) ∧ Below w.heap.size w w' := by
  have hcon1 := fun W => finishedR_any r s p W
  obtain ⟨F, HF⟩ : ∃ F, Hid (Gr.mul r p = F) := ⟨_, Lib.hid rfl⟩
  rw [HF.out] at hcon1
  rw [hf] at hcon1
  rw [HF.out] at hk
  subst hk
  clear HF hf
  have hcon2 := fun W => implAdaptorVerify_any key r s p t W ht
  rw [hv] at hcon2
  clear hv
  have HA0 : Bk w.heap.size 26 #[.int .i64 r, .int .i64 s, .int .i64 p] ((w.alloc (.cells #[.int .i64 r, .int .i64 s, .int .i64 p] 26 (0, 0))).alloc (.cells #[.int .i64 F, .int .i64 s2] 35 (0, 0))) := (Bk.new w _ _).alloc _
  have HG0 : Bk (w.heap.size + 1) 35 #[.int .i64 F, .int .i64 s2] ((w.alloc (.cells #[.int .i64 r, .int .i64 s, .int .i64 p] 26 (0, 0))).alloc (.cells #[.int .i64 F, .int .i64 s2] 35 (0, 0))) := Bk.new' _ _ _ _ (by simp)
  have hc0 : Below w.heap.size w ((w.alloc (.cells #[.int .i64 r, .int .i64 s, .int .i64 p] 26 (0, 0))).alloc (.cells #[.int .i64 F, .int .i64 s2] 35 (0, 0))) := below_alloc (below_alloc (Below.refl _ _) _) _
  go_enter Try.func25, Try.ntmps25
  have m0 := HA0.cell 0
  have m1 := HA0.cell 1
  have m2 := HA0.cell 2
  have g0 := HG0.cell 0
  have g1 := HG0.cell 1
  simp at m0 m1 m2 g0 g1
  go_wp2_with fail
  refine (hcon1 _).mono ?_
  rintro e1 w1 ⟨rfl, hb1⟩
  have HA1 := HA0.below hb1
  have HG1 := HG0.below hb1
  have hc1 := below_after hc0 hb1
  clear hb1 hc0 HA0 HG0
  clear m0 m1 m2 g0 g1
  have m0 := HA1.cell 0
  have m1 := HA1.cell 1
  have m2 := HA1.cell 2
  have g0 := HG1.cell 0
  have g1 := HG1.cell 1
  simp at m0 m1 m2 g0 g1
  go_wp2_with fail
  refine (hcon2 _).mono ?_
  rintro e2 w2 ⟨rfl, hb2⟩
  have HA2 := HA1.below hb2
  have HG2 := HG1.below hb2
  have hc2 := below_after hc1 hb2
  clear hb2 hc1 HA1 HG1
  clear m0 m1 m2 g0 g1
  have m0 := HA2.cell 0
  have m1 := HA2.cell 1
  have m2 := HA2.cell 2
  have g0 := HG2.cell 0
  have g1 := HG2.cell 1
  simp at m0 m1 m2 g0 g1
  go_wp2
  go_ret2
  exact ⟨rfl, hc2⟩
set_option maxRecDepth 100000 in
set_option maxHeartbeats 1600000 in
theorem implAdaptorReveal_no4 (key r s p r2 s2 : Int) (t : ByteArray) (w : World) (hf : (Gr.ok r && Gr.ok p) = true) (hk : Gr.mul r p = r2) (hv : Ad.ver key t r s p = true) (hv2 : Sg.ver key t r2 s2 = false) (ht : t.size ≤ 1048576) :
    Calls Try.prog 25 #[.int .i64 key, .string t, .agg #[.int .i64 r, .int .i64 s, .int .i64 p], .agg #[.int .i64 r2, .int .i64 s2]] w fun x w' => x = .returned (.tuple #[.int .i64 0, .bool false]) ∧ Below w.heap.size w w' := by
  have hcon1 := fun W => finishedR_any r s p W
  obtain ⟨F, HF⟩ : ∃ F, Hid (Gr.mul r p = F) := ⟨_, Lib.hid rfl⟩
  rw [HF.out] at hcon1
  rw [hf] at hcon1
  rw [HF.out] at hk
  subst hk
  clear HF hf
  have hcon2 := fun W => implAdaptorVerify_any key r s p t W ht
  rw [hv] at hcon2
  clear hv
  have hcon3 := fun W => implVerify_any key F s2 t W ht
  rw [hv2] at hcon3
  clear hv2
  have HA0 : Bk w.heap.size 26 #[.int .i64 r, .int .i64 s, .int .i64 p] ((w.alloc (.cells #[.int .i64 r, .int .i64 s, .int .i64 p] 26 (0, 0))).alloc (.cells #[.int .i64 F, .int .i64 s2] 35 (0, 0))) := (Bk.new w _ _).alloc _
  have HG0 : Bk (w.heap.size + 1) 35 #[.int .i64 F, .int .i64 s2] ((w.alloc (.cells #[.int .i64 r, .int .i64 s, .int .i64 p] 26 (0, 0))).alloc (.cells #[.int .i64 F, .int .i64 s2] 35 (0, 0))) := Bk.new' _ _ _ _ (by simp)
  have hc0 : Below w.heap.size w ((w.alloc (.cells #[.int .i64 r, .int .i64 s, .int .i64 p] 26 (0, 0))).alloc (.cells #[.int .i64 F, .int .i64 s2] 35 (0, 0))) := below_alloc (below_alloc (Below.refl _ _) _) _
  go_enter Try.func25, Try.ntmps25
  have m0 := HA0.cell 0
  have m1 := HA0.cell 1
  have m2 := HA0.cell 2
  have g0 := HG0.cell 0
  have g1 := HG0.cell 1
  simp at m0 m1 m2 g0 g1
  go_wp2_with fail
  refine (hcon1 _).mono ?_
  rintro e1 w1 ⟨rfl, hb1⟩
  have HA1 := HA0.below hb1
  have HG1 := HG0.below hb1
  have hc1 := below_after hc0 hb1
  clear hb1 hc0 HA0 HG0
  clear m0 m1 m2 g0 g1
  have m0 := HA1.cell 0
  have m1 := HA1.cell 1
  have m2 := HA1.cell 2
  have g0 := HG1.cell 0
  have g1 := HG1.cell 1
  simp at m0 m1 m2 g0 g1
  go_wp2_with fail
  refine (hcon2 _).mono ?_
  rintro e2 w2 ⟨rfl, hb2⟩
  have HA2 := HA1.below hb2
  have HG2 := HG1.below hb2
  have hc2 := below_after hc1 hb2
  clear hb2 hc1 HA1 HG1
  clear m0 m1 m2 g0 g1
  have m0 := HA2.cell 0
  have m1 := HA2.cell 1
  have m2 := HA2.cell 2
  have g0 := HG2.cell 0
  have g1 := HG2.cell 1
  simp at m0 m1 m2 g0 g1
  go_wp2_with fail
  refine (hcon3 _).mono ?_
  rintro e3 w3 ⟨rfl, hb3⟩
  have HA3 := HA2.below hb3
  have HG3 := HG2.below hb3
  have hc3 := below_after hc2 hb3
  clear hb3 hc2 HA2 HG2
  clear m0 m1 m2 g0 g1
  have m0 := HA3.cell 0
  have m1 := HA3.cell 1
  have m2 := HA3.cell 2
  have g0 := HG3.cell 0
  have g1 := HG3.cell 1
  simp at m0 m1 m2 g0 g1
  go_wp2
  go_ret2
  exact ⟨rfl, hc3⟩
set_option maxRecDepth 100000 in
set_option maxHeartbeats 1600000 in
theorem implAdaptorReveal_yes (key r s p r2 s2 : Int) (t : ByteArray) (w : World) (hf : (Gr.ok r && Gr.ok p) = true) (hk : Gr.mul r p = r2) (hv : Ad.ver key t r s p = true) (hv2 : Sg.ver key t r2 s2 = true) (ht : t.size ≤ 1048576) :
    Calls Try.prog 25 #[.int .i64 key, .string t, .agg #[.int .i64 r, .int .i64 s, .int .i64 p], .agg #[.int .i64 r2, .int .i64 s2]] w fun x w' => x = .returned (.tuple #[.int .i64 (Ad.dif s s2), .bool true]) ∧ Below w.heap.size w w' := by
  obtain ⟨⟨⟨_, _, s0, s1⟩, _⟩, _⟩ := (Ad.ver_iff _ _ _ _ _).mp hv
  have h4 := Sg.ver_kok hv2
  have hcon4 := fun W => minus_any s2 s 1073741789 W (by omega) (by omega) h4.2.2.1 h4.2.2.2 s0 s1
  rw [show (s2 - s + 1073741789) % 1073741789 = Ad.dif s s2 from rfl] at hcon4
  obtain ⟨D, HD⟩ : ∃ D, Hid (Ad.dif s s2 = D) := ⟨_, Lib.hid rfl⟩
  rw [HD.out] at hcon4 ⊢
  have hfl := field_n D 1073741789
  clear h4 s0 s1 HD
  have hcon1 := fun W => finishedR_any r s p W
  obtain ⟨F, HF⟩ : ∃ F, Hid (Gr.mul r p = F) := ⟨_, Lib.hid rfl⟩
  rw [HF.out] at hcon1
  rw [hf] at hcon1
  rw [HF.out] at hk
  subst hk
  clear HF hf
  have hcon2 := fun W => implAdaptorVerify_any key r s p t W ht
  rw [hv] at hcon2
  clear hv
  have hcon3 := fun W => implVerify_any key F s2 t W ht
  rw [hv2] at hcon3
  clear hv2
  have HA0 : Bk w.heap.size 26 #[.int .i64 r, .int .i64 s, .int .i64 p] ((w.alloc (.cells #[.int .i64 r, .int .i64 s, .int .i64 p] 26 (0, 0))).alloc (.cells #[.int .i64 F, .int .i64 s2] 35 (0, 0))) := (Bk.new w _ _).alloc _
  have HG0 : Bk (w.heap.size + 1) 35 #[.int .i64 F, .int .i64 s2] ((w.alloc (.cells #[.int .i64 r, .int .i64 s, .int .i64 p] 26 (0, 0))).alloc (.cells #[.int .i64 F, .int .i64 s2] 35 (0, 0))) := Bk.new' _ _ _ _ (by simp)
  have hc0 : Below w.heap.size w ((w.alloc (.cells #[.int .i64 r, .int .i64 s, .int .i64 p] 26 (0, 0))).alloc (.cells #[.int .i64 F, .int .i64 s2] 35 (0, 0))) := below_alloc (below_alloc (Below.refl _ _) _) _
  go_enter Try.func25, Try.ntmps25
  have m0 := HA0.cell 0
  have m1 := HA0.cell 1
  have m2 := HA0.cell 2
  have g0 := HG0.cell 0
  have g1 := HG0.cell 1
  simp at m0 m1 m2 g0 g1
  go_wp2_with fail
  refine (hcon1 _).mono ?_
  rintro e1 w1 ⟨rfl, hb1⟩
  have HA1 := HA0.below hb1
  have HG1 := HG0.below hb1
  have hc1 := below_after hc0 hb1
  clear hb1 hc0 HA0 HG0
  clear m0 m1 m2 g0 g1
  have m0 := HA1.cell 0
  have m1 := HA1.cell 1
  have m2 := HA1.cell 2
  have g0 := HG1.cell 0
  have g1 := HG1.cell 1
  simp at m0 m1 m2 g0 g1
  go_wp2_with fail
  refine (hcon2 _).mono ?_
  rintro e2 w2 ⟨rfl, hb2⟩
  have HA2 := HA1.below hb2
  have HG2 := HG1.below hb2
  have hc2 := below_after hc1 hb2
  clear hb2 hc1 HA1 HG1
  clear m0 m1 m2 g0 g1
  have m0 := HA2.cell 0
  have m1 := HA2.cell 1
  have m2 := HA2.cell 2
  have g0 := HG2.cell 0
  have g1 := HG2.cell 1
  simp at m0 m1 m2 g0 g1
  go_wp2_with fail
  refine (hcon3 _).mono ?_
  rintro e3 w3 ⟨rfl, hb3⟩
  have HA3 := HA2.below hb3
  have HG3 := HG2.below hb3
  have hc3 := below_after hc2 hb3
  clear hb3 hc2 HA2 HG2
  clear m0 m1 m2 g0 g1
  have m0 := HA3.cell 0
  have m1 := HA3.cell 1
  have m2 := HA3.cell 2
  have g0 := HG3.cell 0
  have g1 := HG3.cell 1
  simp at m0 m1 m2 g0 g1
  go_wp2_with fail
  refine (hcon4 _).mono ?_
  rintro e4 w4 ⟨rfl, hb4⟩
  have HA4 := HA3.below hb4
  have HG4 := HG3.below hb4
  have hc4 := below_after hc3 hb4
  clear hb4 hc3 HA3 HG3
  clear m0 m1 m2 g0 g1
  have m0 := HA4.cell 0
  have m1 := HA4.cell 1
  have m2 := HA4.cell 2
  have g0 := HG4.cell 0
  have g1 := HG4.cell 1
  simp at m0 m1 m2 g0 g1
  go_wp2
  go_ret2
  exact ⟨rfl, hc4⟩
def Ad.r0 (key : Int) (t : ByteArray) (r s p r2 s2 : Int) : Int := if Ad.rok key t r s p r2 s2 then Ad.dif s s2 else 0
theorem Ad.rok_mul {key : Int} {t : ByteArray} {r s p : Int} (hv : Ad.ver key t r s p = true) : Gr.mul r p = Ad.fin r p ∧ (Gr.ok r && Gr.ok p) = true := by
  obtain ⟨⟨⟨_, hr, _, _⟩, hp, _⟩, _⟩ := (Ad.ver_iff _ _ _ _ _).mp hv
  exact ⟨Gr.mul_ok hr hp, by rw [Gr.ok_yes hr, Gr.ok_yes hp]; rfl⟩
theorem implAdaptorReveal_any (key r s p r2 s2 : Int) (t : ByteArray) (w : World) (ht : t.size ≤ 1048576) :
    Calls Try.prog 25 #[.int .i64 key, .string t, .agg #[.int .i64 r, .int .i64 s, .int .i64 p], .agg #[.int .i64 r2, .int .i64 s2]] w fun x w' => x = .returned (.tuple #[.int .i64 (Ad.r0 key t r s p r2 s2), .bool (Ad.rok key t r s p r2 s2)]) ∧ Below w.heap.size w w' := by
  unfold Ad.r0
  cases hv : Ad.ver key t r s p
  · have h0 : Ad.rok key t r s p r2 s2 = false := by unfold Ad.rok; rw [hv]; rfl
    rw [h0]
    simp only [Bool.false_eq_true, if_false]
    cases hf : (Gr.ok r && Gr.ok p)
    · exact implAdaptorReveal_no1 key r s p r2 s2 t w hf
    · by_cases hk : Gr.mul r p = r2
      · exact implAdaptorReveal_no3 key r s p r2 s2 t w hf hk hv ht
      · exact implAdaptorReveal_no2 key r s p r2 s2 t w hf hk
  · obtain ⟨hm, hf⟩ := Ad.rok_mul hv
    by_cases hk : Gr.mul r p = r2
    · cases hv2 : Sg.ver key t r2 s2
      · have h0 : Ad.rok key t r s p r2 s2 = false := by unfold Ad.rok; rw [hv, hv2]; rfl
        rw [h0]
        simp only [Bool.false_eq_true, if_false]
        exact implAdaptorReveal_no4 key r s p r2 s2 t w hf hk hv hv2 ht
      · have h0 : Ad.rok key t r s p r2 s2 = true := by unfold Ad.rok; rw [hv, hv2, ← hk, hm]; simp
        rw [h0]
        simp only [if_true]
        exact implAdaptorReveal_yes key r s p r2 s2 t w hf hk hv hv2 ht
    · have h0 : Ad.rok key t r s p r2 s2 = false := by
        unfold Ad.rok
        rw [show (r2 == Ad.fin r p) = false from beq_eq_false_iff_ne.mpr (fun h => hk (hm.trans h.symm)), Bool.and_false]
      rw [h0]
      simp only [Bool.false_eq_true, if_false]
      exact implAdaptorReveal_no2 key r s p r2 s2 t w hf hk
end Go.Proofs.Ytimajobbkemdbaa
