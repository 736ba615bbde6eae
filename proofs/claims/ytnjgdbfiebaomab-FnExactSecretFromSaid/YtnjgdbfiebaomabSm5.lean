/-
  Contracts of chapter 5: SecretFrom; of the program and of the model.
-/
import Derived.Test.YtnjgdbfiebaomabSk
import Derived.Deep.RegionHeld3
namespace Go.Proofs.Ytnjgdbfiebaomab
open Go.RowKit

/-- Do two signed messages tell the secret? And which one. -/
def Sg.okTwo (k1 r1 s1 : Int) (t1 : ByteArray) (k2 r2 s2 : Int) (t2 : ByteArray) : Bool :=
  (k1 == k2) && ((r1 == r2) && (Sg.ver k1 t1 r1 s1 && (Sg.ver k2 t2 r2 s2 && !(Sg.ch r1 k1 t1 == Sg.ch r2 k2 t2))))
def Sg.sec (k1 r1 s1 : Int) (t1 : ByteArray) (k2 r2 s2 : Int) (t2 : ByteArray) : Int :=
  if Sg.okTwo k1 r1 s1 t1 k2 r2 s2 t2 then Sg.two s1 s2 (Sg.ch r1 k1 t1) (Sg.ch r2 k2 t2) else 0
theorem Sg.sec_no {k1 r1 s1 : Int} {t1 : ByteArray} {k2 r2 s2 : Int} {t2 : ByteArray} (h : Sg.okTwo k1 r1 s1 t1 k2 r2 s2 t2 = false) : Sg.sec k1 r1 s1 t1 k2 r2 s2 t2 = 0 := by
  unfold Sg.sec
  rw [h]
  rfl
/-- Valid are the shape and the equation. -/
theorem Sg.ver_eq (k : Int) (t : ByteArray) (r s : Int) : Sg.ver k t r s = (Sg.shape k r s && Sg.eqn k (Sg.ch r k t) r s) := rfl
theorem asEquation_any (k r s : Int) (t : ByteArray) (w : World) (ht : t.size ≤ 1048576) :
    Calls Try.prog 41 #[.agg #[.int .i64 k, .string t, .int .i64 r, .int .i64 s]] w fun x w' => ∃ a b c d e f g h : Int, x = .returned (.tuple #[.agg #[.int .i64 a, .int .i64 b, .int .i64 c, .int .i64 d, .int .i64 e, .int .i64 f, .int .i64 g, .int .i64 h], .bool (Sg.shape k r s)]) ∧
      (Sg.shape k r s = true → a = s ∧ b = 1073741789 ∧ c = r ∧ d = 2147483579 ∧ e = k ∧ f = 2147483579 ∧ g = Sg.ch r k t ∧ h = 1073741789) ∧ Below w.heap.size w w' := by
  cases hs : Sg.shape k r s
  · exact (asEquation_no k r s t w hs).mono fun x w' ⟨he, hb⟩ => ⟨0, 0, 0, 0, 0, 0, 0, 0, he, (fun h => by cases h), hb⟩
  · exact (asEquation_yes k r s t w hs ht).mono fun x w' ⟨he, hb⟩ => ⟨_, _, _, _, _, _, _, _, he, fun _ => ⟨rfl, rfl, rfl, rfl, rfl, rfl, rfl, rfl⟩, hb⟩
set_option maxRecDepth 100000 in
set_option maxHeartbeats 3200000 in
theorem specSecretFrom_key (k1 r1 s1 : Int) (t1 : ByteArray) (k2 r2 s2 : Int) (t2 : ByteArray) (w : World) (h : k1 ≠ k2) : Calls Try.prog 17 #[.agg #[.int .i64 k1, .string t1, .int .i64 r1, .int .i64 s1], .agg #[.int .i64 k2, .string t2, .int .i64 r2, .int .i64 s2]] w (fun x w' => x = .returned (.tuple #[.int .i64 0, .bool false]) ∧ Below w.heap.size w w') := by
  have h1 : (k1 == k2) = false := by simpa using h
  have h2 : (k1 != k2) = true := by simpa using h
  clear h
  have HA0 : Bk w.heap.size 40 #[.int .i64 k1, .string t1, .int .i64 r1, .int .i64 s1] ((w.alloc (.cells #[.int .i64 k1, .string t1, .int .i64 r1, .int .i64 s1] 40 (0, 0))).alloc (.cells #[.int .i64 k2, .string t2, .int .i64 r2, .int .i64 s2] 40 (0, 0))) := (Bk.new w _ _).alloc _
  have HB0 : Bk (w.heap.size + 1) 40 #[.int .i64 k2, .string t2, .int .i64 r2, .int .i64 s2] ((w.alloc (.cells #[.int .i64 k1, .string t1, .int .i64 r1, .int .i64 s1] 40 (0, 0))).alloc (.cells #[.int .i64 k2, .string t2, .int .i64 r2, .int .i64 s2] 40 (0, 0))) := Bk.new' _ _ _ _ (by simp)
  have hb0 : Below w.heap.size w ((w.alloc (.cells #[.int .i64 k1, .string t1, .int .i64 r1, .int .i64 s1] 40 (0, 0))).alloc (.cells #[.int .i64 k2, .string t2, .int .i64 r2, .int .i64 s2] 40 (0, 0))) := below_alloc (below_alloc (Below.refl _ _) _) _
  go_enter Try.func17, Try.ntmps17
  go_wp2
  go_ret2
  exact ⟨rfl, hb0⟩
set_option maxRecDepth 100000 in
set_option maxHeartbeats 3200000 in
theorem specSecretFrom_r (k1 r1 s1 : Int) (t1 : ByteArray) (k2 r2 s2 : Int) (t2 : ByteArray) (w : World) (hk : k1 = k2) (h : r1 ≠ r2) : Calls Try.prog 17 #[.agg #[.int .i64 k1, .string t1, .int .i64 r1, .int .i64 s1], .agg #[.int .i64 k2, .string t2, .int .i64 r2, .int .i64 s2]] w (fun x w' => x = .returned (.tuple #[.int .i64 0, .bool false]) ∧ Below w.heap.size w w') := by
  subst hk
  have h1 : (r1 == r2) = false := by simpa using h
  have h2 : (r1 != r2) = true := by simpa using h
  clear h
  have HA0 : Bk w.heap.size 40 #[.int .i64 k1, .string t1, .int .i64 r1, .int .i64 s1] ((w.alloc (.cells #[.int .i64 k1, .string t1, .int .i64 r1, .int .i64 s1] 40 (0, 0))).alloc (.cells #[.int .i64 k1, .string t2, .int .i64 r2, .int .i64 s2] 40 (0, 0))) := (Bk.new w _ _).alloc _
  have HB0 : Bk (w.heap.size + 1) 40 #[.int .i64 k1, .string t2, .int .i64 r2, .int .i64 s2] ((w.alloc (.cells #[.int .i64 k1, .string t1, .int .i64 r1, .int .i64 s1] 40 (0, 0))).alloc (.cells #[.int .i64 k1, .string t2, .int .i64 r2, .int .i64 s2] 40 (0, 0))) := Bk.new' _ _ _ _ (by simp)
  have hb0 : Below w.heap.size w ((w.alloc (.cells #[.int .i64 k1, .string t1, .int .i64 r1, .int .i64 s1] 40 (0, 0))).alloc (.cells #[.int .i64 k1, .string t2, .int .i64 r2, .int .i64 s2] 40 (0, 0))) := below_alloc (below_alloc (Below.refl _ _) _) _
  go_enter Try.func17, Try.ntmps17
  go_wp2
  go_ret2
  exact ⟨rfl, hb0⟩
set_option maxRecDepth 100000 in
set_option maxHeartbeats 3200000 in
theorem specSecretFrom_a (k r s1 : Int) (t1 : ByteArray) (s2 : Int) (t2 : ByteArray) (w : World) (h1 : t1.size ≤ 1048576) (hv : Sg.ver k t1 r s1 = false) : Calls Try.prog 17 #[.agg #[.int .i64 k, .string t1, .int .i64 r, .int .i64 s1], .agg #[.int .i64 k, .string t2, .int .i64 r, .int .i64 s2]] w (fun x w' => x = .returned (.tuple #[.int .i64 0, .bool false]) ∧ Below w.heap.size w w') := by
  have hcon1 := fun W => specVerify_any k r s1 t1 W h1
  rw [hv] at hcon1
  clear hv
  have HA0 : Bk w.heap.size 40 #[.int .i64 k, .string t1, .int .i64 r, .int .i64 s1] ((w.alloc (.cells #[.int .i64 k, .string t1, .int .i64 r, .int .i64 s1] 40 (0, 0))).alloc (.cells #[.int .i64 k, .string t2, .int .i64 r, .int .i64 s2] 40 (0, 0))) := (Bk.new w _ _).alloc _
  have HB0 : Bk (w.heap.size + 1) 40 #[.int .i64 k, .string t2, .int .i64 r, .int .i64 s2] ((w.alloc (.cells #[.int .i64 k, .string t1, .int .i64 r, .int .i64 s1] 40 (0, 0))).alloc (.cells #[.int .i64 k, .string t2, .int .i64 r, .int .i64 s2] 40 (0, 0))) := Bk.new' _ _ _ _ (by simp)
  have hb0 : Below w.heap.size w ((w.alloc (.cells #[.int .i64 k, .string t1, .int .i64 r, .int .i64 s1] 40 (0, 0))).alloc (.cells #[.int .i64 k, .string t2, .int .i64 r, .int .i64 s2] 40 (0, 0))) := below_alloc (below_alloc (Below.refl _ _) _) _
  go_enter Try.func17, Try.ntmps17
  go_wp2_with fail
  refine (hcon1 _).mono ?_
  rintro x1 w1 ⟨rfl, hb1⟩
  have HA1 := HA0.below hb1
  have HB1 := HB0.below hb1
  replace hb1 := below_after hb0 hb1
  clear HA0 HB0 hb0
  obtain ⟨m10, m11, m12, m13⟩ := Bk.c4 HA1
  obtain ⟨n10, n11, n12, n13⟩ := Bk.c4 HB1
  go_wp2
  go_ret2
  exact ⟨rfl, hb1⟩
set_option maxRecDepth 100000 in
set_option maxHeartbeats 3200000 in
theorem specSecretFrom_b (k r s1 : Int) (t1 : ByteArray) (s2 : Int) (t2 : ByteArray) (w : World) (h1 : t1.size ≤ 1048576) (h2 : t2.size ≤ 1048576) (hv : Sg.ver k t1 r s1 = true) (hw : Sg.ver k t2 r s2 = false) : Calls Try.prog 17 #[.agg #[.int .i64 k, .string t1, .int .i64 r, .int .i64 s1], .agg #[.int .i64 k, .string t2, .int .i64 r, .int .i64 s2]] w (fun x w' => x = .returned (.tuple #[.int .i64 0, .bool false]) ∧ Below w.heap.size w w') := by
  have hcon1 := fun W => specVerify_any k r s1 t1 W h1
  have hcon2 := fun W => specVerify_any k r s2 t2 W h2
  rw [hv] at hcon1
  rw [hw] at hcon2
  clear hv hw
  have HA0 : Bk w.heap.size 40 #[.int .i64 k, .string t1, .int .i64 r, .int .i64 s1] ((w.alloc (.cells #[.int .i64 k, .string t1, .int .i64 r, .int .i64 s1] 40 (0, 0))).alloc (.cells #[.int .i64 k, .string t2, .int .i64 r, .int .i64 s2] 40 (0, 0))) := (Bk.new w _ _).alloc _
  have HB0 : Bk (w.heap.size + 1) 40 #[.int .i64 k, .string t2, .int .i64 r, .int .i64 s2] ((w.alloc (.cells #[.int .i64 k, .string t1, .int .i64 r, .int .i64 s1] 40 (0, 0))).alloc (.cells #[.int .i64 k, .string t2, .int .i64 r, .int .i64 s2] 40 (0, 0))) := Bk.new' _ _ _ _ (by simp)
  have hb0 : Below w.heap.size w ((w.alloc (.cells #[.int .i64 k, .string t1, .int .i64 r, .int .i64 s1] 40 (0, 0))).alloc (.cells #[.int .i64 k, .string t2, .int .i64 r, .int .i64 s2] 40 (0, 0))) := below_alloc (below_alloc (Below.refl _ _) _) _
  go_enter Try.func17, Try.ntmps17
  go_wp2_with fail
  refine (hcon1 _).mono ?_
  rintro x1 w1 ⟨rfl, hb1⟩
  have HA1 := HA0.below hb1
  have HB1 := HB0.below hb1
  replace hb1 := below_after hb0 hb1
  clear HA0 HB0 hb0
  obtain ⟨m10, m11, m12, m13⟩ := Bk.c4 HA1
  obtain ⟨n10, n11, n12, n13⟩ := Bk.c4 HB1
  go_wp2_with fail
  refine (hcon2 _).mono ?_
  rintro x2 w2 ⟨rfl, hb2⟩
  have HA2 := HA1.below hb2
  have HB2 := HB1.below hb2
  replace hb2 := below_after hb1 hb2
  clear HA1 HB1 hb1
  obtain ⟨m20, m21, m22, m23⟩ := Bk.c4 HA2
  obtain ⟨n20, n21, n22, n23⟩ := Bk.c4 HB2
  go_wp2
  go_ret2
  exact ⟨rfl, hb2⟩
set_option maxRecDepth 100000 in
set_option maxHeartbeats 3200000 in
theorem specSecretFrom_d (k r s1 : Int) (t1 : ByteArray) (s2 : Int) (t2 : ByteArray) (w : World) (h1 : t1.size ≤ 1048576) (h2 : t2.size ≤ 1048576) (hv : Sg.ver k t1 r s1 = true) (hw : Sg.ver k t2 r s2 = true) (hd : Sg.ch r k t1 = Sg.ch r k t2) : Calls Try.prog 17 #[.agg #[.int .i64 k, .string t1, .int .i64 r, .int .i64 s1], .agg #[.int .i64 k, .string t2, .int .i64 r, .int .i64 s2]] w (fun x w' => x = .returned (.tuple #[.int .i64 0, .bool false]) ∧ Below w.heap.size w w') := by
  have hcon1 := fun W => specVerify_any k r s1 t1 W h1
  have hcon2 := fun W => specVerify_any k r s2 t2 W h2
  obtain ⟨hk, hr, u0, u1⟩ := Sg.ver_kok hv
  obtain ⟨_, _, v0, v1⟩ := Sg.ver_kok hw
  rw [hv] at hcon1
  rw [hw] at hcon2
  obtain ⟨k0, k1⟩ := Gr.E_bd ((Gr.ok_iff k).mp (Sg.kok_ok hk))
  obtain ⟨r0, r1⟩ := Gr.E_bd ((Gr.ok_iff r).mp hr)
  have hcon3 := fun W => l5Challenge_any r k t1 W (by omega) (by omega) (by omega) (by omega) h1
  have hcon4 := fun W => l5Challenge_any r k t2 W (by omega) (by omega) (by omega) (by omega) h2
  obtain ⟨a0, a1⟩ := Sg.ch_bd r k t1
  obtain ⟨b0, b1⟩ := Sg.ch_bd r k t2
  rw [← hd] at hcon4
  obtain ⟨E, HE⟩ : ∃ E, Hid (Sg.ch r k t1 = E) := ⟨_, Lib.hid rfl⟩
  rw [HE.out] at hcon3 hcon4 a0 a1
  clear hv hw hd HE hk hr b0 b1
  have HA0 : Bk w.heap.size 40 #[.int .i64 k, .string t1, .int .i64 r, .int .i64 s1] ((w.alloc (.cells #[.int .i64 k, .string t1, .int .i64 r, .int .i64 s1] 40 (0, 0))).alloc (.cells #[.int .i64 k, .string t2, .int .i64 r, .int .i64 s2] 40 (0, 0))) := (Bk.new w _ _).alloc _
  have HB0 : Bk (w.heap.size + 1) 40 #[.int .i64 k, .string t2, .int .i64 r, .int .i64 s2] ((w.alloc (.cells #[.int .i64 k, .string t1, .int .i64 r, .int .i64 s1] 40 (0, 0))).alloc (.cells #[.int .i64 k, .string t2, .int .i64 r, .int .i64 s2] 40 (0, 0))) := Bk.new' _ _ _ _ (by simp)
  have hb0 : Below w.heap.size w ((w.alloc (.cells #[.int .i64 k, .string t1, .int .i64 r, .int .i64 s1] 40 (0, 0))).alloc (.cells #[.int .i64 k, .string t2, .int .i64 r, .int .i64 s2] 40 (0, 0))) := below_alloc (below_alloc (Below.refl _ _) _) _
  go_enter Try.func17, Try.ntmps17
  go_wp2_with fail
  refine (hcon1 _).mono ?_
  rintro x1 w1 ⟨rfl, hb1⟩
  have HA1 := HA0.below hb1
  have HB1 := HB0.below hb1
  replace hb1 := below_after hb0 hb1
  clear HA0 HB0 hb0
  obtain ⟨m10, m11, m12, m13⟩ := Bk.c4 HA1
  obtain ⟨n10, n11, n12, n13⟩ := Bk.c4 HB1
  go_wp2_with fail
  refine (hcon2 _).mono ?_
  rintro x2 w2 ⟨rfl, hb2⟩
  have HA2 := HA1.below hb2
  have HB2 := HB1.below hb2
  replace hb2 := below_after hb1 hb2
  clear HA1 HB1 hb1
  obtain ⟨m20, m21, m22, m23⟩ := Bk.c4 HA2
  obtain ⟨n20, n21, n22, n23⟩ := Bk.c4 HB2
  have hSof : ∀ W, Bk w.heap.size 40 #[.int .i64 k, .string t1, .int .i64 r, .int .i64 s1] W → Bk (w.heap.size + 1) 40 #[.int .i64 k, .string t2, .int .i64 r, .int .i64 s2] W → W.cell? ⟨w.heap.size, 0, none⟩ = some (.int .i64 k) ∧ W.cell? ⟨w.heap.size, 1, none⟩ = some (.string t1) ∧ W.cell? ⟨w.heap.size, 2, none⟩ = some (.int .i64 r) ∧ W.cell? ⟨w.heap.size, 3, none⟩ = some (.int .i64 s1) ∧ W.cell? ⟨w.heap.size + 1, 0, none⟩ = some (.int .i64 k) ∧ W.cell? ⟨w.heap.size + 1, 1, none⟩ = some (.string t2) ∧ W.cell? ⟨w.heap.size + 1, 2, none⟩ = some (.int .i64 r) ∧ W.cell? ⟨w.heap.size + 1, 3, none⟩ = some (.int .i64 s2) := fun W h k => ⟨h.cell 0, h.cell 1, h.cell 2, h.cell 3, k.cell 0, k.cell 1, k.cell 2, k.cell 3⟩
  have hS2 := hSof _ HA2.drew HB2.drew
  go_wp2
  go_region_held3 (fun W => W.cell? ⟨w.heap.size, 0, none⟩ = some (.int .i64 k) ∧ W.cell? ⟨w.heap.size, 1, none⟩ = some (.string t1) ∧ W.cell? ⟨w.heap.size, 2, none⟩ = some (.int .i64 r) ∧ W.cell? ⟨w.heap.size, 3, none⟩ = some (.int .i64 s1) ∧ W.cell? ⟨w.heap.size + 1, 0, none⟩ = some (.int .i64 k) ∧ W.cell? ⟨w.heap.size + 1, 1, none⟩ = some (.string t2) ∧ W.cell? ⟨w.heap.size + 1, 2, none⟩ = some (.int .i64 r) ∧ W.cell? ⟨w.heap.size + 1, 3, none⟩ = some (.int .i64 s2)) (first | with_reducible exact hS2 | with_reducible exact hS3 | with_reducible exact hS4)
    (first
      | (go_at_call_of 28 (Value.string t1); refine (hcon3 w2.drew).mono ?_; rintro x3 w3 ⟨rfl, hb3⟩; have HA3 := HA2.drew.below hb3; have HB3 := HB2.drew.below hb3; have hS3 := hSof _ HA3 HB3; have hc3 := below_after hb2.drew hb3)
      | (go_at_call_of 28 (Value.string t2); refine (hcon4 w3).mono ?_; rintro x4 w4 ⟨rfl, hb4⟩; have HA4 := HA3.below hb4; have HB4 := HB3.below hb4; have hS4 := hSof _ HA4 HB4; have hc4 := below_after hc3 hb4; obtain ⟨m0, m1, m2, m3⟩ := Bk.c4 HA4; obtain ⟨n0, n1, n2, n3⟩ := Bk.c4 HB4))
  go_wp2
  go_ret2
  exact ⟨rfl, hc4⟩
set_option maxRecDepth 100000 in
set_option maxHeartbeats 3200000 in
theorem specSecretFrom_yes (k r s1 : Int) (t1 : ByteArray) (s2 : Int) (t2 : ByteArray) (w : World) (h1 : t1.size ≤ 1048576) (h2 : t2.size ≤ 1048576) (hv : Sg.ver k t1 r s1 = true) (hw : Sg.ver k t2 r s2 = true) (hd : Sg.ch r k t1 ≠ Sg.ch r k t2) :
    Calls Try.prog 17 #[.agg #[.int .i64 k, .string t1, .int .i64 r, .int .i64 s1], .agg #[.int .i64 k, .string t2, .int .i64 r, .int .i64 s2]] w fun x w' => x = .returned (.tuple #[.int .i64 (Sg.two s1 s2 (Sg.ch r k t1) (Sg.ch r k t2)), .bool true]) ∧ Below w.heap.size w w' := by
  have hcon1 := fun W => specVerify_any k r s1 t1 W h1
  have hcon2 := fun W => specVerify_any k r s2 t2 W h2
  obtain ⟨hk, hr, u0, u1⟩ := Sg.ver_kok hv
  obtain ⟨_, _, v0, v1⟩ := Sg.ver_kok hw
  rw [hv] at hcon1
  rw [hw] at hcon2
  obtain ⟨k0, k1⟩ := Gr.E_bd ((Gr.ok_iff k).mp (Sg.kok_ok hk))
  obtain ⟨r0, r1⟩ := Gr.E_bd ((Gr.ok_iff r).mp hr)
  have hcon3 := fun W => l5Challenge_any r k t1 W (by omega) (by omega) (by omega) (by omega) h1
  have hcon4 := fun W => l5Challenge_any r k t2 W (by omega) (by omega) (by omega) (by omega) h2
  obtain ⟨a0, a1⟩ := Sg.ch_bd r k t1
  obtain ⟨b0, b1⟩ := Sg.ch_bd r k t2
  obtain ⟨E, HE⟩ : ∃ E, Hid (Sg.ch r k t1 = E) := ⟨_, Lib.hid rfl⟩
  obtain ⟨G, HG⟩ : ∃ G, Hid (Sg.ch r k t2 = G) := ⟨_, Lib.hid rfl⟩
  rw [HE.out, HG.out] at hd
  rw [HE.out] at hcon3 a0 a1
  rw [HG.out] at hcon4 b0 b1
  rw [HE.out, HG.out]
  have hne : (E - G == 0) = false := by have : E - G ≠ 0 := by omega
                                        simpa using this
  have HT : Hid (Sg.two s1 s2 E G = (s1 - s2 + 1073741789) % 1073741789 * Gr.pw 1073741789 ((E - G + 1073741789) % 1073741789) 1073741787 % 1073741789) := Lib.hid rfl
  have hx1 : (s1 - s2 + 1073741789) % 1073741789 = (s1 - s2) % 1073741789 := by omega
  have hx2 : (E - G + 1073741789) % 1073741789 = (E - G) % 1073741789 := by omega
  rw [HT.out, hx1, hx2]
  clear hx1 hx2
  have hm0 := Int.emod_nonneg (E - G) (show (1073741789 : Int) ≠ 0 by decide)
  have hm1 := Int.emod_lt_of_pos (E - G) (show (0 : Int) < 1073741789 by decide)
  have hn0 := Int.emod_nonneg (s1 - s2) (show (1073741789 : Int) ≠ 0 by decide)
  have hn1 := Int.emod_lt_of_pos (s1 - s2) (show (0 : Int) < 1073741789 by decide)
  have hcon5 := fun W => l4Inv_any ((E - G) % 1073741789) W hm0 hm1
  obtain ⟨I, HI⟩ : ∃ I, Hid (Gr.pw 1073741789 ((E - G) % 1073741789) 1073741787 = I) := ⟨_, Lib.hid rfl⟩
  obtain ⟨i0, i1⟩ := Gr.pw_bd 1073741789 ((E - G) % 1073741789) 1073741787 (by decide)
  rw [HI.out] at hcon5 i0 i1 ⊢
  obtain ⟨p0, p1⟩ := Gr.mul_bd ((s1 - s2) % 1073741789) I 1073741789 hn0 hn1 i0 i1 (by omega)
  clear hv hw hd HE HG HT HI hk hr
  have HA0 : Bk w.heap.size 40 #[.int .i64 k, .string t1, .int .i64 r, .int .i64 s1] ((w.alloc (.cells #[.int .i64 k, .string t1, .int .i64 r, .int .i64 s1] 40 (0, 0))).alloc (.cells #[.int .i64 k, .string t2, .int .i64 r, .int .i64 s2] 40 (0, 0))) := (Bk.new w _ _).alloc _
  have HB0 : Bk (w.heap.size + 1) 40 #[.int .i64 k, .string t2, .int .i64 r, .int .i64 s2] ((w.alloc (.cells #[.int .i64 k, .string t1, .int .i64 r, .int .i64 s1] 40 (0, 0))).alloc (.cells #[.int .i64 k, .string t2, .int .i64 r, .int .i64 s2] 40 (0, 0))) := Bk.new' _ _ _ _ (by simp)
  have hb0 : Below w.heap.size w ((w.alloc (.cells #[.int .i64 k, .string t1, .int .i64 r, .int .i64 s1] 40 (0, 0))).alloc (.cells #[.int .i64 k, .string t2, .int .i64 r, .int .i64 s2] 40 (0, 0))) := below_alloc (below_alloc (Below.refl _ _) _) _
  go_enter Try.func17, Try.ntmps17
  go_wp2_with fail
  refine (hcon1 _).mono ?_
  rintro x1 w1 ⟨rfl, hb1⟩
  have HA1 := HA0.below hb1
  have HB1 := HB0.below hb1
  replace hb1 := below_after hb0 hb1
  clear HA0 HB0 hb0
  obtain ⟨m10, m11, m12, m13⟩ := Bk.c4 HA1
  obtain ⟨n10, n11, n12, n13⟩ := Bk.c4 HB1
  go_wp2_with fail
  refine (hcon2 _).mono ?_
  rintro x2 w2 ⟨rfl, hb2⟩
  have HA2 := HA1.below hb2
  have HB2 := HB1.below hb2
  replace hb2 := below_after hb1 hb2
  clear HA1 HB1 hb1
  obtain ⟨m20, m21, m22, m23⟩ := Bk.c4 HA2
  obtain ⟨n20, n21, n22, n23⟩ := Bk.c4 HB2
  have hSof : ∀ W, Bk w.heap.size 40 #[.int .i64 k, .string t1, .int .i64 r, .int .i64 s1] W → Bk (w.heap.size + 1) 40 #[.int .i64 k, .string t2, .int .i64 r, .int .i64 s2] W → W.cell? ⟨w.heap.size, 0, none⟩ = some (.int .i64 k) ∧ W.cell? ⟨w.heap.size, 1, none⟩ = some (.string t1) ∧ W.cell? ⟨w.heap.size, 2, none⟩ = some (.int .i64 r) ∧ W.cell? ⟨w.heap.size, 3, none⟩ = some (.int .i64 s1) ∧ W.cell? ⟨w.heap.size + 1, 0, none⟩ = some (.int .i64 k) ∧ W.cell? ⟨w.heap.size + 1, 1, none⟩ = some (.string t2) ∧ W.cell? ⟨w.heap.size + 1, 2, none⟩ = some (.int .i64 r) ∧ W.cell? ⟨w.heap.size + 1, 3, none⟩ = some (.int .i64 s2) := fun W h k => ⟨h.cell 0, h.cell 1, h.cell 2, h.cell 3, k.cell 0, k.cell 1, k.cell 2, k.cell 3⟩
  have hS2 := hSof _ HA2.drew HB2.drew
  go_wp2
  go_region_held3 (fun W => W.cell? ⟨w.heap.size, 0, none⟩ = some (.int .i64 k) ∧ W.cell? ⟨w.heap.size, 1, none⟩ = some (.string t1) ∧ W.cell? ⟨w.heap.size, 2, none⟩ = some (.int .i64 r) ∧ W.cell? ⟨w.heap.size, 3, none⟩ = some (.int .i64 s1) ∧ W.cell? ⟨w.heap.size + 1, 0, none⟩ = some (.int .i64 k) ∧ W.cell? ⟨w.heap.size + 1, 1, none⟩ = some (.string t2) ∧ W.cell? ⟨w.heap.size + 1, 2, none⟩ = some (.int .i64 r) ∧ W.cell? ⟨w.heap.size + 1, 3, none⟩ = some (.int .i64 s2)) (first | with_reducible exact hS2 | with_reducible exact hS3 | with_reducible exact hS4)
    (first
      | (go_at_call_of 28 (Value.string t1); refine (hcon3 w2.drew).mono ?_; rintro x3 w3 ⟨rfl, hb3⟩; have HA3 := HA2.drew.below hb3; have HB3 := HB2.drew.below hb3; have hS3 := hSof _ HA3 HB3; have hc3 := below_after hb2.drew hb3)
      | (go_at_call_of 28 (Value.string t2); refine (hcon4 w3).mono ?_; rintro x4 w4 ⟨rfl, hb4⟩; have HA4 := HA3.below hb4; have HB4 := HB3.below hb4; have hS4 := hSof _ HA4 HB4; have hc4 := below_after hc3 hb4; obtain ⟨m0, m1, m2, m3⟩ := Bk.c4 HA4; obtain ⟨n0, n1, n2, n3⟩ := Bk.c4 HB4))
  go_wp2_with fail
  refine (hcon5 _).mono ?_
  rintro x5 w5 ⟨rfl, rfl⟩
  go_wp2
  go_ret2
  exact ⟨rfl, hc4⟩
theorem specSecretFrom_any (k1 r1 s1 : Int) (t1 : ByteArray) (k2 r2 s2 : Int) (t2 : ByteArray) (w : World) (h1 : t1.size ≤ 1048576) (h2 : t2.size ≤ 1048576) :
    Calls Try.prog 17 #[.agg #[.int .i64 k1, .string t1, .int .i64 r1, .int .i64 s1], .agg #[.int .i64 k2, .string t2, .int .i64 r2, .int .i64 s2]] w fun x w' => x = .returned (.tuple #[.int .i64 (Sg.sec k1 r1 s1 t1 k2 r2 s2 t2), .bool (Sg.okTwo k1 r1 s1 t1 k2 r2 s2 t2)]) ∧ Below w.heap.size w w' := by
  have no : Sg.okTwo k1 r1 s1 t1 k2 r2 s2 t2 = false → (Calls Try.prog 17 #[.agg #[.int .i64 k1, .string t1, .int .i64 r1, .int .i64 s1], .agg #[.int .i64 k2, .string t2, .int .i64 r2, .int .i64 s2]] w (fun x w' => x = .returned (.tuple #[.int .i64 0, .bool false]) ∧ Below w.heap.size w w')) → Calls Try.prog 17 #[.agg #[.int .i64 k1, .string t1, .int .i64 r1, .int .i64 s1], .agg #[.int .i64 k2, .string t2, .int .i64 r2, .int .i64 s2]] w fun x w' => x = .returned (.tuple #[.int .i64 (Sg.sec k1 r1 s1 t1 k2 r2 s2 t2), .bool (Sg.okTwo k1 r1 s1 t1 k2 r2 s2 t2)]) ∧ Below w.heap.size w w' := by
    intro h hc
    rw [Sg.sec_no h, h]
    exact hc
  by_cases hk : k1 = k2
  · by_cases hr : r1 = r2
    · subst hk
      subst hr
      cases hv : Sg.ver k1 t1 r1 s1
      · exact no (by unfold Sg.okTwo; rw [hv]; simp) (specSecretFrom_a k1 r1 s1 t1 s2 t2 w h1 hv)
      · cases hw : Sg.ver k1 t2 r1 s2
        · exact no (by unfold Sg.okTwo; rw [hw]; simp) (specSecretFrom_b k1 r1 s1 t1 s2 t2 w h1 h2 hv hw)
        · by_cases hd : Sg.ch r1 k1 t1 = Sg.ch r1 k1 t2
          · exact no (by unfold Sg.okTwo; rw [hd]; simp) (specSecretFrom_d k1 r1 s1 t1 s2 t2 w h1 h2 hv hw hd)
          · have ho : Sg.okTwo k1 r1 s1 t1 k1 r1 s2 t2 = true := by unfold Sg.okTwo; rw [hv, hw]; simpa using hd
            have hs : Sg.sec k1 r1 s1 t1 k1 r1 s2 t2 = Sg.two s1 s2 (Sg.ch r1 k1 t1) (Sg.ch r1 k1 t2) := by unfold Sg.sec; rw [ho]; rfl
            rw [ho, hs]
            exact specSecretFrom_yes k1 r1 s1 t1 s2 t2 w h1 h2 hv hw hd
    · exact no (by unfold Sg.okTwo; rw [show (r1 == r2) = false by simpa using hr]; simp) (specSecretFrom_r k1 r1 s1 t1 k2 r2 s2 t2 w hk hr)
  · exact no (by unfold Sg.okTwo; rw [show (k1 == k2) = false by simpa using hk]; simp) (specSecretFrom_key k1 r1 s1 t1 k2 r2 s2 t2 w hk)
set_option maxRecDepth 100000 in
set_option maxHeartbeats 3200000 in
theorem implSecretFrom_a (k1 r1 s1 : Int) (t1 : ByteArray) (k2 r2 s2 : Int) (t2 : ByteArray) (w : World) (h2 : t2.size ≤ 1048576) (g1 : Sg.shape k1 r1 s1 = false) : Calls Try.prog 19 #[.agg #[.int .i64 k1, .string t1, .int .i64 r1, .int .i64 s1], .agg #[.int .i64 k2, .string t2, .int .i64 r2, .int .i64 s2]] w (fun x w' => x = .returned (.tuple #[.int .i64 0, .bool false]) ∧ Below w.heap.size w w') := by
  have hconA := fun W => asEquation_no k1 r1 s1 t1 W g1
  have hconB := fun W => asEquation_any k2 r2 s2 t2 W h2
  obtain ⟨B, HB⟩ : ∃ B, Hid (Sg.shape k2 r2 s2 = B) := ⟨_, Lib.hid rfl⟩
  rw [HB.out] at hconB
  clear g1 HB
  have HA0 : Bk w.heap.size 40 #[.int .i64 k1, .string t1, .int .i64 r1, .int .i64 s1] ((w.alloc (.cells #[.int .i64 k1, .string t1, .int .i64 r1, .int .i64 s1] 40 (0, 0))).alloc (.cells #[.int .i64 k2, .string t2, .int .i64 r2, .int .i64 s2] 40 (0, 0))) := (Bk.new w _ _).alloc _
  have HB0 : Bk (w.heap.size + 1) 40 #[.int .i64 k2, .string t2, .int .i64 r2, .int .i64 s2] ((w.alloc (.cells #[.int .i64 k1, .string t1, .int .i64 r1, .int .i64 s1] 40 (0, 0))).alloc (.cells #[.int .i64 k2, .string t2, .int .i64 r2, .int .i64 s2] 40 (0, 0))) := Bk.new' _ _ _ _ (by simp)
  have hb0 : Below w.heap.size w ((w.alloc (.cells #[.int .i64 k1, .string t1, .int .i64 r1, .int .i64 s1] 40 (0, 0))).alloc (.cells #[.int .i64 k2, .string t2, .int .i64 r2, .int .i64 s2] 40 (0, 0))) := below_alloc (below_alloc (Below.refl _ _) _) _
  go_enter Try.func19, Try.ntmps19
  go_wp2_with fail
  refine (hconA _).mono ?_
  rintro x1 w1 ⟨rfl, hb1⟩
  have HA1 := (HA0.below hb1).alloc (.cells #[.int .i64 0, .int .i64 0, .int .i64 0, .int .i64 0, .int .i64 0, .int .i64 0, .int .i64 0, .int .i64 0] 66 (0, 0))
  have HB1 := (HB0.below hb1).alloc (.cells #[.int .i64 0, .int .i64 0, .int .i64 0, .int .i64 0, .int .i64 0, .int .i64 0, .int .i64 0, .int .i64 0] 66 (0, 0))
  have HF1 := Bk.new w1 66 #[.int .i64 0, .int .i64 0, .int .i64 0, .int .i64 0, .int .i64 0, .int .i64 0, .int .i64 0, .int .i64 0]
  replace hb1 := below_alloc (below_after hb0 hb1) (.cells #[.int .i64 0, .int .i64 0, .int .i64 0, .int .i64 0, .int .i64 0, .int .i64 0, .int .i64 0, .int .i64 0] 66 (0, 0))
  clear HA0 HB0 hb0
  obtain ⟨n10, n11, n12, n13⟩ := Bk.c4 HB1
  go_wp2_with fail
  refine (hconB _).mono ?_
  rintro x2 w2 ⟨a2, b2, c2, d2, e2, f2, g2, h2, rfl, _, hb2⟩
  have HA2 := (HA1.below hb2).alloc (.cells #[.int .i64 a2, .int .i64 b2, .int .i64 c2, .int .i64 d2, .int .i64 e2, .int .i64 f2, .int .i64 g2, .int .i64 h2] 66 (0, 0))
  have HB2 := (HB1.below hb2).alloc (.cells #[.int .i64 a2, .int .i64 b2, .int .i64 c2, .int .i64 d2, .int .i64 e2, .int .i64 f2, .int .i64 g2, .int .i64 h2] 66 (0, 0))
  have HF2 := (HF1.below hb2).alloc (.cells #[.int .i64 a2, .int .i64 b2, .int .i64 c2, .int .i64 d2, .int .i64 e2, .int .i64 f2, .int .i64 g2, .int .i64 h2] 66 (0, 0))
  have HG2 := Bk.new w2 66 #[.int .i64 a2, .int .i64 b2, .int .i64 c2, .int .i64 d2, .int .i64 e2, .int .i64 f2, .int .i64 g2, .int .i64 h2]
  replace hb2 := below_alloc (below_after hb1 hb2) (.cells #[.int .i64 a2, .int .i64 b2, .int .i64 c2, .int .i64 d2, .int .i64 e2, .int .i64 f2, .int .i64 g2, .int .i64 h2] 66 (0, 0))
  clear HA1 HB1 HF1 hb1
  obtain ⟨m20, m21, m22, m23⟩ := Bk.c4 HA2
  obtain ⟨n20, n21, n22, n23⟩ := Bk.c4 HB2
  obtain ⟨o20, o21, o22, o23, o24, o25, o26, o27⟩ := Bk.c8 HF2
  obtain ⟨q20, q21, q22, q23, q24, q25, q26, q27⟩ := Bk.c8 HG2
  go_wp2
  go_ret2
  exact ⟨rfl, hb2⟩
set_option maxRecDepth 100000 in
set_option maxHeartbeats 3200000 in
theorem implSecretFrom_b (k1 r1 s1 : Int) (t1 : ByteArray) (k2 r2 s2 : Int) (t2 : ByteArray) (w : World) (h1 : t1.size ≤ 1048576) (g1 : Sg.shape k1 r1 s1 = true) (g2 : Sg.shape k2 r2 s2 = false) : Calls Try.prog 19 #[.agg #[.int .i64 k1, .string t1, .int .i64 r1, .int .i64 s1], .agg #[.int .i64 k2, .string t2, .int .i64 r2, .int .i64 s2]] w (fun x w' => x = .returned (.tuple #[.int .i64 0, .bool false]) ∧ Below w.heap.size w w') := by
  have hconA := fun W => asEquation_yes k1 r1 s1 t1 W g1 h1
  have hconB := fun W => asEquation_no k2 r2 s2 t2 W g2
  obtain ⟨E1, HE1⟩ : ∃ E, Hid (Sg.ch r1 k1 t1 = E) := ⟨_, Lib.hid rfl⟩
  rw [HE1.out] at hconA
  clear g1 g2 HE1
  have HA0 : Bk w.heap.size 40 #[.int .i64 k1, .string t1, .int .i64 r1, .int .i64 s1] ((w.alloc (.cells #[.int .i64 k1, .string t1, .int .i64 r1, .int .i64 s1] 40 (0, 0))).alloc (.cells #[.int .i64 k2, .string t2, .int .i64 r2, .int .i64 s2] 40 (0, 0))) := (Bk.new w _ _).alloc _
  have HB0 : Bk (w.heap.size + 1) 40 #[.int .i64 k2, .string t2, .int .i64 r2, .int .i64 s2] ((w.alloc (.cells #[.int .i64 k1, .string t1, .int .i64 r1, .int .i64 s1] 40 (0, 0))).alloc (.cells #[.int .i64 k2, .string t2, .int .i64 r2, .int .i64 s2] 40 (0, 0))) := Bk.new' _ _ _ _ (by simp)
  have hb0 : Below w.heap.size w ((w.alloc (.cells #[.int .i64 k1, .string t1, .int .i64 r1, .int .i64 s1] 40 (0, 0))).alloc (.cells #[.int .i64 k2, .string t2, .int .i64 r2, .int .i64 s2] 40 (0, 0))) := below_alloc (below_alloc (Below.refl _ _) _) _
  go_enter Try.func19, Try.ntmps19
  go_wp2_with fail
  refine (hconA _).mono ?_
  rintro x1 w1 ⟨rfl, hb1⟩
  have HA1 := (HA0.below hb1).alloc (.cells #[.int .i64 s1, .int .i64 1073741789, .int .i64 r1, .int .i64 2147483579, .int .i64 k1, .int .i64 2147483579, .int .i64 E1, .int .i64 1073741789] 66 (0, 0))
  have HB1 := (HB0.below hb1).alloc (.cells #[.int .i64 s1, .int .i64 1073741789, .int .i64 r1, .int .i64 2147483579, .int .i64 k1, .int .i64 2147483579, .int .i64 E1, .int .i64 1073741789] 66 (0, 0))
  have HF1 := Bk.new w1 66 #[.int .i64 s1, .int .i64 1073741789, .int .i64 r1, .int .i64 2147483579, .int .i64 k1, .int .i64 2147483579, .int .i64 E1, .int .i64 1073741789]
  replace hb1 := below_alloc (below_after hb0 hb1) (.cells #[.int .i64 s1, .int .i64 1073741789, .int .i64 r1, .int .i64 2147483579, .int .i64 k1, .int .i64 2147483579, .int .i64 E1, .int .i64 1073741789] 66 (0, 0))
  clear HA0 HB0 hb0
  obtain ⟨n10, n11, n12, n13⟩ := Bk.c4 HB1
  go_wp2_with fail
  refine (hconB _).mono ?_
  rintro x2 w2 ⟨rfl, hb2⟩
  have HA2 := (HA1.below hb2).alloc (.cells #[.int .i64 0, .int .i64 0, .int .i64 0, .int .i64 0, .int .i64 0, .int .i64 0, .int .i64 0, .int .i64 0] 66 (0, 0))
  have HB2 := (HB1.below hb2).alloc (.cells #[.int .i64 0, .int .i64 0, .int .i64 0, .int .i64 0, .int .i64 0, .int .i64 0, .int .i64 0, .int .i64 0] 66 (0, 0))
  have HF2 := (HF1.below hb2).alloc (.cells #[.int .i64 0, .int .i64 0, .int .i64 0, .int .i64 0, .int .i64 0, .int .i64 0, .int .i64 0, .int .i64 0] 66 (0, 0))
  have HG2 := Bk.new w2 66 #[.int .i64 0, .int .i64 0, .int .i64 0, .int .i64 0, .int .i64 0, .int .i64 0, .int .i64 0, .int .i64 0]
  replace hb2 := below_alloc (below_after hb1 hb2) (.cells #[.int .i64 0, .int .i64 0, .int .i64 0, .int .i64 0, .int .i64 0, .int .i64 0, .int .i64 0, .int .i64 0] 66 (0, 0))
  clear HA1 HB1 HF1 hb1
  obtain ⟨m20, m21, m22, m23⟩ := Bk.c4 HA2
  obtain ⟨n20, n21, n22, n23⟩ := Bk.c4 HB2
  obtain ⟨o20, o21, o22, o23, o24, o25, o26, o27⟩ := Bk.c8 HF2
  obtain ⟨q20, q21, q22, q23, q24, q25, q26, q27⟩ := Bk.c8 HG2
  go_wp2
  go_ret2
  exact ⟨rfl, hb2⟩
set_option maxRecDepth 100000 in
set_option maxHeartbeats 3200000 in
theorem implSecretFrom_c (k1 r1 s1 : Int) (t1 : ByteArray) (k2 r2 s2 : Int) (t2 : ByteArray) (w : World) (g1 : Sg.shape k1 r1 s1 = true) (g2 : Sg.shape k2 r2 s2 = true) (h1 : t1.size ≤ 1048576) (h2 : t2.size ≤ 1048576) (hv : Sg.eqn k1 (Sg.ch r1 k1 t1) r1 s1 = false) : Calls Try.prog 19 #[.agg #[.int .i64 k1, .string t1, .int .i64 r1, .int .i64 s1], .agg #[.int .i64 k2, .string t2, .int .i64 r2, .int .i64 s2]] w (fun x w' => x = .returned (.tuple #[.int .i64 0, .bool false]) ∧ Below w.heap.size w w') := by
  obtain ⟨⟨hk1, _⟩, hr1, u0, u1⟩ := (Sg.shape_iff _ _ _).mp g1
  obtain ⟨⟨hk2, _⟩, hr2, v0, v1⟩ := (Sg.shape_iff _ _ _).mp g2
  obtain ⟨p0, p1⟩ := Gr.E_bd hk1
  obtain ⟨p2, p3⟩ := Gr.E_bd hr1
  obtain ⟨p4, p5⟩ := Gr.E_bd hk2
  obtain ⟨p6, p7⟩ := Gr.E_bd hr2
  obtain ⟨z0, z1⟩ := Sg.ch_bd r1 k1 t1
  obtain ⟨z2, z3⟩ := Sg.ch_bd r2 k2 t2
  have hconA := fun W => asEquation_yes k1 r1 s1 t1 W g1 h1
  have hconB := fun W => asEquation_yes k2 r2 s2 t2 W g2 h2
  have hconC := fun W => holds_any k1 (Sg.ch r1 k1 t1) r1 s1 W (by omega) (by omega) (by omega) (by omega) z0 z1 u1
  have hconD := fun W => holds_any k2 (Sg.ch r2 k2 t2) r2 s2 W (by omega) (by omega) (by omega) (by omega) z2 z3 v1
  rw [hv] at hconC
  obtain ⟨E1, HE1⟩ : ∃ E, Hid (Sg.ch r1 k1 t1 = E) := ⟨_, Lib.hid rfl⟩
  obtain ⟨E2, HE2⟩ : ∃ E, Hid (Sg.ch r2 k2 t2 = E) := ⟨_, Lib.hid rfl⟩
  rw [HE1.out] at hconA hconC z0 z1
  rw [HE2.out] at hconB hconD z2 z3
  clear g1 g2 hk1 hr1 hk2 hr2 p0 p1 p2 p3 p4 p5 p6 p7
  clear hv
  have HA0 : Bk w.heap.size 40 #[.int .i64 k1, .string t1, .int .i64 r1, .int .i64 s1] ((w.alloc (.cells #[.int .i64 k1, .string t1, .int .i64 r1, .int .i64 s1] 40 (0, 0))).alloc (.cells #[.int .i64 k2, .string t2, .int .i64 r2, .int .i64 s2] 40 (0, 0))) := (Bk.new w _ _).alloc _
  have HB0 : Bk (w.heap.size + 1) 40 #[.int .i64 k2, .string t2, .int .i64 r2, .int .i64 s2] ((w.alloc (.cells #[.int .i64 k1, .string t1, .int .i64 r1, .int .i64 s1] 40 (0, 0))).alloc (.cells #[.int .i64 k2, .string t2, .int .i64 r2, .int .i64 s2] 40 (0, 0))) := Bk.new' _ _ _ _ (by simp)
  have hb0 : Below w.heap.size w ((w.alloc (.cells #[.int .i64 k1, .string t1, .int .i64 r1, .int .i64 s1] 40 (0, 0))).alloc (.cells #[.int .i64 k2, .string t2, .int .i64 r2, .int .i64 s2] 40 (0, 0))) := below_alloc (below_alloc (Below.refl _ _) _) _
  go_enter Try.func19, Try.ntmps19
  go_wp2_with fail
  refine (hconA _).mono ?_
  rintro x1 w1 ⟨rfl, hb1⟩
  have HA1 := (HA0.below hb1).alloc (.cells #[.int .i64 s1, .int .i64 1073741789, .int .i64 r1, .int .i64 2147483579, .int .i64 k1, .int .i64 2147483579, .int .i64 E1, .int .i64 1073741789] 66 (0, 0))
  have HB1 := (HB0.below hb1).alloc (.cells #[.int .i64 s1, .int .i64 1073741789, .int .i64 r1, .int .i64 2147483579, .int .i64 k1, .int .i64 2147483579, .int .i64 E1, .int .i64 1073741789] 66 (0, 0))
  have HF1 := Bk.new w1 66 #[.int .i64 s1, .int .i64 1073741789, .int .i64 r1, .int .i64 2147483579, .int .i64 k1, .int .i64 2147483579, .int .i64 E1, .int .i64 1073741789]
  replace hb1 := below_alloc (below_after hb0 hb1) (.cells #[.int .i64 s1, .int .i64 1073741789, .int .i64 r1, .int .i64 2147483579, .int .i64 k1, .int .i64 2147483579, .int .i64 E1, .int .i64 1073741789] 66 (0, 0))
  clear HA0 HB0 hb0
  obtain ⟨n10, n11, n12, n13⟩ := Bk.c4 HB1
  go_wp2_with fail
  refine (hconB _).mono ?_
  rintro x2 w2 ⟨rfl, hb2⟩
  have HA2 := (HA1.below hb2).alloc (.cells #[.int .i64 s2, .int .i64 1073741789, .int .i64 r2, .int .i64 2147483579, .int .i64 k2, .int .i64 2147483579, .int .i64 E2, .int .i64 1073741789] 66 (0, 0))
  have HB2 := (HB1.below hb2).alloc (.cells #[.int .i64 s2, .int .i64 1073741789, .int .i64 r2, .int .i64 2147483579, .int .i64 k2, .int .i64 2147483579, .int .i64 E2, .int .i64 1073741789] 66 (0, 0))
  have HF2 := (HF1.below hb2).alloc (.cells #[.int .i64 s2, .int .i64 1073741789, .int .i64 r2, .int .i64 2147483579, .int .i64 k2, .int .i64 2147483579, .int .i64 E2, .int .i64 1073741789] 66 (0, 0))
  have HG2 := Bk.new w2 66 #[.int .i64 s2, .int .i64 1073741789, .int .i64 r2, .int .i64 2147483579, .int .i64 k2, .int .i64 2147483579, .int .i64 E2, .int .i64 1073741789]
  replace hb2 := below_alloc (below_after hb1 hb2) (.cells #[.int .i64 s2, .int .i64 1073741789, .int .i64 r2, .int .i64 2147483579, .int .i64 k2, .int .i64 2147483579, .int .i64 E2, .int .i64 1073741789] 66 (0, 0))
  clear HA1 HB1 HF1 hb1
  obtain ⟨m20, m21, m22, m23⟩ := Bk.c4 HA2
  obtain ⟨n20, n21, n22, n23⟩ := Bk.c4 HB2
  obtain ⟨o20, o21, o22, o23, o24, o25, o26, o27⟩ := Bk.c8 HF2
  obtain ⟨q20, q21, q22, q23, q24, q25, q26, q27⟩ := Bk.c8 HG2
  go_wp2_with fail
  refine (hconC _).mono ?_
  rintro x3 w3 ⟨rfl, hb3⟩
  have HA3 := HA2.below hb3
  have HB3 := HB2.below hb3
  have HF3 := HF2.below hb3
  have HG3 := HG2.below hb3
  replace hb3 := below_after hb2 hb3
  clear HA2 HB2 HF2 HG2 hb2
  obtain ⟨m30, m31, m32, m33⟩ := Bk.c4 HA3
  obtain ⟨n30, n31, n32, n33⟩ := Bk.c4 HB3
  obtain ⟨o30, o31, o32, o33, o34, o35, o36, o37⟩ := Bk.c8 HF3
  obtain ⟨q30, q31, q32, q33, q34, q35, q36, q37⟩ := Bk.c8 HG3
  go_wp2
  go_ret2
  exact ⟨rfl, hb3⟩
set_option maxRecDepth 100000 in
set_option maxHeartbeats 3200000 in
theorem implSecretFrom_d (k1 r1 s1 : Int) (t1 : ByteArray) (k2 r2 s2 : Int) (t2 : ByteArray) (w : World) (g1 : Sg.shape k1 r1 s1 = true) (g2 : Sg.shape k2 r2 s2 = true) (h1 : t1.size ≤ 1048576) (h2 : t2.size ≤ 1048576) (hv : Sg.eqn k1 (Sg.ch r1 k1 t1) r1 s1 = true) (hw : Sg.eqn k2 (Sg.ch r2 k2 t2) r2 s2 = false) : Calls Try.prog 19 #[.agg #[.int .i64 k1, .string t1, .int .i64 r1, .int .i64 s1], .agg #[.int .i64 k2, .string t2, .int .i64 r2, .int .i64 s2]] w (fun x w' => x = .returned (.tuple #[.int .i64 0, .bool false]) ∧ Below w.heap.size w w') := by
  obtain ⟨⟨hk1, _⟩, hr1, u0, u1⟩ := (Sg.shape_iff _ _ _).mp g1
  obtain ⟨⟨hk2, _⟩, hr2, v0, v1⟩ := (Sg.shape_iff _ _ _).mp g2
  obtain ⟨p0, p1⟩ := Gr.E_bd hk1
  obtain ⟨p2, p3⟩ := Gr.E_bd hr1
  obtain ⟨p4, p5⟩ := Gr.E_bd hk2
  obtain ⟨p6, p7⟩ := Gr.E_bd hr2
  obtain ⟨z0, z1⟩ := Sg.ch_bd r1 k1 t1
  obtain ⟨z2, z3⟩ := Sg.ch_bd r2 k2 t2
  have hconA := fun W => asEquation_yes k1 r1 s1 t1 W g1 h1
  have hconB := fun W => asEquation_yes k2 r2 s2 t2 W g2 h2
  have hconC := fun W => holds_any k1 (Sg.ch r1 k1 t1) r1 s1 W (by omega) (by omega) (by omega) (by omega) z0 z1 u1
  have hconD := fun W => holds_any k2 (Sg.ch r2 k2 t2) r2 s2 W (by omega) (by omega) (by omega) (by omega) z2 z3 v1
  rw [hv] at hconC
  rw [hw] at hconD
  obtain ⟨E1, HE1⟩ : ∃ E, Hid (Sg.ch r1 k1 t1 = E) := ⟨_, Lib.hid rfl⟩
  obtain ⟨E2, HE2⟩ : ∃ E, Hid (Sg.ch r2 k2 t2 = E) := ⟨_, Lib.hid rfl⟩
  rw [HE1.out] at hconA hconC z0 z1
  rw [HE2.out] at hconB hconD z2 z3
  clear g1 g2 hk1 hr1 hk2 hr2 p0 p1 p2 p3 p4 p5 p6 p7
  clear hv hw
  have HA0 : Bk w.heap.size 40 #[.int .i64 k1, .string t1, .int .i64 r1, .int .i64 s1] ((w.alloc (.cells #[.int .i64 k1, .string t1, .int .i64 r1, .int .i64 s1] 40 (0, 0))).alloc (.cells #[.int .i64 k2, .string t2, .int .i64 r2, .int .i64 s2] 40 (0, 0))) := (Bk.new w _ _).alloc _
  have HB0 : Bk (w.heap.size + 1) 40 #[.int .i64 k2, .string t2, .int .i64 r2, .int .i64 s2] ((w.alloc (.cells #[.int .i64 k1, .string t1, .int .i64 r1, .int .i64 s1] 40 (0, 0))).alloc (.cells #[.int .i64 k2, .string t2, .int .i64 r2, .int .i64 s2] 40 (0, 0))) := Bk.new' _ _ _ _ (by simp)
  have hb0 : Below w.heap.size w ((w.alloc (.cells #[.int .i64 k1, .string t1, .int .i64 r1, .int .i64 s1] 40 (0, 0))).alloc (.cells #[.int .i64 k2, .string t2, .int .i64 r2, .int .i64 s2] 40 (0, 0))) := below_alloc (below_alloc (Below.refl _ _) _) _
  go_enter Try.func19, Try.ntmps19
  go_wp2_with fail
  refine (hconA _).mono ?_
  rintro x1 w1 ⟨rfl, hb1⟩
  have HA1 := (HA0.below hb1).alloc (.cells #[.int .i64 s1, .int .i64 1073741789, .int .i64 r1, .int .i64 2147483579, .int .i64 k1, .int .i64 2147483579, .int .i64 E1, .int .i64 1073741789] 66 (0, 0))
  have HB1 := (HB0.below hb1).alloc (.cells #[.int .i64 s1, .int .i64 1073741789, .int .i64 r1, .int .i64 2147483579, .int .i64 k1, .int .i64 2147483579, .int .i64 E1, .int .i64 1073741789] 66 (0, 0))
  have HF1 := Bk.new w1 66 #[.int .i64 s1, .int .i64 1073741789, .int .i64 r1, .int .i64 2147483579, .int .i64 k1, .int .i64 2147483579, .int .i64 E1, .int .i64 1073741789]
  replace hb1 := below_alloc (below_after hb0 hb1) (.cells #[.int .i64 s1, .int .i64 1073741789, .int .i64 r1, .int .i64 2147483579, .int .i64 k1, .int .i64 2147483579, .int .i64 E1, .int .i64 1073741789] 66 (0, 0))
  clear HA0 HB0 hb0
  obtain ⟨n10, n11, n12, n13⟩ := Bk.c4 HB1
  go_wp2_with fail
  refine (hconB _).mono ?_
  rintro x2 w2 ⟨rfl, hb2⟩
  have HA2 := (HA1.below hb2).alloc (.cells #[.int .i64 s2, .int .i64 1073741789, .int .i64 r2, .int .i64 2147483579, .int .i64 k2, .int .i64 2147483579, .int .i64 E2, .int .i64 1073741789] 66 (0, 0))
  have HB2 := (HB1.below hb2).alloc (.cells #[.int .i64 s2, .int .i64 1073741789, .int .i64 r2, .int .i64 2147483579, .int .i64 k2, .int .i64 2147483579, .int .i64 E2, .int .i64 1073741789] 66 (0, 0))
  have HF2 := (HF1.below hb2).alloc (.cells #[.int .i64 s2, .int .i64 1073741789, .int .i64 r2, .int .i64 2147483579, .int .i64 k2, .int .i64 2147483579, .int .i64 E2, .int .i64 1073741789] 66 (0, 0))
  have HG2 := Bk.new w2 66 #[.int .i64 s2, .int .i64 1073741789, .int .i64 r2, .int .i64 2147483579, .int .i64 k2, .int .i64 2147483579, .int .i64 E2, .int .i64 1073741789]
  replace hb2 := below_alloc (below_after hb1 hb2) (.cells #[.int .i64 s2, .int .i64 1073741789, .int .i64 r2, .int .i64 2147483579, .int .i64 k2, .int .i64 2147483579, .int .i64 E2, .int .i64 1073741789] 66 (0, 0))
  clear HA1 HB1 HF1 hb1
  obtain ⟨m20, m21, m22, m23⟩ := Bk.c4 HA2
  obtain ⟨n20, n21, n22, n23⟩ := Bk.c4 HB2
  obtain ⟨o20, o21, o22, o23, o24, o25, o26, o27⟩ := Bk.c8 HF2
  obtain ⟨q20, q21, q22, q23, q24, q25, q26, q27⟩ := Bk.c8 HG2
  go_wp2_with fail
  refine (hconC _).mono ?_
  rintro x3 w3 ⟨rfl, hb3⟩
  have HA3 := HA2.below hb3
  have HB3 := HB2.below hb3
  have HF3 := HF2.below hb3
  have HG3 := HG2.below hb3
  replace hb3 := below_after hb2 hb3
  clear HA2 HB2 HF2 HG2 hb2
  obtain ⟨m30, m31, m32, m33⟩ := Bk.c4 HA3
  obtain ⟨n30, n31, n32, n33⟩ := Bk.c4 HB3
  obtain ⟨o30, o31, o32, o33, o34, o35, o36, o37⟩ := Bk.c8 HF3
  obtain ⟨q30, q31, q32, q33, q34, q35, q36, q37⟩ := Bk.c8 HG3
  go_wp2_with fail
  refine (hconD _).mono ?_
  rintro x4 w4 ⟨rfl, hb4⟩
  have HA4 := HA3.below hb4
  have HB4 := HB3.below hb4
  have HF4 := HF3.below hb4
  have HG4 := HG3.below hb4
  replace hb4 := below_after hb3 hb4
  clear HA3 HB3 HF3 HG3 hb3
  obtain ⟨m40, m41, m42, m43⟩ := Bk.c4 HA4
  obtain ⟨n40, n41, n42, n43⟩ := Bk.c4 HB4
  obtain ⟨o40, o41, o42, o43, o44, o45, o46, o47⟩ := Bk.c8 HF4
  obtain ⟨q40, q41, q42, q43, q44, q45, q46, q47⟩ := Bk.c8 HG4
  go_wp2
  go_ret2
  exact ⟨rfl, hb4⟩
set_option maxRecDepth 100000 in
set_option maxHeartbeats 3200000 in
theorem implSecretFrom_k (k1 r1 s1 : Int) (t1 : ByteArray) (k2 r2 s2 : Int) (t2 : ByteArray) (w : World) (g1 : Sg.shape k1 r1 s1 = true) (g2 : Sg.shape k2 r2 s2 = true) (h1 : t1.size ≤ 1048576) (h2 : t2.size ≤ 1048576) (hv : Sg.eqn k1 (Sg.ch r1 k1 t1) r1 s1 = true) (hw : Sg.eqn k2 (Sg.ch r2 k2 t2) r2 s2 = true) (h : k1 ≠ k2) : Calls Try.prog 19 #[.agg #[.int .i64 k1, .string t1, .int .i64 r1, .int .i64 s1], .agg #[.int .i64 k2, .string t2, .int .i64 r2, .int .i64 s2]] w (fun x w' => x = .returned (.tuple #[.int .i64 0, .bool false]) ∧ Below w.heap.size w w') := by
  obtain ⟨⟨hk1, _⟩, hr1, u0, u1⟩ := (Sg.shape_iff _ _ _).mp g1
  obtain ⟨⟨hk2, _⟩, hr2, v0, v1⟩ := (Sg.shape_iff _ _ _).mp g2
  obtain ⟨p0, p1⟩ := Gr.E_bd hk1
  obtain ⟨p2, p3⟩ := Gr.E_bd hr1
  obtain ⟨p4, p5⟩ := Gr.E_bd hk2
  obtain ⟨p6, p7⟩ := Gr.E_bd hr2
  obtain ⟨z0, z1⟩ := Sg.ch_bd r1 k1 t1
  obtain ⟨z2, z3⟩ := Sg.ch_bd r2 k2 t2
  have hconA := fun W => asEquation_yes k1 r1 s1 t1 W g1 h1
  have hconB := fun W => asEquation_yes k2 r2 s2 t2 W g2 h2
  have hconC := fun W => holds_any k1 (Sg.ch r1 k1 t1) r1 s1 W (by omega) (by omega) (by omega) (by omega) z0 z1 u1
  have hconD := fun W => holds_any k2 (Sg.ch r2 k2 t2) r2 s2 W (by omega) (by omega) (by omega) (by omega) z2 z3 v1
  rw [hv] at hconC
  rw [hw] at hconD
  obtain ⟨E1, HE1⟩ : ∃ E, Hid (Sg.ch r1 k1 t1 = E) := ⟨_, Lib.hid rfl⟩
  obtain ⟨E2, HE2⟩ : ∃ E, Hid (Sg.ch r2 k2 t2 = E) := ⟨_, Lib.hid rfl⟩
  rw [HE1.out] at hconA hconC z0 z1
  rw [HE2.out] at hconB hconD z2 z3
  clear g1 g2 hk1 hr1 hk2 hr2 p0 p1 p2 p3 p4 p5 p6 p7
  clear hv hw
  have h3 : (k1 == k2) = false := by simpa using h
  have h4 : (k1 != k2) = true := by simpa using h
  clear h
  have HA0 : Bk w.heap.size 40 #[.int .i64 k1, .string t1, .int .i64 r1, .int .i64 s1] ((w.alloc (.cells #[.int .i64 k1, .string t1, .int .i64 r1, .int .i64 s1] 40 (0, 0))).alloc (.cells #[.int .i64 k2, .string t2, .int .i64 r2, .int .i64 s2] 40 (0, 0))) := (Bk.new w _ _).alloc _
  have HB0 : Bk (w.heap.size + 1) 40 #[.int .i64 k2, .string t2, .int .i64 r2, .int .i64 s2] ((w.alloc (.cells #[.int .i64 k1, .string t1, .int .i64 r1, .int .i64 s1] 40 (0, 0))).alloc (.cells #[.int .i64 k2, .string t2, .int .i64 r2, .int .i64 s2] 40 (0, 0))) := Bk.new' _ _ _ _ (by simp)
  have hb0 : Below w.heap.size w ((w.alloc (.cells #[.int .i64 k1, .string t1, .int .i64 r1, .int .i64 s1] 40 (0, 0))).alloc (.cells #[.int .i64 k2, .string t2, .int .i64 r2, .int .i64 s2] 40 (0, 0))) := below_alloc (below_alloc (Below.refl _ _) _) _
  go_enter Try.func19, Try.ntmps19
  go_wp2_with fail
  refine (hconA _).mono ?_
  rintro x1 w1 ⟨rfl, hb1⟩
  have HA1 := (HA0.below hb1).alloc (.cells #[.int .i64 s1, .int .i64 1073741789, .int .i64 r1, .int .i64 2147483579, .int .i64 k1, .int .i64 2147483579, .int .i64 E1, .int .i64 1073741789] 66 (0, 0))
  have HB1 := (HB0.below hb1).alloc (.cells #[.int .i64 s1, .int .i64 1073741789, .int .i64 r1, .int .i64 2147483579, .int .i64 k1, .int .i64 2147483579, .int .i64 E1, .int .i64 1073741789] 66 (0, 0))
  have HF1 := Bk.new w1 66 #[.int .i64 s1, .int .i64 1073741789, .int .i64 r1, .int .i64 2147483579, .int .i64 k1, .int .i64 2147483579, .int .i64 E1, .int .i64 1073741789]
  replace hb1 := below_alloc (below_after hb0 hb1) (.cells #[.int .i64 s1, .int .i64 1073741789, .int .i64 r1, .int .i64 2147483579, .int .i64 k1, .int .i64 2147483579, .int .i64 E1, .int .i64 1073741789] 66 (0, 0))
  clear HA0 HB0 hb0
  obtain ⟨n10, n11, n12, n13⟩ := Bk.c4 HB1
  go_wp2_with fail
  refine (hconB _).mono ?_
  rintro x2 w2 ⟨rfl, hb2⟩
  have HA2 := (HA1.below hb2).alloc (.cells #[.int .i64 s2, .int .i64 1073741789, .int .i64 r2, .int .i64 2147483579, .int .i64 k2, .int .i64 2147483579, .int .i64 E2, .int .i64 1073741789] 66 (0, 0))
  have HB2 := (HB1.below hb2).alloc (.cells #[.int .i64 s2, .int .i64 1073741789, .int .i64 r2, .int .i64 2147483579, .int .i64 k2, .int .i64 2147483579, .int .i64 E2, .int .i64 1073741789] 66 (0, 0))
  have HF2 := (HF1.below hb2).alloc (.cells #[.int .i64 s2, .int .i64 1073741789, .int .i64 r2, .int .i64 2147483579, .int .i64 k2, .int .i64 2147483579, .int .i64 E2, .int .i64 1073741789] 66 (0, 0))
  have HG2 := Bk.new w2 66 #[.int .i64 s2, .int .i64 1073741789, .int .i64 r2, .int .i64 2147483579, .int .i64 k2, .int .i64 2147483579, .int .i64 E2, .int .i64 1073741789]
  replace hb2 := below_alloc (below_after hb1 hb2) (.cells #[.int .i64 s2, .int .i64 1073741789, .int .i64 r2, .int .i64 2147483579, .int .i64 k2, .int .i64 2147483579, .int .i64 E2, .int .i64 1073741789] 66 (0, 0))
  clear HA1 HB1 HF1 hb1
  obtain ⟨m20, m21, m22, m23⟩ := Bk.c4 HA2
  obtain ⟨n20, n21, n22, n23⟩ := Bk.c4 HB2
  obtain ⟨o20, o21, o22, o23, o24, o25, o26, o27⟩ := Bk.c8 HF2
  obtain ⟨q20, q21, q22, q23, q24, q25, q26, q27⟩ := Bk.c8 HG2
  go_wp2_with fail
  refine (hconC _).mono ?_
  rintro x3 w3 ⟨rfl, hb3⟩
  have HA3 := HA2.below hb3
  have HB3 := HB2.below hb3
  have HF3 := HF2.below hb3
  have HG3 := HG2.below hb3
  replace hb3 := below_after hb2 hb3
  clear HA2 HB2 HF2 HG2 hb2
  obtain ⟨m30, m31, m32, m33⟩ := Bk.c4 HA3
  obtain ⟨n30, n31, n32, n33⟩ := Bk.c4 HB3
  obtain ⟨o30, o31, o32, o33, o34, o35, o36, o37⟩ := Bk.c8 HF3
  obtain ⟨q30, q31, q32, q33, q34, q35, q36, q37⟩ := Bk.c8 HG3
  go_wp2_with fail
  refine (hconD _).mono ?_
  rintro x4 w4 ⟨rfl, hb4⟩
  have HA4 := HA3.below hb4
  have HB4 := HB3.below hb4
  have HF4 := HF3.below hb4
  have HG4 := HG3.below hb4
  replace hb4 := below_after hb3 hb4
  clear HA3 HB3 HF3 HG3 hb3
  obtain ⟨m40, m41, m42, m43⟩ := Bk.c4 HA4
  obtain ⟨n40, n41, n42, n43⟩ := Bk.c4 HB4
  obtain ⟨o40, o41, o42, o43, o44, o45, o46, o47⟩ := Bk.c8 HF4
  obtain ⟨q40, q41, q42, q43, q44, q45, q46, q47⟩ := Bk.c8 HG4
  go_wp2
  go_ret2
  exact ⟨rfl, hb4⟩
set_option maxRecDepth 100000 in
set_option maxHeartbeats 3200000 in
theorem implSecretFrom_r (k1 r1 s1 : Int) (t1 : ByteArray) (k2 r2 s2 : Int) (t2 : ByteArray) (w : World) (g1 : Sg.shape k1 r1 s1 = true) (g2 : Sg.shape k2 r2 s2 = true) (h1 : t1.size ≤ 1048576) (h2 : t2.size ≤ 1048576) (hv : Sg.eqn k1 (Sg.ch r1 k1 t1) r1 s1 = true) (hw : Sg.eqn k2 (Sg.ch r2 k2 t2) r2 s2 = true) (hk : k1 = k2) (h : r1 ≠ r2) : Calls Try.prog 19 #[.agg #[.int .i64 k1, .string t1, .int .i64 r1, .int .i64 s1], .agg #[.int .i64 k2, .string t2, .int .i64 r2, .int .i64 s2]] w (fun x w' => x = .returned (.tuple #[.int .i64 0, .bool false]) ∧ Below w.heap.size w w') := by
  obtain ⟨⟨hk1, _⟩, hr1, u0, u1⟩ := (Sg.shape_iff _ _ _).mp g1
  obtain ⟨⟨hk2, _⟩, hr2, v0, v1⟩ := (Sg.shape_iff _ _ _).mp g2
  obtain ⟨p0, p1⟩ := Gr.E_bd hk1
  obtain ⟨p2, p3⟩ := Gr.E_bd hr1
  obtain ⟨p4, p5⟩ := Gr.E_bd hk2
  obtain ⟨p6, p7⟩ := Gr.E_bd hr2
  obtain ⟨z0, z1⟩ := Sg.ch_bd r1 k1 t1
  obtain ⟨z2, z3⟩ := Sg.ch_bd r2 k2 t2
  have hconA := fun W => asEquation_yes k1 r1 s1 t1 W g1 h1
  have hconB := fun W => asEquation_yes k2 r2 s2 t2 W g2 h2
  have hconC := fun W => holds_any k1 (Sg.ch r1 k1 t1) r1 s1 W (by omega) (by omega) (by omega) (by omega) z0 z1 u1
  have hconD := fun W => holds_any k2 (Sg.ch r2 k2 t2) r2 s2 W (by omega) (by omega) (by omega) (by omega) z2 z3 v1
  rw [hv] at hconC
  rw [hw] at hconD
  obtain ⟨E1, HE1⟩ : ∃ E, Hid (Sg.ch r1 k1 t1 = E) := ⟨_, Lib.hid rfl⟩
  obtain ⟨E2, HE2⟩ : ∃ E, Hid (Sg.ch r2 k2 t2 = E) := ⟨_, Lib.hid rfl⟩
  rw [HE1.out] at hconA hconC z0 z1
  rw [HE2.out] at hconB hconD z2 z3
  clear g1 g2 hk1 hr1 hk2 hr2 p0 p1 p2 p3 p4 p5 p6 p7
  clear hv hw
  have h3 : (r1 == r2) = false := by simpa using h
  have h4 : (r1 != r2) = true := by simpa using h
  have h5 : (k1 == k2) = true := by simpa using hk
  have h6 : (k1 != k2) = false := by simpa using hk
  clear h hk
  have HA0 : Bk w.heap.size 40 #[.int .i64 k1, .string t1, .int .i64 r1, .int .i64 s1] ((w.alloc (.cells #[.int .i64 k1, .string t1, .int .i64 r1, .int .i64 s1] 40 (0, 0))).alloc (.cells #[.int .i64 k2, .string t2, .int .i64 r2, .int .i64 s2] 40 (0, 0))) := (Bk.new w _ _).alloc _
  have HB0 : Bk (w.heap.size + 1) 40 #[.int .i64 k2, .string t2, .int .i64 r2, .int .i64 s2] ((w.alloc (.cells #[.int .i64 k1, .string t1, .int .i64 r1, .int .i64 s1] 40 (0, 0))).alloc (.cells #[.int .i64 k2, .string t2, .int .i64 r2, .int .i64 s2] 40 (0, 0))) := Bk.new' _ _ _ _ (by simp)
  have hb0 : Below w.heap.size w ((w.alloc (.cells #[.int .i64 k1, .string t1, .int .i64 r1, .int .i64 s1] 40 (0, 0))).alloc (.cells #[.int .i64 k2, .string t2, .int .i64 r2, .int .i64 s2] 40 (0, 0))) := below_alloc (below_alloc (Below.refl _ _) _) _
  go_enter Try.func19, Try.ntmps19
  go_wp2_with fail
  refine (hconA _).mono ?_
  rintro x1 w1 ⟨rfl, hb1⟩
  have HA1 := (HA0.below hb1).alloc (.cells #[.int .i64 s1, .int .i64 1073741789, .int .i64 r1, .int .i64 2147483579, .int .i64 k1, .int .i64 2147483579, .int .i64 E1, .int .i64 1073741789] 66 (0, 0))
  have HB1 := (HB0.below hb1).alloc (.cells #[.int .i64 s1, .int .i64 1073741789, .int .i64 r1, .int .i64 2147483579, .int .i64 k1, .int .i64 2147483579, .int .i64 E1, .int .i64 1073741789] 66 (0, 0))
  have HF1 := Bk.new w1 66 #[.int .i64 s1, .int .i64 1073741789, .int .i64 r1, .int .i64 2147483579, .int .i64 k1, .int .i64 2147483579, .int .i64 E1, .int .i64 1073741789]
  replace hb1 := below_alloc (below_after hb0 hb1) (.cells #[.int .i64 s1, .int .i64 1073741789, .int .i64 r1, .int .i64 2147483579, .int .i64 k1, .int .i64 2147483579, .int .i64 E1, .int .i64 1073741789] 66 (0, 0))
  clear HA0 HB0 hb0
  obtain ⟨n10, n11, n12, n13⟩ := Bk.c4 HB1
  go_wp2_with fail
  refine (hconB _).mono ?_
  rintro x2 w2 ⟨rfl, hb2⟩
  have HA2 := (HA1.below hb2).alloc (.cells #[.int .i64 s2, .int .i64 1073741789, .int .i64 r2, .int .i64 2147483579, .int .i64 k2, .int .i64 2147483579, .int .i64 E2, .int .i64 1073741789] 66 (0, 0))
  have HB2 := (HB1.below hb2).alloc (.cells #[.int .i64 s2, .int .i64 1073741789, .int .i64 r2, .int .i64 2147483579, .int .i64 k2, .int .i64 2147483579, .int .i64 E2, .int .i64 1073741789] 66 (0, 0))
  have HF2 := (HF1.below hb2).alloc (.cells #[.int .i64 s2, .int .i64 1073741789, .int .i64 r2, .int .i64 2147483579, .int .i64 k2, .int .i64 2147483579, .int .i64 E2, .int .i64 1073741789] 66 (0, 0))
  have HG2 := Bk.new w2 66 #[.int .i64 s2, .int .i64 1073741789, .int .i64 r2, .int .i64 2147483579, .int .i64 k2, .int .i64 2147483579, .int .i64 E2, .int .i64 1073741789]
  replace hb2 := below_alloc (below_after hb1 hb2) (.cells #[.int .i64 s2, .int .i64 1073741789, .int .i64 r2, .int .i64 2147483579, .int .i64 k2, .int .i64 2147483579, .int .i64 E2, .int .i64 1073741789] 66 (0, 0))
  clear HA1 HB1 HF1 hb1
  obtain ⟨m20, m21, m22, m23⟩ := Bk.c4 HA2
  obtain ⟨n20, n21, n22, n23⟩ := Bk.c4 HB2
  obtain ⟨o20, o21, o22, o23, o24, o25, o26, o27⟩ := Bk.c8 HF2
  obtain ⟨q20, q21, q22, q23, q24, q25, q26, q27⟩ := Bk.c8 HG2
  go_wp2_with fail
  refine (hconC _).mono ?_
  rintro x3 w3 ⟨rfl, hb3⟩
  have HA3 := HA2.below hb3
  have HB3 := HB2.below hb3
  have HF3 := HF2.below hb3
  have HG3 := HG2.below hb3
  replace hb3 := below_after hb2 hb3
  clear HA2 HB2 HF2 HG2 hb2
  obtain ⟨m30, m31, m32, m33⟩ := Bk.c4 HA3
  obtain ⟨n30, n31, n32, n33⟩ := Bk.c4 HB3
  obtain ⟨o30, o31, o32, o33, o34, o35, o36, o37⟩ := Bk.c8 HF3
  obtain ⟨q30, q31, q32, q33, q34, q35, q36, q37⟩ := Bk.c8 HG3
  go_wp2_with fail
  refine (hconD _).mono ?_
  rintro x4 w4 ⟨rfl, hb4⟩
  have HA4 := HA3.below hb4
  have HB4 := HB3.below hb4
  have HF4 := HF3.below hb4
  have HG4 := HG3.below hb4
  replace hb4 := below_after hb3 hb4
  clear HA3 HB3 HF3 HG3 hb3
  obtain ⟨m40, m41, m42, m43⟩ := Bk.c4 HA4
  obtain ⟨n40, n41, n42, n43⟩ := Bk.c4 HB4
  obtain ⟨o40, o41, o42, o43, o44, o45, o46, o47⟩ := Bk.c8 HF4
  obtain ⟨q40, q41, q42, q43, q44, q45, q46, q47⟩ := Bk.c8 HG4
  go_wp2
  go_ret2
  exact ⟨rfl, hb4⟩
set_option maxRecDepth 100000 in
set_option maxHeartbeats 3200000 in
theorem implSecretFrom_s (k1 r1 s1 : Int) (t1 : ByteArray) (k2 r2 s2 : Int) (t2 : ByteArray) (w : World) (g1 : Sg.shape k1 r1 s1 = true) (g2 : Sg.shape k2 r2 s2 = true) (h1 : t1.size ≤ 1048576) (h2 : t2.size ≤ 1048576) (hv : Sg.eqn k1 (Sg.ch r1 k1 t1) r1 s1 = true) (hw : Sg.eqn k2 (Sg.ch r2 k2 t2) r2 s2 = true) (hk : k1 = k2) (hr : r1 = r2) (h : s1 = s2) : Calls Try.prog 19 #[.agg #[.int .i64 k1, .string t1, .int .i64 r1, .int .i64 s1], .agg #[.int .i64 k2, .string t2, .int .i64 r2, .int .i64 s2]] w (fun x w' => x = .returned (.tuple #[.int .i64 0, .bool false]) ∧ Below w.heap.size w w') := by
  obtain ⟨⟨hk1, _⟩, hr1, u0, u1⟩ := (Sg.shape_iff _ _ _).mp g1
  obtain ⟨⟨hk2, _⟩, hr2, v0, v1⟩ := (Sg.shape_iff _ _ _).mp g2
  obtain ⟨p0, p1⟩ := Gr.E_bd hk1
  obtain ⟨p2, p3⟩ := Gr.E_bd hr1
  obtain ⟨p4, p5⟩ := Gr.E_bd hk2
  obtain ⟨p6, p7⟩ := Gr.E_bd hr2
  obtain ⟨z0, z1⟩ := Sg.ch_bd r1 k1 t1
  obtain ⟨z2, z3⟩ := Sg.ch_bd r2 k2 t2
  have hconA := fun W => asEquation_yes k1 r1 s1 t1 W g1 h1
  have hconB := fun W => asEquation_yes k2 r2 s2 t2 W g2 h2
  have hconC := fun W => holds_any k1 (Sg.ch r1 k1 t1) r1 s1 W (by omega) (by omega) (by omega) (by omega) z0 z1 u1
  have hconD := fun W => holds_any k2 (Sg.ch r2 k2 t2) r2 s2 W (by omega) (by omega) (by omega) (by omega) z2 z3 v1
  rw [hv] at hconC
  rw [hw] at hconD
  obtain ⟨E1, HE1⟩ : ∃ E, Hid (Sg.ch r1 k1 t1 = E) := ⟨_, Lib.hid rfl⟩
  obtain ⟨E2, HE2⟩ : ∃ E, Hid (Sg.ch r2 k2 t2 = E) := ⟨_, Lib.hid rfl⟩
  rw [HE1.out] at hconA hconC z0 z1
  rw [HE2.out] at hconB hconD z2 z3
  clear g1 g2 hk1 hr1 hk2 hr2 p0 p1 p2 p3 p4 p5 p6 p7
  clear hv hw
  have h3 : (r1 == r2) = true := by simpa using hr
  have h4 : (r1 != r2) = false := by simpa using hr
  have h5 : (k1 == k2) = true := by simpa using hk
  have h6 : (k1 != k2) = false := by simpa using hk
  have h7 : (s1 == s2) = true := by simpa using h
  have hq1 := fun W => eq_sig r1 s1 r2 s2 W
  rw [h3, h7, Bool.and_true] at hq1
  have hq2 := noGuard_sig
  clear h hk hr
  have HA0 : Bk w.heap.size 40 #[.int .i64 k1, .string t1, .int .i64 r1, .int .i64 s1] ((w.alloc (.cells #[.int .i64 k1, .string t1, .int .i64 r1, .int .i64 s1] 40 (0, 0))).alloc (.cells #[.int .i64 k2, .string t2, .int .i64 r2, .int .i64 s2] 40 (0, 0))) := (Bk.new w _ _).alloc _
  have HB0 : Bk (w.heap.size + 1) 40 #[.int .i64 k2, .string t2, .int .i64 r2, .int .i64 s2] ((w.alloc (.cells #[.int .i64 k1, .string t1, .int .i64 r1, .int .i64 s1] 40 (0, 0))).alloc (.cells #[.int .i64 k2, .string t2, .int .i64 r2, .int .i64 s2] 40 (0, 0))) := Bk.new' _ _ _ _ (by simp)
  have hb0 : Below w.heap.size w ((w.alloc (.cells #[.int .i64 k1, .string t1, .int .i64 r1, .int .i64 s1] 40 (0, 0))).alloc (.cells #[.int .i64 k2, .string t2, .int .i64 r2, .int .i64 s2] 40 (0, 0))) := below_alloc (below_alloc (Below.refl _ _) _) _
  go_enter Try.func19, Try.ntmps19
  go_wp2_with fail
  refine (hconA _).mono ?_
  rintro x1 w1 ⟨rfl, hb1⟩
  have HA1 := (HA0.below hb1).alloc (.cells #[.int .i64 s1, .int .i64 1073741789, .int .i64 r1, .int .i64 2147483579, .int .i64 k1, .int .i64 2147483579, .int .i64 E1, .int .i64 1073741789] 66 (0, 0))
  have HB1 := (HB0.below hb1).alloc (.cells #[.int .i64 s1, .int .i64 1073741789, .int .i64 r1, .int .i64 2147483579, .int .i64 k1, .int .i64 2147483579, .int .i64 E1, .int .i64 1073741789] 66 (0, 0))
  have HF1 := Bk.new w1 66 #[.int .i64 s1, .int .i64 1073741789, .int .i64 r1, .int .i64 2147483579, .int .i64 k1, .int .i64 2147483579, .int .i64 E1, .int .i64 1073741789]
  replace hb1 := below_alloc (below_after hb0 hb1) (.cells #[.int .i64 s1, .int .i64 1073741789, .int .i64 r1, .int .i64 2147483579, .int .i64 k1, .int .i64 2147483579, .int .i64 E1, .int .i64 1073741789] 66 (0, 0))
  clear HA0 HB0 hb0
  obtain ⟨n10, n11, n12, n13⟩ := Bk.c4 HB1
  go_wp2_with fail
  refine (hconB _).mono ?_
  rintro x2 w2 ⟨rfl, hb2⟩
  have HA2 := (HA1.below hb2).alloc (.cells #[.int .i64 s2, .int .i64 1073741789, .int .i64 r2, .int .i64 2147483579, .int .i64 k2, .int .i64 2147483579, .int .i64 E2, .int .i64 1073741789] 66 (0, 0))
  have HB2 := (HB1.below hb2).alloc (.cells #[.int .i64 s2, .int .i64 1073741789, .int .i64 r2, .int .i64 2147483579, .int .i64 k2, .int .i64 2147483579, .int .i64 E2, .int .i64 1073741789] 66 (0, 0))
  have HF2 := (HF1.below hb2).alloc (.cells #[.int .i64 s2, .int .i64 1073741789, .int .i64 r2, .int .i64 2147483579, .int .i64 k2, .int .i64 2147483579, .int .i64 E2, .int .i64 1073741789] 66 (0, 0))
  have HG2 := Bk.new w2 66 #[.int .i64 s2, .int .i64 1073741789, .int .i64 r2, .int .i64 2147483579, .int .i64 k2, .int .i64 2147483579, .int .i64 E2, .int .i64 1073741789]
  replace hb2 := below_alloc (below_after hb1 hb2) (.cells #[.int .i64 s2, .int .i64 1073741789, .int .i64 r2, .int .i64 2147483579, .int .i64 k2, .int .i64 2147483579, .int .i64 E2, .int .i64 1073741789] 66 (0, 0))
  clear HA1 HB1 HF1 hb1
  obtain ⟨m20, m21, m22, m23⟩ := Bk.c4 HA2
  obtain ⟨n20, n21, n22, n23⟩ := Bk.c4 HB2
  obtain ⟨o20, o21, o22, o23, o24, o25, o26, o27⟩ := Bk.c8 HF2
  obtain ⟨q20, q21, q22, q23, q24, q25, q26, q27⟩ := Bk.c8 HG2
  go_wp2_with fail
  refine (hconC _).mono ?_
  rintro x3 w3 ⟨rfl, hb3⟩
  have HA3 := HA2.below hb3
  have HB3 := HB2.below hb3
  have HF3 := HF2.below hb3
  have HG3 := HG2.below hb3
  replace hb3 := below_after hb2 hb3
  clear HA2 HB2 HF2 HG2 hb2
  obtain ⟨m30, m31, m32, m33⟩ := Bk.c4 HA3
  obtain ⟨n30, n31, n32, n33⟩ := Bk.c4 HB3
  obtain ⟨o30, o31, o32, o33, o34, o35, o36, o37⟩ := Bk.c8 HF3
  obtain ⟨q30, q31, q32, q33, q34, q35, q36, q37⟩ := Bk.c8 HG3
  go_wp2_with fail
  refine (hconD _).mono ?_
  rintro x4 w4 ⟨rfl, hb4⟩
  have HA4 := HA3.below hb4
  have HB4 := HB3.below hb4
  have HF4 := HF3.below hb4
  have HG4 := HG3.below hb4
  replace hb4 := below_after hb3 hb4
  clear HA3 HB3 HF3 HG3 hb3
  obtain ⟨m40, m41, m42, m43⟩ := Bk.c4 HA4
  obtain ⟨n40, n41, n42, n43⟩ := Bk.c4 HB4
  obtain ⟨o40, o41, o42, o43, o44, o45, o46, o47⟩ := Bk.c8 HF4
  obtain ⟨q40, q41, q42, q43, q44, q45, q46, q47⟩ := Bk.c8 HG4
  go_wp2
  go_ret2
  exact ⟨rfl, hb4⟩
set_option maxRecDepth 100000 in
set_option maxHeartbeats 3200000 in
theorem implSecretFrom_yes (k1 r1 s1 : Int) (t1 : ByteArray) (k2 r2 s2 : Int) (t2 : ByteArray) (w : World) (g1 : Sg.shape k1 r1 s1 = true) (g2 : Sg.shape k2 r2 s2 = true) (h1 : t1.size ≤ 1048576) (h2 : t2.size ≤ 1048576) (hv : Sg.eqn k1 (Sg.ch r1 k1 t1) r1 s1 = true) (hw : Sg.eqn k2 (Sg.ch r2 k2 t2) r2 s2 = true) (hk : k1 = k2) (hr : r1 = r2) (h : s1 ≠ s2) :
    Calls Try.prog 19 #[.agg #[.int .i64 k1, .string t1, .int .i64 r1, .int .i64 s1], .agg #[.int .i64 k2, .string t2, .int .i64 r2, .int .i64 s2]] w fun x w' => x = .returned (.tuple #[.int .i64 (Sg.two s1 s2 (Sg.ch r1 k1 t1) (Sg.ch r2 k2 t2)), .bool true]) ∧ Below w.heap.size w w' := by
  obtain ⟨⟨hk1, _⟩, hr1, u0, u1⟩ := (Sg.shape_iff _ _ _).mp g1
  obtain ⟨⟨hk2, _⟩, hr2, v0, v1⟩ := (Sg.shape_iff _ _ _).mp g2
  obtain ⟨p0, p1⟩ := Gr.E_bd hk1
  obtain ⟨p2, p3⟩ := Gr.E_bd hr1
  obtain ⟨p4, p5⟩ := Gr.E_bd hk2
  obtain ⟨p6, p7⟩ := Gr.E_bd hr2
  obtain ⟨z0, z1⟩ := Sg.ch_bd r1 k1 t1
  obtain ⟨z2, z3⟩ := Sg.ch_bd r2 k2 t2
  have hconA := fun W => asEquation_yes k1 r1 s1 t1 W g1 h1
  have hconB := fun W => asEquation_yes k2 r2 s2 t2 W g2 h2
  have hconC := fun W => holds_any k1 (Sg.ch r1 k1 t1) r1 s1 W (by omega) (by omega) (by omega) (by omega) z0 z1 u1
  have hconD := fun W => holds_any k2 (Sg.ch r2 k2 t2) r2 s2 W (by omega) (by omega) (by omega) (by omega) z2 z3 v1
  rw [hv] at hconC
  rw [hw] at hconD
  obtain ⟨E1, HE1⟩ : ∃ E, Hid (Sg.ch r1 k1 t1 = E) := ⟨_, Lib.hid rfl⟩
  obtain ⟨E2, HE2⟩ : ∃ E, Hid (Sg.ch r2 k2 t2 = E) := ⟨_, Lib.hid rfl⟩
  rw [HE1.out] at hconA hconC z0 z1
  rw [HE2.out] at hconB hconD z2 z3
  rw [HE1.out, HE2.out]
  have hcon5 := fun W => minus_any E1 E2 1073741789 W (by omega) (by omega) z0 z1 z2 z3
  have hcon6 := fun W => minus_any s1 s2 1073741789 W (by omega) (by omega) u0 u1 v0 v1
  have HT : Hid (Sg.two s1 s2 E1 E2 = (s1 - s2 + 1073741789) % 1073741789 * Gr.pw 1073741789 ((E1 - E2 + 1073741789) % 1073741789) 1073741787 % 1073741789) := Lib.hid rfl
  rw [HT.out]
  have y0 := Int.emod_nonneg (E1 - E2 + 1073741789) (show (1073741789 : Int) ≠ 0 by decide)
  have y1 := Int.emod_lt_of_pos (E1 - E2 + 1073741789) (show (0 : Int) < 1073741789 by decide)
  have y2 := Int.emod_nonneg (s1 - s2 + 1073741789) (show (1073741789 : Int) ≠ 0 by decide)
  have y3 := Int.emod_lt_of_pos (s1 - s2 + 1073741789) (show (0 : Int) < 1073741789 by decide)
  obtain ⟨D, HD⟩ : ∃ D, Hid ((E1 - E2 + 1073741789) % 1073741789 = D) := ⟨_, Lib.hid rfl⟩
  obtain ⟨T, HT2⟩ : ∃ T, Hid ((s1 - s2 + 1073741789) % 1073741789 = T) := ⟨_, Lib.hid rfl⟩
  rw [HD.out] at hcon5 y0 y1 ⊢
  rw [HT2.out] at hcon6 y2 y3 ⊢
  have hcon7 := fun W => inverse_any D 1073741789 W (by omega) (by omega) y0 y1
  rw [show (1073741789 : Int) - 2 = 1073741787 by decide] at hcon7
  obtain ⟨i0, i1⟩ := Gr.pw_bd 1073741789 D 1073741787 (by decide)
  obtain ⟨I, HI⟩ : ∃ I, Hid (Gr.pw 1073741789 D 1073741787 = I) := ⟨_, Lib.hid rfl⟩
  rw [HI.out] at hcon7 i0 i1 ⊢
  have hcon8 := fun W => times_any T I 1073741789 W (by omega) (by omega) y2 y3 i0 i1
  obtain ⟨Z, HZ⟩ : ∃ Z, Hid (T * I % 1073741789 = Z) := ⟨_, Lib.hid rfl⟩
  rw [HZ.out] at hcon8 ⊢
  have hf := field_n Z 1073741789
  clear g1 g2 hk1 hr1 hk2 hr2 p0 p1 p2 p3 p4 p5 p6 p7
  have h3 : (r1 == r2) = true := by simpa using hr
  have h4 : (r1 != r2) = false := by simpa using hr
  have h5 : (k1 == k2) = true := by simpa using hk
  have h6 : (k1 != k2) = false := by simpa using hk
  have h7 : (s1 == s2) = false := by simpa using h
  have hq1 := fun W => eq_sig r1 s1 r2 s2 W
  rw [h3, h7, Bool.and_false] at hq1
  have hq2 := noGuard_sig
  clear h hk hr hv hw HT HD HT2 HI HZ HE1 HE2 i0 i1 y0 y1 y2 y3 u0 u1 v0 v1 z0 z1 z2 z3
  have HA0 : Bk w.heap.size 40 #[.int .i64 k1, .string t1, .int .i64 r1, .int .i64 s1] ((w.alloc (.cells #[.int .i64 k1, .string t1, .int .i64 r1, .int .i64 s1] 40 (0, 0))).alloc (.cells #[.int .i64 k2, .string t2, .int .i64 r2, .int .i64 s2] 40 (0, 0))) := (Bk.new w _ _).alloc _
  have HB0 : Bk (w.heap.size + 1) 40 #[.int .i64 k2, .string t2, .int .i64 r2, .int .i64 s2] ((w.alloc (.cells #[.int .i64 k1, .string t1, .int .i64 r1, .int .i64 s1] 40 (0, 0))).alloc (.cells #[.int .i64 k2, .string t2, .int .i64 r2, .int .i64 s2] 40 (0, 0))) := Bk.new' _ _ _ _ (by simp)
  have hb0 : Below w.heap.size w ((w.alloc (.cells #[.int .i64 k1, .string t1, .int .i64 r1, .int .i64 s1] 40 (0, 0))).alloc (.cells #[.int .i64 k2, .string t2, .int .i64 r2, .int .i64 s2] 40 (0, 0))) := below_alloc (below_alloc (Below.refl _ _) _) _
  go_enter Try.func19, Try.ntmps19
  go_wp2_with fail
  refine (hconA _).mono ?_
  rintro x1 w1 ⟨rfl, hb1⟩
  have HA1 := (HA0.below hb1).alloc (.cells #[.int .i64 s1, .int .i64 1073741789, .int .i64 r1, .int .i64 2147483579, .int .i64 k1, .int .i64 2147483579, .int .i64 E1, .int .i64 1073741789] 66 (0, 0))
  have HB1 := (HB0.below hb1).alloc (.cells #[.int .i64 s1, .int .i64 1073741789, .int .i64 r1, .int .i64 2147483579, .int .i64 k1, .int .i64 2147483579, .int .i64 E1, .int .i64 1073741789] 66 (0, 0))
  have HF1 := Bk.new w1 66 #[.int .i64 s1, .int .i64 1073741789, .int .i64 r1, .int .i64 2147483579, .int .i64 k1, .int .i64 2147483579, .int .i64 E1, .int .i64 1073741789]
  replace hb1 := below_alloc (below_after hb0 hb1) (.cells #[.int .i64 s1, .int .i64 1073741789, .int .i64 r1, .int .i64 2147483579, .int .i64 k1, .int .i64 2147483579, .int .i64 E1, .int .i64 1073741789] 66 (0, 0))
  clear HA0 HB0 hb0
  obtain ⟨n10, n11, n12, n13⟩ := Bk.c4 HB1
  go_wp2_with fail
  refine (hconB _).mono ?_
  rintro x2 w2 ⟨rfl, hb2⟩
  have HA2 := (HA1.below hb2).alloc (.cells #[.int .i64 s2, .int .i64 1073741789, .int .i64 r2, .int .i64 2147483579, .int .i64 k2, .int .i64 2147483579, .int .i64 E2, .int .i64 1073741789] 66 (0, 0))
  have HB2 := (HB1.below hb2).alloc (.cells #[.int .i64 s2, .int .i64 1073741789, .int .i64 r2, .int .i64 2147483579, .int .i64 k2, .int .i64 2147483579, .int .i64 E2, .int .i64 1073741789] 66 (0, 0))
  have HF2 := (HF1.below hb2).alloc (.cells #[.int .i64 s2, .int .i64 1073741789, .int .i64 r2, .int .i64 2147483579, .int .i64 k2, .int .i64 2147483579, .int .i64 E2, .int .i64 1073741789] 66 (0, 0))
  have HG2 := Bk.new w2 66 #[.int .i64 s2, .int .i64 1073741789, .int .i64 r2, .int .i64 2147483579, .int .i64 k2, .int .i64 2147483579, .int .i64 E2, .int .i64 1073741789]
  replace hb2 := below_alloc (below_after hb1 hb2) (.cells #[.int .i64 s2, .int .i64 1073741789, .int .i64 r2, .int .i64 2147483579, .int .i64 k2, .int .i64 2147483579, .int .i64 E2, .int .i64 1073741789] 66 (0, 0))
  clear HA1 HB1 HF1 hb1
  obtain ⟨m20, m21, m22, m23⟩ := Bk.c4 HA2
  obtain ⟨n20, n21, n22, n23⟩ := Bk.c4 HB2
  obtain ⟨o20, o21, o22, o23, o24, o25, o26, o27⟩ := Bk.c8 HF2
  obtain ⟨q20, q21, q22, q23, q24, q25, q26, q27⟩ := Bk.c8 HG2
  go_wp2_with fail
  refine (hconC _).mono ?_
  rintro x3 w3 ⟨rfl, hb3⟩
  have HA3 := HA2.below hb3
  have HB3 := HB2.below hb3
  have HF3 := HF2.below hb3
  have HG3 := HG2.below hb3
  replace hb3 := below_after hb2 hb3
  clear HA2 HB2 HF2 HG2 hb2
  obtain ⟨m30, m31, m32, m33⟩ := Bk.c4 HA3
  obtain ⟨n30, n31, n32, n33⟩ := Bk.c4 HB3
  obtain ⟨o30, o31, o32, o33, o34, o35, o36, o37⟩ := Bk.c8 HF3
  obtain ⟨q30, q31, q32, q33, q34, q35, q36, q37⟩ := Bk.c8 HG3
  go_wp2_with fail
  refine (hconD _).mono ?_
  rintro x4 w4 ⟨rfl, hb4⟩
  have HA4 := HA3.below hb4
  have HB4 := HB3.below hb4
  have HF4 := HF3.below hb4
  have HG4 := HG3.below hb4
  replace hb4 := below_after hb3 hb4
  clear HA3 HB3 HF3 HG3 hb3
  obtain ⟨m40, m41, m42, m43⟩ := Bk.c4 HA4
  obtain ⟨n40, n41, n42, n43⟩ := Bk.c4 HB4
  obtain ⟨o40, o41, o42, o43, o44, o45, o46, o47⟩ := Bk.c8 HF4
  obtain ⟨q40, q41, q42, q43, q44, q45, q46, q47⟩ := Bk.c8 HG4
  clear HA4 HB4
  go_wp2_with fail
  refine (hcon5 _).mono ?_
  rintro x5 w5 ⟨rfl, hb5⟩
  have HF5 := (HF4.below hb5).alloc (.cells #[.int .i64 D, .int .i64 1073741789] 60 (0, 0))
  have HG5 := (HG4.below hb5).alloc (.cells #[.int .i64 D, .int .i64 1073741789] 60 (0, 0))
  have HV5 := Bk.new w5 60 #[.int .i64 D, .int .i64 1073741789]
  have hc5 := below_alloc (below_after hb4 hb5) (.cells #[.int .i64 D, .int .i64 1073741789] 60 (0, 0))
  clear HF4 HG4 hb4 hb5
  have hSof : ∀ W, Bk w1.heap.size 66 #[.int .i64 s1, .int .i64 1073741789, .int .i64 r1, .int .i64 2147483579, .int .i64 k1, .int .i64 2147483579, .int .i64 E1, .int .i64 1073741789] W → Bk w2.heap.size 66 #[.int .i64 s2, .int .i64 1073741789, .int .i64 r2, .int .i64 2147483579, .int .i64 k2, .int .i64 2147483579, .int .i64 E2, .int .i64 1073741789] W → Bk w5.heap.size 60 #[.int .i64 D, .int .i64 1073741789] W → W.cell? ⟨w1.heap.size, 0, none⟩ = some (.int .i64 s1) ∧ W.cell? ⟨w1.heap.size, 1, none⟩ = some (.int .i64 1073741789) ∧ W.cell? ⟨w2.heap.size, 0, none⟩ = some (.int .i64 s2) ∧ W.cell? ⟨w2.heap.size, 1, none⟩ = some (.int .i64 1073741789) ∧ W.cell? ⟨w5.heap.size, 0, none⟩ = some (.int .i64 D) ∧ W.cell? ⟨w5.heap.size, 1, none⟩ = some (.int .i64 1073741789) := fun W h k l => ⟨h.cell 0, h.cell 1, k.cell 0, k.cell 1, l.cell 0, l.cell 1⟩
  have hS5 := hSof _ HF5.drew HG5.drew HV5.drew
  go_wp2
  go_region_held3 (fun W => W.cell? ⟨w1.heap.size, 0, none⟩ = some (.int .i64 s1) ∧ W.cell? ⟨w1.heap.size, 1, none⟩ = some (.int .i64 1073741789) ∧ W.cell? ⟨w2.heap.size, 0, none⟩ = some (.int .i64 s2) ∧ W.cell? ⟨w2.heap.size, 1, none⟩ = some (.int .i64 1073741789) ∧ W.cell? ⟨w5.heap.size, 0, none⟩ = some (.int .i64 D) ∧ W.cell? ⟨w5.heap.size, 1, none⟩ = some (.int .i64 1073741789)) (first | with_reducible exact hS5 | with_reducible exact hS6 | with_reducible exact hS7 | with_reducible exact hS8)
    (first
      | (go_at_call 44; refine (hcon6 _).mono ?_; rintro x6 w6 ⟨rfl, hb6⟩; have HF6 := HF5.drew.below hb6; have HG6 := HG5.drew.below hb6; have HV6 := HV5.drew.below hb6; have hS6 := hSof _ HF6 HG6 HV6; have hc6 := below_after hc5.drew hb6)
      | (go_at_call 45; refine (hcon7 _).mono ?_; rintro x7 w7 ⟨rfl, hb7⟩; have HF7 := HF6.below hb7; have HG7 := HG6.below hb7; have HV7 := HV6.below hb7; have hS7 := hSof _ HF7 HG7 HV7; have hc7 := below_after hc6 hb7)
      | (go_at_call 38; refine (hcon8 _).mono ?_; rintro x8 w8 ⟨rfl, hb8⟩; have HF8 := HF7.below hb8; have HG8 := HG7.below hb8; have HV8 := HV7.below hb8; have hS8 := hSof _ HF8 HG8 HV8; have hc8 := below_after hc7 hb8))
  go_wp2
  go_ret2
  exact ⟨rfl, hc8⟩
theorem implSecretFrom_any (k1 r1 s1 : Int) (t1 : ByteArray) (k2 r2 s2 : Int) (t2 : ByteArray) (w : World) (h1 : t1.size ≤ 1048576) (h2 : t2.size ≤ 1048576) :
    Calls Try.prog 19 #[.agg #[.int .i64 k1, .string t1, .int .i64 r1, .int .i64 s1], .agg #[.int .i64 k2, .string t2, .int .i64 r2, .int .i64 s2]] w fun x w' => x = .returned (.tuple #[.int .i64 (Sg.sec k1 r1 s1 t1 k2 r2 s2 t2), .bool (Sg.okTwo k1 r1 s1 t1 k2 r2 s2 t2)]) ∧ Below w.heap.size w w' := by
  have no : Sg.okTwo k1 r1 s1 t1 k2 r2 s2 t2 = false → (Calls Try.prog 19 #[.agg #[.int .i64 k1, .string t1, .int .i64 r1, .int .i64 s1], .agg #[.int .i64 k2, .string t2, .int .i64 r2, .int .i64 s2]] w (fun x w' => x = .returned (.tuple #[.int .i64 0, .bool false]) ∧ Below w.heap.size w w')) → Calls Try.prog 19 #[.agg #[.int .i64 k1, .string t1, .int .i64 r1, .int .i64 s1], .agg #[.int .i64 k2, .string t2, .int .i64 r2, .int .i64 s2]] w fun x w' => x = .returned (.tuple #[.int .i64 (Sg.sec k1 r1 s1 t1 k2 r2 s2 t2), .bool (Sg.okTwo k1 r1 s1 t1 k2 r2 s2 t2)]) ∧ Below w.heap.size w w' := by
    intro h hc
    rw [Sg.sec_no h, h]
    exact hc
  cases g1 : Sg.shape k1 r1 s1
  · exact no (by unfold Sg.okTwo; rw [Sg.ver_eq k1, g1]; simp) (implSecretFrom_a k1 r1 s1 t1 k2 r2 s2 t2 w h2 g1)
  cases g2 : Sg.shape k2 r2 s2
  · exact no (by unfold Sg.okTwo; rw [Sg.ver_eq k2, g2]; simp) (implSecretFrom_b k1 r1 s1 t1 k2 r2 s2 t2 w h1 g1 g2)
  cases hv : Sg.eqn k1 (Sg.ch r1 k1 t1) r1 s1
  · exact no (by unfold Sg.okTwo; rw [Sg.ver_eq k1, hv]; simp) (implSecretFrom_c k1 r1 s1 t1 k2 r2 s2 t2 w g1 g2 h1 h2 hv)
  cases hw : Sg.eqn k2 (Sg.ch r2 k2 t2) r2 s2
  · exact no (by unfold Sg.okTwo; rw [Sg.ver_eq k2, hw]; simp) (implSecretFrom_d k1 r1 s1 t1 k2 r2 s2 t2 w g1 g2 h1 h2 hv hw)
  have v1 : Sg.ver k1 t1 r1 s1 = true := by rw [Sg.ver_eq, g1, hv]; rfl
  have v2 : Sg.ver k2 t2 r2 s2 = true := by rw [Sg.ver_eq, g2, hw]; rfl
  by_cases hk : k1 = k2
  · by_cases hr : r1 = r2
    · by_cases hs : s1 = s2
      · have hd : Sg.ch r1 k1 t1 = Sg.ch r2 k2 t2 := by
          subst hk; subst hr
          exact (Sg.same_iff v1 v2).mp hs
        exact no (by unfold Sg.okTwo; rw [hd]; simp) (implSecretFrom_s k1 r1 s1 t1 k2 r2 s2 t2 w g1 g2 h1 h2 hv hw hk hr hs)
      · have hd : Sg.ch r1 k1 t1 ≠ Sg.ch r2 k2 t2 := by
          intro hd
          subst hk; subst hr
          exact hs ((Sg.same_iff v1 v2).mpr hd)
        have ho : Sg.okTwo k1 r1 s1 t1 k2 r2 s2 t2 = true := by unfold Sg.okTwo; rw [v1, v2, show (k1 == k2) = true by simpa using hk, show (r1 == r2) = true by simpa using hr]; simpa using hd
        have hz : Sg.sec k1 r1 s1 t1 k2 r2 s2 t2 = Sg.two s1 s2 (Sg.ch r1 k1 t1) (Sg.ch r2 k2 t2) := by unfold Sg.sec; rw [ho]; rfl
        rw [ho, hz]
        exact implSecretFrom_yes k1 r1 s1 t1 k2 r2 s2 t2 w g1 g2 h1 h2 hv hw hk hr hs
    · exact no (by unfold Sg.okTwo; rw [show (r1 == r2) = false by simpa using hr]; simp) (implSecretFrom_r k1 r1 s1 t1 k2 r2 s2 t2 w g1 g2 h1 h2 hv hw hk hr)
  · exact no (by unfold Sg.okTwo; rw [show (k1 == k2) = false by simpa using hk]; simp) (implSecretFrom_k k1 r1 s1 t1 k2 r2 s2 t2 w g1 g2 h1 h2 hv hw hk)
end Go.Proofs.Ytnjgdbfiebaomab
