/-
  Contracts of chapter 7: adaptor signatures; of the program.
-/
import Derived.Test.YtimajobbkemdbaaAd
import Derived.Test.YtimajobbkemdbaaSk
import Derived.Test.YtimajobbkemdbaaSj
namespace Go.Proofs.Ytimajobbkemdbaa
open Go.RowKit

theorem Bk.c3 {B : Nat} {t : TypeId} {u0 u1 u2 : Value} {w : World} (h : Bk B t #[u0, u1, u2] w) : w.cell? ⟨B, 0, none⟩ = some u0 ∧ w.cell? ⟨B, 1, none⟩ = some u1 ∧ w.cell? ⟨B, 2, none⟩ = some u2 :=
  ⟨h.cell 0, h.cell 1, h.cell 2⟩
theorem Bk.f3 {B : Nat} {t : TypeId} {cs : Array Value} {w : World} (h : Bk B t cs w) : w.frozen? ⟨B, 0, none⟩ = false ∧ w.frozen? ⟨B, 1, none⟩ = false ∧ w.frozen? ⟨B, 2, none⟩ = false :=
  ⟨h.fro 0, h.fro 1, h.fro 2⟩
theorem Bk.store3 {B : Nat} {t : TypeId} {u0 u1 u2 : Value} {w : World} (h : Bk B t #[u0, u1, u2] w) (v0 v1 v2 : Value) : Bk B t #[v0, v1, v2] ((((w).setCell ⟨B, 0, none⟩ v0).setCell ⟨B, 1, none⟩ v1).setCell ⟨B, 2, none⟩ v2) := by
  have h0 : Bk B t #[v0, u1, u2] ((w).setCell ⟨B, 0, none⟩ v0) := h.set 0 v0
  have h1 : Bk B t #[v0, v1, u2] (((w).setCell ⟨B, 0, none⟩ v0).setCell ⟨B, 1, none⟩ v1) := h0.set 1 v1
  have h2 : Bk B t #[v0, v1, v2] ((((w).setCell ⟨B, 0, none⟩ v0).setCell ⟨B, 1, none⟩ v1).setCell ⟨B, 2, none⟩ v2) := h1.set 2 v2
  exact h2
theorem Bk.other3 {B : Nat} {t : TypeId} {cs : Array Value} {w : World} (h : Bk B t cs w) (C : Nat) (hC : B ≠ C) (v0 v1 v2 : Value) : Bk B t cs ((((w).setCell ⟨C, 0, none⟩ v0).setCell ⟨C, 1, none⟩ v1).setCell ⟨C, 2, none⟩ v2) :=
  (((h).oset C 0 _ hC).oset C 1 _ hC).oset C 2 _ hC
theorem below_store3 {w w1 : World} (h : Below w.heap.size w w1) (B : Nat) (hB : w.heap.size ≤ B) (v0 v1 v2 : Value) : Below w.heap.size w ((((w1).setCell ⟨B, 0, none⟩ v0).setCell ⟨B, 1, none⟩ v1).setCell ⟨B, 2, none⟩ v2) :=
  (((h).setCell (p := ⟨B, 0, none⟩) hB _).setCell (p := ⟨B, 1, none⟩) hB _).setCell (p := ⟨B, 2, none⟩) hB _
set_option maxRecDepth 100000 in
set_option maxHeartbeats 1600000 in
theorem finishedR_any (r s p : Int) (w : World) :
    Calls Try.prog 59 #[.agg #[.int .i64 r, .int .i64 s, .int .i64 p]] w fun x w' => x = .returned (.tuple #[.int .i64 (Gr.mul r p), .bool (Gr.ok r && Gr.ok p)]) ∧ Below w.heap.size w w' := by
  have hcon := fun W => implGroupMul_any r p W
  obtain ⟨M, HM⟩ : ∃ M, Hid (Gr.mul r p = M) := ⟨_, Lib.hid rfl⟩
  obtain ⟨O, HO⟩ : ∃ O, Hid ((Gr.ok r && Gr.ok p) = O) := ⟨_, Lib.hid rfl⟩
  rw [HM.out, HO.out] at hcon ⊢
  have hc0 := below_alloc (Below.refl w.heap.size w) (.cells #[.int .i64 r, .int .i64 s, .int .i64 p] 26 (0, 0))
  go_enter Try.func59, Try.ntmps59
  go_wp2_with fail
  refine (hcon _).mono ?_
  rintro e1 w1 ⟨rfl, hb1⟩
  have hc1 := below_after hc0 hb1
  clear hb1
  go_wp2
  go_ret2
  exact ⟨rfl, hc1⟩
set_option maxRecDepth 100000 in
set_option maxHeartbeats 1600000 in
theorem answer_any (n e u : Int) (w : World) (n0 : 0 ≤ n) (n1 : n < 1073741789) (e0 : 0 ≤ e) (e1 : e < 1073741789) (u0 : 0 ≤ u) (u1 : u < 1073741789) :
    Calls Try.prog 39 #[.agg #[.int .i64 n, .int .i64 1073741789], .int .i64 e, .agg #[.int .i64 u, .int .i64 1073741789]] w fun x w' => x = .returned (.agg #[.int .i64 ((n + e * u) % 1073741789), .int .i64 1073741789]) ∧ Below w.heap.size w w' := by
  have HQ : Hid ((n + e * u) % 1073741789 = (n + e * u % 1073741789) % 1073741789) := Lib.hid (by omega)
  rw [HQ.out]
  have hm0 := Int.emod_nonneg (e * u) (show (1073741789 : Int) ≠ 0 by decide)
  have hm1 := Int.emod_lt_of_pos (e * u) (show (0 : Int) < 1073741789 by decide)
  have hcon1 := fun W => times_any e u 1073741789 W (by omega) (by omega) e0 e1 u0 u1
  obtain ⟨M, HM⟩ : ∃ M, Hid (e * u % 1073741789 = M) := ⟨_, Lib.hid rfl⟩
  rw [HM.out] at hcon1 hm0 hm1 ⊢
  have hcon2 := fun W => plus_any n M 1073741789 W (by omega) (by omega) n0 n1 hm0 hm1
  obtain ⟨V, HV⟩ : ∃ V, Hid ((n + M) % 1073741789 = V) := ⟨_, Lib.hid rfl⟩
  rw [HV.out] at hcon2 ⊢
  clear HQ HM HV hm0 hm1
  have HA : Bk w.heap.size 63 #[.int .i64 n, .int .i64 1073741789] (((w.alloc (.cells #[.int .i64 n, .int .i64 1073741789] 63 (0, 0))).alloc (.cells #[.int .i64 u, .int .i64 1073741789] 63 (0, 0))).alloc (.cells #[.int .i64 0, .int .i64 0] 63 (0, 0))) := ((Bk.new w _ _).alloc _).alloc _
  have HU : Bk (w.heap.size + 1) 63 #[.int .i64 u, .int .i64 1073741789] (((w.alloc (.cells #[.int .i64 n, .int .i64 1073741789] 63 (0, 0))).alloc (.cells #[.int .i64 u, .int .i64 1073741789] 63 (0, 0))).alloc (.cells #[.int .i64 0, .int .i64 0] 63 (0, 0))) := (Bk.new' _ _ _ _ (by simp)).alloc _
  have HZ : Bk (w.heap.size + 1 + 1) 63 #[.int .i64 0, .int .i64 0] (((w.alloc (.cells #[.int .i64 n, .int .i64 1073741789] 63 (0, 0))).alloc (.cells #[.int .i64 u, .int .i64 1073741789] 63 (0, 0))).alloc (.cells #[.int .i64 0, .int .i64 0] 63 (0, 0))) := Bk.new' _ _ _ _ (by simp)
  have hc0 : Below w.heap.size w (((w.alloc (.cells #[.int .i64 n, .int .i64 1073741789] 63 (0, 0))).alloc (.cells #[.int .i64 u, .int .i64 1073741789] 63 (0, 0))).alloc (.cells #[.int .i64 0, .int .i64 0] 63 (0, 0))) := below_alloc (below_alloc (below_alloc (Below.refl _ _) _) _) _
  have hSof : ∀ W, Bk w.heap.size 63 #[.int .i64 n, .int .i64 1073741789] W → Bk (w.heap.size + 1) 63 #[.int .i64 u, .int .i64 1073741789] W → W.cell? ⟨w.heap.size, 0, none⟩ = some (.int .i64 n) ∧ W.cell? ⟨w.heap.size, 1, none⟩ = some (.int .i64 1073741789) ∧ W.cell? ⟨w.heap.size + 1, 0, none⟩ = some (.int .i64 u) ∧ W.cell? ⟨w.heap.size + 1, 1, none⟩ = some (.int .i64 1073741789) := fun W h k => ⟨h.cell 0, h.cell 1, k.cell 0, k.cell 1⟩
  have hS0 := hSof _ HA.drew HU.drew
  go_enter Try.func39, Try.ntmps39
  go_wp2
  go_region_held3 (fun W => W.cell? ⟨w.heap.size, 0, none⟩ = some (.int .i64 n) ∧ W.cell? ⟨w.heap.size, 1, none⟩ = some (.int .i64 1073741789) ∧ W.cell? ⟨w.heap.size + 1, 0, none⟩ = some (.int .i64 u) ∧ W.cell? ⟨w.heap.size + 1, 1, none⟩ = some (.int .i64 1073741789)) (first | with_reducible exact hS0 | with_reducible exact hS1 | with_reducible exact hS2 | with_reducible exact hS3)
    (first
      | (go_at_call 38; refine (hcon1 _).mono ?_; rintro x1 w1 ⟨rfl, hb1⟩; have HA1 := HA.drew.below hb1; have HU1 := HU.drew.below hb1; have HZ1 := HZ.drew.below hb1; have hS1 := hSof _ HA1 HU1; have hc1 := below_after hc0.drew hb1)
      | (go_at_call 61; refine (hcon2 w1).mono ?_; rintro x2 w2 ⟨rfl, hb2⟩; have HA2 := HA1.below hb2; have HU2 := HU1.below hb2; have HZ2 := HZ1.below hb2; have hS2 := hSof _ HA2 HU2; have hc2 := below_after hc1 hb2; obtain ⟨z0, z1⟩ := Bk.c2 HZ2; obtain ⟨f0, f1⟩ := HZ2.f2; have hS3 := hSof _ (Bk.other2 HA2 (w.heap.size + 1 + 1) (by omega) (.int .i64 V) (.int .i64 1073741789)) (Bk.other2 HU2 (w.heap.size + 1 + 1) (by omega) (.int .i64 V) (.int .i64 1073741789)); have HZ3 := Bk.store2 HZ2 (.int .i64 V) (.int .i64 1073741789); have hc3 := below_store2 hc2 (w.heap.size + 1 + 1) (by omega) (.int .i64 V) (.int .i64 1073741789)))
  all_goals
    go_wp2
    refine bodyPost_ret (results_cell_row (P := Try.prog) rfl _ _ (w.heap.size + 1 + 1) 63 _ (0, 0) _ rfl HZ3.held Try.underlying63 rfl (by kernel_rfl)) rfl ?_
    exact ⟨rfl, hc3⟩
set_option maxRecDepth 100000 in
set_option maxHeartbeats 1600000 in
theorem asEquation7_no0 (key r s p : Int) (t : ByteArray) (w : World) (hf : (Gr.ok r && Gr.ok p) = false) :
    Calls Try.prog 49 #[.agg #[.int .i64 r, .int .i64 s, .int .i64 p], .int .i64 key, .string t] w fun x w' => x = .returned (.tuple #[.agg Sg.eq0, .bool false]) ∧ Below w.heap.size w w' := by
  have hcon0 := fun W => finishedR_any r s p W
  obtain ⟨F, HF⟩ : ∃ F, Hid (Gr.mul r p = F) := ⟨_, Lib.hid rfl⟩
  rw [HF.out] at hcon0
  rw [hf] at hcon0
  clear hf HF
  have HM : Bk w.heap.size 26 #[.int .i64 r, .int .i64 s, .int .i64 p] ((w.alloc (.cells #[.int .i64 r, .int .i64 s, .int .i64 p] 26 (0, 0))).alloc (.cells Sg.eq0 74 (0, 0))) := (Bk.new w _ _).alloc _
  have HZ : Bk (w.heap.size + 1) 74 Sg.eq0 ((w.alloc (.cells #[.int .i64 r, .int .i64 s, .int .i64 p] 26 (0, 0))).alloc (.cells Sg.eq0 74 (0, 0))) := Bk.new' _ _ _ _ (by simp)
  have hc0 : Below w.heap.size w ((w.alloc (.cells #[.int .i64 r, .int .i64 s, .int .i64 p] 26 (0, 0))).alloc (.cells Sg.eq0 74 (0, 0))) := below_alloc (below_alloc (Below.refl _ _) _) _
  go_enter Try.func49, Try.ntmps49
  go_wp2_with fail
  refine (hcon0 _).mono ?_
  rintro e1 w1 ⟨rfl, hb1⟩
  have HM1 := HM.below hb1
  have HZ1 := HZ.below hb1
  have hc1 := below_after hc0 hb1
  clear hb1 HM HZ hc0
  obtain ⟨z0, z1, z2, z3, z4, z5, z6, z7⟩ := Bk.c8 HZ1
  obtain ⟨f0, f1, f2, f3, f4, f5, f6, f7⟩ := HZ1.f8
  have HZ9 := Bk.store8 HZ1 (.int .i64 0) (.int .i64 0) (.int .i64 0) (.int .i64 0) (.int .i64 0) (.int .i64 0) (.int .i64 0) (.int .i64 0)
  have hc9 := below_store8 hc1 (w.heap.size + 1) (by omega) (.int .i64 0) (.int .i64 0) (.int .i64 0) (.int .i64 0) (.int .i64 0) (.int .i64 0) (.int .i64 0) (.int .i64 0)
  clear HZ1 HM1 hc1
  go_wp2
  refine bodyPost_ret (results_cell_row2 (P := Try.prog) rfl _ _ (w.heap.size + 1) 74 _ (0, 0) _ rfl HZ9.held Try.underlying74 rfl (by kernel_rfl)) rfl ?_
  exact ⟨rfl, hc9⟩
set_option maxRecDepth 100000 in
set_option maxHeartbeats 1600000 in
theorem asEquation7_no1 (key r s p : Int) (t : ByteArray) (w : World) (hf : (Gr.ok r && Gr.ok p) = true) (hk : Gr.kok key = false) :
    Calls Try.prog 49 #[.agg #[.int .i64 r, .int .i64 s, .int .i64 p], .int .i64 key, .string t] w fun x w' => x = .returned (.tuple #[.agg Sg.eq0, .bool false]) ∧ Below w.heap.size w w' := by
  have hcon0 := fun W => finishedR_any r s p W
  obtain ⟨F, HF⟩ : ∃ F, Hid (Gr.mul r p = F) := ⟨_, Lib.hid rfl⟩
  rw [HF.out] at hcon0
  rw [hf] at hcon0
  have HK := Lib.hid hk
  clear hf HF hk
  have HM : Bk w.heap.size 26 #[.int .i64 r, .int .i64 s, .int .i64 p] ((w.alloc (.cells #[.int .i64 r, .int .i64 s, .int .i64 p] 26 (0, 0))).alloc (.cells Sg.eq0 74 (0, 0))) := (Bk.new w _ _).alloc _
  have HZ : Bk (w.heap.size + 1) 74 Sg.eq0 ((w.alloc (.cells #[.int .i64 r, .int .i64 s, .int .i64 p] 26 (0, 0))).alloc (.cells Sg.eq0 74 (0, 0))) := Bk.new' _ _ _ _ (by simp)
  have hc0 : Below w.heap.size w ((w.alloc (.cells #[.int .i64 r, .int .i64 s, .int .i64 p] 26 (0, 0))).alloc (.cells Sg.eq0 74 (0, 0))) := below_alloc (below_alloc (Below.refl _ _) _) _
  go_enter Try.func49, Try.ntmps49
  go_wp2_with fail
  refine (hcon0 _).mono ?_
  rintro e1 w1 ⟨rfl, hb1⟩
  have HM1 := HM.below hb1
  have HZ1 := HZ.below hb1
  have hc1 := below_after hc0 hb1
  clear hb1 HM HZ hc0
  go_wp2_with fail
  refine (implKeyOk_any key _).mono ?_
  rw [HK.out]
  rintro e2 w2 ⟨rfl, hb2⟩
  have HM2 := HM1.below hb2
  have HZ2 := HZ1.below hb2
  have hc2 := below_after hc1 hb2
  clear hb2 HM1 HZ1 hc1
  obtain ⟨z0, z1, z2, z3, z4, z5, z6, z7⟩ := Bk.c8 HZ2
  obtain ⟨f0, f1, f2, f3, f4, f5, f6, f7⟩ := HZ2.f8
  have HZ9 := Bk.store8 HZ2 (.int .i64 0) (.int .i64 0) (.int .i64 0) (.int .i64 0) (.int .i64 0) (.int .i64 0) (.int .i64 0) (.int .i64 0)
  have hc9 := below_store8 hc2 (w.heap.size + 1) (by omega) (.int .i64 0) (.int .i64 0) (.int .i64 0) (.int .i64 0) (.int .i64 0) (.int .i64 0) (.int .i64 0) (.int .i64 0)
  clear HZ2 HM2 hc2
  go_wp2
  refine bodyPost_ret (results_cell_row2 (P := Try.prog) rfl _ _ (w.heap.size + 1) 74 _ (0, 0) _ rfl HZ9.held Try.underlying74 rfl (by kernel_rfl)) rfl ?_
  exact ⟨rfl, hc9⟩
set_option maxRecDepth 100000 in
set_option maxHeartbeats 1600000 in
theorem asEquation7_no2 (key r s p : Int) (t : ByteArray) (w : World) (hf : (Gr.ok r && Gr.ok p) = true) (hk : Gr.kok key = true) (hp : Gr.kok p = false) :
    Calls Try.prog 49 #[.agg #[.int .i64 r, .int .i64 s, .int .i64 p], .int .i64 key, .string t] w fun x w' => x = .returned (.tuple #[.agg Sg.eq0, .bool false]) ∧ Below w.heap.size w w' := by
  have hcon0 := fun W => finishedR_any r s p W
  obtain ⟨F, HF⟩ : ∃ F, Hid (Gr.mul r p = F) := ⟨_, Lib.hid rfl⟩
  rw [HF.out] at hcon0
  rw [hf] at hcon0
  have HK := Lib.hid hk
  have HP := Lib.hid hp
  clear hf HF hk hp
  have HM : Bk w.heap.size 26 #[.int .i64 r, .int .i64 s, .int .i64 p] ((w.alloc (.cells #[.int .i64 r, .int .i64 s, .int .i64 p] 26 (0, 0))).alloc (.cells Sg.eq0 74 (0, 0))) := (Bk.new w _ _).alloc _
  have HZ : Bk (w.heap.size + 1) 74 Sg.eq0 ((w.alloc (.cells #[.int .i64 r, .int .i64 s, .int .i64 p] 26 (0, 0))).alloc (.cells Sg.eq0 74 (0, 0))) := Bk.new' _ _ _ _ (by simp)
  have hc0 : Below w.heap.size w ((w.alloc (.cells #[.int .i64 r, .int .i64 s, .int .i64 p] 26 (0, 0))).alloc (.cells Sg.eq0 74 (0, 0))) := below_alloc (below_alloc (Below.refl _ _) _) _
  go_enter Try.func49, Try.ntmps49
  go_wp2_with fail
  refine (hcon0 _).mono ?_
  rintro e1 w1 ⟨rfl, hb1⟩
  have HM1 := HM.below hb1
  have HZ1 := HZ.below hb1
  have hc1 := below_after hc0 hb1
  clear hb1 HM HZ hc0
  go_wp2_with fail
  refine (implKeyOk_any key _).mono ?_
  rw [HK.out]
  rintro e2 w2 ⟨rfl, hb2⟩
  have HM2 := HM1.below hb2
  have HZ2 := HZ1.below hb2
  have hc2 := below_after hc1 hb2
  clear hb2 HM1 HZ1 hc1
  have m0 := HM2.cell 0
  have m1 := HM2.cell 1
  have m2 := HM2.cell 2
  simp at m0 m1 m2
  go_wp2_with fail
  refine (implKeyOk_any p _).mono ?_
  rw [HP.out]
  rintro e3 w3 ⟨rfl, hb3⟩
  have HM3 := HM2.below hb3
  have HZ3 := HZ2.below hb3
  have hc3 := below_after hc2 hb3
  clear hb3 HM2 HZ2 hc2
  obtain ⟨z0, z1, z2, z3, z4, z5, z6, z7⟩ := Bk.c8 HZ3
  obtain ⟨f0, f1, f2, f3, f4, f5, f6, f7⟩ := HZ3.f8
  have HZ9 := Bk.store8 HZ3 (.int .i64 0) (.int .i64 0) (.int .i64 0) (.int .i64 0) (.int .i64 0) (.int .i64 0) (.int .i64 0) (.int .i64 0)
  have hc9 := below_store8 hc3 (w.heap.size + 1) (by omega) (.int .i64 0) (.int .i64 0) (.int .i64 0) (.int .i64 0) (.int .i64 0) (.int .i64 0) (.int .i64 0) (.int .i64 0)
  clear HZ3 HM3 hc3
  go_wp2
  refine bodyPost_ret (results_cell_row2 (P := Try.prog) rfl _ _ (w.heap.size + 1) 74 _ (0, 0) _ rfl HZ9.held Try.underlying74 rfl (by kernel_rfl)) rfl ?_
  exact ⟨rfl, hc9⟩
set_option maxRecDepth 100000 in
set_option maxHeartbeats 1600000 in
theorem asEquation7_no3 (key r s p : Int) (t : ByteArray) (w : World) (hf : (Gr.ok r && Gr.ok p) = true) (hk : Gr.kok key = true) (hp : Gr.kok p = true) (hs : Sg.win s = false) :
    Calls Try.prog 49 #[.agg #[.int .i64 r, .int .i64 s, .int .i64 p], .int .i64 key, .string t] w fun x w' => x = .returned (.tuple #[.agg Sg.eq0, .bool false]) ∧ Below w.heap.size w w' := by
  have hcon0 := fun W => finishedR_any r s p W
  obtain ⟨F, HF⟩ : ∃ F, Hid (Gr.mul r p = F) := ⟨_, Lib.hid rfl⟩
  rw [HF.out] at hcon0
  rw [hf] at hcon0
  have HK := Lib.hid hk
  have HP := Lib.hid hp
  have HW := Lib.hid hs
  clear hf HF hk hp hs
  have HM : Bk w.heap.size 26 #[.int .i64 r, .int .i64 s, .int .i64 p] ((w.alloc (.cells #[.int .i64 r, .int .i64 s, .int .i64 p] 26 (0, 0))).alloc (.cells Sg.eq0 74 (0, 0))) := (Bk.new w _ _).alloc _
  have HZ : Bk (w.heap.size + 1) 74 Sg.eq0 ((w.alloc (.cells #[.int .i64 r, .int .i64 s, .int .i64 p] 26 (0, 0))).alloc (.cells Sg.eq0 74 (0, 0))) := Bk.new' _ _ _ _ (by simp)
  have hc0 : Below w.heap.size w ((w.alloc (.cells #[.int .i64 r, .int .i64 s, .int .i64 p] 26 (0, 0))).alloc (.cells Sg.eq0 74 (0, 0))) := below_alloc (below_alloc (Below.refl _ _) _) _
  go_enter Try.func49, Try.ntmps49
  go_wp2_with fail
  refine (hcon0 _).mono ?_
  rintro e1 w1 ⟨rfl, hb1⟩
  have HM1 := HM.below hb1
  have HZ1 := HZ.below hb1
  have hc1 := below_after hc0 hb1
  clear hb1 HM HZ hc0
  go_wp2_with fail
  refine (implKeyOk_any key _).mono ?_
  rw [HK.out]
  rintro e2 w2 ⟨rfl, hb2⟩
  have HM2 := HM1.below hb2
  have HZ2 := HZ1.below hb2
  have hc2 := below_after hc1 hb2
  clear hb2 HM1 HZ1 hc1
  have m0 := HM2.cell 0
  have m1 := HM2.cell 1
  have m2 := HM2.cell 2
  simp at m0 m1 m2
  go_wp2_with fail
  refine (implKeyOk_any p _).mono ?_
  rw [HP.out]
  rintro e3 w3 ⟨rfl, hb3⟩
  have HM3 := HM2.below hb3
  have HZ3 := HZ2.below hb3
  have hc3 := below_after hc2 hb3
  clear hb3 HM2 HZ2 hc2
  clear m0 m1 m2
  have m0 := HM3.cell 0
  have m1 := HM3.cell 1
  have m2 := HM3.cell 2
  simp at m0 m1 m2
  go_wp2_with fail
  refine (isScalar0_any s _).mono ?_
  rw [HW.out]
  rintro e4 w4 ⟨rfl, rfl⟩
  obtain ⟨z0, z1, z2, z3, z4, z5, z6, z7⟩ := Bk.c8 HZ3
  obtain ⟨f0, f1, f2, f3, f4, f5, f6, f7⟩ := HZ3.f8
  have HZ9 := Bk.store8 HZ3 (.int .i64 0) (.int .i64 0) (.int .i64 0) (.int .i64 0) (.int .i64 0) (.int .i64 0) (.int .i64 0) (.int .i64 0)
  have hc9 := below_store8 hc3 (w.heap.size + 1) (by omega) (.int .i64 0) (.int .i64 0) (.int .i64 0) (.int .i64 0) (.int .i64 0) (.int .i64 0) (.int .i64 0) (.int .i64 0)
  clear HZ3 HM3 hc3
  go_wp2
  refine bodyPost_ret (results_cell_row2 (P := Try.prog) rfl _ _ (w.heap.size + 1) 74 _ (0, 0) _ rfl HZ9.held Try.underlying74 rfl (by kernel_rfl)) rfl ?_
  exact ⟨rfl, hc9⟩
set_option maxRecDepth 100000 in
set_option maxHeartbeats 1600000 in
theorem asEquation7_yes (key r s p : Int) (t : ByteArray) (w : World) (hs : Ad.shape key r s p = true) (ht : t.size ≤ 1048576) :
    Calls Try.prog 49 #[.agg #[.int .i64 r, .int .i64 s, .int .i64 p], .int .i64 key, .string t] w fun x w' => x = .returned (.tuple #[.agg (Sg.eqv key (Ad.ch key t r p) r s), .bool true]) ∧ Below w.heap.size w w' := by
  unfold Ad.shape at hs
  rw [Bool.and_eq_true] at hs
  obtain ⟨h1, h2, h3⟩ := Sg.win_of hs.1
  have h4 := hs.2
  have hf : (Gr.ok r && Gr.ok p) = true := by rw [h2, Sg.kok_ok h4]; rfl
  have hF : Gr.mul r p = Ad.fin r p := Gr.mul_ok ((Gr.ok_iff r).mp h2) ((Gr.ok_iff p).mp (Sg.kok_ok h4))
  have hcon0 := fun W => finishedR_any r s p W
  rw [hf, hF] at hcon0
  have hC := fun W => implChallenge_yes (Ad.fin r p) key t W (Gr.ok_yes (Ad.fin_E ((Gr.ok_iff r).mp h2) ((Gr.ok_iff p).mp (Sg.kok_ok h4)))) (Sg.kok_ok h1) ht
  have HK := Lib.hid h1
  have HP := Lib.hid h4
  have HW := Lib.hid h3
  obtain ⟨E, HE⟩ : ∃ E, Hid (Ad.ch key t r p = E) := ⟨_, Lib.hid rfl⟩
  rw [show Sg.ch (Ad.fin r p) key t = E from HE.out] at hC
  rw [HE.out]
  obtain ⟨F, HF⟩ : ∃ F, Hid (Ad.fin r p = F) := ⟨_, Lib.hid rfl⟩
  rw [HF.out] at hC hcon0
  clear hs h1 h2 h3 h4 hf hF HE HF
  have HM : Bk w.heap.size 26 #[.int .i64 r, .int .i64 s, .int .i64 p] ((w.alloc (.cells #[.int .i64 r, .int .i64 s, .int .i64 p] 26 (0, 0))).alloc (.cells Sg.eq0 74 (0, 0))) := (Bk.new w _ _).alloc _
  have HZ : Bk (w.heap.size + 1) 74 Sg.eq0 ((w.alloc (.cells #[.int .i64 r, .int .i64 s, .int .i64 p] 26 (0, 0))).alloc (.cells Sg.eq0 74 (0, 0))) := Bk.new' _ _ _ _ (by simp)
  have hc0 : Below w.heap.size w ((w.alloc (.cells #[.int .i64 r, .int .i64 s, .int .i64 p] 26 (0, 0))).alloc (.cells Sg.eq0 74 (0, 0))) := below_alloc (below_alloc (Below.refl _ _) _) _
  go_enter Try.func49, Try.ntmps49
  go_wp2_with fail
  refine (hcon0 _).mono ?_
  rintro e1 w1 ⟨rfl, hb1⟩
  have HM1 := HM.below hb1
  have HZ1 := HZ.below hb1
  have hc1 := below_after hc0 hb1
  clear hb1 HM HZ hc0
  go_wp2_with fail
  refine (implKeyOk_any key _).mono ?_
  rw [HK.out]
  rintro e2 w2 ⟨rfl, hb2⟩
  have HM2 := HM1.below hb2
  have HZ2 := HZ1.below hb2
  have hc2 := below_after hc1 hb2
  clear hb2 HM1 HZ1 hc1
  have m0 := HM2.cell 0
  have m1 := HM2.cell 1
  have m2 := HM2.cell 2
  simp at m0 m1 m2
  go_wp2_with fail
  refine (implKeyOk_any p _).mono ?_
  rw [HP.out]
  rintro e3 w3 ⟨rfl, hb3⟩
  have HM3 := HM2.below hb3
  have HZ3 := HZ2.below hb3
  have hc3 := below_after hc2 hb3
  clear hb3 HM2 HZ2 hc2
  clear m0 m1 m2
  have m0 := HM3.cell 0
  have m1 := HM3.cell 1
  have m2 := HM3.cell 2
  simp at m0 m1 m2
  go_wp2_with fail
  refine (isScalar0_any s _).mono ?_
  rw [HW.out]
  rintro e4 w4 ⟨rfl, rfl⟩
  have hS2 := Bk.c3 HM3.drew
  go_wp2
  go_region_held3 (fun W => W.cell? ⟨w.heap.size, 0, none⟩ = some (.int .i64 r) ∧ W.cell? ⟨w.heap.size, 1, none⟩ = some (.int .i64 s) ∧ W.cell? ⟨w.heap.size, 2, none⟩ = some (.int .i64 p)) (first | with_reducible exact hS2 | with_reducible exact hS4 | with_reducible exact hS5)
    (first | (go_at_call 18; refine (hC _).mono ?_; rintro e4 w4 ⟨rfl, hb4⟩; have HM4 := HM3.drew.below hb4; have hS4 := Bk.c3 HM4; have HZ4 := HZ3.drew.below hb4; obtain ⟨z0, z1, z2, z3, z4, z5, z6, z7⟩ := Bk.c8 HZ4; obtain ⟨f0, f1, f2, f3, f4, f5, f6, f7⟩ := HZ4.f8; have hc4 := below_after hc3.drew hb4; have HZ5 := Bk.store8 HZ4 (.int .i64 s) (.int .i64 1073741789) (.int .i64 r) (.int .i64 2147483579) (.int .i64 key) (.int .i64 2147483579) (.int .i64 E) (.int .i64 1073741789); have hS5 := Bk.c3 (Bk.other8 HM4 (w.heap.size + 1) (by omega) (.int .i64 s) (.int .i64 1073741789) (.int .i64 r) (.int .i64 2147483579) (.int .i64 key) (.int .i64 2147483579) (.int .i64 E) (.int .i64 1073741789)); have hc5 := below_store8 hc4 (w.heap.size + 1) (by omega) (.int .i64 s) (.int .i64 1073741789) (.int .i64 r) (.int .i64 2147483579) (.int .i64 key) (.int .i64 2147483579) (.int .i64 E) (.int .i64 1073741789)))
  go_wp2
  refine bodyPost_ret (results_cell_row2 (P := Try.prog) rfl _ _ (w.heap.size + 1) 74 _ (0, 0) _ rfl HZ5.held Try.underlying74 rfl (by kernel_rfl)) rfl ?_
  exact ⟨rfl, hc5⟩
theorem asEquation7_no (key r s p : Int) (t : ByteArray) (w : World) (hs : Ad.shape key r s p = false) :
    Calls Try.prog 49 #[.agg #[.int .i64 r, .int .i64 s, .int .i64 p], .int .i64 key, .string t] w fun x w' => x = .returned (.tuple #[.agg Sg.eq0, .bool false]) ∧ Below w.heap.size w w' := by
  cases hf : (Gr.ok r && Gr.ok p)
  · exact asEquation7_no0 key r s p t w hf
  · cases hk : Gr.kok key
    · exact asEquation7_no1 key r s p t w hf hk
    · cases hp : Gr.kok p
      · exact asEquation7_no2 key r s p t w hf hk hp
      · cases hw : Sg.win s
        · exact asEquation7_no3 key r s p t w hf hk hp hw
        · rw [Bool.and_eq_true] at hf
          exfalso
          unfold Ad.shape Sg.shape at hs
          unfold Sg.win at hw
          rw [hk, hf.1, hp, hw] at hs
          simp at hs
set_option maxRecDepth 100000 in
set_option maxHeartbeats 1600000 in
theorem implAdaptorVerify_any (key r s p : Int) (t : ByteArray) (w : World) (ht : t.size ≤ 1048576) :
    Calls Try.prog 16 #[.int .i64 key, .string t, .agg #[.int .i64 r, .int .i64 s, .int .i64 p]] w fun x w' => x = .returned (.bool (Ad.ver key t r s p)) ∧ Below w.heap.size w w' := by
  have HQ : Hid (Ad.ver key t r s p = (Ad.shape key r s p && Sg.eqn key (Ad.ch key t r p) r s)) := Lib.hid rfl
  have hc0 := below_alloc (Below.refl w.heap.size w) (.cells #[.int .i64 r, .int .i64 s, .int .i64 p] 26 (0, 0))
  cases hs : Ad.shape key r s p
  · have hcon1 := fun W => asEquation7_no key r s p t W hs
    rw [HQ.out, hs, Bool.false_and]
    clear hs HQ
    go_enter Try.func16, Try.ntmps16
    go_wp2_with fail
    refine (hcon1 _).mono ?_
    rintro x1 w1 ⟨rfl, hb1⟩
    have hc1 := below_alloc (below_after hc0 hb1) (.cells #[.int .i64 0, .int .i64 0, .int .i64 0, .int .i64 0, .int .i64 0, .int .i64 0, .int .i64 0, .int .i64 0] 74 (0, 0))
    clear hb1 hc0 hcon1
    go_wp2
    go_ret
    exact ⟨rfl, hc1⟩
  · have hcon1 := fun W => asEquation7_yes key r s p t W hs ht
    rw [HQ.out, hs, Bool.true_and]
    have hs2 : Sg.shape key r s = true := by unfold Ad.shape at hs; rw [Bool.and_eq_true] at hs; exact hs.1
    obtain ⟨⟨hk, _⟩, hr, s0, s1⟩ := (Sg.shape_iff _ _ _).mp hs2
    obtain ⟨k0, k1⟩ := Gr.E_bd hk
    obtain ⟨r0, r1⟩ := Gr.E_bd hr
    obtain ⟨c0, c1⟩ := Ad.ch_bd key t r p
    have hcon3 := fun W => holds_any key (Ad.ch key t r p) r s W (by omega) (by omega) (by omega) (by omega) c0 c1 s1
    obtain ⟨E, HE⟩ : ∃ E, Hid (Ad.ch key t r p = E) := ⟨_, Lib.hid rfl⟩
    rw [HE.out] at hcon1 hcon3 ⊢
    obtain ⟨V, HV⟩ : ∃ V, Hid (Sg.eqn key E r s = V) := ⟨_, Lib.hid rfl⟩
    rw [HV.out] at hcon3 ⊢
    clear hs hs2 HQ hk hr s0 s1 k0 k1 r0 r1 c0 c1 HE HV
    go_enter Try.func16, Try.ntmps16
    go_wp2_with fail
    refine (hcon1 _).mono ?_
    rintro x1 w1 ⟨rfl, hb1⟩
    have hc1 := below_alloc (below_after hc0 hb1) (.cells #[.int .i64 s, .int .i64 1073741789, .int .i64 r, .int .i64 2147483579, .int .i64 key, .int .i64 2147483579, .int .i64 E, .int .i64 1073741789] 74 (0, 0))
    clear hb1 hc0 hcon1
    go_wp2_with fail
    refine (hcon3 _).mono ?_
    rintro x2 w2 ⟨rfl, hb2⟩
    have hc2 := below_after hc1 hb2
    clear hb2 hc1 hcon3
    go_wp2
    go_ret
    exact ⟨rfl, hc2⟩
end Go.Proofs.Ytimajobbkemdbaa
