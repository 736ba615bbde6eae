/-
  Contracts of chapter 5: Verify; of the program and of the model.
-/
import Derived.Test.YtimajobbkemdbaaSj
namespace Go.Proofs.Ytimajobbkemdbaa
open Go.RowKit

set_option maxRecDepth 100000 in
set_option maxHeartbeats 1600000 in
theorem l5Shape_any (key r s : Int) (w : World) :
    Calls Try.prog 56 #[.int .i64 key, .agg #[.int .i64 r, .int .i64 s]] w fun e w' => e = .returned (.bool (Sg.shape key r s)) ∧ Below w.heap.size w w' := by
  have HQ : Hid (Sg.shape key r s = (Gr.kok key && Gr.ok r && Sg.win s)) := Lib.hid rfl
  have HW : Hid (Sg.win s = (decide (0 ≤ s) && decide (s ≤ 1073741788))) := Lib.hid rfl
  cases hk : Gr.kok key
  · have HK := Lib.hid hk
    rw [HQ.out, HK.out, Bool.false_and, Bool.false_and]
    clear hk HQ HW
    go_enter Try.func56, Try.ntmps56
    go_wp2_with fail
    refine (specKeyOk_any key _).mono ?_
    rw [HK.out]
    rintro e1 w1 ⟨rfl, rfl⟩
    go_wp2
    go_ret
    exact ⟨rfl, below_alloc (Below.refl _ _) _⟩
  · have HK := Lib.hid hk
    cases hr : Gr.ok r
    · have HR := Lib.hid hr
      rw [HQ.out, HK.out, HR.out, Bool.true_and, Bool.false_and]
      clear hk hr HQ HW
      go_enter Try.func56, Try.ntmps56
      go_wp2_with fail
      refine (specKeyOk_any key _).mono ?_
      rw [HK.out]
      rintro e1 w1 ⟨rfl, rfl⟩
      go_wp2_with fail
      refine (specGroupOk_any r _).mono ?_
      rw [HR.out]
      rintro e2 w2 ⟨rfl, rfl⟩
      go_wp2
      go_ret
      exact ⟨rfl, below_alloc (Below.refl _ _) _⟩
    · have HR := Lib.hid hr
      rw [HQ.out, HK.out, HR.out, Bool.true_and, Bool.true_and]
      obtain ⟨B, HB⟩ : ∃ B, Hid (Sg.win s = B) := ⟨_, Lib.hid rfl⟩
      rw [HB.out] at HW ⊢
      have HV : Hid ((decide (0 ≤ s) && decide (s ≤ 1073741788)) = B) := Lib.hid HW.out.symm
      clear hk hr HQ HW
      go_enter Try.func56, Try.ntmps56
      go_wp2_with fail
      refine (specKeyOk_any key _).mono ?_
      rw [HK.out]
      rintro e1 w1 ⟨rfl, rfl⟩
      go_wp2_with fail
      refine (specGroupOk_any r _).mono ?_
      rw [HR.out]
      rintro e2 w2 ⟨rfl, rfl⟩
      go_wp2_with fail
      refine (l6In_any s 0 1073741788 _).mono ?_
      rw [HV.out]
      rintro e3 w3 ⟨rfl, rfl⟩
      go_wp2
      go_ret
      exact ⟨rfl, below_alloc (Below.refl _ _) _⟩
set_option maxRecDepth 100000 in
set_option maxHeartbeats 1600000 in
theorem l5Valid_any (key e r s : Int) (w : World) (k0 : 0 ≤ key) (k1 : key < 2147483579) (r0 : 0 ≤ r) (r1 : r < 2147483579) (e1 : e < 1073741789) (s1 : s < 1073741789) :
    Calls Try.prog 57 #[.int .i64 key, .int .i64 e, .agg #[.int .i64 r, .int .i64 s]] w fun x w' => x = .returned (.bool (Sg.eqn key e r s)) ∧ Below w.heap.size w w' := by
  have HQ : Hid (Sg.eqn key e r s = (Sg.gp s == Sg.rt key e r)) := Lib.hid rfl
  have HR : Hid (Sg.rt key e r = r * Gr.pw 2147483579 key e % 2147483579) := Lib.hid rfl
  have hcon1 := fun W => l4Base_any s W (by omega)
  rw [show Gr.pw 2147483579 4 s = Sg.gp s from rfl] at hcon1
  have hcon2 := fun W => l4Exp_any key e W k0 k1 (by omega)
  obtain ⟨P, HP⟩ : ∃ P, Hid (Gr.pw 2147483579 key e = P) := ⟨_, Lib.hid rfl⟩
  obtain ⟨p0, p1⟩ := Gr.pb key e
  rw [HP.out] at hcon2 HR p0 p1
  have hcon3 := fun W => l4Mul_any r P W r0 r1 p0 p1
  rw [← HR.out] at hcon3
  obtain ⟨G, HG⟩ : ∃ G, Hid (Sg.gp s = G) := ⟨_, Lib.hid rfl⟩
  obtain ⟨R, HR2⟩ : ∃ R, Hid (Sg.rt key e r = R) := ⟨_, Lib.hid rfl⟩
  rw [HG.out] at hcon1 HQ
  rw [HR2.out] at hcon3 HQ
  rw [HQ.out]
  clear HQ HR HP HG HR2 k0 k1 r0 r1 e1 s1 p0 p1
  have HE0 : Bk w.heap.size 35 #[.int .i64 r, .int .i64 s] (w.alloc (.cells #[.int .i64 r, .int .i64 s] 35 (0, 0))) := Bk.new _ _ _
  have hS0 := Bk.c2 HE0.drew
  go_enter Try.func57, Try.ntmps57
  go_wp2
  go_region_held3 (fun W => W.cell? ⟨w.heap.size, 0, none⟩ = some (.int .i64 r) ∧ W.cell? ⟨w.heap.size, 1, none⟩ = some (.int .i64 s)) (first | with_reducible exact hS0)
    (first
      | (go_at_call 43; refine (hcon1 _).mono ?_; rintro x1 w1 ⟨rfl, rfl⟩)
      | (go_at_call 71; refine (hcon2 _).mono ?_; rintro x2 w2 ⟨rfl, rfl⟩)
      | (go_at_call 45; refine (hcon3 _).mono ?_; rintro x3 w3 ⟨rfl, rfl⟩))
  go_wp2
  go_ret
  exact ⟨rfl, (below_alloc (Below.refl _ _) _).drew⟩
set_option maxRecDepth 100000 in
set_option maxHeartbeats 1600000 in
theorem specVerify_any (key r s : Int) (t : ByteArray) (w : World) (ht : t.size ≤ 1048576) :
    Calls Try.prog 66 #[.int .i64 key, .string t, .agg #[.int .i64 r, .int .i64 s]] w fun x w' => x = .returned (.bool (Sg.ver key t r s)) ∧ Below w.heap.size w w' := by
  have HQ : Hid (Sg.ver key t r s = (Sg.shape key r s && Sg.eqn key (Sg.ch r key t) r s)) := Lib.hid rfl
  have HE0 : Bk w.heap.size 35 #[.int .i64 r, .int .i64 s] (w.alloc (.cells #[.int .i64 r, .int .i64 s] 35 (0, 0))) := Bk.new _ _ _
  have hc0 := below_alloc (Below.refl w.heap.size w) (.cells #[.int .i64 r, .int .i64 s] 35 (0, 0))
  have hS0 := Bk.c2 HE0.drew
  have hcon1 := l5Shape_any key r s
  cases hs : Sg.shape key r s
  · rw [HQ.out, hs, Bool.false_and]
    rw [hs] at hcon1
    clear hs HQ
    go_enter Try.func66, Try.ntmps66
    go_wp2
    refine wp_region_noPanic ?_
    refine wp_region_held_drew (S := fun W => W.cell? ⟨w.heap.size, 0, none⟩ = some (.int .i64 r) ∧ W.cell? ⟨w.heap.size, 1, none⟩ = some (.int .i64 s)) (by kernel_rfl) hS0 (fun hH => ?_)
    refine wpAnyH_take (i := 0) (v := .int .i64 key) rfl (by kernel_rfl) (by kernel_rfl) (by kernel_rfl) (fun _ _ _ h => h) (Or.inl ⟨by rfl, fun W hW => by go_simp⟩) (by assumption) ?_
    refine wpAnyH_take (i := 1) (v := .agg #[.int .i64 r, .int .i64 s]) rfl (by kernel_rfl) (by kernel_rfl) (by kernel_rfl) (fun _ _ _ h => h) (Or.inl ⟨by rfl, fun W hW => by obtain ⟨c0, c1⟩ := hW; go_simp⟩) (by assumption) ?_
    refine wpAnyH_ready (rs := [2]) (by kernel_rfl) (by simp) ?_
    refine AllReadyH.cons rfl (fun K hK => ?_) AllReadyH.nil
    go_simp
    go_wp2_with (go_at_call 56; refine (hcon1 _).mono ?_; rintro x1 w1 ⟨rfl, hb1⟩; have HE1 := HE0.drew.below hb1; have hS1 := Bk.c2 HE1; have hc1 := below_after hc0.drew hb1)
    refine hK.out _ _ hS1 (fun hH1 => ?_)
    clear hK K
    refine wpAnyH_take (i := 3) (v := .bool false) rfl (by kernel_rfl) (by kernel_rfl) (by kernel_rfl) (fun _ _ _ h => h) (Or.inl ⟨by rfl, fun W hW => by go_simp⟩) (by assumption) ?_
    simp only [Act.put, List.getElem_toArray, List.getElem_cons_succ, List.getElem_cons_zero, List.setIfInBounds_toArray, List.set_cons_zero, List.set_cons_succ]
    refine wpAnyH_take (i := 4) (v := undef) rfl (by kernel_rfl) (by kernel_rfl) (by kernel_rfl) (fun _ _ _ h => h) (Or.inr ⟨rfl, rfl⟩) (by assumption) ?_
    simp only [Act.put, List.getElem_toArray, List.getElem_cons_succ, List.getElem_cons_zero, List.setIfInBounds_toArray, List.set_cons_zero, List.set_cons_succ]
    refine wpAnyH_take (i := 5) (v := undef) rfl (by kernel_rfl) (by kernel_rfl) (by kernel_rfl) (fun _ _ _ h => h) (Or.inr ⟨rfl, rfl⟩) (by assumption) ?_
    simp only [Act.put, List.getElem_toArray, List.getElem_cons_succ, List.getElem_cons_zero, List.setIfInBounds_toArray, List.set_cons_zero, List.set_cons_succ]
    refine wpAnyH_take (i := 6) (v := undef) rfl (by kernel_rfl) (by kernel_rfl) (by kernel_rfl) (fun _ _ _ h => h) (Or.inr ⟨rfl, rfl⟩) (by assumption) ?_
    simp only [Act.put, List.getElem_toArray, List.getElem_cons_succ, List.getElem_cons_zero, List.setIfInBounds_toArray, List.set_cons_zero, List.set_cons_succ]
    refine wpAnyH_take (i := 7) (v := undef) rfl (by kernel_rfl) (by kernel_rfl) (by kernel_rfl) (fun _ _ _ h => h) (Or.inr ⟨rfl, rfl⟩) (by assumption) ?_
    simp only [Act.put, List.getElem_toArray, List.getElem_cons_succ, List.getElem_cons_zero, List.setIfInBounds_toArray, List.set_cons_zero, List.set_cons_succ]
    refine wpAnyH_take (i := 8) (v := undef) rfl (by kernel_rfl) (by kernel_rfl) (by kernel_rfl) (fun _ _ _ h => h) (Or.inr ⟨rfl, rfl⟩) (by assumption) ?_
    simp only [Act.put, List.getElem_toArray, List.getElem_cons_succ, List.getElem_cons_zero, List.setIfInBounds_toArray, List.set_cons_zero, List.set_cons_succ]
    refine wpAnyH_take (i := 9) (v := undef) rfl (by kernel_rfl) (by kernel_rfl) (by kernel_rfl) (fun _ _ _ h => h) (Or.inr ⟨rfl, rfl⟩) (by assumption) ?_
    simp only [Act.put, List.getElem_toArray, List.getElem_cons_succ, List.getElem_cons_zero, List.setIfInBounds_toArray, List.set_cons_zero, List.set_cons_succ]
    refine wpAnyH_take (i := 10) (v := undef) rfl (by kernel_rfl) (by kernel_rfl) (by kernel_rfl) (fun _ _ _ h => h) (Or.inr ⟨rfl, rfl⟩) (by assumption) ?_
    simp only [Act.put, List.getElem_toArray, List.getElem_cons_succ, List.getElem_cons_zero, List.setIfInBounds_toArray, List.set_cons_zero, List.set_cons_succ]
    refine wpAnyH_take (i := 11) (v := undef) rfl (by kernel_rfl) (by kernel_rfl) (by kernel_rfl) (fun _ _ _ h => h) (Or.inr ⟨rfl, rfl⟩) (by assumption) ?_
    simp only [Act.put, List.getElem_toArray, List.getElem_cons_succ, List.getElem_cons_zero, List.setIfInBounds_toArray, List.set_cons_zero, List.set_cons_succ]
    refine wpAnyH_take (i := 12) (v := .bool false) rfl (by kernel_rfl) (by kernel_rfl) (by kernel_rfl) (fun _ _ _ h => h) (Or.inl ⟨by rfl, fun W hW => by go_simp⟩) (by assumption) ?_
    simp only [Act.put, List.getElem_toArray, List.getElem_cons_succ, List.getElem_cons_zero, List.setIfInBounds_toArray, List.set_cons_zero, List.set_cons_succ]
    refine wpAnyH_take (i := 13) (v := .bool false) rfl (by kernel_rfl) (by kernel_rfl) (by kernel_rfl) (fun _ _ _ h => h) (Or.inl ⟨by rfl, fun W hW => by go_simp⟩) (by assumption) ?_
    simp only [Act.put, List.getElem_toArray, List.getElem_cons_succ, List.getElem_cons_zero, List.setIfInBounds_toArray, List.set_cons_zero, List.set_cons_succ]
    refine wpAnyH_done (by kernel_rfl) ?_ _
    refine NoPanic.normal ?_
    go_wp2
    go_ret
    exact ⟨rfl, hc1⟩
  · rw [HQ.out, hs, Bool.true_and]
    rw [hs] at hcon1
    obtain ⟨⟨hk, _⟩, hr, s0, s1⟩ := (Sg.shape_iff _ _ _).mp hs
    obtain ⟨k0, k1⟩ := Gr.E_bd hk
    obtain ⟨r0, r1⟩ := Gr.E_bd hr
    obtain ⟨c0, c1⟩ := Sg.ch_bd r key t
    have hcon2 := fun W => l5Challenge_any r key t W (by omega) (by omega) (by omega) (by omega) ht
    have hcon3 := fun W => l5Valid_any key (Sg.ch r key t) r s W (by omega) (by omega) (by omega) (by omega) c1 s1
    obtain ⟨C, HC⟩ : ∃ C, Hid (Sg.ch r key t = C) := ⟨_, Lib.hid rfl⟩
    rw [HC.out] at hcon2 hcon3 ⊢
    obtain ⟨V, HV⟩ : ∃ V, Hid (Sg.eqn key C r s = V) := ⟨_, Lib.hid rfl⟩
    rw [HV.out] at hcon3 ⊢
    clear hs HQ hk hr s0 s1 k0 k1 r0 r1 c0 c1 HC HV
    go_enter Try.func66, Try.ntmps66
    go_wp2
    go_region_held3 (fun W => W.cell? ⟨w.heap.size, 0, none⟩ = some (.int .i64 r) ∧ W.cell? ⟨w.heap.size, 1, none⟩ = some (.int .i64 s)) (first | with_reducible exact hS0 | with_reducible exact hS1 | with_reducible exact hS2 | with_reducible exact hS3)
      (first
        | (go_at_call 56; refine (hcon1 _).mono ?_; rintro x1 w1 ⟨rfl, hb1⟩; have HE1 := HE0.drew.below hb1; have hS1 := Bk.c2 HE1; have hc1 := below_after hc0.drew hb1)
        | (go_at_call 44; refine (hcon2 _).mono ?_; rintro x2 w2 ⟨rfl, hb2⟩; have HE2 := HE1.below hb2; have hS2 := Bk.c2 HE2; have hc2 := below_after hc1 hb2)
        | (go_at_call 57; refine (hcon3 _).mono ?_; rintro x3 w3 ⟨rfl, hb3⟩; have HE3 := HE2.below hb3; have hS3 := Bk.c2 HE3; have hc3 := below_after hc2 hb3))
    go_wp2
    go_ret
    exact ⟨rfl, hc3⟩
set_option maxRecDepth 100000 in
set_option maxHeartbeats 1600000 in
theorem implVerify_any (key r s : Int) (t : ByteArray) (w : World) (ht : t.size ≤ 1048576) :
    Calls Try.prog 17 #[.int .i64 key, .string t, .agg #[.int .i64 r, .int .i64 s]] w fun x w' => x = .returned (.bool (Sg.ver key t r s)) ∧ Below w.heap.size w w' := by
  have HQ : Hid (Sg.ver key t r s = (Sg.shape key r s && Sg.eqn key (Sg.ch r key t) r s)) := Lib.hid rfl
  have hc0 := below_alloc (Below.refl w.heap.size w) (.cells #[.int .i64 r, .int .i64 s] 35 (0, 0))
  cases hs : Sg.shape key r s
  · have hcon1 := fun W => asEquation_no key r s t W hs
    rw [HQ.out, hs, Bool.false_and]
    clear hs HQ
    go_enter Try.func17, Try.ntmps17
    go_wp2_with fail
    refine (hcon1 _).mono ?_
    rintro x1 w1 ⟨rfl, hb1⟩
    have hc1 := below_alloc (below_after hc0 hb1) (.cells #[.int .i64 0, .int .i64 0, .int .i64 0, .int .i64 0, .int .i64 0, .int .i64 0, .int .i64 0, .int .i64 0] 74 (0, 0))
    clear hb1 hc0 hcon1
    go_wp2
    go_ret
    exact ⟨rfl, hc1⟩
  · have hcon1 := fun W => asEquation_yes key r s t W hs ht
    rw [HQ.out, hs, Bool.true_and]
    obtain ⟨⟨hk, _⟩, hr, s0, s1⟩ := (Sg.shape_iff _ _ _).mp hs
    obtain ⟨k0, k1⟩ := Gr.E_bd hk
    obtain ⟨r0, r1⟩ := Gr.E_bd hr
    obtain ⟨c0, c1⟩ := Sg.ch_bd r key t
    have hcon3 := fun W => holds_any key (Sg.ch r key t) r s W (by omega) (by omega) (by omega) (by omega) c0 c1 s1
    obtain ⟨E, HE⟩ : ∃ E, Hid (Sg.ch r key t = E) := ⟨_, Lib.hid rfl⟩
    rw [HE.out] at hcon1 hcon3 ⊢
    obtain ⟨V, HV⟩ : ∃ V, Hid (Sg.eqn key E r s = V) := ⟨_, Lib.hid rfl⟩
    rw [HV.out] at hcon3 ⊢
    clear hs HQ hk hr s0 s1 k0 k1 r0 r1 c0 c1 HE HV
    go_enter Try.func17, Try.ntmps17
    go_wp2_with fail
    refine (hcon1 _).mono ?_
    rintro x1 w1 ⟨rfl, hb1⟩
    have hc1 := below_alloc (below_after hc0 hb1) (.cells #[.int .i64 s, .int .i64 1073741789, .int .i64 r, .int .i64 2147483579, .int .i64 key, .int .i64 2147483579, .int .i64 E, .int .i64 1073741789] 74 (0, 0))
    clear hb1 hc0 hcon1
    go_wp2_with fail
    refine (hcon3 _).mono ?_
    rintro x2 w2 ⟨rfl, hb2⟩
    have hc2 := below_after hc1 hb2
    clear hb2 hc1 hcon3
    go_wp2
    go_ret
    exact ⟨rfl, hc2⟩
end Go.Proofs.Ytimajobbkemdbaa
