/-
  Contracts of chapter 7: verifying and revealing; of the model.
-/
import Derived.Test.YtimajobbkemdbaaAi
import Derived.Test.YtimajobbkemdbaaAh
namespace Go.Proofs.Ytimajobbkemdbaa
open Go.RowKit

set_option maxRecDepth 100000 in
set_option maxHeartbeats 1600000 in
theorem specAdaptorVerify_any (key r s p : Int) (t : ByteArray) (w : World) (ht : t.size ≤ 1048576) :
    Calls Try.prog 20 #[.int .i64 key, .string t, .agg #[.int .i64 r, .int .i64 s, .int .i64 p]] w fun x w' => x = .returned (.bool (Ad.ver key t r s p)) ∧ Below w.heap.size w w' := by
  have HQ : Hid (Ad.ver key t r s p = ((Sg.shape key r s && Gr.kok p) && Sg.eqn key (Ad.ch key t r p) r s)) := Lib.hid rfl
  have HA0 : Bk w.heap.size 26 #[.int .i64 r, .int .i64 s, .int .i64 p] ((w.alloc (.cells #[.int .i64 r, .int .i64 s, .int .i64 p] 26 (0, 0))).alloc (.cells #[.int .i64 r, .int .i64 s] 35 (0, 0))) := (Bk.new w _ _).alloc _
  have HG0 : Bk (w.heap.size + 1) 35 #[.int .i64 r, .int .i64 s] ((w.alloc (.cells #[.int .i64 r, .int .i64 s, .int .i64 p] 26 (0, 0))).alloc (.cells #[.int .i64 r, .int .i64 s] 35 (0, 0))) := Bk.new' _ _ _ _ (by simp)
  have hc0 : Below w.heap.size w ((w.alloc (.cells #[.int .i64 r, .int .i64 s, .int .i64 p] 26 (0, 0))).alloc (.cells #[.int .i64 r, .int .i64 s] 35 (0, 0))) := below_alloc (below_alloc (Below.refl _ _) _) _
  have hSof : ∀ W, Bk w.heap.size 26 #[.int .i64 r, .int .i64 s, .int .i64 p] W → Bk (w.heap.size + 1) 35 #[.int .i64 r, .int .i64 s] W → W.cell? ⟨w.heap.size, 0, none⟩ = some (.int .i64 r) ∧ W.cell? ⟨w.heap.size, 1, none⟩ = some (.int .i64 s) ∧ W.cell? ⟨w.heap.size, 2, none⟩ = some (.int .i64 p) ∧ W.cell? ⟨w.heap.size + 1, 0, none⟩ = some (.int .i64 r) ∧ W.cell? ⟨w.heap.size + 1, 1, none⟩ = some (.int .i64 s) := fun W h k => ⟨h.cell 0, h.cell 1, h.cell 2, k.cell 0, k.cell 1⟩
  have hS0 := hSof _ HA0.drew HG0.drew
  have hcon1 := fun W => l5Shape_any key r s W
  have hcon2 := fun W => specKeyOk_any p W
  cases hs : Sg.shape key r s
  · rw [HQ.out, hs, Bool.false_and, Bool.false_and]
    rw [hs] at hcon1
    clear hs HQ hcon2
    go_enter Try.func20, Try.ntmps20
    go_wp2
    refine wp_region_noPanic ?_
    refine wp_region_held_drew (S := fun W => W.cell? ⟨w.heap.size, 0, none⟩ = some (.int .i64 r) ∧ W.cell? ⟨w.heap.size, 1, none⟩ = some (.int .i64 s) ∧ W.cell? ⟨w.heap.size, 2, none⟩ = some (.int .i64 p) ∧ W.cell? ⟨w.heap.size + 1, 0, none⟩ = some (.int .i64 r) ∧ W.cell? ⟨w.heap.size + 1, 1, none⟩ = some (.int .i64 s)) (by kernel_rfl) hS0 (fun hH => ?_)
    refine wpAnyH_take (i := 0) (v := .int .i64 key) rfl (by kernel_rfl) (by kernel_rfl) (by kernel_rfl) (fun _ _ _ h => h) (Or.inl ⟨by rfl, fun W hW => by go_simp⟩) (by assumption) ?_
    simp only [Act.put, List.getElem_toArray, List.getElem_cons_zero, List.setIfInBounds_toArray, List.set_cons_zero, List.set_cons_succ]
    refine wpAnyH_take (i := 1) (v := .agg #[.int .i64 r, .int .i64 s]) rfl (by kernel_rfl) (by kernel_rfl) (by kernel_rfl) (fun _ _ _ h => h) (Or.inl ⟨by rfl, fun W hW => by obtain ⟨_, _, _, c0, c1⟩ := hW; go_simp⟩) (by assumption) ?_
    simp only [Act.put, List.getElem_toArray, List.getElem_cons_succ, List.getElem_cons_zero, List.setIfInBounds_toArray, List.set_cons_zero, List.set_cons_succ]
    refine wpAnyH_ready (rs := [2]) (by kernel_rfl) (by simp) ?_
    refine AllReadyH.cons rfl (fun K1 hK1 => ?_) AllReadyH.nil
    go_simp
    go_wp2_with (go_at_call 56; refine (hcon1 _).mono ?_; rintro x1 w1 ⟨rfl, hb1⟩; have HA1 := HA0.drew.below hb1; have HG1 := HG0.drew.below hb1; have hS1 := hSof _ HA1 HG1; have hc1 := below_after hc0.drew hb1)
    refine hK1.out _ _ hS1 (fun hH1 => ?_)
    clear hK1 K1
    try simp only [Act.put, List.getElem_toArray, List.getElem_cons_succ, List.getElem_cons_zero, List.setIfInBounds_toArray, List.set_cons_zero, List.set_cons_succ]
    refine wpAnyH_take (i := 3) (v := .bool false) rfl (by kernel_rfl) (by kernel_rfl) (by kernel_rfl) (fun _ _ _ h => h) (Or.inl ⟨by rfl, fun W hW => by go_simp⟩) (by assumption) ?_
    simp only [Act.put, List.getElem_toArray, List.getElem_cons_succ, List.getElem_cons_zero, List.setIfInBounds_toArray, List.set_cons_zero, List.set_cons_succ]
    refine wpAnyH_take (i := 4) (v := undef) rfl (by kernel_rfl) (by kernel_rfl) (by kernel_rfl) (fun _ _ _ h => h) (Or.inr ⟨rfl, rfl⟩) (by assumption) ?_
    simp only [Act.put, List.getElem_toArray, List.getElem_cons_succ, List.getElem_cons_zero, List.setIfInBounds_toArray, List.set_cons_zero, List.set_cons_succ]
    refine wpAnyH_take (i := 5) (v := undef) rfl (by kernel_rfl) (by kernel_rfl) (by kernel_rfl) (fun _ _ _ h => h) (Or.inr ⟨rfl, rfl⟩) (by assumption) ?_
    simp only [Act.put, List.getElem_toArray, List.getElem_cons_succ, List.getElem_cons_zero, List.setIfInBounds_toArray, List.set_cons_zero, List.set_cons_succ]
    refine wpAnyH_take (i := 6) (v := undef) rfl (by kernel_rfl) (by kernel_rfl) (by kernel_rfl) (fun _ _ _ h => h) (Or.inr ⟨rfl, rfl⟩) (by assumption) ?_
    simp only [Act.put, List.getElem_toArray, List.getElem_cons_succ, List.getElem_cons_zero, List.setIfInBounds_toArray, List.set_cons_zero, List.set_cons_succ]
    refine wpAnyH_take (i := 7) (v := .bool false) rfl (by kernel_rfl) (by kernel_rfl) (by kernel_rfl) (fun _ _ _ h => h) (Or.inl ⟨by rfl, fun W hW => by go_simp⟩) (by assumption) ?_
    simp only [Act.put, List.getElem_toArray, List.getElem_cons_succ, List.getElem_cons_zero, List.setIfInBounds_toArray, List.set_cons_zero, List.set_cons_succ]
    refine wpAnyH_take (i := 8) (v := .bool false) rfl (by kernel_rfl) (by kernel_rfl) (by kernel_rfl) (fun _ _ _ h => h) (Or.inl ⟨by rfl, fun W hW => by go_simp⟩) (by assumption) ?_
    simp only [Act.put, List.getElem_toArray, List.getElem_cons_succ, List.getElem_cons_zero, List.setIfInBounds_toArray, List.set_cons_zero, List.set_cons_succ]
    refine wpAnyH_take (i := 9) (v := undef) rfl (by kernel_rfl) (by kernel_rfl) (by kernel_rfl) (fun _ _ _ h => h) (Or.inr ⟨rfl, rfl⟩) (by assumption) ?_
    simp only [Act.put, List.getElem_toArray, List.getElem_cons_succ, List.getElem_cons_zero, List.setIfInBounds_toArray, List.set_cons_zero, List.set_cons_succ]
    refine wpAnyH_take (i := 10) (v := undef) rfl (by kernel_rfl) (by kernel_rfl) (by kernel_rfl) (fun _ _ _ h => h) (Or.inr ⟨rfl, rfl⟩) (by assumption) ?_
    simp only [Act.put, List.getElem_toArray, List.getElem_cons_succ, List.getElem_cons_zero, List.setIfInBounds_toArray, List.set_cons_zero, List.set_cons_succ]
    refine wpAnyH_take (i := 11) (v := undef) rfl (by kernel_rfl) (by kernel_rfl) (by kernel_rfl) (fun _ _ _ h => h) (Or.inr ⟨rfl, rfl⟩) (by assumption) ?_
    simp only [Act.put, List.getElem_toArray, List.getElem_cons_succ, List.getElem_cons_zero, List.setIfInBounds_toArray, List.set_cons_zero, List.set_cons_succ]
    refine wpAnyH_take (i := 12) (v := undef) rfl (by kernel_rfl) (by kernel_rfl) (by kernel_rfl) (fun _ _ _ h => h) (Or.inr ⟨rfl, rfl⟩) (by assumption) ?_
    simp only [Act.put, List.getElem_toArray, List.getElem_cons_succ, List.getElem_cons_zero, List.setIfInBounds_toArray, List.set_cons_zero, List.set_cons_succ]
    refine wpAnyH_take (i := 13) (v := undef) rfl (by kernel_rfl) (by kernel_rfl) (by kernel_rfl) (fun _ _ _ h => h) (Or.inr ⟨rfl, rfl⟩) (by assumption) ?_
    simp only [Act.put, List.getElem_toArray, List.getElem_cons_succ, List.getElem_cons_zero, List.setIfInBounds_toArray, List.set_cons_zero, List.set_cons_succ]
    refine wpAnyH_take (i := 14) (v := undef) rfl (by kernel_rfl) (by kernel_rfl) (by kernel_rfl) (fun _ _ _ h => h) (Or.inr ⟨rfl, rfl⟩) (by assumption) ?_
    simp only [Act.put, List.getElem_toArray, List.getElem_cons_succ, List.getElem_cons_zero, List.setIfInBounds_toArray, List.set_cons_zero, List.set_cons_succ]
    refine wpAnyH_take (i := 15) (v := undef) rfl (by kernel_rfl) (by kernel_rfl) (by kernel_rfl) (fun _ _ _ h => h) (Or.inr ⟨rfl, rfl⟩) (by assumption) ?_
    simp only [Act.put, List.getElem_toArray, List.getElem_cons_succ, List.getElem_cons_zero, List.setIfInBounds_toArray, List.set_cons_zero, List.set_cons_succ]
    refine wpAnyH_take (i := 16) (v := undef) rfl (by kernel_rfl) (by kernel_rfl) (by kernel_rfl) (fun _ _ _ h => h) (Or.inr ⟨rfl, rfl⟩) (by assumption) ?_
    simp only [Act.put, List.getElem_toArray, List.getElem_cons_succ, List.getElem_cons_zero, List.setIfInBounds_toArray, List.set_cons_zero, List.set_cons_succ]
    refine wpAnyH_take (i := 17) (v := undef) rfl (by kernel_rfl) (by kernel_rfl) (by kernel_rfl) (fun _ _ _ h => h) (Or.inr ⟨rfl, rfl⟩) (by assumption) ?_
    simp only [Act.put, List.getElem_toArray, List.getElem_cons_succ, List.getElem_cons_zero, List.setIfInBounds_toArray, List.set_cons_zero, List.set_cons_succ]
    refine wpAnyH_take (i := 18) (v := undef) rfl (by kernel_rfl) (by kernel_rfl) (by kernel_rfl) (fun _ _ _ h => h) (Or.inr ⟨rfl, rfl⟩) (by assumption) ?_
    simp only [Act.put, List.getElem_toArray, List.getElem_cons_succ, List.getElem_cons_zero, List.setIfInBounds_toArray, List.set_cons_zero, List.set_cons_succ]
    refine wpAnyH_take (i := 19) (v := undef) rfl (by kernel_rfl) (by kernel_rfl) (by kernel_rfl) (fun _ _ _ h => h) (Or.inr ⟨rfl, rfl⟩) (by assumption) ?_
    simp only [Act.put, List.getElem_toArray, List.getElem_cons_succ, List.getElem_cons_zero, List.setIfInBounds_toArray, List.set_cons_zero, List.set_cons_succ]
    refine wpAnyH_take (i := 20) (v := .bool false) rfl (by kernel_rfl) (by kernel_rfl) (by kernel_rfl) (fun _ _ _ h => h) (Or.inl ⟨by rfl, fun W hW => by go_simp⟩) (by assumption) ?_
    simp only [Act.put, List.getElem_toArray, List.getElem_cons_succ, List.getElem_cons_zero, List.setIfInBounds_toArray, List.set_cons_zero, List.set_cons_succ]
    refine wpAnyH_take (i := 21) (v := .bool false) rfl (by kernel_rfl) (by kernel_rfl) (by kernel_rfl) (fun _ _ _ h => h) (Or.inl ⟨by rfl, fun W hW => by go_simp⟩) (by assumption) ?_
    simp only [Act.put, List.getElem_toArray, List.getElem_cons_succ, List.getElem_cons_zero, List.setIfInBounds_toArray, List.set_cons_zero, List.set_cons_succ]
    refine wpAnyH_done (by kernel_rfl) ?_ _
    refine NoPanic.normal ?_
    go_wp2
    go_ret
    exact ⟨rfl, hc1⟩
  cases hp : Gr.kok p
  · rw [HQ.out, hs, hp, Bool.true_and, Bool.false_and]
    rw [hs] at hcon1
    rw [hp] at hcon2
    clear hs hp HQ
    go_enter Try.func20, Try.ntmps20
    go_wp2
    refine wp_region_noPanic ?_
    refine wp_region_held_drew (S := fun W => W.cell? ⟨w.heap.size, 0, none⟩ = some (.int .i64 r) ∧ W.cell? ⟨w.heap.size, 1, none⟩ = some (.int .i64 s) ∧ W.cell? ⟨w.heap.size, 2, none⟩ = some (.int .i64 p) ∧ W.cell? ⟨w.heap.size + 1, 0, none⟩ = some (.int .i64 r) ∧ W.cell? ⟨w.heap.size + 1, 1, none⟩ = some (.int .i64 s)) (by kernel_rfl) hS0 (fun hH => ?_)
    refine wpAnyH_take (i := 0) (v := .int .i64 key) rfl (by kernel_rfl) (by kernel_rfl) (by kernel_rfl) (fun _ _ _ h => h) (Or.inl ⟨by rfl, fun W hW => by go_simp⟩) (by assumption) ?_
    simp only [Act.put, List.getElem_toArray, List.getElem_cons_zero, List.setIfInBounds_toArray, List.set_cons_zero, List.set_cons_succ]
    refine wpAnyH_take (i := 1) (v := .agg #[.int .i64 r, .int .i64 s]) rfl (by kernel_rfl) (by kernel_rfl) (by kernel_rfl) (fun _ _ _ h => h) (Or.inl ⟨by rfl, fun W hW => by obtain ⟨_, _, _, c0, c1⟩ := hW; go_simp⟩) (by assumption) ?_
    simp only [Act.put, List.getElem_toArray, List.getElem_cons_succ, List.getElem_cons_zero, List.setIfInBounds_toArray, List.set_cons_zero, List.set_cons_succ]
    refine wpAnyH_ready (rs := [2]) (by kernel_rfl) (by simp) ?_
    refine AllReadyH.cons rfl (fun K1 hK1 => ?_) AllReadyH.nil
    go_simp
    go_wp2_with (go_at_call 56; refine (hcon1 _).mono ?_; rintro x1 w1 ⟨rfl, hb1⟩; have HA1 := HA0.drew.below hb1; have HG1 := HG0.drew.below hb1; have hS1 := hSof _ HA1 HG1; have hc1 := below_after hc0.drew hb1)
    refine hK1.out _ _ hS1 (fun hH1 => ?_)
    clear hK1 K1
    try simp only [Act.put, List.getElem_toArray, List.getElem_cons_succ, List.getElem_cons_zero, List.setIfInBounds_toArray, List.set_cons_zero, List.set_cons_succ]
    refine wpAnyH_take (i := 3) (v := .bool true) rfl (by kernel_rfl) (by kernel_rfl) (by kernel_rfl) (fun _ _ _ h => h) (Or.inl ⟨by rfl, fun W hW => by go_simp⟩) (by assumption) ?_
    simp only [Act.put, List.getElem_toArray, List.getElem_cons_succ, List.getElem_cons_zero, List.setIfInBounds_toArray, List.set_cons_zero, List.set_cons_succ]
    refine wpAnyH_take (i := 4) (v := .pointer (some ⟨w.heap.size, 2, none⟩)) rfl (by kernel_rfl) (by kernel_rfl) (by kernel_rfl) (fun _ _ _ h => h) (Or.inl ⟨by rfl, fun W hW => by go_simp⟩) (by assumption) ?_
    simp only [Act.put, List.getElem_toArray, List.getElem_cons_succ, List.getElem_cons_zero, List.setIfInBounds_toArray, List.set_cons_zero, List.set_cons_succ]
    refine wpAnyH_take (i := 5) (v := .int .i64 p) rfl (by kernel_rfl) (by kernel_rfl) (by kernel_rfl) (fun _ _ _ h => h) (Or.inl ⟨by rfl, fun W hW => by obtain ⟨_, _, c2, _, _⟩ := hW; go_simp⟩) (by assumption) ?_
    simp only [Act.put, List.getElem_toArray, List.getElem_cons_succ, List.getElem_cons_zero, List.setIfInBounds_toArray, List.set_cons_zero, List.set_cons_succ]
    refine wpAnyH_ready (rs := [6]) (by kernel_rfl) (by simp) ?_
    refine AllReadyH.cons rfl (fun K2 hK2 => ?_) AllReadyH.nil
    go_simp
    go_wp2_with (go_at_call 41; refine (hcon2 _).mono ?_; rintro x2 v2 ⟨rfl, hv2⟩; subst v2)
    refine hK2.out _ _ hS1 (fun hH2 => ?_)
    clear hK2 K2
    try simp only [Act.put, List.getElem_toArray, List.getElem_cons_succ, List.getElem_cons_zero, List.setIfInBounds_toArray, List.set_cons_zero, List.set_cons_succ]
    refine wpAnyH_take (i := 7) (v := .bool false) rfl (by kernel_rfl) (by kernel_rfl) (by kernel_rfl) (fun _ _ _ h => h) (Or.inl ⟨by rfl, fun W hW => by go_simp⟩) (by assumption) ?_
    simp only [Act.put, List.getElem_toArray, List.getElem_cons_succ, List.getElem_cons_zero, List.setIfInBounds_toArray, List.set_cons_zero, List.set_cons_succ]
    refine wpAnyH_take (i := 8) (v := .bool false) rfl (by kernel_rfl) (by kernel_rfl) (by kernel_rfl) (fun _ _ _ h => h) (Or.inl ⟨by rfl, fun W hW => by go_simp⟩) (by assumption) ?_
    simp only [Act.put, List.getElem_toArray, List.getElem_cons_succ, List.getElem_cons_zero, List.setIfInBounds_toArray, List.set_cons_zero, List.set_cons_succ]
    refine wpAnyH_take (i := 9) (v := undef) rfl (by kernel_rfl) (by kernel_rfl) (by kernel_rfl) (fun _ _ _ h => h) (Or.inr ⟨rfl, rfl⟩) (by assumption) ?_
    simp only [Act.put, List.getElem_toArray, List.getElem_cons_succ, List.getElem_cons_zero, List.setIfInBounds_toArray, List.set_cons_zero, List.set_cons_succ]
    refine wpAnyH_take (i := 10) (v := undef) rfl (by kernel_rfl) (by kernel_rfl) (by kernel_rfl) (fun _ _ _ h => h) (Or.inr ⟨rfl, rfl⟩) (by assumption) ?_
    simp only [Act.put, List.getElem_toArray, List.getElem_cons_succ, List.getElem_cons_zero, List.setIfInBounds_toArray, List.set_cons_zero, List.set_cons_succ]
    refine wpAnyH_take (i := 11) (v := undef) rfl (by kernel_rfl) (by kernel_rfl) (by kernel_rfl) (fun _ _ _ h => h) (Or.inr ⟨rfl, rfl⟩) (by assumption) ?_
    simp only [Act.put, List.getElem_toArray, List.getElem_cons_succ, List.getElem_cons_zero, List.setIfInBounds_toArray, List.set_cons_zero, List.set_cons_succ]
    refine wpAnyH_take (i := 12) (v := undef) rfl (by kernel_rfl) (by kernel_rfl) (by kernel_rfl) (fun _ _ _ h => h) (Or.inr ⟨rfl, rfl⟩) (by assumption) ?_
    simp only [Act.put, List.getElem_toArray, List.getElem_cons_succ, List.getElem_cons_zero, List.setIfInBounds_toArray, List.set_cons_zero, List.set_cons_succ]
    refine wpAnyH_take (i := 13) (v := undef) rfl (by kernel_rfl) (by kernel_rfl) (by kernel_rfl) (fun _ _ _ h => h) (Or.inr ⟨rfl, rfl⟩) (by assumption) ?_
    simp only [Act.put, List.getElem_toArray, List.getElem_cons_succ, List.getElem_cons_zero, List.setIfInBounds_toArray, List.set_cons_zero, List.set_cons_succ]
    refine wpAnyH_take (i := 14) (v := undef) rfl (by kernel_rfl) (by kernel_rfl) (by kernel_rfl) (fun _ _ _ h => h) (Or.inr ⟨rfl, rfl⟩) (by assumption) ?_
    simp only [Act.put, List.getElem_toArray, List.getElem_cons_succ, List.getElem_cons_zero, List.setIfInBounds_toArray, List.set_cons_zero, List.set_cons_succ]
    refine wpAnyH_take (i := 15) (v := undef) rfl (by kernel_rfl) (by kernel_rfl) (by kernel_rfl) (fun _ _ _ h => h) (Or.inr ⟨rfl, rfl⟩) (by assumption) ?_
    simp only [Act.put, List.getElem_toArray, List.getElem_cons_succ, List.getElem_cons_zero, List.setIfInBounds_toArray, List.set_cons_zero, List.set_cons_succ]
    refine wpAnyH_take (i := 16) (v := undef) rfl (by kernel_rfl) (by kernel_rfl) (by kernel_rfl) (fun _ _ _ h => h) (Or.inr ⟨rfl, rfl⟩) (by assumption) ?_
    simp only [Act.put, List.getElem_toArray, List.getElem_cons_succ, List.getElem_cons_zero, List.setIfInBounds_toArray, List.set_cons_zero, List.set_cons_succ]
    refine wpAnyH_take (i := 17) (v := undef) rfl (by kernel_rfl) (by kernel_rfl) (by kernel_rfl) (fun _ _ _ h => h) (Or.inr ⟨rfl, rfl⟩) (by assumption) ?_
    simp only [Act.put, List.getElem_toArray, List.getElem_cons_succ, List.getElem_cons_zero, List.setIfInBounds_toArray, List.set_cons_zero, List.set_cons_succ]
    refine wpAnyH_take (i := 18) (v := undef) rfl (by kernel_rfl) (by kernel_rfl) (by kernel_rfl) (fun _ _ _ h => h) (Or.inr ⟨rfl, rfl⟩) (by assumption) ?_
    simp only [Act.put, List.getElem_toArray, List.getElem_cons_succ, List.getElem_cons_zero, List.setIfInBounds_toArray, List.set_cons_zero, List.set_cons_succ]
    refine wpAnyH_take (i := 19) (v := undef) rfl (by kernel_rfl) (by kernel_rfl) (by kernel_rfl) (fun _ _ _ h => h) (Or.inr ⟨rfl, rfl⟩) (by assumption) ?_
    simp only [Act.put, List.getElem_toArray, List.getElem_cons_succ, List.getElem_cons_zero, List.setIfInBounds_toArray, List.set_cons_zero, List.set_cons_succ]
    refine wpAnyH_take (i := 20) (v := .bool false) rfl (by kernel_rfl) (by kernel_rfl) (by kernel_rfl) (fun _ _ _ h => h) (Or.inl ⟨by rfl, fun W hW => by go_simp⟩) (by assumption) ?_
    simp only [Act.put, List.getElem_toArray, List.getElem_cons_succ, List.getElem_cons_zero, List.setIfInBounds_toArray, List.set_cons_zero, List.set_cons_succ]
    refine wpAnyH_take (i := 21) (v := .bool false) rfl (by kernel_rfl) (by kernel_rfl) (by kernel_rfl) (fun _ _ _ h => h) (Or.inl ⟨by rfl, fun W hW => by go_simp⟩) (by assumption) ?_
    simp only [Act.put, List.getElem_toArray, List.getElem_cons_succ, List.getElem_cons_zero, List.setIfInBounds_toArray, List.set_cons_zero, List.set_cons_succ]
    refine wpAnyH_done (by kernel_rfl) ?_ _
    refine NoPanic.normal ?_
    go_wp2
    go_ret
    exact ⟨rfl, hc1⟩
  · rw [HQ.out, hs, hp, Bool.true_and, Bool.true_and]
    rw [hs] at hcon1
    rw [hp] at hcon2
    obtain ⟨⟨hk, _⟩, hr, s0, s1⟩ := (Sg.shape_iff _ _ _).mp hs
    have hpE := ((Sg.kok_iff p).mp hp).1
    obtain ⟨k0, k1⟩ := Gr.E_bd hk
    obtain ⟨r0, r1⟩ := Gr.E_bd hr
    obtain ⟨b0, b1⟩ := Gr.E_bd hpE
    obtain ⟨f0, f1⟩ := Ad.fin_bd r p
    obtain ⟨c0, c1⟩ := Ad.ch_bd key t r p
    have hcon3 := fun W => l4Mul_any r p W (by omega) (by omega) (by omega) (by omega)
    have hcon4 := fun W => l5Challenge_any (Ad.fin r p) key t W (by omega) (by omega) (by omega) (by omega) ht
    have hcon5 := fun W => l5Valid_any key (Ad.ch key t r p) r s W (by omega) (by omega) (by omega) (by omega) c1 s1
    rw [show r * p % 2147483579 = Ad.fin r p from rfl] at hcon3
    rw [show Sg.ch (Ad.fin r p) key t = Ad.ch key t r p from rfl] at hcon4
    obtain ⟨C, HC⟩ : ∃ C, Hid (Ad.ch key t r p = C) := ⟨_, Lib.hid rfl⟩
    rw [HC.out] at hcon4 hcon5 ⊢
    obtain ⟨F, HF⟩ : ∃ F, Hid (Ad.fin r p = F) := ⟨_, Lib.hid rfl⟩
    rw [HF.out] at hcon3 hcon4
    obtain ⟨V, HV⟩ : ∃ V, Hid (Sg.eqn key C r s = V) := ⟨_, Lib.hid rfl⟩
    rw [HV.out] at hcon5 ⊢
    clear hs HQ hp hpE hk hr s0 s1 k0 k1 r0 r1 b0 b1 f0 f1 c0 c1 HC HF HV
    go_enter Try.func20, Try.ntmps20
    go_wp2
    go_region_held3 (fun W => W.cell? ⟨w.heap.size, 0, none⟩ = some (.int .i64 r) ∧ W.cell? ⟨w.heap.size, 1, none⟩ = some (.int .i64 s) ∧ W.cell? ⟨w.heap.size, 2, none⟩ = some (.int .i64 p) ∧ W.cell? ⟨w.heap.size + 1, 0, none⟩ = some (.int .i64 r) ∧ W.cell? ⟨w.heap.size + 1, 1, none⟩ = some (.int .i64 s)) (first | with_reducible exact hS0 | with_reducible exact hS1 | with_reducible exact hS3 | with_reducible exact hS4)
      (first
        | (go_at_call 56; refine (hcon1 _).mono ?_; rintro x1 w1 ⟨rfl, hb1⟩; have HA1 := HA0.drew.below hb1; have HG1 := HG0.drew.below hb1; have hS1 := hSof _ HA1 HG1; have hc1 := below_after hc0.drew hb1)
        | (go_at_call 41; refine (hcon2 _).mono ?_; rintro x2 v2 ⟨rfl, hv2⟩; subst v2)
        | (go_at_call 45; refine (hcon3 _).mono ?_; rintro x3 v3 ⟨rfl, hv3⟩; subst v3)
        | (go_at_call 44; refine (hcon4 _).mono ?_; rintro x4 w3 ⟨rfl, hb3⟩; have HA3 := HA1.below hb3; have HG3 := HG1.below hb3; have hS3 := hSof _ HA3 HG3; have hc3 := below_after hc1 hb3)
        | (go_at_call 57; refine (hcon5 _).mono ?_; rintro x5 w4 ⟨rfl, hb4⟩; have HA4 := HA3.below hb4; have HG4 := HG3.below hb4; have hS4 := hSof _ HA4 HG4; have hc4 := below_after hc3 hb4))
    go_wp2
    go_ret
    exact ⟨rfl, hc4⟩
set_option maxRecDepth 100000 in
set_option maxHeartbeats 1600000 in
theorem specAdaptorReveal_no1 (key r s p r2 s2 : Int) (t : ByteArray) (w : World) (hv : Ad.ver key t r s p = false) (ht : t.size ≤ 1048576) :
    Calls Try.prog 26 #[.int .i64 key, .string t, .agg #[.int .i64 r, .int .i64 s, .int .i64 p], .agg #[.int .i64 r2, .int .i64 s2]] w fun x w' => x = .returned (.tuple #[.int .i64 0, .bool false]) ∧ Below w.heap.size w w' := by
  have hcon1 := fun W => specAdaptorVerify_any key r s p t W ht
  rw [hv] at hcon1
  clear hv
  have HA0 : Bk w.heap.size 26 #[.int .i64 r, .int .i64 s, .int .i64 p] ((w.alloc (.cells #[.int .i64 r, .int .i64 s, .int .i64 p] 26 (0, 0))).alloc (.cells #[.int .i64 r2, .int .i64 s2] 35 (0, 0))) := (Bk.new w _ _).alloc _
  have HG0 : Bk (w.heap.size + 1) 35 #[.int .i64 r2, .int .i64 s2] ((w.alloc (.cells #[.int .i64 r, .int .i64 s, .int .i64 p] 26 (0, 0))).alloc (.cells #[.int .i64 r2, .int .i64 s2] 35 (0, 0))) := Bk.new' _ _ _ _ (by simp)
  have hc0 : Below w.heap.size w ((w.alloc (.cells #[.int .i64 r, .int .i64 s, .int .i64 p] 26 (0, 0))).alloc (.cells #[.int .i64 r2, .int .i64 s2] 35 (0, 0))) := below_alloc (below_alloc (Below.refl _ _) _) _
  have hSof : ∀ W, Bk w.heap.size 26 #[.int .i64 r, .int .i64 s, .int .i64 p] W → Bk (w.heap.size + 1) 35 #[.int .i64 r2, .int .i64 s2] W → W.cell? ⟨w.heap.size, 0, none⟩ = some (.int .i64 r) ∧ W.cell? ⟨w.heap.size, 1, none⟩ = some (.int .i64 s) ∧ W.cell? ⟨w.heap.size, 2, none⟩ = some (.int .i64 p) ∧ W.cell? ⟨w.heap.size + 1, 0, none⟩ = some (.int .i64 r2) ∧ W.cell? ⟨w.heap.size + 1, 1, none⟩ = some (.int .i64 s2) := fun W h k => ⟨h.cell 0, h.cell 1, h.cell 2, k.cell 0, k.cell 1⟩
  have hS0 := hSof _ HA0.drew HG0.drew
  go_enter Try.func26, Try.ntmps26
  go_wp2
  refine wp_region_noPanic ?_
  refine wp_region_held_drew (S := fun W => W.cell? ⟨w.heap.size, 0, none⟩ = some (.int .i64 r) ∧ W.cell? ⟨w.heap.size, 1, none⟩ = some (.int .i64 s) ∧ W.cell? ⟨w.heap.size, 2, none⟩ = some (.int .i64 p) ∧ W.cell? ⟨w.heap.size + 1, 0, none⟩ = some (.int .i64 r2) ∧ W.cell? ⟨w.heap.size + 1, 1, none⟩ = some (.int .i64 s2)) (by kernel_rfl) hS0 (fun hH => ?_)
  refine wpAnyH_take (i := 0) (v := .int .i64 key) rfl (by kernel_rfl) (by kernel_rfl) (by kernel_rfl) (fun _ _ _ h => h) (Or.inl ⟨by rfl, fun W hW => by go_simp⟩) (by assumption) ?_
  simp only [Act.put, List.getElem_toArray, List.getElem_cons_zero, List.setIfInBounds_toArray, List.set_cons_zero, List.set_cons_succ]
  refine wpAnyH_take (i := 1) (v := .string t) rfl (by kernel_rfl) (by kernel_rfl) (by kernel_rfl) (fun _ _ _ h => h) (Or.inl ⟨by rfl, fun W hW => by go_simp⟩) (by assumption) ?_
  simp only [Act.put, List.getElem_toArray, List.getElem_cons_succ, List.getElem_cons_zero, List.setIfInBounds_toArray, List.set_cons_zero, List.set_cons_succ]
  refine wpAnyH_take (i := 2) (v := .agg #[.int .i64 r, .int .i64 s, .int .i64 p]) rfl (by kernel_rfl) (by kernel_rfl) (by kernel_rfl) (fun _ _ _ h => h) (Or.inl ⟨by rfl, fun W hW => by obtain ⟨c0, c1, c2, _, _⟩ := hW; go_simp⟩) (by assumption) ?_
  simp only [Act.put, List.getElem_toArray, List.getElem_cons_succ, List.getElem_cons_zero, List.setIfInBounds_toArray, List.set_cons_zero, List.set_cons_succ]
  refine wpAnyH_ready (rs := [3]) (by kernel_rfl) (by simp) ?_
  refine AllReadyH.cons rfl (fun K1 hK1 => ?_) AllReadyH.nil
  go_simp
  go_wp2_with (go_at_call 20; refine (hcon1 _).mono ?_; rintro x1 w1 ⟨rfl, hb1⟩; have HA1 := HA0.drew.below hb1; have HG1 := HG0.drew.below hb1; have hS1 := hSof _ HA1 HG1; have hc1 := below_after hc0.drew hb1)
  refine hK1.out _ _ hS1 (fun hH1 => ?_)
  clear hK1 K1
  try simp only [Act.put, List.getElem_toArray, List.getElem_cons_succ, List.getElem_cons_zero, List.setIfInBounds_toArray, List.set_cons_zero, List.set_cons_succ]
  refine wpAnyH_take (i := 4) (v := .bool true) rfl (by kernel_rfl) (by kernel_rfl) (by kernel_rfl) (fun _ _ _ h => h) (Or.inl ⟨by rfl, fun W hW => by go_simp⟩) (by assumption) ?_
  simp only [Act.put, List.getElem_toArray, List.getElem_cons_succ, List.getElem_cons_zero, List.setIfInBounds_toArray, List.set_cons_zero, List.set_cons_succ]
  refine wpAnyH_take (i := 5) (v := .bool true) rfl (by kernel_rfl) (by kernel_rfl) (by kernel_rfl) (fun _ _ _ h => h) (Or.inl ⟨by rfl, fun W hW => by go_simp⟩) (by assumption) ?_
  simp only [Act.put, List.getElem_toArray, List.getElem_cons_succ, List.getElem_cons_zero, List.setIfInBounds_toArray, List.set_cons_zero, List.set_cons_succ]
  refine wpAnyH_take (i := 6) (v := undef) rfl (by kernel_rfl) (by kernel_rfl) (by kernel_rfl) (fun _ _ _ h => h) (Or.inr ⟨rfl, rfl⟩) (by assumption) ?_
  simp only [Act.put, List.getElem_toArray, List.getElem_cons_succ, List.getElem_cons_zero, List.setIfInBounds_toArray, List.set_cons_zero, List.set_cons_succ]
  refine wpAnyH_take (i := 7) (v := undef) rfl (by kernel_rfl) (by kernel_rfl) (by kernel_rfl) (fun _ _ _ h => h) (Or.inr ⟨rfl, rfl⟩) (by assumption) ?_
  simp only [Act.put, List.getElem_toArray, List.getElem_cons_succ, List.getElem_cons_zero, List.setIfInBounds_toArray, List.set_cons_zero, List.set_cons_succ]
  refine wpAnyH_take (i := 8) (v := undef) rfl (by kernel_rfl) (by kernel_rfl) (by kernel_rfl) (fun _ _ _ h => h) (Or.inr ⟨rfl, rfl⟩) (by assumption) ?_
  simp only [Act.put, List.getElem_toArray, List.getElem_cons_succ, List.getElem_cons_zero, List.setIfInBounds_toArray, List.set_cons_zero, List.set_cons_succ]
  refine wpAnyH_take (i := 9) (v := undef) rfl (by kernel_rfl) (by kernel_rfl) (by kernel_rfl) (fun _ _ _ h => h) (Or.inr ⟨rfl, rfl⟩) (by assumption) ?_
  simp only [Act.put, List.getElem_toArray, List.getElem_cons_succ, List.getElem_cons_zero, List.setIfInBounds_toArray, List.set_cons_zero, List.set_cons_succ]
  refine wpAnyH_take (i := 10) (v := undef) rfl (by kernel_rfl) (by kernel_rfl) (by kernel_rfl) (fun _ _ _ h => h) (Or.inr ⟨rfl, rfl⟩) (by assumption) ?_
  simp only [Act.put, List.getElem_toArray, List.getElem_cons_succ, List.getElem_cons_zero, List.setIfInBounds_toArray, List.set_cons_zero, List.set_cons_succ]
  refine wpAnyH_take (i := 11) (v := .bool true) rfl (by kernel_rfl) (by kernel_rfl) (by kernel_rfl) (fun _ _ _ h => h) (Or.inl ⟨by rfl, fun W hW => by go_simp⟩) (by assumption) ?_
  simp only [Act.put, List.getElem_toArray, List.getElem_cons_succ, List.getElem_cons_zero, List.setIfInBounds_toArray, List.set_cons_zero, List.set_cons_succ]
  refine wpAnyH_take (i := 12) (v := .bool true) rfl (by kernel_rfl) (by kernel_rfl) (by kernel_rfl) (fun _ _ _ h => h) (Or.inl ⟨by rfl, fun W hW => by go_simp⟩) (by assumption) ?_
  simp only [Act.put, List.getElem_toArray, List.getElem_cons_succ, List.getElem_cons_zero, List.setIfInBounds_toArray, List.set_cons_zero, List.set_cons_succ]
  refine wpAnyH_take (i := 13) (v := undef) rfl (by kernel_rfl) (by kernel_rfl) (by kernel_rfl) (fun _ _ _ h => h) (Or.inr ⟨rfl, rfl⟩) (by assumption) ?_
  simp only [Act.put, List.getElem_toArray, List.getElem_cons_succ, List.getElem_cons_zero, List.setIfInBounds_toArray, List.set_cons_zero, List.set_cons_succ]
  refine wpAnyH_take (i := 14) (v := undef) rfl (by kernel_rfl) (by kernel_rfl) (by kernel_rfl) (fun _ _ _ h => h) (Or.inr ⟨rfl, rfl⟩) (by assumption) ?_
  simp only [Act.put, List.getElem_toArray, List.getElem_cons_succ, List.getElem_cons_zero, List.setIfInBounds_toArray, List.set_cons_zero, List.set_cons_succ]
  refine wpAnyH_take (i := 15) (v := undef) rfl (by kernel_rfl) (by kernel_rfl) (by kernel_rfl) (fun _ _ _ h => h) (Or.inr ⟨rfl, rfl⟩) (by assumption) ?_
  simp only [Act.put, List.getElem_toArray, List.getElem_cons_succ, List.getElem_cons_zero, List.setIfInBounds_toArray, List.set_cons_zero, List.set_cons_succ]
  refine wpAnyH_take (i := 16) (v := undef) rfl (by kernel_rfl) (by kernel_rfl) (by kernel_rfl) (fun _ _ _ h => h) (Or.inr ⟨rfl, rfl⟩) (by assumption) ?_
  simp only [Act.put, List.getElem_toArray, List.getElem_cons_succ, List.getElem_cons_zero, List.setIfInBounds_toArray, List.set_cons_zero, List.set_cons_succ]
  refine wpAnyH_take (i := 17) (v := undef) rfl (by kernel_rfl) (by kernel_rfl) (by kernel_rfl) (fun _ _ _ h => h) (Or.inr ⟨rfl, rfl⟩) (by assumption) ?_
  simp only [Act.put, List.getElem_toArray, List.getElem_cons_succ, List.getElem_cons_zero, List.setIfInBounds_toArray, List.set_cons_zero, List.set_cons_succ]
  refine wpAnyH_take (i := 18) (v := undef) rfl (by kernel_rfl) (by kernel_rfl) (by kernel_rfl) (fun _ _ _ h => h) (Or.inr ⟨rfl, rfl⟩) (by assumption) ?_
  simp only [Act.put, List.getElem_toArray, List.getElem_cons_succ, List.getElem_cons_zero, List.setIfInBounds_toArray, List.set_cons_zero, List.set_cons_succ]
  refine wpAnyH_take (i := 19) (v := undef) rfl (by kernel_rfl) (by kernel_rfl) (by kernel_rfl) (fun _ _ _ h => h) (Or.inr ⟨rfl, rfl⟩) (by assumption) ?_
  simp only [Act.put, List.getElem_toArray, List.getElem_cons_succ, List.getElem_cons_zero, List.setIfInBounds_toArray, List.set_cons_zero, List.set_cons_succ]
  refine wpAnyH_take (i := 20) (v := undef) rfl (by kernel_rfl) (by kernel_rfl) (by kernel_rfl) (fun _ _ _ h => h) (Or.inr ⟨rfl, rfl⟩) (by assumption) ?_
  simp only [Act.put, List.getElem_toArray, List.getElem_cons_succ, List.getElem_cons_zero, List.setIfInBounds_toArray, List.set_cons_zero, List.set_cons_succ]
  refine wpAnyH_take (i := 21) (v := .bool true) rfl (by kernel_rfl) (by kernel_rfl) (by kernel_rfl) (fun _ _ _ h => h) (Or.inl ⟨by rfl, fun W hW => by go_simp⟩) (by assumption) ?_
  simp only [Act.put, List.getElem_toArray, List.getElem_cons_succ, List.getElem_cons_zero, List.setIfInBounds_toArray, List.set_cons_zero, List.set_cons_succ]
  refine wpAnyH_done (by kernel_rfl) ?_ _
  refine NoPanic.normal ?_
  go_wp2
  go_ret2
  exact ⟨rfl, hc1⟩
set_option maxRecDepth 100000 in
set_option maxHeartbeats 1600000 in
theorem specAdaptorReveal_no2 (key r s p r2 s2 : Int) (t : ByteArray) (w : World) (hv : Ad.ver key t r s p = true) (hv2 : Sg.ver key t r2 s2 = false) (ht : t.size ≤ 1048576) :
    Calls Try.prog 26 #[.int .i64 key, .string t, .agg #[.int .i64 r, .int .i64 s, .int .i64 p], .agg #[.int .i64 r2, .int .i64 s2]] w fun x w' => x = .returned (.tuple #[.int .i64 0, .bool false]) ∧ Below w.heap.size w w' := by
  have hcon1 := fun W => specAdaptorVerify_any key r s p t W ht
  rw [hv] at hcon1
  have hcon2 := fun W => specVerify_any key r2 s2 t W ht
  rw [hv2] at hcon2
  clear hv hv2
  have HA0 : Bk w.heap.size 26 #[.int .i64 r, .int .i64 s, .int .i64 p] ((w.alloc (.cells #[.int .i64 r, .int .i64 s, .int .i64 p] 26 (0, 0))).alloc (.cells #[.int .i64 r2, .int .i64 s2] 35 (0, 0))) := (Bk.new w _ _).alloc _
  have HG0 : Bk (w.heap.size + 1) 35 #[.int .i64 r2, .int .i64 s2] ((w.alloc (.cells #[.int .i64 r, .int .i64 s, .int .i64 p] 26 (0, 0))).alloc (.cells #[.int .i64 r2, .int .i64 s2] 35 (0, 0))) := Bk.new' _ _ _ _ (by simp)
  have hc0 : Below w.heap.size w ((w.alloc (.cells #[.int .i64 r, .int .i64 s, .int .i64 p] 26 (0, 0))).alloc (.cells #[.int .i64 r2, .int .i64 s2] 35 (0, 0))) := below_alloc (below_alloc (Below.refl _ _) _) _
  have hSof : ∀ W, Bk w.heap.size 26 #[.int .i64 r, .int .i64 s, .int .i64 p] W → Bk (w.heap.size + 1) 35 #[.int .i64 r2, .int .i64 s2] W → W.cell? ⟨w.heap.size, 0, none⟩ = some (.int .i64 r) ∧ W.cell? ⟨w.heap.size, 1, none⟩ = some (.int .i64 s) ∧ W.cell? ⟨w.heap.size, 2, none⟩ = some (.int .i64 p) ∧ W.cell? ⟨w.heap.size + 1, 0, none⟩ = some (.int .i64 r2) ∧ W.cell? ⟨w.heap.size + 1, 1, none⟩ = some (.int .i64 s2) := fun W h k => ⟨h.cell 0, h.cell 1, h.cell 2, k.cell 0, k.cell 1⟩
  have hS0 := hSof _ HA0.drew HG0.drew
  go_enter Try.func26, Try.ntmps26
  go_wp2
  refine wp_region_noPanic ?_
  refine wp_region_held_drew (S := fun W => W.cell? ⟨w.heap.size, 0, none⟩ = some (.int .i64 r) ∧ W.cell? ⟨w.heap.size, 1, none⟩ = some (.int .i64 s) ∧ W.cell? ⟨w.heap.size, 2, none⟩ = some (.int .i64 p) ∧ W.cell? ⟨w.heap.size + 1, 0, none⟩ = some (.int .i64 r2) ∧ W.cell? ⟨w.heap.size + 1, 1, none⟩ = some (.int .i64 s2)) (by kernel_rfl) hS0 (fun hH => ?_)
  refine wpAnyH_take (i := 0) (v := .int .i64 key) rfl (by kernel_rfl) (by kernel_rfl) (by kernel_rfl) (fun _ _ _ h => h) (Or.inl ⟨by rfl, fun W hW => by go_simp⟩) (by assumption) ?_
  simp only [Act.put, List.getElem_toArray, List.getElem_cons_zero, List.setIfInBounds_toArray, List.set_cons_zero, List.set_cons_succ]
  refine wpAnyH_take (i := 1) (v := .string t) rfl (by kernel_rfl) (by kernel_rfl) (by kernel_rfl) (fun _ _ _ h => h) (Or.inl ⟨by rfl, fun W hW => by go_simp⟩) (by assumption) ?_
  simp only [Act.put, List.getElem_toArray, List.getElem_cons_succ, List.getElem_cons_zero, List.setIfInBounds_toArray, List.set_cons_zero, List.set_cons_succ]
  refine wpAnyH_take (i := 2) (v := .agg #[.int .i64 r, .int .i64 s, .int .i64 p]) rfl (by kernel_rfl) (by kernel_rfl) (by kernel_rfl) (fun _ _ _ h => h) (Or.inl ⟨by rfl, fun W hW => by obtain ⟨c0, c1, c2, _, _⟩ := hW; go_simp⟩) (by assumption) ?_
  simp only [Act.put, List.getElem_toArray, List.getElem_cons_succ, List.getElem_cons_zero, List.setIfInBounds_toArray, List.set_cons_zero, List.set_cons_succ]
  refine wpAnyH_ready (rs := [3]) (by kernel_rfl) (by simp) ?_
  refine AllReadyH.cons rfl (fun K1 hK1 => ?_) AllReadyH.nil
  go_simp
  go_wp2_with (go_at_call 20; refine (hcon1 _).mono ?_; rintro x1 w1 ⟨rfl, hb1⟩; have HA1 := HA0.drew.below hb1; have HG1 := HG0.drew.below hb1; have hS1 := hSof _ HA1 HG1; have hc1 := below_after hc0.drew hb1)
  refine hK1.out _ _ hS1 (fun hH1 => ?_)
  clear hK1 K1
  try simp only [Act.put, List.getElem_toArray, List.getElem_cons_succ, List.getElem_cons_zero, List.setIfInBounds_toArray, List.set_cons_zero, List.set_cons_succ]
  refine wpAnyH_take (i := 4) (v := .bool false) rfl (by kernel_rfl) (by kernel_rfl) (by kernel_rfl) (fun _ _ _ h => h) (Or.inl ⟨by rfl, fun W hW => by go_simp⟩) (by assumption) ?_
  simp only [Act.put, List.getElem_toArray, List.getElem_cons_succ, List.getElem_cons_zero, List.setIfInBounds_toArray, List.set_cons_zero, List.set_cons_succ]
  refine wpAnyH_take (i := 5) (v := .bool false) rfl (by kernel_rfl) (by kernel_rfl) (by kernel_rfl) (fun _ _ _ h => h) (Or.inl ⟨by rfl, fun W hW => by go_simp⟩) (by assumption) ?_
  simp only [Act.put, List.getElem_toArray, List.getElem_cons_succ, List.getElem_cons_zero, List.setIfInBounds_toArray, List.set_cons_zero, List.set_cons_succ]
  refine wpAnyH_take (i := 6) (v := .int .i64 key) rfl (by kernel_rfl) (by kernel_rfl) (by kernel_rfl) (fun _ _ _ h => h) (Or.inl ⟨by rfl, fun W hW => by go_simp⟩) (by assumption) ?_
  simp only [Act.put, List.getElem_toArray, List.getElem_cons_succ, List.getElem_cons_zero, List.setIfInBounds_toArray, List.set_cons_zero, List.set_cons_succ]
  refine wpAnyH_take (i := 7) (v := .string t) rfl (by kernel_rfl) (by kernel_rfl) (by kernel_rfl) (fun _ _ _ h => h) (Or.inl ⟨by rfl, fun W hW => by go_simp⟩) (by assumption) ?_
  simp only [Act.put, List.getElem_toArray, List.getElem_cons_succ, List.getElem_cons_zero, List.setIfInBounds_toArray, List.set_cons_zero, List.set_cons_succ]
  refine wpAnyH_take (i := 8) (v := .agg #[.int .i64 r2, .int .i64 s2]) rfl (by kernel_rfl) (by kernel_rfl) (by kernel_rfl) (fun _ _ _ h => h) (Or.inl ⟨by rfl, fun W hW => by obtain ⟨_, _, _, c0, c1⟩ := hW; go_simp⟩) (by assumption) ?_
  simp only [Act.put, List.getElem_toArray, List.getElem_cons_succ, List.getElem_cons_zero, List.setIfInBounds_toArray, List.set_cons_zero, List.set_cons_succ]
  refine wpAnyH_ready (rs := [9]) (by kernel_rfl) (by simp) ?_
  refine AllReadyH.cons rfl (fun K2 hK2 => ?_) AllReadyH.nil
  go_simp
  go_wp2_with (go_at_call 66; refine (hcon2 _).mono ?_; rintro x2 w2 ⟨rfl, hb2⟩; have HA2 := HA1.below hb2; have HG2 := HG1.below hb2; have hS2 := hSof _ HA2 HG2; have hc2 := below_after hc1 hb2)
  refine hK2.out _ _ hS2 (fun hH2 => ?_)
  clear hK2 K2
  try simp only [Act.put, List.getElem_toArray, List.getElem_cons_succ, List.getElem_cons_zero, List.setIfInBounds_toArray, List.set_cons_zero, List.set_cons_succ]
  refine wpAnyH_take (i := 10) (v := .bool true) rfl (by kernel_rfl) (by kernel_rfl) (by kernel_rfl) (fun _ _ _ h => h) (Or.inl ⟨by rfl, fun W hW => by go_simp⟩) (by assumption) ?_
  simp only [Act.put, List.getElem_toArray, List.getElem_cons_succ, List.getElem_cons_zero, List.setIfInBounds_toArray, List.set_cons_zero, List.set_cons_succ]
  refine wpAnyH_take (i := 11) (v := .bool true) rfl (by kernel_rfl) (by kernel_rfl) (by kernel_rfl) (fun _ _ _ h => h) (Or.inl ⟨by rfl, fun W hW => by go_simp⟩) (by assumption) ?_
  simp only [Act.put, List.getElem_toArray, List.getElem_cons_succ, List.getElem_cons_zero, List.setIfInBounds_toArray, List.set_cons_zero, List.set_cons_succ]
  refine wpAnyH_take (i := 12) (v := .bool true) rfl (by kernel_rfl) (by kernel_rfl) (by kernel_rfl) (fun _ _ _ h => h) (Or.inl ⟨by rfl, fun W hW => by go_simp⟩) (by assumption) ?_
  simp only [Act.put, List.getElem_toArray, List.getElem_cons_succ, List.getElem_cons_zero, List.setIfInBounds_toArray, List.set_cons_zero, List.set_cons_succ]
  refine wpAnyH_take (i := 13) (v := undef) rfl (by kernel_rfl) (by kernel_rfl) (by kernel_rfl) (fun _ _ _ h => h) (Or.inr ⟨rfl, rfl⟩) (by assumption) ?_
  simp only [Act.put, List.getElem_toArray, List.getElem_cons_succ, List.getElem_cons_zero, List.setIfInBounds_toArray, List.set_cons_zero, List.set_cons_succ]
  refine wpAnyH_take (i := 14) (v := undef) rfl (by kernel_rfl) (by kernel_rfl) (by kernel_rfl) (fun _ _ _ h => h) (Or.inr ⟨rfl, rfl⟩) (by assumption) ?_
  simp only [Act.put, List.getElem_toArray, List.getElem_cons_succ, List.getElem_cons_zero, List.setIfInBounds_toArray, List.set_cons_zero, List.set_cons_succ]
  refine wpAnyH_take (i := 15) (v := undef) rfl (by kernel_rfl) (by kernel_rfl) (by kernel_rfl) (fun _ _ _ h => h) (Or.inr ⟨rfl, rfl⟩) (by assumption) ?_
  simp only [Act.put, List.getElem_toArray, List.getElem_cons_succ, List.getElem_cons_zero, List.setIfInBounds_toArray, List.set_cons_zero, List.set_cons_succ]
  refine wpAnyH_take (i := 16) (v := undef) rfl (by kernel_rfl) (by kernel_rfl) (by kernel_rfl) (fun _ _ _ h => h) (Or.inr ⟨rfl, rfl⟩) (by assumption) ?_
  simp only [Act.put, List.getElem_toArray, List.getElem_cons_succ, List.getElem_cons_zero, List.setIfInBounds_toArray, List.set_cons_zero, List.set_cons_succ]
  refine wpAnyH_take (i := 17) (v := undef) rfl (by kernel_rfl) (by kernel_rfl) (by kernel_rfl) (fun _ _ _ h => h) (Or.inr ⟨rfl, rfl⟩) (by assumption) ?_
  simp only [Act.put, List.getElem_toArray, List.getElem_cons_succ, List.getElem_cons_zero, List.setIfInBounds_toArray, List.set_cons_zero, List.set_cons_succ]
  refine wpAnyH_take (i := 18) (v := undef) rfl (by kernel_rfl) (by kernel_rfl) (by kernel_rfl) (fun _ _ _ h => h) (Or.inr ⟨rfl, rfl⟩) (by assumption) ?_
  simp only [Act.put, List.getElem_toArray, List.getElem_cons_succ, List.getElem_cons_zero, List.setIfInBounds_toArray, List.set_cons_zero, List.set_cons_succ]
  refine wpAnyH_take (i := 19) (v := undef) rfl (by kernel_rfl) (by kernel_rfl) (by kernel_rfl) (fun _ _ _ h => h) (Or.inr ⟨rfl, rfl⟩) (by assumption) ?_
  simp only [Act.put, List.getElem_toArray, List.getElem_cons_succ, List.getElem_cons_zero, List.setIfInBounds_toArray, List.set_cons_zero, List.set_cons_succ]
  refine wpAnyH_take (i := 20) (v := undef) rfl (by kernel_rfl) (by kernel_rfl) (by kernel_rfl) (fun _ _ _ h => h) (Or.inr ⟨rfl, rfl⟩) (by assumption) ?_
  simp only [Act.put, List.getElem_toArray, List.getElem_cons_succ, List.getElem_cons_zero, List.setIfInBounds_toArray, List.set_cons_zero, List.set_cons_succ]
  refine wpAnyH_take (i := 21) (v := .bool true) rfl (by kernel_rfl) (by kernel_rfl) (by kernel_rfl) (fun _ _ _ h => h) (Or.inl ⟨by rfl, fun W hW => by go_simp⟩) (by assumption) ?_
  simp only [Act.put, List.getElem_toArray, List.getElem_cons_succ, List.getElem_cons_zero, List.setIfInBounds_toArray, List.set_cons_zero, List.set_cons_succ]
  refine wpAnyH_done (by kernel_rfl) ?_ _
  refine NoPanic.normal ?_
  go_wp2
  go_ret2
  exact ⟨rfl, hc2⟩
set_option maxRecDepth 100000 in
set_option maxHeartbeats 1600000 in
theorem specAdaptorReveal_no3 (key r s p r2 s2 : Int) (t : ByteArray) (w : World) (hv : Ad.ver key t r s p = true) (hv2 : Sg.ver key t r2 s2 = true) (hk : r2 ≠ Ad.fin r p) (ht : t.size ≤ 1048576) :
    Calls Try.prog 26 #[.int .i64 key, .string t, .agg #[.int .i64 r, .int .i64 s, .int .i64 p], .agg #[.int .i64 r2, .int .i64 s2]] w fun x w' => x = .returned (.tuple #[.int .i64 0, .bool false]) ∧ Below w.heap.size w w' := by
  have hcon1 := fun W => specAdaptorVerify_any key r s p t W ht
  rw [hv] at hcon1
  have hcon2 := fun W => specVerify_any key r2 s2 t W ht
  rw [hv2] at hcon2
  obtain ⟨⟨⟨_, hr, s0, s1⟩, hp, _⟩, _⟩ := (Ad.ver_iff _ _ _ _ _).mp hv
  obtain ⟨r0, r1⟩ := Gr.E_bd hr
  obtain ⟨b0, b1⟩ := Gr.E_bd hp
  have h4 := Sg.ver_kok hv2
  obtain ⟨q0, q1⟩ := h4.2.2
  have hcon3 := fun W => l4Mul_any r p W (by omega) (by omega) (by omega) (by omega)
  rw [show r * p % 2147483579 = Ad.fin r p from rfl] at hcon3
  obtain ⟨F, HF⟩ : ∃ F, Hid (Ad.fin r p = F) := ⟨_, Lib.hid rfl⟩
  rw [HF.out] at hcon3 hk
  have hd : decide (r2 = F) = false := decide_eq_false hk
  have hd2 : (r2 == F) = false := beq_eq_false_iff_ne.mpr hk
  clear hv hv2 h4 hr hp s0 s1 r0 r1 b0 b1 q0 q1 HF
  have HA0 : Bk w.heap.size 26 #[.int .i64 r, .int .i64 s, .int .i64 p] ((w.alloc (.cells #[.int .i64 r, .int .i64 s, .int .i64 p] 26 (0, 0))).alloc (.cells #[.int .i64 r2, .int .i64 s2] 35 (0, 0))) := (Bk.new w _ _).alloc _
  have HG0 : Bk (w.heap.size + 1) 35 #[.int .i64 r2, .int .i64 s2] ((w.alloc (.cells #[.int .i64 r, .int .i64 s, .int .i64 p] 26 (0, 0))).alloc (.cells #[.int .i64 r2, .int .i64 s2] 35 (0, 0))) := Bk.new' _ _ _ _ (by simp)
  have hc0 : Below w.heap.size w ((w.alloc (.cells #[.int .i64 r, .int .i64 s, .int .i64 p] 26 (0, 0))).alloc (.cells #[.int .i64 r2, .int .i64 s2] 35 (0, 0))) := below_alloc (below_alloc (Below.refl _ _) _) _
  have hSof : ∀ W, Bk w.heap.size 26 #[.int .i64 r, .int .i64 s, .int .i64 p] W → Bk (w.heap.size + 1) 35 #[.int .i64 r2, .int .i64 s2] W → W.cell? ⟨w.heap.size, 0, none⟩ = some (.int .i64 r) ∧ W.cell? ⟨w.heap.size, 1, none⟩ = some (.int .i64 s) ∧ W.cell? ⟨w.heap.size, 2, none⟩ = some (.int .i64 p) ∧ W.cell? ⟨w.heap.size + 1, 0, none⟩ = some (.int .i64 r2) ∧ W.cell? ⟨w.heap.size + 1, 1, none⟩ = some (.int .i64 s2) := fun W h k => ⟨h.cell 0, h.cell 1, h.cell 2, k.cell 0, k.cell 1⟩
  have hS0 := hSof _ HA0.drew HG0.drew
  go_enter Try.func26, Try.ntmps26
  go_wp2
  go_region_held3 (fun W => W.cell? ⟨w.heap.size, 0, none⟩ = some (.int .i64 r) ∧ W.cell? ⟨w.heap.size, 1, none⟩ = some (.int .i64 s) ∧ W.cell? ⟨w.heap.size, 2, none⟩ = some (.int .i64 p) ∧ W.cell? ⟨w.heap.size + 1, 0, none⟩ = some (.int .i64 r2) ∧ W.cell? ⟨w.heap.size + 1, 1, none⟩ = some (.int .i64 s2)) (first | with_reducible exact hS0 | with_reducible exact hS1 | with_reducible exact hS2)
    (first
      | (go_at_call 20; refine (hcon1 _).mono ?_; rintro x1 w1 ⟨rfl, hb1⟩; have HA1 := HA0.drew.below hb1; have HG1 := HG0.drew.below hb1; have hS1 := hSof _ HA1 HG1; have hc1 := below_after hc0.drew hb1)
      | (go_at_call 66; refine (hcon2 _).mono ?_; rintro x2 w2 ⟨rfl, hb2⟩; have HA2 := HA1.below hb2; have HG2 := HG1.below hb2; have hS2 := hSof _ HA2 HG2; have hc2 := below_after hc1 hb2)
      | (go_at_call 45; refine (hcon3 _).mono ?_; rintro x3 v3 ⟨rfl, hv3⟩; subst v3))
  go_wp2
  go_ret2
  exact ⟨rfl, hc2⟩
set_option maxRecDepth 100000 in
set_option maxHeartbeats 1600000 in
theorem specAdaptorReveal_yes (key r s p r2 s2 : Int) (t : ByteArray) (w : World) (hv : Ad.ver key t r s p = true) (hv2 : Sg.ver key t r2 s2 = true) (hk : Ad.fin r p = r2) (ht : t.size ≤ 1048576) :
    Calls Try.prog 26 #[.int .i64 key, .string t, .agg #[.int .i64 r, .int .i64 s, .int .i64 p], .agg #[.int .i64 r2, .int .i64 s2]] w fun x w' => x = .returned (.tuple #[.int .i64 (Ad.dif s s2), .bool true]) ∧ Below w.heap.size w w' := by
  have hcon1 := fun W => specAdaptorVerify_any key r s p t W ht
  rw [hv] at hcon1
  have hcon2 := fun W => specVerify_any key r2 s2 t W ht
  rw [hv2] at hcon2
  obtain ⟨⟨⟨_, hr, s0, s1⟩, hp, _⟩, _⟩ := (Ad.ver_iff _ _ _ _ _).mp hv
  obtain ⟨r0, r1⟩ := Gr.E_bd hr
  obtain ⟨b0, b1⟩ := Gr.E_bd hp
  have h4 := Sg.ver_kok hv2
  obtain ⟨q0, q1⟩ := h4.2.2
  have hcon3 := fun W => l4Mul_any r p W (by omega) (by omega) (by omega) (by omega)
  rw [show r * p % 2147483579 = Ad.fin r p from rfl] at hcon3
  rw [hk] at hcon3
  have HD : Hid (Ad.dif s s2 = (s2 - s + 1073741789) % 1073741789) := Lib.hid rfl
  rw [HD.out]
  clear hv hv2 h4 hr hp r0 r1 b0 b1 hk HD
  have HA0 : Bk w.heap.size 26 #[.int .i64 r, .int .i64 s, .int .i64 p] ((w.alloc (.cells #[.int .i64 r, .int .i64 s, .int .i64 p] 26 (0, 0))).alloc (.cells #[.int .i64 r2, .int .i64 s2] 35 (0, 0))) := (Bk.new w _ _).alloc _
  have HG0 : Bk (w.heap.size + 1) 35 #[.int .i64 r2, .int .i64 s2] ((w.alloc (.cells #[.int .i64 r, .int .i64 s, .int .i64 p] 26 (0, 0))).alloc (.cells #[.int .i64 r2, .int .i64 s2] 35 (0, 0))) := Bk.new' _ _ _ _ (by simp)
  have hc0 : Below w.heap.size w ((w.alloc (.cells #[.int .i64 r, .int .i64 s, .int .i64 p] 26 (0, 0))).alloc (.cells #[.int .i64 r2, .int .i64 s2] 35 (0, 0))) := below_alloc (below_alloc (Below.refl _ _) _) _
  have hSof : ∀ W, Bk w.heap.size 26 #[.int .i64 r, .int .i64 s, .int .i64 p] W → Bk (w.heap.size + 1) 35 #[.int .i64 r2, .int .i64 s2] W → W.cell? ⟨w.heap.size, 0, none⟩ = some (.int .i64 r) ∧ W.cell? ⟨w.heap.size, 1, none⟩ = some (.int .i64 s) ∧ W.cell? ⟨w.heap.size, 2, none⟩ = some (.int .i64 p) ∧ W.cell? ⟨w.heap.size + 1, 0, none⟩ = some (.int .i64 r2) ∧ W.cell? ⟨w.heap.size + 1, 1, none⟩ = some (.int .i64 s2) := fun W h k => ⟨h.cell 0, h.cell 1, h.cell 2, k.cell 0, k.cell 1⟩
  have hS0 := hSof _ HA0.drew HG0.drew
  go_enter Try.func26, Try.ntmps26
  go_wp2
  go_region_held3 (fun W => W.cell? ⟨w.heap.size, 0, none⟩ = some (.int .i64 r) ∧ W.cell? ⟨w.heap.size, 1, none⟩ = some (.int .i64 s) ∧ W.cell? ⟨w.heap.size, 2, none⟩ = some (.int .i64 p) ∧ W.cell? ⟨w.heap.size + 1, 0, none⟩ = some (.int .i64 r2) ∧ W.cell? ⟨w.heap.size + 1, 1, none⟩ = some (.int .i64 s2)) (first | with_reducible exact hS0 | with_reducible exact hS1 | with_reducible exact hS2)
    (first
      | (go_at_call 20; refine (hcon1 _).mono ?_; rintro x1 w1 ⟨rfl, hb1⟩; have HA1 := HA0.drew.below hb1; have HG1 := HG0.drew.below hb1; have hS1 := hSof _ HA1 HG1; have hc1 := below_after hc0.drew hb1)
      | (go_at_call 66; refine (hcon2 _).mono ?_; rintro x2 w2 ⟨rfl, hb2⟩; have HA2 := HA1.below hb2; have HG2 := HG1.below hb2; have hS2 := hSof _ HA2 HG2; have hc2 := below_after hc1 hb2)
      | (go_at_call 45; refine (hcon3 _).mono ?_; rintro x3 v3 ⟨rfl, hv3⟩; subst v3))
  obtain ⟨m0, m1, m2, g0, g1⟩ := hS2
  go_wp2
  go_ret2
  exact ⟨rfl, hc2⟩
theorem specAdaptorReveal_any (key r s p r2 s2 : Int) (t : ByteArray) (w : World) (ht : t.size ≤ 1048576) :
    Calls Try.prog 26 #[.int .i64 key, .string t, .agg #[.int .i64 r, .int .i64 s, .int .i64 p], .agg #[.int .i64 r2, .int .i64 s2]] w fun x w' => x = .returned (.tuple #[.int .i64 (Ad.r0 key t r s p r2 s2), .bool (Ad.rok key t r s p r2 s2)]) ∧ Below w.heap.size w w' := by
  unfold Ad.r0
  cases hv : Ad.ver key t r s p
  · have h0 : Ad.rok key t r s p r2 s2 = false := by unfold Ad.rok; rw [hv]; rfl
    rw [h0]
    simp only [Bool.false_eq_true, if_false]
    exact specAdaptorReveal_no1 key r s p r2 s2 t w hv ht
  · cases hv2 : Sg.ver key t r2 s2
    · have h0 : Ad.rok key t r s p r2 s2 = false := by unfold Ad.rok; rw [hv, hv2]; rfl
      rw [h0]
      simp only [Bool.false_eq_true, if_false]
      exact specAdaptorReveal_no2 key r s p r2 s2 t w hv hv2 ht
    · by_cases hk : r2 = Ad.fin r p
      · have h0 : Ad.rok key t r s p r2 s2 = true := by unfold Ad.rok; rw [hv, hv2, hk]; simp
        rw [h0]
        simp only [if_true]
        exact specAdaptorReveal_yes key r s p r2 s2 t w hv hv2 hk.symm ht
      · have h0 : Ad.rok key t r s p r2 s2 = false := by
          unfold Ad.rok
          rw [show (r2 == Ad.fin r p) = false from beq_eq_false_iff_ne.mpr hk, Bool.and_false]
        rw [h0]
        simp only [Bool.false_eq_true, if_false]
        exact specAdaptorReveal_no3 key r s p r2 s2 t w hv hv2 hk ht
end Go.Proofs.Ytimajobbkemdbaa
