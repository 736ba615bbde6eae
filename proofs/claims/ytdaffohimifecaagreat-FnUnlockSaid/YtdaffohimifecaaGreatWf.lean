/-
  The machine of the program: the operations of conditions.
-/
import Derived.Test.YtdaffohimifecaaGreatWd
import Derived.Deep.RegionHeld3
import Derived.Deep.RegionLaw
namespace Go.Proofs.YtdaffohimifecaaGreat
open Go.RowKit

theorem Vm.cond6_no {s : List ByteArray} {br : List Bool} (h : Vm.live br = false) : Vm.cond 6 s br = .ok (s, false :: br) := by
  unfold Vm.cond
  rw [if_pos rfl, h]
  rfl
theorem Vm.cond6_yes {a : ByteArray} {s : List ByteArray} {br : List Bool} (h : Vm.live br = true) : Vm.cond 6 (a :: s) br = .ok (s, decide (a.size ≠ 0) :: br) := by
  unfold Vm.cond
  rw [if_pos rfl, if_pos h]
theorem Vm.cond6_nil {br : List Bool} (h : Vm.live br = true) : Vm.cond 6 [] br = .error 2 := by
  unfold Vm.cond
  rw [if_pos rfl, if_pos h]
theorem Vm.cond7 {s : List ByteArray} {b : Bool} {br : List Bool} : Vm.cond 7 s (b :: br) = .ok (s, (!b) :: br) := rfl
theorem Vm.cond8 {s : List ByteArray} {b : Bool} {br : List Bool} : Vm.cond 8 s (b :: br) = .ok (s, br) := rfl
theorem sliceB_hi (g m k cap : Nat) (h : k ≤ m) (h2 : m ≤ cap) (W : World) :
    (Instr.slice 60 (.slice (some ⟨g, 0, none⟩) m cap) none (some (.int .i64 (k : Int))) none).run Tryz.prog W = .ok (.slice (some ⟨g, 0, none⟩) k cap) W := by
  have e1 : (0 : Int) ≤ (k : Int) := by omega
  have h3 : k ≤ cap := by omega
  simp [Instr.slice, Instr.sliceBounds, Instr.sliceBound, asIntOf, run_underlying Tryz.underlying60, e1, h3]
  by_cases hc : cap = 0 <;> simp [Addr.add]
/-- One cell of an owned row is turned. -/
theorem own_put {w : World} {base n c g j : Nat} {e : TypeId} {xs : List Value} (h : w.ownsRow base e 1 (.slice (some ⟨g, 0, none⟩) n c) n xs) (u : Value) : (w.setCell ⟨g, j, none⟩ u).ownsRow base e 1 (.slice (some ⟨g, 0, none⟩) n c) n (xs.set j u) := by
  exact (h.stored j u).1

set_option maxRecDepth 100000 in
set_option maxHeartbeats 6400000 in
theorem op8_any (base D : Nat) (E : Vm) (x : Jo) (s : List ByteArray) (br : List Bool) (w : World) (h : MPs base D E s br w) (hb : base ≤ w.heap.size) (hc : x.c = 8) (hbr : br.length ≤ 4) (hne : br ≠ []) :
    Calls Tryz.prog 104 #[.pointer (some ⟨D, 0, none⟩), x.val] w (StP base D E (Vm.cond x.c s br) w) := by
  obtain ⟨vi, vb, h⟩ := h
  obtain ⟨C, A, B, t⟩ := x
  simp only at hc ⊢
  subst hc
  have h0 := h.alloc (.cells #[.int .i64 8, .int .i64 A, .int .i64 B, .string t] 69 (0, 0))
  have b0 : Fr base D w (w.alloc (.cells #[.int .i64 8, .int .i64 A, .int .i64 B, .string t] 69 (0, 0))) := (Fr.refl base D w).alloc hb _
  have hb0 := Nat.le_trans hb b0.size
  clear h

  obtain ⟨W0, HW⟩ : ∃ W0, Hid (w.alloc (.cells #[.int .i64 8, .int .i64 A, .int .i64 B, .string t] 69 (0, 0)) = W0) := ⟨_, Lib.hid rfl⟩
  rw [HW.out] at h0 b0 hb0
  rcases br with _ | ⟨b, r⟩
  · exact absurd rfl hne
  clear hne
  obtain ⟨a, cap, rfl, hcap, hmax⟩ := own_slice h0.brs
  obtain ⟨g, rfl, hgb, hgl⟩ := own_some h0.brs (by simp)
  have hbs := h0.brs
  obtain ⟨c0, c1, c2, c3, c4⟩ := h0.cells
  have f1 := h0.blk.fro 1
  have c1d : W0.drew.cell? ⟨D, 1, none⟩ = some (.slice (some ⟨g, 0, none⟩) (r.length + 1) cap) := c1
  have f1d : W0.drew.frozen? ⟨D, 1, none⟩ = false := f1
  obtain ⟨k, hk⟩ : ∃ k, r.length = k := ⟨_, rfl⟩
  simp only [List.length_cons] at hbr hcap c1
  rw [hk] at c1 c1d hcap hbr
  have hq : IntKind.i64.wrap ((k : Int) + 1 - 1) = (k : Int) := by rw [IntKind.wrap_i64]; omega
  have hq2 : IntKind.i64.wrap (k : Int) = (k : Int) := by rw [IntKind.wrap_i64]; omega
  have H0 := Lib.hid h0
  have hsl := fun W => sliceB_hi g (k + 1) k cap (by omega) hcap W
  have hF : W0.ownsRow base 4 1 (.slice (some ⟨g, 0, none⟩) r.length cap) r.length (r.reverse.map Value.bool) := by
    rw [List.reverse_cons, List.map_append] at hbs
    have := ownsRow_front hbs
    simpa using this
  have HF := Lib.hid hF
  have HK := Lib.hid hk
  clear h0 hbs hF hk
  go_enter Tryz.func104, Tryz.ntmps104
  go_wp2
  rw [HW.out]
  clear HW
  go_region
  all_goals
    go_wp2
    go_end0
    have k1 := (H0.out.drew.setB (br' := r) (World.grownBy.refl _ _) HF.out).1
    rw [HK.out] at k1
    exact StP.ok Vm.cond8 k1 (b0.drew.setD H0.out.hD 1 _)
set_option maxRecDepth 100000 in
set_option maxHeartbeats 6400000 in
theorem op7_any (base D : Nat) (E : Vm) (x : Jo) (s : List ByteArray) (br : List Bool) (w : World) (h : MPs base D E s br w) (hb : base ≤ w.heap.size) (hc : x.c = 7) (hbr : br.length ≤ 4) (hne : br ≠ []) :
    Calls Tryz.prog 103 #[.pointer (some ⟨D, 0, none⟩), x.val] w (StP base D E (Vm.cond x.c s br) w) := by
  obtain ⟨vi, vb, h⟩ := h
  obtain ⟨C, A, B, t⟩ := x
  simp only at hc ⊢
  subst hc
  have h0 := h.alloc (.cells #[.int .i64 7, .int .i64 A, .int .i64 B, .string t] 69 (0, 0))
  have b0 : Fr base D w (w.alloc (.cells #[.int .i64 7, .int .i64 A, .int .i64 B, .string t] 69 (0, 0))) := (Fr.refl base D w).alloc hb _
  have hb0 := Nat.le_trans hb b0.size
  clear h

  rcases br with _ | ⟨b, r⟩
  · exact absurd rfl hne
  clear hne
  obtain ⟨a, cap, rfl, hcap, hmax⟩ := own_slice h0.brs
  obtain ⟨g, rfl, hgb, hgl⟩ := own_some h0.brs (by simp)
  have hbs := h0.brs
  obtain ⟨c0, c1, c2, c3, c4⟩ := h0.cells
  have f1 := h0.blk.fro 1
  have c1d : (w.alloc (.cells #[.int .i64 7, .int .i64 A, .int .i64 B, .string t] 69 (0, 0))).drew.cell? ⟨D, 1, none⟩ = some (.slice (some ⟨g, 0, none⟩) (r.length + 1) cap) := c1
  have f1d : (w.alloc (.cells #[.int .i64 7, .int .i64 A, .int .i64 B, .string t] 69 (0, 0))).drew.frozen? ⟨D, 1, none⟩ = false := f1
  obtain ⟨k, hk⟩ : ∃ k, r.length = k := ⟨_, rfl⟩
  simp only [List.length_cons] at hbr hcap c1
  rw [hk] at c1 c1d hcap hbr
  have hq : IntKind.i64.wrap ((k : Int) + 1 - 1) = (k : Int) := by rw [IntKind.wrap_i64]; omega
  have hq2 : IntKind.i64.wrap (k : Int) = (k : Int) := by rw [IntKind.wrap_i64]; omega
  have H0 := Lib.hid h0
  have hcl : (w.alloc (.cells #[.int .i64 7, .int .i64 A, .int .i64 B, .string t] 69 (0, 0))).cell? ⟨g, k, none⟩ = some (.bool b) := by
    obtain ⟨_, hr⟩ := br_row hbs
    obtain ⟨g', he, _, hc⟩ := hr (by simp)
    cases he
    have := hc k (by simp; omega)
    rw [this, List.getD_eq_getElem?_getD, List.reverse_cons, List.getElem?_append_right (by simp; omega)]
    simp [hk]
  have hcld : (w.alloc (.cells #[.int .i64 7, .int .i64 A, .int .i64 B, .string t] 69 (0, 0))).drew.cell? ⟨g, k, none⟩ = some (.bool b) := hcl
  have hfr : (w.alloc (.cells #[.int .i64 7, .int .i64 A, .int .i64 B, .string t] 69 (0, 0))).frozen? ⟨g, k, none⟩ = false := hbs.frozenAt k
  have hfrd : (w.alloc (.cells #[.int .i64 7, .int .i64 A, .int .i64 B, .string t] 69 (0, 0))).drew.frozen? ⟨g, k, none⟩ = false := hfr
  have hF : ((w.alloc (.cells #[.int .i64 7, .int .i64 A, .int .i64 B, .string t] 69 (0, 0))).setCell ⟨g, k, none⟩ (.bool (!b))).ownsRow base 4 1 (.slice (some ⟨g, 0, none⟩) (r.length + 1) cap) (r.length + 1) (((!b) :: r).reverse.map Value.bool) := by
    have := own_put (j := k) hbs (.bool (!b))
    rw [List.reverse_cons, List.map_append, List.set_append, if_neg (by simp; omega)] at this
    simpa [hk] using this
  have hgD : D ≠ g := fun e => h0.bD (by rw [e]; rfl)
  have hMM : MP base D vi (.slice (some ⟨g, 0, none⟩) (r.length + 1) cap) E s ((!b) :: r) ((w.alloc (.cells #[.int .i64 7, .int .i64 A, .int .i64 B, .string t] 69 (0, 0))).setCell ⟨g, k, none⟩ (.bool (!b))) :=
    ⟨h0.hD, h0.blk.oset g k _ hgD, own_set h0.its g k _ (fun e => by
      rcases own_two h0.its h0.brs (by decide) with h | h
      · rw [h] at e; cases e
      · exact h e), hF⟩
  have HM := Lib.hid hMM
  have HBS := Lib.hid hbs
  have HK := Lib.hid hk
  clear h0 hbs hF hk hMM
  go_enter Tryz.func103, Tryz.ntmps103
  go_wp2
  go_region
  all_goals
    go_wp2
    go_end0
    exact StP.ok Vm.cond7 (show MP base D vi _ E s ((!b) :: r) ((w.alloc (.cells #[.int .i64 7, .int .i64 A, .int .i64 B, .string t] 69 (0, 0))).drew.setCell ⟨g, k, none⟩ (.bool (!b))) from HM.out.drew) (b0.drew.setO (show (w.alloc (.cells #[.int .i64 7, .int .i64 A, .int .i64 B, .string t] 69 (0, 0))).drew.ownsRow base 4 1 _ _ _ from HBS.out) (.inr rfl) hgb k _)
set_option maxRecDepth 100000 in
set_option maxHeartbeats 6400000 in
theorem op6_live (base D : Nat) (E : Vm) (x : Jo) (s : List ByteArray) (br : List Bool) (w : World) (h : MPs base D E s br w) (hb : base ≤ w.heap.size) (hs : Vm.fits s) (hc : x.c = 6) (hbr : br.length ≤ 4) (hlv : Vm.live br = true) :
    Calls Tryz.prog 102 #[.pointer (some ⟨D, 0, none⟩), x.val] w (StP base D E (Vm.cond x.c s br) w) := by
  obtain ⟨vi, vb, h⟩ := h
  obtain ⟨C, A, B, t⟩ := x
  simp only at hc ⊢
  subst hc
  have h0 := h.alloc (.cells #[.int .i64 6, .int .i64 A, .int .i64 B, .string t] 69 (0, 0))
  have b0 : Fr base D w (w.alloc (.cells #[.int .i64 6, .int .i64 A, .int .i64 B, .string t] 69 (0, 0))) := (Fr.refl base D w).alloc hb _
  have hb0 := Nat.le_trans hb b0.size
  clear h

  obtain ⟨W0, HW⟩ : ∃ W0, Hid (w.alloc (.cells #[.int .i64 6, .int .i64 A, .int .i64 B, .string t] 69 (0, 0)) = W0) := ⟨_, Lib.hid rfl⟩
  rw [HW.out] at h0 b0 hb0
  obtain ⟨i0, hi, hz0, hz1, hz2⟩ := info_parts info_bool
  rcases s with _ | ⟨a, r⟩
  · rw [Vm.cond6_nil hlv]
    obtain ⟨ab, cb, rfl, hcapb, hmaxb⟩ := own_slice h0.brs
    have hsk := isSkipping_any base D vi _ E [] br W0.drew h0.drew (by omega)
    rw [hlv] at hsk
    have htt := takeTruth_no base D vi _ E br W0.drew h0.drew
    have hS0 : W0.drew.cell? ⟨D, 1, none⟩ = some (.slice ab br.length cb) := h0.drew.cells.2.1
    have HB := Lib.hid b0
    clear h0 hs hlv b0
    go_enter Tryz.func102, Tryz.ntmps102
    go_wp2
    rw [HW.out]
    clear HW
    refine wp_region_held_drew (S := fun W => W.cell? ⟨D, 1, none⟩ = some (.slice ab br.length cb)) (by kernel_rfl) hS0 (fun hH => ?_)
    refine wpAnyH_take (i := 0) (v := .pointer (some ⟨D, 0, none⟩)) rfl (by kernel_rfl) (by kernel_rfl) (by kernel_rfl) (fun _ _ _ h => h) (Or.inl ⟨by rfl, fun W hW => by go_simp⟩) (by assumption) ?_
    simp only [Act.put, List.getElem_toArray, List.getElem_cons_zero, List.setIfInBounds_toArray, List.set_cons_zero, List.set_cons_succ]
    refine wpAnyH_take (i := 1) (v := .pointer (some ⟨D, 0, none⟩)) rfl (by kernel_rfl) (by kernel_rfl) (by kernel_rfl) (fun _ _ _ h => h) (Or.inl ⟨by rfl, fun W hW => by go_simp⟩) (by assumption) ?_
    simp only [Act.put, List.getElem_toArray, List.getElem_cons_succ, List.getElem_cons_zero, List.setIfInBounds_toArray, List.set_cons_zero, List.set_cons_succ]
    refine wpAnyH_take (i := 2) (v := .pointer (some ⟨D, 0, none⟩)) rfl (by kernel_rfl) (by kernel_rfl) (by kernel_rfl) (fun _ _ _ h => h) (Or.inl ⟨by rfl, fun W hW => by go_simp⟩) (by assumption) ?_
    simp only [Act.put, List.getElem_toArray, List.getElem_cons_succ, List.getElem_cons_zero, List.setIfInBounds_toArray, List.set_cons_zero, List.set_cons_succ]
    refine wpAnyH_take (i := 3) (v := .pointer (some ⟨D, 1, none⟩)) rfl (by kernel_rfl) (by kernel_rfl) (by kernel_rfl) (fun _ _ _ h => h) (Or.inl ⟨by rfl, fun W hW => by go_simp⟩) (by assumption) ?_
    simp only [Act.put, List.getElem_toArray, List.getElem_cons_succ, List.getElem_cons_zero, List.setIfInBounds_toArray, List.set_cons_zero, List.set_cons_succ]
    refine wpAnyH_take (i := 4) (v := .slice ab br.length cb) rfl (by kernel_rfl) (by kernel_rfl) (by kernel_rfl) (fun _ _ _ h => h) (Or.inl ⟨by rfl, fun W hW => by go_simp⟩) (by assumption) ?_
    simp only [Act.put, List.getElem_toArray, List.getElem_cons_succ, List.getElem_cons_zero, List.setIfInBounds_toArray, List.set_cons_zero, List.set_cons_succ]
    refine wpAnyH_take (i := 5) (v := .pointer (some ⟨D, 0, none⟩)) rfl (by kernel_rfl) (by kernel_rfl) (by kernel_rfl) (fun _ _ _ h => h) (Or.inl ⟨by rfl, fun W hW => by go_simp⟩) (by assumption) ?_
    simp only [Act.put, List.getElem_toArray, List.getElem_cons_succ, List.getElem_cons_zero, List.setIfInBounds_toArray, List.set_cons_zero, List.set_cons_succ]
    refine wpAnyH_ready (rs := [6]) (by kernel_rfl) (by simp) ?_
    refine AllReadyH.cons rfl (fun K hK => ?_) AllReadyH.nil
    go_simp
    go_wp2_with (go_at_call 66; refine hsk.mono ?_; rintro e w9 ⟨rfl, rfl⟩)
    refine hK.out _ _ hS0 (fun hH1 => ?_)
    clear hK K
    refine wpAnyH_take (i := 7) (v := .bool true) rfl (by kernel_rfl) (by kernel_rfl) (by kernel_rfl) (fun _ _ _ h => h) (Or.inl ⟨by rfl, fun W hW => by go_simp⟩) (by assumption) ?_
    simp only [Act.put, List.getElem_toArray, List.getElem_cons_succ, List.getElem_cons_zero, List.setIfInBounds_toArray, List.set_cons_zero, List.set_cons_succ]
    refine wpAnyH_take (i := 8) (v := .bool true) rfl (by kernel_rfl) (by kernel_rfl) (by kernel_rfl) (fun _ _ _ h => h) (Or.inl ⟨by rfl, fun W hW => by go_simp⟩) (by assumption) ?_
    simp only [Act.put, List.getElem_toArray, List.getElem_cons_succ, List.getElem_cons_zero, List.setIfInBounds_toArray, List.set_cons_zero, List.set_cons_succ]
    refine wpAnyH_take (i := 9) (v := .pointer (some ⟨D, 0, none⟩)) rfl (by kernel_rfl) (by kernel_rfl) (by kernel_rfl) (fun _ _ _ h => h) (Or.inl ⟨by rfl, fun W hW => by go_simp⟩) (by assumption) ?_
    simp only [Act.put, List.getElem_toArray, List.getElem_cons_succ, List.getElem_cons_zero, List.setIfInBounds_toArray, List.set_cons_zero, List.set_cons_succ]
    refine wpAnyH_ready (rs := [10]) (by kernel_rfl) (by simp) ?_
    refine AllReadyH.cons rfl (fun K hK => ?_) AllReadyH.nil
    rw [if_pos (by rfl)]
    go_simp
    go_wp2_with (go_at_call 101; refine htt.mono ?_; rintro e w9 ⟨rfl, rfl⟩)
    exact ⟨rfl, StP.no rfl HB.out.drew⟩
  · rw [Vm.cond6_yes hlv]
    obtain ⟨q, HQ⟩ : ∃ q, Hid (decide (a.size ≠ 0) = q) := ⟨_, Lib.hid rfl⟩
    rw [HQ.out]
    have hS := hs.1
    obtain ⟨ab, cb, rfl, hcapb, hmaxb⟩ := own_slice h0.brs
    have hsk := isSkipping_any base D vi _ E (a :: r) br W0.drew h0.drew (by omega)
    rw [hlv] at hsk
    have htt := takeTruth_ok base D vi _ E a r br W0.drew h0.drew (by exact hb0) (by simp at hS; omega)
    unfold TtP at htt
    rw [HQ.out] at htt
    obtain ⟨c0, c1, c2, c3, c4⟩ := h0.drew.cells
    have HB := Lib.hid b0
    have HD := h0.hD
    clear h0 hs HQ hlv b0
    go_enter Tryz.func102, Tryz.ntmps102
    go_wp2
    rw [HW.out]
    clear HW
    go_region_law (first
      | (refine step_append_own rfl _ _ 60 rfl base 4 i0 (.bool false) 1 1 Tryz.underlying60 hi hz0 hz1 hz2 rfl (by decide) _ _ _ rfl (by exact h2.brs.alloc _) ⟨w2.heap.size, 0, none⟩ 1 1 [.bool q] rfl rfl (one_new w2 _ _) (by intro u hu; simp at hu; subst hu; rfl) (by unfold maxLen; omega) (by omega) (by have := c22.size; simp; simp at hb0 this; omega) (fun v5 w5 hown5 hg5 => ?_)
         obtain ⟨a5, c5, rfl, _⟩ := own_slice hown5
         have hg6 : w2.grownBy w5 (Value.slice ab br.length cb).ownBlock := grownBy_trans' (World.grownBy_alloc _ _ _) hg5
         have k1 := h2.setB (br' := q :: br) hg6 (by rw [List.length_cons, List.reverse_cons, List.map_append]; exact hown5)
         have d1 := (k1.2.cell 1).trans rfl
         have f1 := k1.2.fro 1
         have hB6 : Fr base D W0.drew w5 := c22.trans ((Fr.refl base D w2).grown hg6 h2.brs (.inr rfl) (Nat.le_trans hb0 c22.size) (Nat.le_refl _)))
      | (rw [if_pos (by simp [Region.wanted])]; go_simp; go_at_call 66; refine hsk.mono ?_; rintro e w9 ⟨rfl, rfl⟩)
      | (rw [if_pos (by rfl)]; go_simp; go_at_call 101; refine htt.mono ?_; rintro e w2 ⟨v2, rfl, h2, hv2, c22⟩; obtain ⟨m0, m1, m2, m3, m4⟩ := h2.cells; have mm1 := (h2.alloc (.cells #[.bool q] 4)).cells.2.1))
    all_goals
      go_wp2
      go_end0
      exact StP.ok rfl k1.1 (HB.out.drew.trans (hB6.setD HD 1 _))
set_option maxRecDepth 100000 in
set_option maxHeartbeats 6400000 in
theorem op6_skip (base D : Nat) (E : Vm) (x : Jo) (s : List ByteArray) (br : List Bool) (w : World) (h : MPs base D E s br w) (hb : base ≤ w.heap.size) (hc : x.c = 6) (hbr : br.length ≤ 4) (hlv : Vm.live br = false) :
    Calls Tryz.prog 102 #[.pointer (some ⟨D, 0, none⟩), x.val] w (StP base D E (Vm.cond x.c s br) w) := by
  obtain ⟨vi, vb, h⟩ := h
  obtain ⟨C, A, B, t⟩ := x
  simp only at hc ⊢
  subst hc
  have h0 := h.alloc (.cells #[.int .i64 6, .int .i64 A, .int .i64 B, .string t] 69 (0, 0))
  have b0 : Fr base D w (w.alloc (.cells #[.int .i64 6, .int .i64 A, .int .i64 B, .string t] 69 (0, 0))) := (Fr.refl base D w).alloc hb _
  have hb0 := Nat.le_trans hb b0.size
  clear h

  obtain ⟨W0, HW⟩ : ∃ W0, Hid (w.alloc (.cells #[.int .i64 6, .int .i64 A, .int .i64 B, .string t] 69 (0, 0)) = W0) := ⟨_, Lib.hid rfl⟩
  rw [HW.out] at h0 b0 hb0
  obtain ⟨i0, hi, hz0, hz1, hz2⟩ := info_parts info_bool
  rw [Vm.cond6_no hlv]
  obtain ⟨ab, cb, rfl, hcapb, hmaxb⟩ := own_slice h0.brs
  have hsk := isSkipping_any base D vi _ E s br W0.drew h0.drew (by omega)
  rw [hlv] at hsk
  obtain ⟨c0, c1, c2, c3, c4⟩ := h0.drew.cells
  have mm1 := (h0.alloc (.cells #[.bool false] 4)).cells.2.1
  have HB := Lib.hid b0
  have HD := h0.hD
  have h2 := h0.drew
  clear h0 hlv b0
  go_enter Tryz.func102, Tryz.ntmps102
  go_wp2
  rw [HW.out]
  clear HW
  refine wp_region_held_drew (S := fun _ => True) (by kernel_rfl) trivial (fun _ => ?_)
  refine wpAnyH_take (i := 0) (v := .pointer (some ⟨D, 0, none⟩)) rfl (by kernel_rfl) (by kernel_rfl) (by kernel_rfl) (fun _ _ _ h => h) (Or.inl ⟨by rfl, fun W hW => by go_simp⟩) trivial ?_
  simp only [Act.put, List.getElem_toArray, List.getElem_cons_zero, List.setIfInBounds_toArray, List.set_cons_zero, List.set_cons_succ]
  refine wpAnyH_take (i := 1) (v := .pointer (some ⟨D, 0, none⟩)) rfl (by kernel_rfl) (by kernel_rfl) (by kernel_rfl) (fun _ _ _ h => h) (Or.inl ⟨by rfl, fun W hW => by go_simp⟩) trivial ?_
  simp only [Act.put, List.getElem_toArray, List.getElem_cons_succ, List.getElem_cons_zero, List.setIfInBounds_toArray, List.set_cons_zero, List.set_cons_succ]
  refine wpAnyH_take (i := 2) (v := .pointer (some ⟨D, 0, none⟩)) rfl (by kernel_rfl) (by kernel_rfl) (by kernel_rfl) (fun _ _ _ h => h) (Or.inl ⟨by rfl, fun W hW => by go_simp⟩) trivial ?_
  simp only [Act.put, List.getElem_toArray, List.getElem_cons_succ, List.getElem_cons_zero, List.setIfInBounds_toArray, List.set_cons_zero, List.set_cons_succ]
  refine wpAnyH_take (i := 3) (v := .pointer (some ⟨D, 1, none⟩)) rfl (by kernel_rfl) (by kernel_rfl) (by kernel_rfl) (fun _ _ _ h => h) (Or.inl ⟨by rfl, fun W hW => by go_simp⟩) trivial ?_
  simp only [Act.put, List.getElem_toArray, List.getElem_cons_succ, List.getElem_cons_zero, List.setIfInBounds_toArray, List.set_cons_zero, List.set_cons_succ]
  refine wpAnyH_take (i := 5) (v := .pointer (some ⟨D, 0, none⟩)) rfl (by kernel_rfl) (by kernel_rfl) (by kernel_rfl) (fun _ _ _ h => h) (Or.inl ⟨by rfl, fun W hW => by go_simp⟩) trivial ?_
  simp only [Act.put, List.getElem_toArray, List.getElem_cons_succ, List.getElem_cons_zero, List.setIfInBounds_toArray, List.set_cons_zero, List.set_cons_succ]
  refine wpAnyH_ready (rs := [4, 6]) (by kernel_rfl) (by simp) ?_
  refine AllReadyH.cons rfl (fun K hK => ?_) (AllReadyH.cons rfl (fun K hK => ?_) AllReadyH.nil)
  · go_simp
    refine hK.out _ _ trivial (fun _ => ?_)
    clear hK K
    refine wpAnyH_ready (rs := [6]) (by kernel_rfl) (by simp) ?_
    refine AllReadyH.cons rfl (fun K hK => ?_) AllReadyH.nil
    go_simp
    go_wp2_with (go_at_call 66; refine hsk.mono ?_; rintro e w9 ⟨rfl, rfl⟩)
    refine hK.out _ _ trivial (fun _ => ?_)
    clear hK K
    refine wpAnyH_take (i := 7) (v := .bool false) rfl (by kernel_rfl) (by kernel_rfl) (by kernel_rfl) (fun _ _ _ h => h) (Or.inl ⟨by rfl, fun W hW => by go_simp⟩) trivial ?_
    simp only [Act.put, List.getElem_toArray, List.getElem_cons_succ, List.getElem_cons_zero, List.setIfInBounds_toArray, List.set_cons_zero, List.set_cons_succ]
    refine wpAnyH_take (i := 8) (v := .bool false) rfl (by kernel_rfl) (by kernel_rfl) (by kernel_rfl) (fun _ _ _ h => h) (Or.inl ⟨by rfl, fun W hW => by go_simp⟩) trivial ?_
    simp only [Act.put, List.getElem_toArray, List.getElem_cons_succ, List.getElem_cons_zero, List.setIfInBounds_toArray, List.set_cons_zero, List.set_cons_succ]
    refine wpAnyH_take (i := 9) (v := undef) rfl (by kernel_rfl) (by kernel_rfl) (by kernel_rfl) (fun _ _ _ h => h) (Or.inr ⟨rfl, rfl⟩) trivial ?_
    simp only [Act.put, List.getElem_toArray, List.getElem_cons_succ, List.getElem_cons_zero, List.setIfInBounds_toArray, List.set_cons_zero, List.set_cons_succ]
    refine wpAnyH_take (i := 10) (v := undef) rfl (by kernel_rfl) (by kernel_rfl) (by kernel_rfl) (fun _ _ _ h => h) (Or.inr ⟨rfl, rfl⟩) trivial ?_
    simp only [Act.put, List.getElem_toArray, List.getElem_cons_succ, List.getElem_cons_zero, List.setIfInBounds_toArray, List.set_cons_zero, List.set_cons_succ]
    refine wpAnyH_take (i := 11) (v := .bool false) rfl (by kernel_rfl) (by kernel_rfl) (by kernel_rfl) (fun _ _ _ h => h) (Or.inl ⟨by rfl, fun W hW => by go_simp⟩) trivial ?_
    simp only [Act.put, List.getElem_toArray, List.getElem_cons_succ, List.getElem_cons_zero, List.setIfInBounds_toArray, List.set_cons_zero, List.set_cons_succ]
    refine wpAnyH_ready (rs := [12]) (by kernel_rfl) (by simp) ?_
    refine AllReadyH.cons rfl (fun K hK => ?_) AllReadyH.nil
    go_simp
    refine hK.out _ _ trivial (fun _ => ?_)
    clear hK K
    refine wpAnyH_ready (rs := [13]) (by kernel_rfl) (by simp) ?_
    refine AllReadyH.cons rfl (fun K hK => ?_) AllReadyH.nil
    refine step_append_own rfl _ _ 60 rfl base 4 i0 (.bool false) 1 1 Tryz.underlying60 hi hz0 hz1 hz2 rfl (by decide) _ _ _ rfl (by exact h2.brs.alloc _) ⟨W0.heap.size, 0, none⟩ 1 1 [.bool false] rfl rfl (one_new W0.drew _ _) (by intro u hu; simp at hu; subst hu; rfl) (by unfold maxLen; omega) (by omega) (by simp; omega) (fun v5 w5 hown5 hg5 => ?_)
    obtain ⟨a5, c5, rfl, _⟩ := own_slice hown5
    have hg6 : W0.drew.grownBy w5 (Value.slice ab br.length cb).ownBlock := grownBy_trans' (World.grownBy_alloc _ _ _) hg5
    have k1 := h2.setB (br' := false :: br) hg6 (by rw [List.length_cons, List.reverse_cons, List.map_append]; exact hown5)
    have d1 := (k1.2.cell 1).trans rfl
    have f1 := k1.2.fro 1
    have hB6 : Fr base D W0.drew w5 := (Fr.refl base D W0.drew).grown hg6 h2.brs (.inr rfl) hb0 (Nat.le_refl _)
    refine hK.out _ _ trivial (fun _ => ?_)
    clear hK K
    refine wpAnyH_take (i := 14) (v := .pointer (some ⟨D, 0, none⟩)) rfl (by kernel_rfl) (by kernel_rfl) (by kernel_rfl) (fun _ _ _ h => h) (Or.inl ⟨by rfl, fun W hW => by go_simp⟩) trivial ?_
    simp only [Act.put, List.getElem_toArray, List.getElem_cons_succ, List.getElem_cons_zero, List.setIfInBounds_toArray, List.set_cons_zero, List.set_cons_succ]
    refine wpAnyH_take (i := 15) (v := .pointer (some ⟨D, 1, none⟩)) rfl (by kernel_rfl) (by kernel_rfl) (by kernel_rfl) (fun _ _ _ h => h) (Or.inl ⟨by rfl, fun W hW => by go_simp⟩) trivial ?_
    simp only [Act.put, List.getElem_toArray, List.getElem_cons_succ, List.getElem_cons_zero, List.setIfInBounds_toArray, List.set_cons_zero, List.set_cons_succ]
    refine wpAnyH_ready (rs := [16]) (by kernel_rfl) (by simp) ?_
    refine AllReadyH.cons rfl (fun K hK => ?_) AllReadyH.nil
    go_simp
    refine hK.out _ _ trivial (fun _ => ?_)
    clear hK K
    refine wpAnyH_done (by kernel_rfl) ?_ _
    go_wp2
    go_end0
    exact StP.ok rfl k1.1 (HB.out.drew.trans (hB6.setD HD 1 _))
  · go_simp
    go_wp2_with (go_at_call 66; refine hsk.mono ?_; rintro e w9 ⟨rfl, rfl⟩)
    refine hK.out _ _ trivial (fun _ => ?_)
    clear hK K
    refine wpAnyH_take (i := 7) (v := .bool false) rfl (by kernel_rfl) (by kernel_rfl) (by kernel_rfl) (fun _ _ _ h => h) (Or.inl ⟨by rfl, fun W hW => by go_simp⟩) trivial ?_
    simp only [Act.put, List.getElem_toArray, List.getElem_cons_succ, List.getElem_cons_zero, List.setIfInBounds_toArray, List.set_cons_zero, List.set_cons_succ]
    refine wpAnyH_take (i := 8) (v := .bool false) rfl (by kernel_rfl) (by kernel_rfl) (by kernel_rfl) (fun _ _ _ h => h) (Or.inl ⟨by rfl, fun W hW => by go_simp⟩) trivial ?_
    simp only [Act.put, List.getElem_toArray, List.getElem_cons_succ, List.getElem_cons_zero, List.setIfInBounds_toArray, List.set_cons_zero, List.set_cons_succ]
    refine wpAnyH_take (i := 9) (v := undef) rfl (by kernel_rfl) (by kernel_rfl) (by kernel_rfl) (fun _ _ _ h => h) (Or.inr ⟨rfl, rfl⟩) trivial ?_
    simp only [Act.put, List.getElem_toArray, List.getElem_cons_succ, List.getElem_cons_zero, List.setIfInBounds_toArray, List.set_cons_zero, List.set_cons_succ]
    refine wpAnyH_take (i := 10) (v := undef) rfl (by kernel_rfl) (by kernel_rfl) (by kernel_rfl) (fun _ _ _ h => h) (Or.inr ⟨rfl, rfl⟩) trivial ?_
    simp only [Act.put, List.getElem_toArray, List.getElem_cons_succ, List.getElem_cons_zero, List.setIfInBounds_toArray, List.set_cons_zero, List.set_cons_succ]
    refine wpAnyH_take (i := 11) (v := .bool false) rfl (by kernel_rfl) (by kernel_rfl) (by kernel_rfl) (fun _ _ _ h => h) (Or.inl ⟨by rfl, fun W hW => by go_simp⟩) trivial ?_
    simp only [Act.put, List.getElem_toArray, List.getElem_cons_succ, List.getElem_cons_zero, List.setIfInBounds_toArray, List.set_cons_zero, List.set_cons_succ]
    refine wpAnyH_ready (rs := [4, 12]) (by kernel_rfl) (by simp) ?_
    refine AllReadyH.cons rfl (fun K hK => ?_) (AllReadyH.cons rfl (fun K hK => ?_) AllReadyH.nil)
    · go_simp
      refine hK.out _ _ trivial (fun _ => ?_)
      clear hK K
      refine wpAnyH_ready (rs := [12]) (by kernel_rfl) (by simp) ?_
      refine AllReadyH.cons rfl (fun K hK => ?_) AllReadyH.nil
      go_simp
      refine hK.out _ _ trivial (fun _ => ?_)
      clear hK K
      refine wpAnyH_ready (rs := [13]) (by kernel_rfl) (by simp) ?_
      refine AllReadyH.cons rfl (fun K hK => ?_) AllReadyH.nil
      refine step_append_own rfl _ _ 60 rfl base 4 i0 (.bool false) 1 1 Tryz.underlying60 hi hz0 hz1 hz2 rfl (by decide) _ _ _ rfl (by exact h2.brs.alloc _) ⟨W0.heap.size, 0, none⟩ 1 1 [.bool false] rfl rfl (one_new W0.drew _ _) (by intro u hu; simp at hu; subst hu; rfl) (by unfold maxLen; omega) (by omega) (by simp; omega) (fun v5 w5 hown5 hg5 => ?_)
      obtain ⟨a5, c5, rfl, _⟩ := own_slice hown5
      have hg6 : W0.drew.grownBy w5 (Value.slice ab br.length cb).ownBlock := grownBy_trans' (World.grownBy_alloc _ _ _) hg5
      have k1 := h2.setB (br' := false :: br) hg6 (by rw [List.length_cons, List.reverse_cons, List.map_append]; exact hown5)
      have d1 := (k1.2.cell 1).trans rfl
      have f1 := k1.2.fro 1
      have hB6 : Fr base D W0.drew w5 := (Fr.refl base D W0.drew).grown hg6 h2.brs (.inr rfl) hb0 (Nat.le_refl _)
      refine hK.out _ _ trivial (fun _ => ?_)
      clear hK K
      refine wpAnyH_take (i := 14) (v := .pointer (some ⟨D, 0, none⟩)) rfl (by kernel_rfl) (by kernel_rfl) (by kernel_rfl) (fun _ _ _ h => h) (Or.inl ⟨by rfl, fun W hW => by go_simp⟩) trivial ?_
      simp only [Act.put, List.getElem_toArray, List.getElem_cons_succ, List.getElem_cons_zero, List.setIfInBounds_toArray, List.set_cons_zero, List.set_cons_succ]
      refine wpAnyH_take (i := 15) (v := .pointer (some ⟨D, 1, none⟩)) rfl (by kernel_rfl) (by kernel_rfl) (by kernel_rfl) (fun _ _ _ h => h) (Or.inl ⟨by rfl, fun W hW => by go_simp⟩) trivial ?_
      simp only [Act.put, List.getElem_toArray, List.getElem_cons_succ, List.getElem_cons_zero, List.setIfInBounds_toArray, List.set_cons_zero, List.set_cons_succ]
      refine wpAnyH_ready (rs := [16]) (by kernel_rfl) (by simp) ?_
      refine AllReadyH.cons rfl (fun K hK => ?_) AllReadyH.nil
      go_simp
      refine hK.out _ _ trivial (fun _ => ?_)
      clear hK K
      refine wpAnyH_done (by kernel_rfl) ?_ _
      go_wp2
      go_end0
      exact StP.ok rfl k1.1 (HB.out.drew.trans (hB6.setD HD 1 _))
    · go_simp
      refine hK.out _ _ trivial (fun _ => ?_)
      clear hK K
      refine wpAnyH_ready (rs := [4]) (by kernel_rfl) (by simp) ?_
      refine AllReadyH.cons rfl (fun K hK => ?_) AllReadyH.nil
      go_simp
      refine hK.out _ _ trivial (fun _ => ?_)
      clear hK K
      refine wpAnyH_ready (rs := [13]) (by kernel_rfl) (by simp) ?_
      refine AllReadyH.cons rfl (fun K hK => ?_) AllReadyH.nil
      refine step_append_own rfl _ _ 60 rfl base 4 i0 (.bool false) 1 1 Tryz.underlying60 hi hz0 hz1 hz2 rfl (by decide) _ _ _ rfl (by exact h2.brs.alloc _) ⟨W0.heap.size, 0, none⟩ 1 1 [.bool false] rfl rfl (one_new W0.drew _ _) (by intro u hu; simp at hu; subst hu; rfl) (by unfold maxLen; omega) (by omega) (by simp; omega) (fun v5 w5 hown5 hg5 => ?_)
      obtain ⟨a5, c5, rfl, _⟩ := own_slice hown5
      have hg6 : W0.drew.grownBy w5 (Value.slice ab br.length cb).ownBlock := grownBy_trans' (World.grownBy_alloc _ _ _) hg5
      have k1 := h2.setB (br' := false :: br) hg6 (by rw [List.length_cons, List.reverse_cons, List.map_append]; exact hown5)
      have d1 := (k1.2.cell 1).trans rfl
      have f1 := k1.2.fro 1
      have hB6 : Fr base D W0.drew w5 := (Fr.refl base D W0.drew).grown hg6 h2.brs (.inr rfl) hb0 (Nat.le_refl _)
      refine hK.out _ _ trivial (fun _ => ?_)
      clear hK K
      refine wpAnyH_take (i := 14) (v := .pointer (some ⟨D, 0, none⟩)) rfl (by kernel_rfl) (by kernel_rfl) (by kernel_rfl) (fun _ _ _ h => h) (Or.inl ⟨by rfl, fun W hW => by go_simp⟩) trivial ?_
      simp only [Act.put, List.getElem_toArray, List.getElem_cons_succ, List.getElem_cons_zero, List.setIfInBounds_toArray, List.set_cons_zero, List.set_cons_succ]
      refine wpAnyH_take (i := 15) (v := .pointer (some ⟨D, 1, none⟩)) rfl (by kernel_rfl) (by kernel_rfl) (by kernel_rfl) (fun _ _ _ h => h) (Or.inl ⟨by rfl, fun W hW => by go_simp⟩) trivial ?_
      simp only [Act.put, List.getElem_toArray, List.getElem_cons_succ, List.getElem_cons_zero, List.setIfInBounds_toArray, List.set_cons_zero, List.set_cons_succ]
      refine wpAnyH_ready (rs := [16]) (by kernel_rfl) (by simp) ?_
      refine AllReadyH.cons rfl (fun K hK => ?_) AllReadyH.nil
      go_simp
      refine hK.out _ _ trivial (fun _ => ?_)
      clear hK K
      refine wpAnyH_done (by kernel_rfl) ?_ _
      go_wp2
      go_end0
      exact StP.ok rfl k1.1 (HB.out.drew.trans (hB6.setD HD 1 _))
end Go.Proofs.YtdaffohimifecaaGreat
