/-
  The program's TxRead.
-/
import Derived.Test.YtcbpdibkindnfaaGreatUp
import Derived.Test.YtcbpdibkindnfaaGreatTu
import Derived.Test.YtcbpdibkindnfaaGreatVa
import Derived.Laws.EntriesVeiled
namespace Go.Proofs.YtcbpdibkindnfaaGreat
open Go.RowKit

theorem Tr.read_parts {s r3 r4 r5 r6 : ByteArray} {b3 b4 b5 b6 : Bool} {l : List Tr.In} {outs : List Tr.Out} {af : Int} {nt : ByteArray} (h3 : (b3 = true → false = true ∨ Tr.rdI s = none) ∧ (b3 = false → false = false ∧ Tr.rdI s = some (l, r3))) (h4 : (b4 = true → b3 = true ∨ Tr.rdU r3 = none) ∧ (b4 = false → b3 = false ∧ Tr.rdU r3 = some (outs, r4)))
    (h5 : (b5 = true → b4 = true ∨ En.dec r4 = none) ∧ (b5 = false → b4 = false ∧ En.dec r4 = some (af, r5))) (h6 : (b6 = true → b5 = true ∨ En.decT r5 = none) ∧ (b6 = false → b5 = false ∧ En.decT r5 = some (nt, r6))) :
    (b6 = true → Tr.rdA Tr.inP s = none) ∧ (b6 = false → Tr.rdA Tr.inP s = some (⟨l, outs, af, nt⟩, r6)) := by
  have hE := Tr.rdE_gen (d := ⟨l, outs, 0, ByteArray.empty⟩) h5 h6
  constructor
  · intro hb
    cases hb3 : b3
    · have e3 := (h3.2 hb3).2
      rw [Tr.rdI_some e3]
      cases hb4 : b4
      · have e4 := (h4.2 hb4).2
        rw [Tr.rdU_some e4]
        rcases hE.1 hb with e | e
        · rw [hb4] at e; cases e
        · exact e
      · rcases h4.1 hb4 with e | e
        · rw [hb3] at e; cases e
        · exact Tr.rdU_none e
    · rcases h3.1 hb3 with e | e
      · cases e
      · exact Tr.rdI_none e
  · intro hb
    obtain ⟨e4, e5⟩ := hE.2 hb
    obtain ⟨e3, f4⟩ := h4.2 e4
    have f3 := (h3.2 e3).2
    rw [Tr.rdI_some f3, Tr.rdU_some f4]
    exact e5
theorem Tr.readP_no {s : ByteArray} (h : Tr.rdA Tr.inP s = none) : Tr.readP s = none := by
  unfold Tr.readP
  rw [h]
theorem Tr.readP_rest {s r : ByteArray} {t : Tr} (h : Tr.rdA Tr.inP s = some (t, r)) (hz : r.size ≠ 0) : Tr.readP s = none := by
  unfold Tr.readP
  rw [h]
  simp only
  rw [if_neg hz]
theorem Tr.readP_all {s r : ByteArray} {t : Tr} (h : Tr.rdA Tr.inP s = some (t, r)) (hz : r.size = 0) : Tr.readP s = if t.ok = true then some t else none := by
  unfold Tr.readP
  rw [h]
  simp only
  rw [if_pos hz]
theorem c3r {B : Nat} {t : TypeId} {u0 u1 u2 : Value} {w : World} (h : Bk B t #[u0, u1, u2] w) : (w.cell? ⟨B, 0, none⟩ = some u0 ∧ w.cell? ⟨B, 1, none⟩ = some u1 ∧ w.cell? ⟨B, 2, none⟩ = some u2) ∧ w.frozen? ⟨B, 0, none⟩ = false ∧ w.frozen? ⟨B, 1, none⟩ = false ∧ w.frozen? ⟨B, 2, none⟩ = false := ⟨⟨h.cell 0, h.cell 1, h.cell 2⟩, h.fro 0, h.fro 1, h.fro 2⟩
set_option maxRecDepth 100000 in
set_option maxHeartbeats 3200000 in
theorem readerOf_any (s : ByteArray) (w : World) :
    Calls Tryz.prog 18 #[.string s] w fun e w' => ∃ B, e = .returned (.agg #[takerAt B, restAt B, .bool false]) ∧ w.heap.size ≤ B ∧ w'.heap[B]? = some (.cells #[.string s] 9 (0, 0)) ∧ Below w.heap.size w w' := by
  have v0 : Bk w.heap.size 44 #[.nilFunc, .nilFunc, .bool false] (w.alloc (.cells #[.nilFunc, .nilFunc, .bool false] 44 (0, 0))) := Bk.new _ _ _
  have hb0 : Below w.heap.size w (w.alloc (.cells #[.nilFunc, .nilFunc, .bool false] 44 (0, 0))) := (Below.refl _ _).alloc (Nat.le_refl _) _
  go_enter Tryz.func18, Tryz.ntmps18
  go_wp2_with fail
  refine (bytesOf_any s _).mono ?_
  rintro e w1 ⟨rfl, rfl⟩
  have hsz : (w.alloc (.cells #[.nilFunc, .nilFunc, .bool false] 44)).heap.size = w.heap.size + 1 := by simp
  rw [hsz]
  have v1 := v0.alloc (.cells #[.string s] 9 (0, 0))
  have hb1 := hb0.alloc hb0.size (.cells #[.string s] 9 (0, 0))
  have hst : ((w.alloc (.cells #[.nilFunc, .nilFunc, .bool false] 44 (0, 0))).alloc (.cells #[.string s] 9 (0, 0))).heap[w.heap.size + 1]? = some (.cells #[.string s] 9 (0, 0)) := by
    have h1 := heap_alloc_new (w.alloc (.cells #[.nilFunc, .nilFunc, .bool false] 44 (0, 0))) (.cells #[.string s] 9 (0, 0))
    rw [hsz] at h1
    exact h1
  obtain ⟨W1, HW1⟩ : ∃ W, Hid ((w.alloc (.cells #[.nilFunc, .nilFunc, .bool false] 44 (0, 0))).alloc (.cells #[.string s] 9 (0, 0)) = W) := ⟨_, Lib.hid rfl⟩
  rw [HW1.out] at v1 hb1 hst
  obtain ⟨⟨c0, c1, c2⟩, f0, f1, f2⟩ := c3r v1
  have hR := ((v1.set 0 (takerAt (w.heap.size + 1))).set 1 (restAt (w.heap.size + 1))).set 2 (.bool false)
  have hs2 : ((((W1.setCell ⟨w.heap.size, 0, none⟩ (takerAt (w.heap.size + 1))).setCell ⟨w.heap.size, 1, none⟩ (restAt (w.heap.size + 1))).setCell ⟨w.heap.size, 2, none⟩ (.bool false))).heap[w.heap.size + 1]? = some (.cells #[.string s] 9 (0, 0)) :=
    (Below.heap_setCell _ _ _ _ (by simp)).trans ((Below.heap_setCell _ _ _ _ (by simp)).trans ((Below.heap_setCell _ _ _ _ (by simp)).trans hst))
  have hb2 := ((hb1.setCell (p := ⟨w.heap.size, 0, none⟩) (Nat.le_refl _) (takerAt (w.heap.size + 1))).setCell (p := ⟨w.heap.size, 1, none⟩) (Nat.le_refl _) (restAt (w.heap.size + 1))).setCell (p := ⟨w.heap.size, 2, none⟩) (Nat.le_refl _) (.bool false)
  rw [HW1.out]
  clear v0 hb0 hsz v1 hb1 hst HW1
  go_wp2
  refine bodyPost_ret (results_cell_row (P := Tryz.prog) rfl _ _ w.heap.size 44 _ (0, 0) _ rfl hR.held Tryz.underlying44 rfl (by kernel_rfl)) rfl ?_
  exact ⟨w.heap.size + 1, rfl, by omega, hs2, hb2⟩
set_option maxRecDepth 100000 in
set_option maxHeartbeats 3200000 in
theorem implTxRead_any (s : ByteArray) (w : World) :
    Calls Tryz.prog 8 #[.string s] w (TxAnsD (Tr.read s) w) := by
  have vR0 : Bk w.heap.size 26 #[.slice none 0 0, .slice none 0 0, .int .i64 0, .string ⟨#[]⟩] (w.alloc (.cells #[.slice none 0 0, .slice none 0 0, .int .i64 0, .string ⟨#[]⟩] 26 (0, 0))) := Bk.new _ _ _
  have hb0 : Below w.heap.size w (w.alloc (.cells #[.slice none 0 0, .slice none 0 0, .int .i64 0, .string ⟨#[]⟩] 26 (0, 0))) := (Below.refl _ _).alloc (Nat.le_refl _) _
  have hcr := readerOf_any s (w.alloc (.cells #[.slice none 0 0, .slice none 0 0, .int .i64 0, .string ⟨#[]⟩] 26 (0, 0)))
  rw [← Tr.readP_eq]
  unfold TxAnsD
  go_enter Tryz.func8, Tryz.ntmps8
  go_wp2_with fail
  refine hcr.mono ?_
  rintro e w1 ⟨B, rfl, hBb, hstr, hx⟩
  have hb1 := hb0.trans (hx.mono hb0.size)
  have vR1 := vR0.below hx
  have hBw : w.heap.size < B := by simp at hBb; omega
  have vR2 := vR1.alloc (.cells #[.slice none 0 0, .slice none 0 0, .int .i64 0, .string ⟨#[]⟩, takerAt B, restAt B, .bool false] 47 (0, 0))
  have hb2 := hb1.alloc hb1.size (.cells #[.slice none 0 0, .slice none 0 0, .int .i64 0, .string ⟨#[]⟩, takerAt B, restAt B, .bool false] 47 (0, 0))
  have h2 : RT w1.heap.size B (.slice none 0 0) (.slice none 0 0) (.int .i64 0) (.string ⟨#[]⟩) s false (w1.alloc (.cells #[.slice none 0 0, .slice none 0 0, .int .i64 0, .string ⟨#[]⟩, takerAt B, restAt B, .bool false] 47 (0, 0))) := ⟨Bk.new _ _ _, (Below.heap_alloc _ _ _ (lt_of_block hstr)).trans hstr⟩
  have hDw : w.heap.size < w1.heap.size := vR1.lt
  have hci := readIns_any w1.heap.size B _ _ _ s false _ h2
  have hne2 : w.heap.size ≠ B := by omega
  have HBL := Lib.hid (lt_of_block hstr)
  clear hx hcr vR0 hb0 vR1 hb1 hstr hBb h2
  go_wp2_with fail
  refine hci.mono ?_
  rintro e w3 ⟨a, n, c, l, r3, b3, rfl, h3, hl, HOI, HDI, t3, HG3⟩
  have vR3 := vR2.two t3 (by omega) hne2
  have hb3 := hb2.trans (t3.low hb2.size (by omega) (by omega))
  have hDs : w1.heap.size < w3.heap.size := h3.blk.lt
  have hco := readOuts_any w1.heap.size B _ _ _ r3 b3 _ h3
  clear hci vR2 h3
  go_wp2_with fail
  refine hco.mono ?_
  rintro e w4 ⟨a2, m, c2, outs, r4, b4, rfl, h4, hm, HOO, t4, HG4⟩
  have hsz2 : (w1.alloc (.cells #[.slice none 0 0, .slice none 0 0, .int .i64 0, .string ⟨#[]⟩, takerAt B, restAt B, .bool false] 47 (0, 0))).heap.size = w1.heap.size + 1 := by simp
  have hBs : B < w1.heap.size + 1 := by have := HBL.out; omega
  have vR4 := vR3.two t4 (by omega) hne2
  have hb4 := hb3.trans (t4.low hb3.size (by omega) (by omega))
  have HOI4 := Lib.hid (HOI.out.two t4 (by rw [hsz2]; omega) (by rw [hsz2]; omega))
  have hc5 := pnumber_any w1.heap.size B _ _ _ _ r4 b4 _ h4
  have f4 := h4.blk.fro 2
  clear hco vR3 h4 t3
  go_wp2_with fail
  refine hc5.mono ?_
  rintro e w5 ⟨af, rfl, _, r5, b5, h5, t5, HG5⟩
  have h5s := h5.put2 (.int .i64 af)
  have t5s := t5.trans (Two.set w5 2 (.int .i64 af))
  obtain ⟨⟨_, _, k2, _⟩, _⟩ := h5.cells
  have g2 := h5.blk.fro 2
  have vR5 := vR4.two t5s (by omega) hne2
  have hb5 := hb4.trans (t5s.low hb4.size (by omega) (by omega))
  have HOI5 := Lib.hid (HOI4.out.two t5s (by rw [hsz2]; omega) (by rw [hsz2]; omega))
  have HOO5 := Lib.hid (OwnO.two HOO.out t5s (by omega) (by omega))
  have hc6 := ptext_any w1.heap.size B _ _ _ _ r5 b5 _ h5s
  clear hc5 vR4 h5 t5 f4
  go_wp2_with fail
  refine hc6.mono ?_
  rintro e w6 ⟨nt, rfl, r6, b6, h6, t6, HG6⟩
  have h6s := h6.put3 (.string nt)
  have t6s := t6.trans (Two.set w6 3 (.string nt))
  obtain ⟨⟨_, _, _, k3⟩, _⟩ := h6.cells
  have g3 := h6.blk.fro 3
  have vR6 := vR5.two t6s (by omega) hne2
  have hb6 := hb5.trans (t6s.low hb5.size (by omega) (by omega))
  have HOI6 := Lib.hid ((HOI5.out.two t6s (by rw [hsz2]; omega) (by rw [hsz2]; omega)).base13 hb2.size)
  have HOO6 : Hid (OwnO w.heap.size (w6.setCell ⟨w1.heap.size, 3, none⟩ (.string nt)) (.slice a2 m c2) outs) := Lib.hid (ownsRow_base (show World.ownsRow _ _ 66 2 (.slice a2 m c2) _ (Tr.ocs _) from (OwnO.two HOO5.out t6s (by omega) (by omega))) hb3.size)
  have HRD := Lib.hid (Tr.read_parts ⟨HG3.out.1, fun h => ⟨rfl, (HG3.out.2 h).2⟩⟩ HG4.out HG5.out HG6.out)
  have hcd := pdone_any w1.heap.size B _ _ _ _ r6 b6 _ h6s
  clear hc6 vR5 h6 t6 h5s t5s t6s k2 g2 HOI5 HOO5 HOI4 HG3 HG4 HG5 HG6 HOI HOO HBL hsz2
  obtain ⟨W6, HW6⟩ : ∃ W, Hid (w6.setCell ⟨w1.heap.size, 3, none⟩ (.string nt) = W) := ⟨_, Lib.hid rfl⟩
  rw [HW6.out] at h6s vR6 hb6 HOI6 HOO6 hcd
  by_cases hdn : (!b6 && decide (r6.size = 0)) = true
  case neg =>
    have hdf : (!b6 && decide (r6.size = 0)) = false := by simpa using hdn
    have HNO : Hid (Tr.readP s = none) := Lib.hid (by
      cases hb : b6
      · rw [hb] at hdf
        exact Tr.readP_rest (HRD.out.2 hb) (by simpa using hdf)
      · exact Tr.readP_no (HRD.out.1 hb))
    rw [hdf] at hcd
    clear hdn hdf HRD HOI6 HOO6 h6s
    go_wp2_with fail
    rw [HW6.out]
    refine hcd.mono ?_
    rintro e w7 ⟨rfl, rfl⟩
    clear k3 g3
    have hR := vR6.store4 (.slice none 0 0) (.slice none 0 0) (.int .i64 0) (.string ⟨#[]⟩)
    have hbz := below_store4 hb6 w.heap.size (Nat.le_refl _) (.slice none 0 0) (.slice none 0 0) (.int .i64 0) (.string ⟨#[]⟩)
    obtain ⟨y0, y1, y2, y3⟩ := Bk.c4 vR6
    obtain ⟨f0, f1, f2, f3⟩ := Bk.f4 vR6
    clear vR6
    go_wp2
    refine bodyPost_ret (results_ct13 (P := Tryz.prog) rfl _ _ w.heap.size 26 _ (0, 0) _ rfl hR.held Tryz.underlying26 rfl (by kernel_rfl)) rfl ?_
    exact ⟨none, 0, 0, none, 0, 0, 0, ⟨#[]⟩, false, rfl, hbz, .inl ⟨HNO, rfl, rfl, rfl, rfl, rfl, rfl, rfl, rfl, rfl⟩⟩
  have hb0 : b6 = false := by cases b6 <;> simp_all
  have hz0 : r6.size = 0 := by rw [hb0] at hdn; simpa using hdn
  rw [hdn] at hcd
  have HALL := Lib.hid (Tr.readP_all (HRD.out.2 hb0) hz0)
  have hsm := Tr.inP_small (HRD.out.2 hb0)
  subst hl
  subst hm
  have hTr := HOI6.out.trR (af := af) (nt := nt) HOO6.out
  have hcT := implTxOk_any w.heap.size a l.length c a2 outs.length c2 ⟨l.map Prod.fst, outs, af, nt⟩ W6 hTr (own_capV HOI6.out.1) hsm
  simp only at hcT
  obtain ⟨⟨d0, d1, d2, d3⟩, _⟩ := h6s.cells
  clear hdn hb0 hz0 hsm hTr HRD
  obtain ⟨n, hn⟩ : ∃ n, l.length = n := ⟨_, rfl⟩
  obtain ⟨m, hm⟩ : ∃ m, outs.length = m := ⟨_, rfl⟩
  rw [hn] at d0 hcT HOI6
  rw [hm] at d1 hcT HOO6
  cases hok : Tr.ok ⟨l.map Prod.fst, outs, af, nt⟩
  · rw [hok] at hcT
    have HNO : Hid (Tr.readP s = none) := Lib.hid (by rw [HALL.out, hok]; rfl)
    clear hok HALL
    go_wp2_with fail
    rw [HW6.out]
    refine hcd.mono ?_
    rintro e w7 ⟨rfl, rfl⟩
    clear k3 g3
    go_wp2_with fail
    refine hcT.mono ?_
    rintro e w8 ⟨rfl, hx⟩
    have hb8 := hb6.trans (hx.mono hb6.size)
    have vR8 := vR6.below hx
    clear hx hcT d0 d1 d2 d3 hb6 vR6 h6s
    have hR := vR8.store4 (.slice none 0 0) (.slice none 0 0) (.int .i64 0) (.string ⟨#[]⟩)
    have hbz := below_store4 hb8 w.heap.size (Nat.le_refl _) (.slice none 0 0) (.slice none 0 0) (.int .i64 0) (.string ⟨#[]⟩)
    obtain ⟨y0, y1, y2, y3⟩ := Bk.c4 vR8
    obtain ⟨f0, f1, f2, f3⟩ := Bk.f4 vR8
    clear vR8
    go_wp2
    refine bodyPost_ret (results_ct13 (P := Tryz.prog) rfl _ _ w.heap.size 26 _ (0, 0) _ rfl hR.held Tryz.underlying26 rfl (by kernel_rfl)) rfl ?_
    exact ⟨none, 0, 0, none, 0, 0, 0, ⟨#[]⟩, false, rfl, hbz, .inl ⟨HNO, rfl, rfl, rfl, rfl, rfl, rfl, rfl, rfl, rfl⟩⟩
  rw [hok] at hcT
  have HY : Hid (Tr.readP s = some ⟨l.map Prod.fst, outs, af, nt⟩) := Lib.hid (by rw [HALL.out, hok]; rfl)
  clear hok HALL
  go_wp2_with fail
  rw [HW6.out]
  refine hcd.mono ?_
  rintro e w7 ⟨rfl, rfl⟩
  clear k3 g3
  go_wp2_with fail
  refine hcT.mono ?_
  rintro e w8 ⟨rfl, hx⟩
  have hb8 := hb6.trans (hx.mono hb6.size)
  have vR8 := vR6.below hx
  obtain ⟨⟨x0, x1, x2, x3⟩, _⟩ := (h6s.below hx).cells
  have HOI8 := Lib.hid (HOI6.out.below13 hx)
  have HOO8 := Lib.hid (OwnO.below13 HOO6.out hx)
  have HOI9 := Lib.hid ((((HOI8.out.set13 (i := 0) (u := .slice a n c) vR8).set13 (i := 1) (u := .slice a2 m c2) (vR8.set 0 _)).set13 (i := 2) (u := .int .i64 af) ((vR8.set 0 _).set 1 _)).set13 (i := 3) (u := .string nt) (((vR8.set 0 _).set 1 _).set 2 _))
  have HOO9 := Lib.hid (OwnO.set13 (OwnO.set13 (OwnO.set13 (OwnO.set13 HOO8.out (i := 0) (u := .slice a n c) vR8) (i := 1) (u := .slice a2 m c2) (vR8.set 0 _)) (i := 2) (u := .int .i64 af) ((vR8.set 0 _).set 1 _)) (i := 3) (u := .string nt) (((vR8.set 0 _).set 1 _).set 2 _))
  have HR := Lib.hid (vR8.store4 (.slice a n c) (.slice a2 m c2) (.int .i64 af) (.string nt))
  have HB := Lib.hid (below_store4 hb8 w.heap.size (Nat.le_refl _) (.slice a n c) (.slice a2 m c2) (.int .i64 af) (.string nt))
  obtain ⟨y0, y1, y2, y3⟩ := Bk.c4 vR8
  obtain ⟨f0, f1, f2, f3⟩ := Bk.f4 vR8
  clear hx hcT d0 d1 d2 d3 hb6 vR6 h6s HOI6 HOO6 HOI8 HOO8 vR8 hb8
  go_wp2
  refine bodyPost_ret (results_ct13 (P := Tryz.prog) rfl _ _ w.heap.size 26 _ (0, 0) _ rfl HR.out.held Tryz.underlying26 rfl (by kernel_rfl)) rfl ?_
  exact ⟨a, n, c, a2, m, c2, af, nt, true, rfl, HB.out, .inr ⟨l, outs, HY, rfl, HOI9.out, HOO9.out, HDI⟩⟩
end Go.Proofs.YtcbpdibkindnfaaGreat
