/-
  Contracts of the model: TxRead, over what the reader's tx answers.
-/
import Derived.Test.YtedjbikphdflhabTk
namespace Go.Proofs.Ytedjbikphdflhab
open Go.RowKit

set_option maxRecDepth 100000 in
set_option maxHeartbeats 3200000 in
theorem TxRead_over (htx : ∀ (B : Nat) (s : ByteArray) (W : World), W.heap[B]? = some (.cells #[.string s, .bool false] 63 (0, 0)) → Calls Try.prog 46 #[.pointer (some ⟨B, 0, none⟩)] W (TxQ B s W)) (s : ByteArray) (w : World) :
    Calls Try.prog 17 #[.string s] w (TxRdQ s w) := by
  have HTX := Lib.hid htx
  have vR0 : Bk w.heap.size 31 #[.slice none 0 0, .slice none 0 0, .int .i64 0, .string ⟨#[]⟩] ((w.alloc (.cells #[.slice none 0 0, .slice none 0 0, .int .i64 0, .string ⟨#[]⟩] 31 (0, 0))).alloc (.cells #[.string s, .bool false] 63 (0, 0))) := (Bk.new w 31 #[.slice none 0 0, .slice none 0 0, .int .i64 0, .string ⟨#[]⟩]).alloc _
  have hb0 : Below w.heap.size w ((w.alloc (.cells #[.slice none 0 0, .slice none 0 0, .int .i64 0, .string ⟨#[]⟩] 31 (0, 0))).alloc (.cells #[.string s, .bool false] 63 (0, 0))) := ((Below.refl _ _).alloc (Nat.le_refl _) _).alloc (by simp) _
  have hB : ((w.alloc (.cells #[.slice none 0 0, .slice none 0 0, .int .i64 0, .string ⟨#[]⟩] 31 (0, 0))).alloc (.cells #[.string s, .bool false] 63 (0, 0))).heap[w.heap.size + 1]? = some (.cells #[.string s, .bool false] 63 (0, 0)) := by
    have := heap_alloc_new (w.alloc (.cells #[.slice none 0 0, .slice none 0 0, .int .i64 0, .string ⟨#[]⟩] 31 (0, 0))) (.cells #[.string s, .bool false] 63 (0, 0))
    simpa using this
  clear htx
  go_enter Try.func17, Try.ntmps17
  go_wp2_with fail
  refine (HTX.out (w.heap.size + 1) s _ hB).mono ?_
  rintro e w3 ⟨a, n, c, b, m, d, af, nt, r2, b2, rfl, hT, HB, hgood⟩
  have vR3 := vR0.gb13 hT.kept (by simp)
  have hb3 := Below.grown hb0 hT.kept hb0.size (fun j hj => by cases hj; omega)
  have hD3 : (w3.alloc (.cells #[.slice a n c, .slice b m d, .int .i64 af, .string nt] 31 (0, 0))).heap[w.heap.size + 1]? = some (.cells #[.string r2, .bool b2] 63 (0, 0)) := (Below.heap_alloc _ _ _ (lt_of_block hT.held)).trans hT.held
  have vR4 := vR3.alloc (.cells #[.slice a n c, .slice b m d, .int .i64 af, .string nt] 31 (0, 0))
  have hb4 := below_alloc hb3 (.cells #[.slice a n c, .slice b m d, .int .i64 af, .string nt] 31 (0, 0))
  have vE4 : Bk w3.heap.size 31 #[.slice a n c, .slice b m d, .int .i64 af, .string nt] (w3.alloc (.cells #[.slice a n c, .slice b m d, .int .i64 af, .string nt] 31 (0, 0))) := Bk.new _ _ _
  have hdn := done_any (w.heap.size + 1) r2 b2 _ hD3
  have hER : w.heap.size < w3.heap.size := vR3.lt
  clear hB vR0 hb0 vR3 hb3 hT hD3
  cases b2
  case true =>
    have HNO := Lib.hid (Tr.read_no (HB.out rfl))
    simp only [Bool.not_true, Bool.false_and] at hdn
    clear hgood vE4
    go_wp2_with fail
    refine hdn.mono ?_
    rintro e w5 ⟨rfl, hw⟩
    rw [hw] at vR4 hb4
    clear hw hdn
    obtain ⟨r0, r1, r2', r3⟩ := Bk.c4 vR4
    obtain ⟨f0, f1, f2, f3⟩ := Bk.f4 vR4
    have hR := Bk.store4 vR4 (.slice none 0 0) (.slice none 0 0) (.int .i64 0) (.string ⟨#[]⟩)
    have hbz := below_store4 hb4 w.heap.size (Nat.le_refl _) (.slice none 0 0) (.slice none 0 0) (.int .i64 0) (.string ⟨#[]⟩)
    go_wp2
    refine bodyPost_ret (results_ct13 (P := Try.prog) rfl _ _ w.heap.size 31 _ (0, 0) _ rfl hR.held Try.underlying31 rfl (by kernel_rfl)) rfl ?_
    exact ⟨none, 0, 0, none, 0, 0, 0, ⟨#[]⟩, false, rfl, hbz, .inl ⟨HNO, rfl, rfl, rfl, rfl, rfl, rfl, rfl, rfl, rfl⟩⟩
  obtain ⟨l, outs, HRD, hown, hout⟩ := hgood rfl
  clear hgood
  have hown := (hown.base13 (base' := w.heap.size) (by simp; omega)).alloc (.cells #[.slice a n c, .slice b m d, .int .i64 af, .string nt] 31 (0, 0))
  have hout : OwnO w.heap.size (w3.alloc (.cells #[.slice a n c, .slice b m d, .int .i64 af, .string nt] 31 (0, 0))) (.slice b m d) outs := by
    have h1 : w3.ownsRow _ 80 2 (.slice b m d) outs.length (Tr.ocs outs) := hout
    exact (ownsRow_base h1 (by simp; omega)).alloc _
  simp only [Bool.not_false, Bool.true_and] at hdn
  by_cases hz : r2.size = 0
  case neg =>
    have HNO := Lib.hid (Tr.read_rest HRD.out hz)
    rw [ba_some hz] at hdn
    clear hz vE4 hown hout
    go_wp2_with fail
    refine hdn.mono ?_
    rintro e w5 ⟨rfl, hw⟩
    rw [hw] at vR4 hb4
    clear hw hdn
    obtain ⟨r0, r1, r2', r3⟩ := Bk.c4 vR4
    obtain ⟨f0, f1, f2, f3⟩ := Bk.f4 vR4
    have hR := Bk.store4 vR4 (.slice none 0 0) (.slice none 0 0) (.int .i64 0) (.string ⟨#[]⟩)
    have hbz := below_store4 hb4 w.heap.size (Nat.le_refl _) (.slice none 0 0) (.slice none 0 0) (.int .i64 0) (.string ⟨#[]⟩)
    go_wp2
    refine bodyPost_ret (results_ct13 (P := Try.prog) rfl _ _ w.heap.size 31 _ (0, 0) _ rfl hR.held Try.underlying31 rfl (by kernel_rfl)) rfl ?_
    exact ⟨none, 0, 0, none, 0, 0, 0, ⟨#[]⟩, false, rfl, hbz, .inl ⟨HNO, rfl, rfl, rfl, rfl, rfl, rfl, rfl, rfl, rfl⟩⟩
  rw [ba_none hz] at hdn
  have HALL := Lib.hid (Tr.read_all HRD.out hz)
  have hfit := (Tr.rdA_bw HRD.out).2
  obtain ⟨a', c', hva, hIL⟩ := hown.inL
  obtain ⟨b', d', hvb, hOL⟩ := hout.ouL
  cases hva
  cases hvb
  have hll : (l.map Prod.fst).length = l.length := by simp
  have hcT := TxOk_any w.heap.size a l.length c b outs.length d ⟨l.map Prod.fst, outs, af, nt⟩ _ ⟨hIL, hOL⟩ hfit.small
  simp only at hcT
  obtain ⟨e0, e1, e2, e3⟩ := Bk.c4 vE4
  clear hz hfit hIL hOL
  cases hok : Tr.ok ⟨l.map Prod.fst, outs, af, nt⟩
  · rw [hok] at hcT
    have HNO : Hid (Tr.read s = none) := Lib.hid (by rw [HALL.out, hok]; rfl)
    clear hok hown hout
    go_wp2_with fail
    refine hdn.mono ?_
    rintro e w5 ⟨rfl, rfl⟩
    go_wp2_with fail
    refine hcT.mono ?_
    rintro e w5 ⟨rfl, hx⟩
    have vR5 := vR4.below hx
    have hb5 := hb4.trans (hx.mono hb4.size)
    clear hx e0 e1 e2 e3
    obtain ⟨r0, r1, r2', r3⟩ := Bk.c4 vR5
    obtain ⟨f0, f1, f2, f3⟩ := Bk.f4 vR5
    have hR := Bk.store4 vR5 (.slice none 0 0) (.slice none 0 0) (.int .i64 0) (.string ⟨#[]⟩)
    have hbz := below_store4 hb5 w.heap.size (Nat.le_refl _) (.slice none 0 0) (.slice none 0 0) (.int .i64 0) (.string ⟨#[]⟩)
    go_wp2
    refine bodyPost_ret (results_ct13 (P := Try.prog) rfl _ _ w.heap.size 31 _ (0, 0) _ rfl hR.held Try.underlying31 rfl (by kernel_rfl)) rfl ?_
    exact ⟨none, 0, 0, none, 0, 0, 0, ⟨#[]⟩, false, rfl, hbz, .inl ⟨HNO, rfl, rfl, rfl, rfl, rfl, rfl, rfl, rfl, rfl⟩⟩
  rw [hok] at hcT
  have HYES : Hid (Tr.read s = some ⟨l.map Prod.fst, outs, af, nt⟩) := Lib.hid (by rw [HALL.out, hok]; rfl)
  clear hok
  go_wp2_with fail
  refine hdn.mono ?_
  rintro e w5 ⟨rfl, rfl⟩
  go_wp2_with fail
  refine hcT.mono ?_
  rintro e w5 ⟨rfl, hx⟩
  have vR5 := vR4.below hx
  have vE5 := vE4.below hx
  have hb5 := hb4.trans (hx.mono hb4.size)
  have hown5 := hown.below13 hx
  have hout5 := hout.below13 hx
  clear hx e0 e1 e2 e3 hown hout vR4 vE4 hb4 hdn hcT
  obtain ⟨e0, e1, e2, e3⟩ := Bk.c4 vE5
  obtain ⟨r0, r1, r2', r3⟩ := Bk.c4 vR5
  obtain ⟨f0, f1, f2, f3⟩ := Bk.f4 vR5
  have hR := Bk.store4 vR5 (.slice a l.length c) (.slice b outs.length d) (.int .i64 af) (.string nt)
  have hbz := below_store4 hb5 w.heap.size (Nat.le_refl _) (.slice a l.length c) (.slice b outs.length d) (.int .i64 af) (.string nt)
  have hown9 := (((hown5.set13 (i := 0) (u := .slice a l.length c) vR5).set13 (i := 1) (u := .slice b outs.length d) (vR5.set 0 _)).set13 (i := 2) (u := .int .i64 af) ((vR5.set 0 _).set 1 _)).set13 (i := 3) (u := .string nt) (((vR5.set 0 _).set 1 _).set 2 _)
  have hout9 := (((hout5.set13 (i := 0) (u := .slice a l.length c) vR5).set13 (i := 1) (u := .slice b outs.length d) (vR5.set 0 _)).set13 (i := 2) (u := .int .i64 af) ((vR5.set 0 _).set 1 _)).set13 (i := 3) (u := .string nt) (((vR5.set 0 _).set 1 _).set 2 _)
  go_wp2
  refine bodyPost_ret (results_ct13 (P := Try.prog) rfl _ _ w.heap.size 31 _ (0, 0) _ rfl hR.held Try.underlying31 rfl (by kernel_rfl)) rfl ?_
  exact ⟨a, l.length, c, b, outs.length, d, af, nt, true, rfl, hbz, .inr ⟨l, outs, HYES, rfl, hown9, hout9⟩⟩
end Go.Proofs.Ytedjbikphdflhab
