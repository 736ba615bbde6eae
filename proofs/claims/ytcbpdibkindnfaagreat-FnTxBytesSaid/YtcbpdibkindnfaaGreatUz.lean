/-
  Drawing for chapter 13: what the laws on transactions ask.
-/
import Derived.Test.YtcbpdibkindnfaaGreatUy
import Derived.Test.YtcbpdibkindnfaaGreatTp
namespace Go.Proofs.YtcbpdibkindnfaaGreat
open Go.RowKit

theorem own_cap13z {w : World} {base size n cap k : Nat} {e : TypeId} {a : Option Addr} {xs : List Value} (h : w.ownsRow base e size (.slice a n cap) k xs) : n ≤ cap := by
  rcases h.2 with ⟨he, h0⟩ | ⟨g, c', cur, he, _, _, hn, _⟩
  · cases he; exact Nat.le_refl _
  · cases he; exact hn
theorem OwnO.base13 {base base' : Nat} {w : World} {v : Value} {l : List Tr.Out} (h : OwnO base w v l) (hb : base' ≤ base) : OwnO base' w v l := ownsRow_base (show w.ownsRow base 66 2 v l.length (Tr.ocs l) from h) hb
/-- Drawing a transaction out of a code. -/
def DrawTx (w : World) (e : Ending) (w' : World) : Prop :=
  ∃ (ai : Option Addr) (n ci : Nat) (bi : Option Addr) (m di : Nat) (t : Tr), e = .returned (.agg #[.slice ai n ci, .slice bi m di, .int .i64 t.after, .string t.note]) ∧ Hid (TrR w.heap.size w' ai n bi m t) ∧ Hid (n ≤ ci) ∧ Hid t.small ∧ Below w.heap.size w w'
set_option maxRecDepth 100000 in
set_option maxHeartbeats 3200000 in
theorem drawTxBytes_any (a : Option Addr) (len cap : Nat) (zs : List Int) (w : World) (hr : IsRow .u8 w a len cap zs) (hlm : len ≤ 1048576) :
    Calls Tryz.prog 5 #[.slice a len cap] w (DrawTx w) := by
  have vR0 : Bk w.heap.size 26 #[.slice none 0 0, .slice none 0 0, .int .i64 0, .string ⟨#[]⟩] (w.alloc (.cells #[.slice none 0 0, .slice none 0 0, .int .i64 0, .string ⟨#[]⟩] 26 (0, 0))) := Bk.new _ _ _
  have hb0 : Below w.heap.size w (w.alloc (.cells #[.slice none 0 0, .slice none 0 0, .int .i64 0, .string ⟨#[]⟩] 26 (0, 0))) := (Below.refl _ _).alloc (Nat.le_refl _) _
  have hs0 : (w.alloc (.cells #[.slice none 0 0, .slice none 0 0, .int .i64 0, .string ⟨#[]⟩] 26 (0, 0))).heap.size = w.heap.size + 1 := by simp
  have hr0 := hr.below hb0
  clear hr
  go_enter Tryz.func5, Tryz.ntmps5
  go_wp2_with fail
  refine (l6Open_any a len cap zs _ hr0 hlm).mono ?_
  rintro e w1 ⟨B, a', l', c', zs', rfl, hB, hD, hx⟩
  have hB1 : w.heap.size < B := by omega
  have vR1 := vR0.below hx
  have hb1 := hb0.trans (hx.mono hb0.size)
  clear hr0 vR0 hb0 hx hB hs0
  go_wp2_with fail
  refine (l92Tx_any B a' l' c' zs' _ _ (by omega) hD).mono ?_
  rintro e w2 ⟨ai, n, ci, bi, m, di, t, l, q, rfl, HF, HS, _, _, _, _, hG, HI, HO⟩
  have vR2 := vR1.gbK hG (by omega)
  have hb2 := Below.grown hb1 hG hb1.size (fun j hj => by cases hj; omega)
  have hsz := hb1.size
  have HCP := Lib.hid (own_cap13z HI.out.1)
  obtain ⟨⟨r0, r1, r2, r3⟩, g0, g1, g2, g3⟩ := (⟨Bk.c4 vR2, Bk.f4 vR2⟩ : (w2.cell? ⟨w.heap.size, 0, none⟩ = some (.slice none 0 0) ∧ w2.cell? ⟨w.heap.size, 1, none⟩ = some (.slice none 0 0) ∧ w2.cell? ⟨w.heap.size, 2, none⟩ = some (.int .i64 0) ∧ w2.cell? ⟨w.heap.size, 3, none⟩ = some (.string ⟨#[]⟩)) ∧ w2.frozen? ⟨w.heap.size, 0, none⟩ = false ∧ w2.frozen? ⟨w.heap.size, 1, none⟩ = false ∧ w2.frozen? ⟨w.heap.size, 2, none⟩ = false ∧ w2.frozen? ⟨w.heap.size, 3, none⟩ = false)
  have b1 : Bk w.heap.size 26 #[.slice ai n ci, .slice none 0 0, .int .i64 0, .string ⟨#[]⟩] (w2.setCell ⟨w.heap.size, 0, none⟩ (.slice ai n ci)) := vR2.set 0 _
  have b2 : Bk w.heap.size 26 #[.slice ai n ci, .slice bi m di, .int .i64 0, .string ⟨#[]⟩] ((w2.setCell ⟨w.heap.size, 0, none⟩ (.slice ai n ci)).setCell ⟨w.heap.size, 1, none⟩ (.slice bi m di)) := b1.set 1 _
  have b3 : Bk w.heap.size 26 #[.slice ai n ci, .slice bi m di, .int .i64 t.after, .string ⟨#[]⟩] (((w2.setCell ⟨w.heap.size, 0, none⟩ (.slice ai n ci)).setCell ⟨w.heap.size, 1, none⟩ (.slice bi m di)).setCell ⟨w.heap.size, 2, none⟩ (.int .i64 t.after)) := b2.set 2 _
  have hR := Bk.store4x vR2 (.slice ai n ci) (.slice bi m di) (.int .i64 t.after) (.string t.note)
  have HT : Hid (TrR w.heap.size ((((w2.setCell ⟨w.heap.size, 0, none⟩ (.slice ai n ci)).setCell ⟨w.heap.size, 1, none⟩ (.slice bi m di)).setCell ⟨w.heap.size, 2, none⟩ (.int .i64 t.after)).setCell ⟨w.heap.size, 3, none⟩ (.string t.note)) ai n bi m t) := Lib.hid (by
    have h1 := (OwnI.set13 (i := 3) (u := .string t.note) (((HI.out.set13 vR2).set13 b1).set13 b2) b3).base13 hsz
    have h2 := OwnO.base13 (OwnO.set13 (i := 3) (u := .string t.note) (OwnO.set13 (OwnO.set13 (OwnO.set13 HO.out vR2) b1) b2) b3) hsz
    have h3 := h1.trR (af := 0) (nt := ⟨#[]⟩) h2
    exact ⟨HF.out ▸ h3.ins, h3.outs⟩)
  have hbz := (((hb2.setCell (p := ⟨w.heap.size, 0, none⟩) (Nat.le_refl _) (.slice ai n ci)).setCell (p := ⟨w.heap.size, 1, none⟩) (Nat.le_refl _) (.slice bi m di)).setCell (p := ⟨w.heap.size, 2, none⟩) (Nat.le_refl _) (.int .i64 t.after)).setCell (p := ⟨w.heap.size, 3, none⟩) (Nat.le_refl _) (.string t.note)
  clear HI HO HF hG hD b1 b2 b3 vR1 hb1 hb2 vR2
  go_wp2
  refine bodyPost_ret (results_cell_row (P := Tryz.prog) rfl _ _ w.heap.size 26 _ (0, 0) _ rfl hR.held Tryz.underlying26 rfl (by kernel_rfl)) rfl ?_
  exact ⟨ai, n, ci, bi, m, di, t, rfl, HT, HCP, HS, hbz⟩
end Go.Proofs.YtcbpdibkindnfaaGreat
