/-
  Drawing for chapter 13: what the laws SignText and WithWitness ask.
-/
import Derived.Test.YtcbpdibkindnfaaUz
namespace Go.Proofs.Ytcbpdibkindnfaa
open Go.RowKit

theorem results_cell_rowV2 {P : Program} {fn : Func} {p u v : Tmp} {ty : TypeId} (h : fn.results = #[.cell p ty, .tmp u, .tmp v]) (tmps : Array Value) (w : World) (g : Nat) (t : TypeId) (cs : Array Value) (fr : Nat × Nat) (d : TypeDesc)
    (hp : tmps.getD p undef = .pointer (some ⟨g, 0, none⟩)) (hg : w.heap[g]? = some (.cells cs t fr))
    (hu : P.underlying ty = some d) (hd : (match d with | .struct _ | .array _ _ => true | _ => false) = true) (hi : (P.info? ty).map (·.size) = some cs.size) :
    (results fn tmps).run P w = .ok (.tuple #[.agg cs, tmps.getD u undef, tmps.getD v undef]) w := by
  have hp' : tmps[p]?.getD undef = .pointer (some ⟨g, 0, none⟩) := by simpa using hp
  simp [results, h, hp', asAddr, run_loadVar_row w g t ty cs fr d hg hu hd hi]
theorem results_cell_rowV3 {P : Program} {fn : Func} {p u v x : Tmp} {ty : TypeId} (h : fn.results = #[.cell p ty, .tmp u, .tmp v, .tmp x]) (tmps : Array Value) (w : World) (g : Nat) (t : TypeId) (cs : Array Value) (fr : Nat × Nat) (d : TypeDesc)
    (hp : tmps.getD p undef = .pointer (some ⟨g, 0, none⟩)) (hg : w.heap[g]? = some (.cells cs t fr))
    (hu : P.underlying ty = some d) (hd : (match d with | .struct _ | .array _ _ => true | _ => false) = true) (hi : (P.info? ty).map (·.size) = some cs.size) :
    (results fn tmps).run P w = .ok (.tuple #[.agg cs, tmps.getD u undef, tmps.getD v undef, tmps.getD x undef]) w := by
  have hp' : tmps[p]?.getD undef = .pointer (some ⟨g, 0, none⟩) := by simpa using hp
  simp [results, h, hp', asAddr, run_loadVar_row w g t ty cs fr d hg hu hd hi]
theorem SR.set13s {w : World} {g B i len : Nat} {ss : List ByteArray} {u : Value} (h : SR w (some ⟨g, 0, none⟩) len ss) (hgB : B < g) : SR (w.setCell ⟨B, i, none⟩ u) (some ⟨g, 0, none⟩) len ss :=
  h.grown (grownBy_set' w B i u) (fun _ b off he => by cases he; simp; omega)
/-- Drawing a transaction, an index, an amount and a lock. -/
def DrawSg (w : World) (e : Ending) (w' : World) : Prop :=
  ∃ (ai : Option Addr) (n ci : Nat) (bi : Option Addr) (m di : Nat) (t : Tr) (i k : Int) (s : ByteArray), e = .returned (.tuple #[.agg #[.slice ai n ci, .slice bi m di, .int .i64 t.after, .string t.note], .int .i64 i, .int .i64 k, .string s]) ∧ Hid (TrR w.heap.size w' ai n bi m t) ∧ Hid (n ≤ ci) ∧ Hid t.small ∧ Hid (s.size ≤ 1048576) ∧ Below w.heap.size w w'
/-- Drawing a transaction, an index and a witness. -/
def DrawWi (w : World) (e : Ending) (w' : World) : Prop :=
  ∃ (ai : Option Addr) (n ci : Nat) (bi : Option Addr) (m di : Nat) (t : Tr) (i : Int) (g : Nat) (ss : List ByteArray) (cp : Nat), e = .returned (.tuple #[.agg #[.slice ai n ci, .slice bi m di, .int .i64 t.after, .string t.note], .int .i64 i, .slice (some ⟨g, 0, none⟩) ss.length cp]) ∧ Hid (TrR w.heap.size w' ai n bi m t) ∧ Hid (n ≤ ci) ∧ Hid t.small ∧ Hid (SR w' (some ⟨g, 0, none⟩) ss.length ss) ∧ Hid (ss.length ≤ 1048576 ∧ ∀ s ∈ ss, s.size ≤ 1048576) ∧ Below w.heap.size w w'

set_option maxRecDepth 100000 in
set_option maxHeartbeats 6400000 in
theorem drawSignText_any (a : Option Addr) (len cap : Nat) (zs : List Int) (w : World) (hr : IsRow .u8 w a len cap zs) (hlm : len ≤ 1048576) :
    Calls Try.prog 21 #[.slice a len cap] w (DrawSg w) := by
  have vR0 : Bk w.heap.size 26 #[.slice none 0 0, .slice none 0 0, .int .i64 0, .string ⟨#[]⟩] (w.alloc (.cells #[.slice none 0 0, .slice none 0 0, .int .i64 0, .string ⟨#[]⟩] 26 (0, 0))) := Bk.new _ _ _
  have hb0 : Below w.heap.size w (w.alloc (.cells #[.slice none 0 0, .slice none 0 0, .int .i64 0, .string ⟨#[]⟩] 26 (0, 0))) := (Below.refl _ _).alloc (Nat.le_refl _) _
  have hs0 : (w.alloc (.cells #[.slice none 0 0, .slice none 0 0, .int .i64 0, .string ⟨#[]⟩] 26 (0, 0))).heap.size = w.heap.size + 1 := by simp
  have hr0 := hr.below hb0
  clear hr
  go_enter Try.func21, Try.ntmps21
  go_wp2_with fail
  refine (l6Open_any a len cap zs _ hr0 hlm).mono ?_
  rintro e w1 ⟨B, a', l', c', zs', rfl, hB, hD, hx⟩
  have hB1 : w.heap.size < B := by omega
  have vR1 := vR0.below hx
  have hb1 := hb0.trans (hx.mono hb0.size)
  have hBl := hD.lt
  clear hr0 vR0 hb0 hx hB hs0
  go_wp2_with fail
  refine (l92Tx_any B a' l' c' zs' _ _ (by omega) hD).mono ?_
  rintro e w2 ⟨ai, n, ci, bi, m, di, t, l, q, rfl, HF, HS, _, hpq, hq3, hD2, hG, HI2, HO2⟩
  go_wp2_with fail
  refine (pick_any B a' l' c' zs' q 5 _ (by omega) (by omega) hD2).mono ?_
  rintro e w3 ⟨pi, rfl, pi0, pi1, hD3, hG3⟩
  have hH3 := gtrans hG hG3
  have HI3 := Lib.hid (HI2.out.kept hG3 hBl)
  have HO3 := Lib.hid (OwnO.kept HO2.out hG3 hBl)
  clear hD hD2 hG hG3 HI2 HO2
  go_wp2_with fail
  refine (l91Num_any B a' l' c' zs' (q + 1) _ (by omega) hD3).mono ?_
  rintro e w4 ⟨k, q4, rfl, _, _, hq4, hr4, hD4, hG4⟩
  have hH4 := gtrans hH3 hG4
  have HI4 := Lib.hid (HI3.out.kept hG4 hBl)
  have HO4 := Lib.hid (OwnO.kept HO3.out hG4 hBl)
  clear hD3 hH3 hG4 HI3 HO3
  go_wp2_with fail
  refine (l91Lock_any B a' l' c' zs' q4 _ (by omega) hD4).mono ?_
  rintro e w5 ⟨s, q5, rfl, hs5, hq5, hr5, hD5, hG5⟩
  have hH5 := gtrans hH4 hG5
  have HI := Lib.hid (HI4.out.kept hG5 hBl)
  have HO := Lib.hid (OwnO.kept HO4.out hG5 hBl)
  have vRz := vR1.gbK hH5 (by omega)
  have hbz0 := Below.grown hb1 hH5 hb1.size (fun j hj => by cases hj; omega)
  clear hD4 hH4 hG5 HI4 HO4 hD5 hH5
  have hsz := hb1.size
  have HCP := Lib.hid (own_cap13z HI.out.1)
  obtain ⟨⟨r0, r1, r2, r3⟩, g0, g1, g2, g3⟩ := (⟨Bk.c4 vRz, Bk.f4 vRz⟩ : (w5.cell? ⟨w.heap.size, 0, none⟩ = some (.slice none 0 0) ∧ w5.cell? ⟨w.heap.size, 1, none⟩ = some (.slice none 0 0) ∧ w5.cell? ⟨w.heap.size, 2, none⟩ = some (.int .i64 0) ∧ w5.cell? ⟨w.heap.size, 3, none⟩ = some (.string ⟨#[]⟩)) ∧ w5.frozen? ⟨w.heap.size, 0, none⟩ = false ∧ w5.frozen? ⟨w.heap.size, 1, none⟩ = false ∧ w5.frozen? ⟨w.heap.size, 2, none⟩ = false ∧ w5.frozen? ⟨w.heap.size, 3, none⟩ = false)
  have b1 : Bk w.heap.size 26 #[.slice ai n ci, .slice none 0 0, .int .i64 0, .string ⟨#[]⟩] (w5.setCell ⟨w.heap.size, 0, none⟩ (.slice ai n ci)) := vRz.set 0 _
  have b2 : Bk w.heap.size 26 #[.slice ai n ci, .slice bi m di, .int .i64 0, .string ⟨#[]⟩] ((w5.setCell ⟨w.heap.size, 0, none⟩ (.slice ai n ci)).setCell ⟨w.heap.size, 1, none⟩ (.slice bi m di)) := b1.set 1 _
  have b3 : Bk w.heap.size 26 #[.slice ai n ci, .slice bi m di, .int .i64 t.after, .string ⟨#[]⟩] (((w5.setCell ⟨w.heap.size, 0, none⟩ (.slice ai n ci)).setCell ⟨w.heap.size, 1, none⟩ (.slice bi m di)).setCell ⟨w.heap.size, 2, none⟩ (.int .i64 t.after)) := b2.set 2 _
  have hR := Bk.store4x vRz (.slice ai n ci) (.slice bi m di) (.int .i64 t.after) (.string t.note)
  have HT : Hid (TrR w.heap.size ((((w5.setCell ⟨w.heap.size, 0, none⟩ (.slice ai n ci)).setCell ⟨w.heap.size, 1, none⟩ (.slice bi m di)).setCell ⟨w.heap.size, 2, none⟩ (.int .i64 t.after)).setCell ⟨w.heap.size, 3, none⟩ (.string t.note)) ai n bi m t) := Lib.hid (by
    have h1 := (OwnI.set13 (i := 3) (u := .string t.note) (((HI.out.set13 vRz).set13 b1).set13 b2) b3).base13 hsz
    have h2 := OwnO.base13 (OwnO.set13 (i := 3) (u := .string t.note) (OwnO.set13 (OwnO.set13 (OwnO.set13 HO.out vRz) b1) b2) b3) hsz
    have h3 := h1.trR (af := 0) (nt := ⟨#[]⟩) h2
    exact ⟨HF.out ▸ h3.ins, h3.outs⟩)
  have hbz := (((hbz0.setCell (p := ⟨w.heap.size, 0, none⟩) (Nat.le_refl _) (.slice ai n ci)).setCell (p := ⟨w.heap.size, 1, none⟩) (Nat.le_refl _) (.slice bi m di)).setCell (p := ⟨w.heap.size, 2, none⟩) (Nat.le_refl _) (.int .i64 t.after)).setCell (p := ⟨w.heap.size, 3, none⟩) (Nat.le_refl _) (.string t.note)
  have HSZ := Lib.hid (show s.size ≤ 1048576 by omega)
  clear HI HO HF b1 b2 b3 vR1 hb1 hbz0 vRz hs5
  go_wp2
  refine bodyPost_ret (results_cell_rowV3 (P := Try.prog) rfl _ _ w.heap.size 26 _ (0, 0) _ rfl hR.held Try.underlying26 rfl (by kernel_rfl)) rfl ?_
  exact ⟨ai, n, ci, bi, m, di, t, _, k, s, rfl, HT, HCP, HS, HSZ, hbz⟩
set_option maxRecDepth 100000 in
set_option maxHeartbeats 6400000 in
theorem drawWithWitness_any (a : Option Addr) (len cap : Nat) (zs : List Int) (w : World) (hr : IsRow .u8 w a len cap zs) (hlm : len ≤ 1048576) :
    Calls Try.prog 24 #[.slice a len cap] w (DrawWi w) := by
  have vR0 : Bk w.heap.size 26 #[.slice none 0 0, .slice none 0 0, .int .i64 0, .string ⟨#[]⟩] (w.alloc (.cells #[.slice none 0 0, .slice none 0 0, .int .i64 0, .string ⟨#[]⟩] 26 (0, 0))) := Bk.new _ _ _
  have hb0 : Below w.heap.size w (w.alloc (.cells #[.slice none 0 0, .slice none 0 0, .int .i64 0, .string ⟨#[]⟩] 26 (0, 0))) := (Below.refl _ _).alloc (Nat.le_refl _) _
  have hs0 : (w.alloc (.cells #[.slice none 0 0, .slice none 0 0, .int .i64 0, .string ⟨#[]⟩] 26 (0, 0))).heap.size = w.heap.size + 1 := by simp
  have hr0 := hr.below hb0
  clear hr
  go_enter Try.func24, Try.ntmps24
  go_wp2_with fail
  refine (l6Open_any a len cap zs _ hr0 hlm).mono ?_
  rintro e w1 ⟨B, a', l', c', zs', rfl, hB, hD, hx⟩
  have hB1 : w.heap.size < B := by omega
  have vR1 := vR0.below hx
  have hb1 := hb0.trans (hx.mono hb0.size)
  have hBl := hD.lt
  clear hr0 vR0 hb0 hx hB hs0
  go_wp2_with fail
  refine (l92Tx_any B a' l' c' zs' _ _ (by omega) hD).mono ?_
  rintro e w2 ⟨ai, n, ci, bi, m, di, t, l, q, rfl, HF, HS, _, hpq, hq3, hD2, hG, HI2, HO2⟩
  go_wp2_with fail
  refine (pick_any B a' l' c' zs' q 5 _ (by omega) (by omega) hD2).mono ?_
  rintro e w3 ⟨pi, rfl, pi0, pi1, hD3, hG3⟩
  have hH3 := gtrans hG hG3
  have HI3 := Lib.hid (HI2.out.kept hG3 hBl)
  have HO3 := Lib.hid (OwnO.kept HO2.out hG3 hBl)
  clear hD hD2 hG hG3 HI2 HO2
  go_wp2_with fail
  refine (l91Stack_any B a' l' c' zs' (q + 1) _ (by omega) hD3).mono ?_
  rintro e w4 ⟨ss, q4, g, cp, rfl, hs4, hs5, hq4, hr4, hD4, hG4, HW4⟩
  have hH4 := gtrans hH3 hG4
  have HI := Lib.hid (HI3.out.kept hG4 hBl)
  have HO := Lib.hid (OwnO.kept HO3.out hG4 hBl)
  have vRz := vR1.gbK hH4 (by omega)
  have hbz0 := Below.grown hb1 hH4 hb1.size (fun j hj => by cases hj; omega)
  have HWW := Lib.hid HW4
  have hgl : w.heap.size < g := by have h1 := (HW4.lt g rfl).1; have h2 := hH3.size; have h3 := hb1.size; have h4 := vR1.lt; omega
  clear hD3 hH4 hG4 HI3 HO3 hD4 hH3 HW4
  have hsz := hb1.size
  have HCP := Lib.hid (own_cap13z HI.out.1)
  obtain ⟨⟨r0, r1, r2, r3⟩, g0, g1, g2, g3⟩ := (⟨Bk.c4 vRz, Bk.f4 vRz⟩ : (w4.cell? ⟨w.heap.size, 0, none⟩ = some (.slice none 0 0) ∧ w4.cell? ⟨w.heap.size, 1, none⟩ = some (.slice none 0 0) ∧ w4.cell? ⟨w.heap.size, 2, none⟩ = some (.int .i64 0) ∧ w4.cell? ⟨w.heap.size, 3, none⟩ = some (.string ⟨#[]⟩)) ∧ w4.frozen? ⟨w.heap.size, 0, none⟩ = false ∧ w4.frozen? ⟨w.heap.size, 1, none⟩ = false ∧ w4.frozen? ⟨w.heap.size, 2, none⟩ = false ∧ w4.frozen? ⟨w.heap.size, 3, none⟩ = false)
  have b1 : Bk w.heap.size 26 #[.slice ai n ci, .slice none 0 0, .int .i64 0, .string ⟨#[]⟩] (w4.setCell ⟨w.heap.size, 0, none⟩ (.slice ai n ci)) := vRz.set 0 _
  have b2 : Bk w.heap.size 26 #[.slice ai n ci, .slice bi m di, .int .i64 0, .string ⟨#[]⟩] ((w4.setCell ⟨w.heap.size, 0, none⟩ (.slice ai n ci)).setCell ⟨w.heap.size, 1, none⟩ (.slice bi m di)) := b1.set 1 _
  have b3 : Bk w.heap.size 26 #[.slice ai n ci, .slice bi m di, .int .i64 t.after, .string ⟨#[]⟩] (((w4.setCell ⟨w.heap.size, 0, none⟩ (.slice ai n ci)).setCell ⟨w.heap.size, 1, none⟩ (.slice bi m di)).setCell ⟨w.heap.size, 2, none⟩ (.int .i64 t.after)) := b2.set 2 _
  have hR := Bk.store4x vRz (.slice ai n ci) (.slice bi m di) (.int .i64 t.after) (.string t.note)
  have HT : Hid (TrR w.heap.size ((((w4.setCell ⟨w.heap.size, 0, none⟩ (.slice ai n ci)).setCell ⟨w.heap.size, 1, none⟩ (.slice bi m di)).setCell ⟨w.heap.size, 2, none⟩ (.int .i64 t.after)).setCell ⟨w.heap.size, 3, none⟩ (.string t.note)) ai n bi m t) := Lib.hid (by
    have h1 := (OwnI.set13 (i := 3) (u := .string t.note) (((HI.out.set13 vRz).set13 b1).set13 b2) b3).base13 hsz
    have h2 := OwnO.base13 (OwnO.set13 (i := 3) (u := .string t.note) (OwnO.set13 (OwnO.set13 (OwnO.set13 HO.out vRz) b1) b2) b3) hsz
    have h3 := h1.trR (af := 0) (nt := ⟨#[]⟩) h2
    exact ⟨HF.out ▸ h3.ins, h3.outs⟩)
  have hbz := (((hbz0.setCell (p := ⟨w.heap.size, 0, none⟩) (Nat.le_refl _) (.slice ai n ci)).setCell (p := ⟨w.heap.size, 1, none⟩) (Nat.le_refl _) (.slice bi m di)).setCell (p := ⟨w.heap.size, 2, none⟩) (Nat.le_refl _) (.int .i64 t.after)).setCell (p := ⟨w.heap.size, 3, none⟩) (Nat.le_refl _) (.string t.note)
  have HSR := Lib.hid ((((SR.own HWW.out).2.set13s (i := 0) (u := .slice ai n ci) hgl).set13s (i := 1) (u := .slice bi m di) hgl).set13s (i := 2) (u := .int .i64 t.after) hgl |>.set13s (i := 3) (u := .string t.note) hgl)
  have HSZ := Lib.hid (show ss.length ≤ 1048576 ∧ ∀ s ∈ ss, s.size ≤ 1048576 from ⟨by omega, fun s hs => by have := hs5 s hs; omega⟩)
  clear HI HO HF b1 b2 b3 vR1 hb1 hbz0 vRz hs5 HWW
  go_wp2
  refine bodyPost_ret (results_cell_rowV2 (P := Try.prog) rfl _ _ w.heap.size 26 _ (0, 0) _ rfl hR.held Try.underlying26 rfl (by kernel_rfl)) rfl ?_
  exact ⟨ai, n, ci, bi, m, di, t, _, g, ss, cp, rfl, HT, HCP, HS, HSR, HSZ, hbz⟩
end Go.Proofs.Ytcbpdibkindnfaa
