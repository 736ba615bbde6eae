/-
  Drawing for chapter 12: what LockPreimage is asked.
-/
import Derived.Test.YtoocibabceeagabGreatUl
import Derived.Test.YtoocibabceeagabGreatZh
import Derived.Test.YtoocibabceeagabGreatUg
namespace Go.Proofs.YtoocibabceeagabGreat
open Go.RowKit

set_option maxRecDepth 100000 in
set_option maxHeartbeats 12800000 in
theorem drawLockPreimage_any (a : Option Addr) (len cap : Nat) (zs : List Int) (w : World) (hr : IsRow .u8 w a len cap zs) (hlm : len ≤ 1048576) :
    Calls Tryz.prog 37 #[.slice a len cap] w (DrawUnl w) := by
  have vR0 : Bk w.heap.size 35 #[.string ⟨#[]⟩, .int .i64 0, .int .i64 0] (w.alloc (.cells #[.string ⟨#[]⟩, .int .i64 0, .int .i64 0] 35 (0, 0))) := Bk.new _ _ _
  have hb0 : Below w.heap.size w (w.alloc (.cells #[.string ⟨#[]⟩, .int .i64 0, .int .i64 0] 35 (0, 0))) := below_alloc (Below.refl _ _) _
  have hr1 := hr.below hb0
  clear hr
  go_enter Tryz.func37, Tryz.ntmps37
  go_wp2_with fail
  refine (l6Open_any a len cap zs _ hr1 hlm).mono ?_
  rintro e W1 ⟨B, a', l', c', zs', rfl, hB, hD, hx⟩
  have vR1 := vR0.below hx
  have hRB : w.heap.size ≠ B := by simp at hB; omega
  have hBw : w.heap.size ≤ B := by simp at hB; omega
  have hb1 := hb0.trans (hx.mono hb0.size)
  have hRlt := vR1.lt
  clear hr1 vR0 hb0 hx hB
  go_wp2_with fail
  refine (pick_any B a' l' c' zs' _ 3 _ (by omega) (by omega) hD).mono ?_
  rintro e W2 ⟨v, rfl, a1, b1, hD2, hG2⟩
  have vR2 := vR1.gbK hG2 hRB
  have hb2 := Below.grown hb1 hG2 hb1.size (fun j hj => by cases hj; exact hBw)
  clear vR1 hb1 hD hG2
  by_cases hv0 : v = 0
  · have h1 : (v == 0) = true := by simpa using hv0
    clear hv0 a1 b1
    go_wp2_with fail
    refine (l93Unlock_any B a' l' c' zs' _ _ (by omega) hD2).mono ?_
    rintro e W3 ⟨s, ss, g, cp, T, h, k, q, rfl, hs, hl, hsz, t0, t1, t2, t3, t4, hD3, hG3, hsr, hgl⟩
    have vR3 := vR2.gbK hG3 hRB
    have hbel := Below.grown hb2 hG3 hb2.size (fun j hj => by cases hj; exact hBw)
    have hRl2 := vR2.lt
    clear vR2 hG3 hb2 hD2 hD3
    obtain ⟨r0, r1, r2⟩ := Bk.c3w vR3
    have f0 := vR3.fro 0
    have f1 := vR3.fro 1
    have f2 := vR3.fro 2
    have hR := Bk.store3w vR3 (.string T) (.int .i64 h) (.int .i64 k)
    have hgr : W3.grownBy (((W3.setCell ⟨w.heap.size, 0, none⟩ (.string T)).setCell ⟨w.heap.size, 1, none⟩ (.int .i64 h)).setCell ⟨w.heap.size, 2, none⟩ (.int .i64 k)) (some w.heap.size) := gtrans (gtrans (gb_set1 _ _ _ _) (gb_set1 _ _ _ _)) (gb_set1 _ _ _ _)
    have HSR := Lib.hid (hsr.grown hgr (fun _ b off he => by cases he; simp; omega))
    have hbz := Below.grown hbel hgr hbel.size (fun j hj => by cases hj; exact Nat.le_refl _)
    have HSZ := Lib.hid hsz
    clear hsr hbel hgr hsz
    go_wp2
    refine bodyPost_ret (results_ttc (P := Tryz.prog) rfl _ _ w.heap.size 35 _ (0, 0) _ rfl hR.held Tryz.underlying35 rfl (by kernel_rfl)) rfl ?_
    exact ⟨s, ss, g, cp, T, h, k, rfl, hs, hl, HSZ.out, t0, t1, t2, t3, t4, HSR.out, hbz⟩
  have h1 : (v == 0) = false := by simpa using hv0
  clear hv0 a1 b1
  go_wp2_with fail
  refine (l91Env_any B a' l' c' zs' _ _ (by omega) hD2).mono ?_
  rintro e W3 ⟨T, h, k, q3, rfl, t0, t1, t2, t3, t4, qa3, qb3, hD3, hG3⟩
  have vR3 := (vR2.gbK hG3 hRB).alloc (.cells #[.string T, .int .i64 h, .int .i64 k] 35 (0, 0))
  have hb3' := Below.grown hb2 hG3 hb2.size (fun j hj => by cases hj; exact hBw)
  have hb3 := below_alloc hb3' (.cells #[.string T, .int .i64 h, .int .i64 k] 35 (0, 0))
  have hD3' := hD3.alloc (.cells #[.string T, .int .i64 h, .int .i64 k] 35 (0, 0))
  have hDB : W3.heap.size ≠ B := by have := hD3.lt; omega
  have hDR : W3.heap.size ≠ w.heap.size := by have := (vR2.gbK hG3 hRB).lt; omega
  have vE3 : Bk W3.heap.size 35 #[.string T, .int .i64 h, .int .i64 k] (W3.alloc (.cells #[.string T, .int .i64 h, .int .i64 k] 35 (0, 0))) := Bk.new _ _ _
  have hwD : w.heap.size ≤ W3.heap.size := hb3'.size
  obtain ⟨D, HDD⟩ : ∃ D, Hid (W3.heap.size = D) := ⟨_, Lib.hid rfl⟩
  rw [HDD.out] at vE3 hDB hDR hwD
  clear vR2 hb2 hD2 hG3 hD3 hb3'
  go_wp2_with fail
  rw [HDD.out]
  refine (pick_any B a' l' c' zs' _ 60 _ (by omega) (by omega) hD3').mono ?_
  rintro e W4 ⟨x, rfl, xa, xb, hD4, hG⟩
  have vR4 := vR3.gbK hG hRB
  have vE4 := vE3.gbK hG hDB
  have hb4 := Below.grown hb3 hG hb3.size (fun j hj => by cases hj; exact hBw)
  clear hD3' vR3 vE3 hb3 hG
  have hw1 : IntKind.i64.wrap (1 + x) = 1 + x := IntWalk.i64_in _ (by omega)
  go_wp2_with fail
  refine (l91Word_any B a' l' c' zs' _ _ (by omega) hD4).mono ?_
  rintro e W5 ⟨pre, q5, rfl, hpz, qa5, qb5, hD5, hG⟩
  have vR5 := vR4.gbK hG hRB
  have vE5 := vE4.gbK hG hDB
  have hb5 := Below.grown hb4 hG hb4.size (fun j hj => by cases hj; exact hBw)
  clear hD4 vR4 vE4 hb4 hG
  have hsx : Wt.sec (1 + x) = true := (Wt.sec_iff _).2 ⟨by omega, by omega⟩
  have hkx := fun W => specKeyOf_any (1 + x) W
  rw [Sg.key_ok (Wt.sec_sok hsx), Wt.sec_sok hsx] at hkx
  have hkkx := Wt.kok_gp hsx
  have HSX := Lib.hid hsx
  obtain ⟨K, HK⟩ : ∃ y, Hid (Sg.gp (1 + x) = y) := ⟨_, Lib.hid rfl⟩
  rw [HK.out] at hkx hkkx
  clear hsx
  go_wp2_with fail
  refine (hkx _).mono ?_
  rintro e Wk ⟨rfl, hw⟩
  rw [hw]
  clear hw hkx
  go_wp2_with fail
  refine (pick_any B a' l' c' zs' _ 60 _ (by omega) (by omega) hD5).mono ?_
  rintro e W6 ⟨y, rfl, ya, yb, hD6, hG⟩
  have vR6 := vR5.gbK hG hRB
  have vE6 := vE5.gbK hG hDB
  have hb6 := Below.grown hb5 hG hb5.size (fun j hj => by cases hj; exact hBw)
  clear hD5 vR5 vE5 hb5 hG
  have hw2 : IntKind.i64.wrap (1 + y) = 1 + y := IntWalk.i64_in _ (by omega)
  have hsy : Wt.sec (1 + y) = true := (Wt.sec_iff _).2 ⟨by omega, by omega⟩
  have hky := fun W => specKeyOf_any (1 + y) W
  rw [Sg.key_ok (Wt.sec_sok hsy), Wt.sec_sok hsy] at hky
  have hkky := Wt.kok_gp hsy
  obtain ⟨P, HP⟩ : ∃ q, Hid (Sg.gp (1 + y) = q) := ⟨_, Lib.hid rfl⟩
  rw [HP.out] at hky hkky
  clear hsy
  go_wp2_with fail
  refine (hky _).mono ?_
  rintro e Wk ⟨rfl, hw⟩
  rw [hw]
  clear hw hky
  have hdg := fun W => specDigest_same pre W (by omega)
  have hdb := Dg.of_bd pre
  obtain ⟨d, HD⟩ : ∃ z, Hid (Dg.of pre = z) := ⟨_, Lib.hid rfl⟩
  rw [HD.out] at hdg hdb
  go_wp2_with fail
  refine (hdg _).mono ?_
  rintro e Wk ⟨rfl, hw⟩
  rw [hw]
  clear hw hdg
  go_wp2_with fail
  refine (pick_any B a' l' c' zs' _ 30 _ (by omega) (by omega) hD6).mono ?_
  rintro e W7 ⟨z, rfl, za, zb, hD7, hG⟩
  have vR7 := vR6.gbK hG hRB
  have vE7 := vE6.gbK hG hDB
  have hb7 := Below.grown hb6 hG hb6.size (fun j hj => by cases hj; exact hBw)
  clear hD6 vR6 vE6 hb6 hG
  have htm := Lk.timed_yes hdb hkkx hkky (show 0 ≤ z ∧ z ≤ 9999 by omega)
  have hlk : ∀ W, Calls Tryz.prog 76 #[.int .i64 d, .int .i64 K, .int .i64 z, .int .i64 P] W (LkY (Lk.timed d K z P) W) := fun W => (specLockTimed_any d K z P W).mono fun _ _ g => LkQ.yes htm g
  unfold LkY at hlk
  have hls := Jo.bs_size (Lk.timed d K z P)
  obtain ⟨X, HX⟩ : ∃ q, Hid (Jo.bs (Lk.timed d K z P) = q) := ⟨_, Lib.hid rfl⟩
  rw [HX.out] at hlk hls
  have hop := fun W => OpenPayee_yes (1 + x) pre T W HSX.out (by omega) (by omega)
  have HSZ : Hid (∀ s ∈ [Wt.sig (1 + x) T, pre, Wt.tr true], s.size ≤ 81) := Lib.hid (fun s h => by
    simp at h
    rcases h with rfl | rfl | rfl
    · rw [Wt.sig_size]; decide
    · omega
    · decide)
  unfold WtR at hop
  obtain ⟨L, HL⟩ : ∃ L, Hid ([Wt.sig (1 + x) T, pre, Wt.tr true] = L) := ⟨_, Lib.hid rfl⟩
  have hnL : L.length = 3 := by rw [← HL.out]; rfl
  rw [HL.out] at hop HSZ
  have HNL := Lib.hid hnL
  rw [hnL] at hop
  clear hnL htm hkkx hkky hdb HD HP HK HX HSX HL
  go_wp2_with fail
  refine (hlk _).mono ?_
  rintro e W8 ⟨rfl, hx⟩
  have vR8 := vR7.below hx
  have vE8 := vE7.below hx
  have hD8 := hD7.belK hx
  have hb8 := hb7.trans (hx.mono hb7.size)
  obtain ⟨e0, e1, e2⟩ := Bk.c3w vE8
  clear hx hlk hD7 vR7 vE7 hb7
  go_wp2_with fail
  refine (hop _).mono ?_
  rintro e W9 ⟨a9, c9, rfl, hx, hown⟩
  have vR9 := vR8.below hx
  have vE9 := vE8.below hx
  have hD9 := hD8.belK hx
  have hb9 := hb8.trans (hx.mono hb8.size)
  obtain ⟨g, rfl, hg1, _⟩ := own_someU hown (by decide)
  have hgB : g ≠ B := by have := hD8.lt; omega
  have hgR : g ≠ w.heap.size := by have := vR8.lt; omega
  have hgD : g ≠ D := by have := vE8.lt; omega
  have hs9 := (SR.own hown).2
  clear hx hop hD8 vR8 vE8 hb8 hown e0 e1 e2 hg1
  go_wp2_with fail
  refine (pick_any B a' l' c' zs' _ 6 _ (by omega) (by omega) hD9).mono ?_
  rintro e Wa ⟨u, rfl, ua, ub, hDa, hG⟩
  have vRa := vR9.gbK hG hRB
  have vEa := vE9.gbK hG hDB
  have hba := Below.grown hb9 hG hb9.size (fun j hj => by cases hj; exact hBw)
  have hsa := hs9.grown hG (fun _ b off he => by cases he; simpa using hgB)
  clear hD9 vR9 vE9 hb9 hs9 hG
  by_cases hu : u = 0
  · have hu1 : (u == 0) = true := by simpa using hu
    clear hu ua ub
    go_wp2_with fail
    refine (l91Word_any B a' l' c' zs' _ _ (by omega) hDa).mono ?_
    rintro e Wb ⟨T2, qb, rfl, htz, qab, qbb, hDb, hG⟩
    have vRb := (vRa.gbK hG hRB).oset D 0 (.string T2) (fun h => hDR h.symm)
    have vEb' := vEa.gbK hG hDB
    obtain ⟨x0, x1, x2⟩ := Bk.c3w vEb'
    have xf := vEb'.fro 0
    have vEb : Bk D 35 #[.string T2, .int .i64 h, .int .i64 k] (Wb.setCell ⟨D, 0, none⟩ (.string T2)) := vEb'.set 0 (.string T2)
    have hbb := (Below.grown hba hG hba.size (fun j hj => by cases hj; exact hBw)).setCell (p := ⟨D, 0, none⟩) hwD (.string T2)
    have hsb := (hsa.grown hG (fun _ b off he => by cases he; simpa using hgB)).grown (gb_set1 Wb D 0 (.string T2)) (fun _ b off he => by cases he; simpa using hgD)
    clear hDa vRa vEa hba hsa hG hDb
    obtain ⟨e0, e1, e2⟩ := Bk.c3w vEb
    obtain ⟨d0, d1, d2⟩ := Bk.c3w vEb.drew
    obtain ⟨r0, r1, r2⟩ := Bk.c3w vRb
    have f0 := vRb.fro 0
    have f1 := vRb.fro 1
    have f2 := vRb.fro 2
    have g0 := vRb.drew.fro 0
    have g1 := vRb.drew.fro 1
    have g2 := vRb.drew.fro 2
    obtain ⟨s0, s1, s2⟩ := Bk.c3w vRb.drew
    have hR := Bk.store3w vRb.drew (.string T2) (.int .i64 h) (.int .i64 k)
    have hgr : (Wb.setCell ⟨D, 0, none⟩ (.string T2)).grownBy ((((Wb.setCell ⟨D, 0, none⟩ (.string T2)).drew.setCell ⟨w.heap.size, 0, none⟩ (.string T2)).setCell ⟨w.heap.size, 1, none⟩ (.int .i64 h)).setCell ⟨w.heap.size, 2, none⟩ (.int .i64 k)) (some w.heap.size) := gtrans (gtrans (gtrans (grownBy_drew (World.grownBy.refl _ _)) (gb_set1 _ _ _ _)) (gb_set1 _ _ _ _)) (gb_set1 _ _ _ _)
    have HSR := Lib.hid (hsb.grown hgr (fun _ b off he => by cases he; simpa using hgR))
    have hbz := Below.grown hbb hgr hbb.size (fun j hj => by cases hj; exact Nat.le_refl _)
    clear hsb hbb hgr vRb vEb
    go_wp2
    go_region
    go_wp2
    refine bodyPost_ret (results_ttc (P := Tryz.prog) rfl _ _ w.heap.size 35 _ (0, 0) _ rfl hR.held Tryz.underlying35 rfl (by kernel_rfl)) rfl ?_
    exact ⟨X, L, g, c9, T2, h, k, by rw [HNL.out]; rfl, by omega, by rw [HNL.out]; decide, HSZ.out, htz, t1, t2, t3, t4, by rw [HNL.out]; exact HSR.out, hbz⟩
  · have hu1 : (u == 0) = false := by simpa using hu
    clear hu ua ub
    obtain ⟨e0, e1, e2⟩ := Bk.c3w vEa
    obtain ⟨d0, d1, d2⟩ := Bk.c3w vEa.drew
    obtain ⟨r0, r1, r2⟩ := Bk.c3w vRa
    have f0 := vRa.fro 0
    have f1 := vRa.fro 1
    have f2 := vRa.fro 2
    have g0 := vRa.drew.fro 0
    have g1 := vRa.drew.fro 1
    have g2 := vRa.drew.fro 2
    obtain ⟨s0, s1, s2⟩ := Bk.c3w vRa.drew
    have hR := Bk.store3w vRa.drew (.string T) (.int .i64 h) (.int .i64 k)
    have hgr : Wa.grownBy (((Wa.drew.setCell ⟨w.heap.size, 0, none⟩ (.string T)).setCell ⟨w.heap.size, 1, none⟩ (.int .i64 h)).setCell ⟨w.heap.size, 2, none⟩ (.int .i64 k)) (some w.heap.size) := gtrans (gtrans (gtrans (grownBy_drew (World.grownBy.refl _ _)) (gb_set1 _ _ _ _)) (gb_set1 _ _ _ _)) (gb_set1 _ _ _ _)
    have HSR := Lib.hid (hsa.grown hgr (fun _ b off he => by cases he; simpa using hgR))
    have hbz := Below.grown hba hgr hba.size (fun j hj => by cases hj; exact Nat.le_refl _)
    clear hsa hba hgr vRa vEa
    go_wp2
    go_region
    go_wp2
    refine bodyPost_ret (results_ttc (P := Tryz.prog) rfl _ _ w.heap.size 35 _ (0, 0) _ rfl hR.held Tryz.underlying35 rfl (by kernel_rfl)) rfl ?_
    exact ⟨X, L, g, c9, T, h, k, by rw [HNL.out]; rfl, by omega, by rw [HNL.out]; decide, HSZ.out, t0, t1, t2, t3, t4, by rw [HNL.out]; exact HSR.out, hbz⟩
end Go.Proofs.YtoocibabceeagabGreat
