/- For every two codes of at most 1<<20 bytes each (longer ones are let pass by the law itself): RunScript answers of two scripts, one behind the other, as the model's RunScript, and, where all three are scripts, as two runs, one behind the other. -/
import Derived.Test.YtdaffohimifecaaGreatRows
import Derived.Test.YtdaffohimifecaaGreatZe
import Derived.WalkKit
import Derived.WalkSpells
import Derived.ProofKit
import Derived.OpenShut
import Derived.ShutString
import Derived.Below
import Derived.SliceStrings
namespace Go.Proofs.YtdaffohimifecaaGreat.fnRunTwo
open Go.ChangeShapes Go.WideShapes Go.ChangeAt Go.RowKit
open Go.ChangeMaps (open_string shut_string)
set_option maxRecDepth 100000 in
set_option maxHeartbeats 6400000 in
theorem walk (a0 : Option Addr) (len0 cap0 : Nat) (z0 : List Int) (a1 : Option Addr) (len1 cap1 : Nat) (z1 : List Int) (w : World) (w0 : IsRow .u8 w a0 len0 cap0 z0) (w1 : IsRow .u8 w a1 len1 cap1 z1) :
    Calls Tryz.prog 5 #[.slice a0 len0 cap0, .slice a1 len1 cap1] w fun e w' => e = .returned (.bool true) ∧ Below w.heap.size w w' := by
  have hcm := w0.len
  have hcm1 := w1.len
  by_cases h0 : (1048576 : Int) < (len0 : Int)
  · go_enter Tryz.func5, Tryz.ntmps5
    go_wp2
    go_ret
    exact ⟨rfl, Below.refl _ _⟩
  by_cases h1 : (1048576 : Int) < (len1 : Int)
  · go_enter Tryz.func5, Tryz.ntmps5
    go_wp2
    go_ret
    exact ⟨rfl, Below.refl _ _⟩
  go_enter Tryz.func5, Tryz.ntmps5
  go_wp2_with fail
  refine (drawRunScript_any a0 len0 cap0 z0 _ w0 (by omega)).mono ?_
  rintro e W1 ⟨g2, n, cap2, l, ss, g, cp, T, hE, aE, rfl, hol, hn, hsr, hl3, hsz, t0, t1, t2, t3, t4, hb0⟩
  have HA : Hid (Bk W1.heap.size 26 #[.string T, .int .i64 hE, .int .i64 aE] (W1.alloc (.cells #[.string T, .int .i64 hE, .int .i64 aE] 26 (0, 0)))) := Lib.hid (Bk.new _ _ _)
  have HO := Lib.hid (hol.alloc (.cells #[.string T, .int .i64 hE, .int .i64 aE] 26 (0, 0)))
  have HS := Lib.hid (hsr.alloc (.cells #[.string T, .int .i64 hE, .int .i64 aE] 26 (0, 0)))
  have hb1 := below_alloc hb0 (.cells #[.string T, .int .i64 hE, .int .i64 aE] 26 (0, 0))
  have HR := Lib.hid (w1.below hb1)
  have hlen1 : len1 ≤ 1048576 := by omega
  have HZ : Hid (∀ s ∈ ss, s.size ≤ 1048576) := Lib.hid fun s h => by have := hsz s h; omega
  clear w0 w1 hcm hcm1 h0 h1 hol hsr hsz hb0
  obtain ⟨i0, hi, hz0, hz1, hz2⟩ := info_parts info_op
  go_wp2_with fail
  refine (drawScriptOk_own a1 len1 cap1 z1 _ HR.out hlen1).mono ?_
  rintro e W2 ⟨g3, n3, cap3, l3, rfl, hol3, hn3, hx⟩
  replace HA := Lib.hid (HA.out.below hx)
  replace HO := Lib.hid (HO.out.below hx)
  replace HS := Lib.hid (HS.out.below hx)
  have hb2 := hb1.trans (hx.mono hb1.size)
  have HP := Lib.hid hol3
  clear hol3 HR
  clear hb1 hx
  have hln : l.length = n := HO.out.1
  have hln3 : l3.length = n3 := HP.out.1
  have HC1 := Lib.hid (Jo.cells_one l)
  have HC3 := Lib.hid (Jo.cells_one l3)
  have HLL : Hid ((Jo.cells l).length = n * 4) := Lib.hid (by rw [Jo.cells_length, hln])
  have HLL3 : Hid ((Jo.cells l3).length = n3 * 4) := Lib.hid (by rw [Jo.cells_length, hln3])
  have HLA : Hid ((l ++ l3).length = n + n3) := Lib.hid (by rw [List.length_append, hln, hln3])
  clear hln hln3
  go_wp2_with (at_builtin; refine wpList_append_own _ rfl _ _ 23 rfl W2.heap.size 69 i0 (.agg #[.int .i64 0, .int .i64 0, .int .i64 0, .string ⟨#[]⟩]) 4 40 Tryz.underlying23 hi hz0 hz1 hz2 rfl (by decide) (.slice (some ⟨W2.heap.size, 0, none⟩) 0 0) 0 [] rfl (World.ownsRow_made (e := 69) (size := 4) W2 #[] 0 (Nat.le_refl _) (by decide) rfl) ⟨g2, 0, none⟩ n cap2 (Jo.cells l) rfl HLL.out (HO.out.alloc _).news HC1.out ?c3 ?c4 ?c5 ?_)
  case c3 => unfold maxLen; omega
  case c4 => omega
  case c5 => simp
  intro x3 v3 hown3 hgrow3 _
  have hG3 : W2.grownBy v3 none := gtrans_own (World.grownBy_alloc _ _ _) hgrow3 (fun j he => by cases he; exact Nat.le_refl _)
  have HP3 := Lib.hid (HP.out.grown hG3 (fun _ _ _ _ => by simp))
  have hsz3 := hG3.size
  clear hgrow3
  go_wp2_with (at_builtin; refine wpList_append_own _ rfl _ _ 23 rfl W2.heap.size 69 i0 (.agg #[.int .i64 0, .int .i64 0, .int .i64 0, .string ⟨#[]⟩]) 4 40 Tryz.underlying23 hi hz0 hz1 hz2 rfl (by decide) x3 n (Jo.cells l) rfl hown3 ⟨g3, 0, none⟩ n3 cap3 (Jo.cells l3) rfl HLL3.out HP3.out.news HC3.out ?c3 ?c4 ?c5 ?_)
  case c3 => unfold maxLen; omega
  case c4 => omega
  case c5 => exact hsz3
  intro x4 v4 hown4 hgrow4 _
  have hG4 : W2.grownBy v4 none := gtrans_own hG3 hgrow4 (fun j he => (hown3.lt _ he).1)
  have hb4 : Below W2.heap.size W2 v4 := Below.grown (Below.refl _ _) hG4 (Nat.le_refl _) (fun j hj => by cases hj)
  replace HA := Lib.hid (HA.out.below hb4)
  replace HO := Lib.hid (HO.out.below hb4)
  replace HS := Lib.hid (HS.out.below hb4)
  replace HP := Lib.hid (HP.out.below hb4)
  have hb9 := hb2.trans (hb4.mono hb2.size)
  obtain ⟨ax, cx0, rfl⟩ : ∃ a cp, x4 = .slice a (n + n3) cp := by
    rcases hown4.2 with ⟨h, h0⟩ | ⟨g, cap, cur, h, _⟩
    · exact ⟨none, 0, by rw [h, h0]⟩
    · exact ⟨_, _, h⟩
  have HQ : Hid (OL v4 ax (n + n3) (l ++ l3)) := Lib.hid (OL.own (by rw [← Jo.cells_append] at hown4; exact hown4)).2
  clear hown3 hown4 hgrow4 hG3 hG4 hsz3 HP3 HC1 HC3 HLL HLL3 HLA hb4 hb2 hi hz0 hz1 hz2
  obtain ⟨LA, HLA⟩ : ∃ L, Hid ((Vm.run ⟨T, hE, aE⟩ (l ++ l3) ss).1 = L) := ⟨_, Lib.hid rfl⟩
  obtain ⟨cdA, HCA⟩ : ∃ c, Hid ((Vm.run ⟨T, hE, aE⟩ (l ++ l3) ss).2 = c) := ⟨_, Lib.hid rfl⟩
  have hfitA := Vm.run_fits ⟨T, hE, aE⟩ (l ++ l3) ss
  rw [HLA.out] at hfitA
  obtain ⟨mA, hmA⟩ : ∃ n, LA.length = n := ⟨_, rfl⟩
  have hm24A : mA ≤ 24 := by have := hfitA.1; omega
  have HspecA : Hid (∀ W, OL W (ax) (n + n3) ((l ++ l3)) → SR W (some ⟨g, 0, none⟩) ss.length ss → Calls Tryz.prog 11 #[.slice (ax) (n + n3) cx0, .slice (some ⟨g, 0, none⟩) ss.length cp, .agg #[.string T, .int .i64 (hE), .int .i64 (aE)]] W (RunP mA LA cdA W)) := specRun (E := ⟨T, hE, aE⟩) HLA.out HCA.out hmA (by omega) (by omega) HZ.out (by simp only; omega)
  have HimplA : Hid (∀ W, OL W (ax) (n + n3) ((l ++ l3)) → SR W (some ⟨g, 0, none⟩) ss.length ss → Calls Tryz.prog 10 #[.slice (ax) (n + n3) cx0, .slice (some ⟨g, 0, none⟩) ss.length cp, .agg #[.string T, .int .i64 (hE), .int .i64 (aE)]] W (RunP mA LA cdA W)) := implRun (E := ⟨T, hE, aE⟩) HLA.out HCA.out hmA (by omega) (by omega) HZ.out (fun h => by cases h) (by simp only; omega)
  have hq : (cdA == cdA) = true := by simp
  have hq2 : (cdA != cdA) = false := by simp
  clear hfitA t1 t2 t3 t4
  obtain ⟨c0, c1, c2⟩ := Bk.c3w HA.out
  go_wp2_with fail
  refine (HimplA.out _ HQ.out HS.out).mono ?_
  rintro e W10 ⟨x, cx, rfl, hs1, hx, _⟩
  replace HA := Lib.hid (HA.out.below hx)
  replace HO := Lib.hid (HO.out.below hx)
  replace HS := Lib.hid (HS.out.below hx)
  replace HP := Lib.hid (HP.out.below hx)
  replace HQ := Lib.hid (HQ.out.below hx)
  have hb10 := hb9.trans (hx.mono hb9.size)
  have HX := Lib.hid hs1
  clear hs1
  clear hb9 hx
  clear c0 c1 c2
  obtain ⟨c0, c1, c2⟩ := Bk.c3w HA.out
  go_wp2_with fail
  refine (HspecA.out _ HQ.out HS.out).mono ?_
  rintro e W11 ⟨y, cy, rfl, hs1, hx, _⟩
  replace HA := Lib.hid (HA.out.below hx)
  replace HO := Lib.hid (HO.out.below hx)
  replace HS := Lib.hid (HS.out.below hx)
  replace HP := Lib.hid (HP.out.below hx)
  replace HQ := Lib.hid (HQ.out.below hx)
  replace HX := Lib.hid (HX.out.below hx)
  have hb11 := hb10.trans (hx.mono hb10.size)
  have HY := Lib.hid hs1
  clear hs1
  clear hb10 hx
  clear c0 c1 c2
  clear HimplA HspecA
  go_wp2_with fail
  refine (wcTexts_any x y mA cx cy LA _ HX.out HY.out (by omega)).mono ?_
  rintro e W12 ⟨rfl, hx⟩
  replace HA := Lib.hid (HA.out.below hx)
  replace HO := Lib.hid (HO.out.below hx)
  replace HS := Lib.hid (HS.out.below hx)
  replace HP := Lib.hid (HP.out.below hx)
  replace HQ := Lib.hid (HQ.out.below hx)
  replace HX := Lib.hid (HX.out.below hx)
  replace HY := Lib.hid (HY.out.below hx)
  have hb12 := hb11.trans (hx.mono hb11.size)
  clear hb11 hx
  obtain ⟨T1, HT1⟩ : ∃ x, Hid (Jo.ok l = x) := ⟨_, Lib.hid rfl⟩
  have hok1 := fun W h => implScriptOk_any (some ⟨g2, 0, none⟩) n cap2 l W h (by omega)
  simp only [HT1.out] at hok1
  have HK1 := Lib.hid hok1
  clear hok1
  obtain ⟨T2, HT2⟩ : ∃ x, Hid (Jo.ok l3 = x) := ⟨_, Lib.hid rfl⟩
  have hok2 := fun W h => implScriptOk_any (some ⟨g3, 0, none⟩) n3 cap3 l3 W h (by omega)
  simp only [HT2.out] at hok2
  have HK2 := Lib.hid hok2
  clear hok2
  obtain ⟨T3, HT3⟩ : ∃ x, Hid (Jo.ok (l ++ l3) = x) := ⟨_, Lib.hid rfl⟩
  have hok3 := fun W h => implScriptOk_any ax (n + n3) cx0 (l ++ l3) W h (by omega)
  simp only [HT3.out] at hok3
  have HK3 := Lib.hid hok3
  clear hok3
  skip
  go_wp2_with fail
  refine (HK1.out _ HO.out).mono ?_
  rintro e W13 ⟨rfl, hx⟩
  replace HA := Lib.hid (HA.out.below hx)
  replace HO := Lib.hid (HO.out.below hx)
  replace HS := Lib.hid (HS.out.below hx)
  replace HP := Lib.hid (HP.out.below hx)
  replace HQ := Lib.hid (HQ.out.below hx)
  replace HX := Lib.hid (HX.out.below hx)
  replace HY := Lib.hid (HY.out.below hx)
  have hb13 := hb12.trans (hx.mono hb12.size)
  clear hb12 hx
  cases T1
  · skip
    go_wp2_with fail
    refine (wcTexts_any x y mA cx cy LA _ HX.out HY.out (by omega)).mono ?_
    rintro e W14 ⟨rfl, hx⟩
    replace HA := Lib.hid (HA.out.below hx)
    replace HO := Lib.hid (HO.out.below hx)
    replace HS := Lib.hid (HS.out.below hx)
    replace HP := Lib.hid (HP.out.below hx)
    replace HQ := Lib.hid (HQ.out.below hx)
    replace HX := Lib.hid (HX.out.below hx)
    replace HY := Lib.hid (HY.out.below hx)
    have hb14 := hb13.trans (hx.mono hb13.size)
    clear hb13 hx
    go_wp2
    go_ret
    exact ⟨rfl, hb14⟩
  go_wp2_with fail
  refine (HK2.out _ HP.out).mono ?_
  rintro e W14 ⟨rfl, hx⟩
  replace HA := Lib.hid (HA.out.below hx)
  replace HO := Lib.hid (HO.out.below hx)
  replace HS := Lib.hid (HS.out.below hx)
  replace HP := Lib.hid (HP.out.below hx)
  replace HQ := Lib.hid (HQ.out.below hx)
  replace HX := Lib.hid (HX.out.below hx)
  replace HY := Lib.hid (HY.out.below hx)
  have hb14 := hb13.trans (hx.mono hb13.size)
  clear hb13 hx
  cases T2
  · skip
    go_wp2_with fail
    refine (wcTexts_any x y mA cx cy LA _ HX.out HY.out (by omega)).mono ?_
    rintro e W15 ⟨rfl, hx⟩
    replace HA := Lib.hid (HA.out.below hx)
    replace HO := Lib.hid (HO.out.below hx)
    replace HS := Lib.hid (HS.out.below hx)
    replace HP := Lib.hid (HP.out.below hx)
    replace HQ := Lib.hid (HQ.out.below hx)
    replace HX := Lib.hid (HX.out.below hx)
    replace HY := Lib.hid (HY.out.below hx)
    have hb15 := hb14.trans (hx.mono hb14.size)
    clear hb14 hx
    go_wp2
    go_ret
    exact ⟨rfl, hb15⟩
  go_wp2_with fail
  refine (HK3.out _ HQ.out).mono ?_
  rintro e W15 ⟨rfl, hx⟩
  replace HA := Lib.hid (HA.out.below hx)
  replace HO := Lib.hid (HO.out.below hx)
  replace HS := Lib.hid (HS.out.below hx)
  replace HP := Lib.hid (HP.out.below hx)
  replace HQ := Lib.hid (HQ.out.below hx)
  replace HX := Lib.hid (HX.out.below hx)
  replace HY := Lib.hid (HY.out.below hx)
  have hb15 := hb14.trans (hx.mono hb14.size)
  clear hb14 hx
  cases T3
  · skip
    go_wp2_with fail
    refine (wcTexts_any x y mA cx cy LA _ HX.out HY.out (by omega)).mono ?_
    rintro e W16 ⟨rfl, hx⟩
    replace HA := Lib.hid (HA.out.below hx)
    replace HO := Lib.hid (HO.out.below hx)
    replace HS := Lib.hid (HS.out.below hx)
    replace HP := Lib.hid (HP.out.below hx)
    replace HQ := Lib.hid (HQ.out.below hx)
    replace HX := Lib.hid (HX.out.below hx)
    replace HY := Lib.hid (HY.out.below hx)
    have hb16 := hb15.trans (hx.mono hb15.size)
    clear hb15 hx
    go_wp2
    go_ret
    exact ⟨rfl, hb16⟩
  clear HK1 HK2 HK3 HQ HY
  obtain ⟨htwo1, htwo2⟩ := Vm.run_two ⟨T, hE, aE⟩ l l3 ss HT1.out HT2.out HT3.out
  skip
  obtain ⟨LB, HLB⟩ : ∃ L, Hid ((Vm.run ⟨T, hE, aE⟩ l ss).1 = L) := ⟨_, Lib.hid rfl⟩
  obtain ⟨cdB, HCB⟩ : ∃ c, Hid ((Vm.run ⟨T, hE, aE⟩ l ss).2 = c) := ⟨_, Lib.hid rfl⟩
  have hfitB := Vm.run_fits ⟨T, hE, aE⟩ l ss
  rw [HLB.out] at hfitB
  obtain ⟨mB, hmB⟩ : ∃ n, LB.length = n := ⟨_, rfl⟩
  have hm24B : mB ≤ 24 := by have := hfitB.1; omega
  have HimplB : Hid (∀ W, OL W (some ⟨g2, 0, none⟩) n (l) → SR W (some ⟨g, 0, none⟩) ss.length ss → Calls Tryz.prog 10 #[.slice (some ⟨g2, 0, none⟩) n cap2, .slice (some ⟨g, 0, none⟩) ss.length cp, .agg #[.string T, .int .i64 (hE), .int .i64 (aE)]] W (RunP mB LB cdB W)) := implRun (E := ⟨T, hE, aE⟩) HLB.out HCB.out hmB (by omega) (by omega) HZ.out (fun h => by cases h) (by simp only; omega)
  have h24 := hm24B
  rw [HCB.out] at htwo1 htwo2
  rw [HCA.out] at htwo1
  rw [HLB.out] at htwo2
  have HW1 := Lib.hid htwo1
  have HW2 := Lib.hid htwo2
  have HFB := Lib.hid hfitB
  clear htwo1 htwo2 hfitB
  obtain ⟨c0, c1, c2⟩ := Bk.c3w HA.out
  go_wp2_with fail
  refine (HimplB.out _ HO.out HS.out).mono ?_
  rintro e W16 ⟨f, cf, rfl, hs1, hx, hnf⟩
  replace HA := Lib.hid (HA.out.below hx)
  replace HO := Lib.hid (HO.out.below hx)
  replace HS := Lib.hid (HS.out.below hx)
  replace HP := Lib.hid (HP.out.below hx)
  replace HX := Lib.hid (HX.out.below hx)
  have hb16 := hb15.trans (hx.mono hb15.size)
  have HF := Lib.hid hs1
  have HNF := Lib.hid hnf
  clear hs1 hnf
  clear hb15 hx
  clear c0 c1 c2
  by_cases hc : cdB = 0
  · have hr2 := HW2.out hc
    have hl2 : (Vm.run ⟨T, hE, aE⟩ l3 LB).1 = LA := by rw [← hr2]; exact HLA.out
    have hc2 : (Vm.run ⟨T, hE, aE⟩ l3 LB).2 = cdA := by rw [← hr2]; exact HCA.out
    have HL2 : Hid (∀ W, OL W (some ⟨g3, 0, none⟩) n3 l3 → SR W f mB LB → Calls Tryz.prog 10 #[.slice (some ⟨g3, 0, none⟩) n3 cap3, .slice f mB cf, .agg #[.string T, .int .i64 hE, .int .i64 aE]] W (RunP mA LA cdA W)) := implRun (E := ⟨T, hE, aE⟩) hl2 hc2 hmA (by omega) (by omega) (fun s h => by have := HFB.out.2 s h; omega) HNF.out (by simp only; omega)
    subst hc
    clear hr2 hl2 hc2 HW1 HW2 HNF HFB
    obtain ⟨c0, c1, c2⟩ := Bk.c3w HA.out
    go_wp2_with fail
    refine (HL2.out _ HP.out HF.out).mono ?_
    rintro e W17 ⟨s2, cs2, rfl, hs1, hx, _⟩
    replace HA := Lib.hid (HA.out.below hx)
    replace HO := Lib.hid (HO.out.below hx)
    replace HS := Lib.hid (HS.out.below hx)
    replace HP := Lib.hid (HP.out.below hx)
    replace HX := Lib.hid (HX.out.below hx)
    replace HF := Lib.hid (HF.out.below hx)
    have hb17 := hb16.trans (hx.mono hb16.size)
    have HG := Lib.hid hs1
    clear hs1
    clear hb16 hx
    clear c0 c1 c2
    go_wp2_with fail
    refine (wcTexts_any x s2 mA cx cs2 LA _ HX.out HG.out (by omega)).mono ?_
    rintro e W18 ⟨rfl, hx⟩
    have hb18 := hb17.trans (hx.mono hb17.size)
    clear hb17 hx
    go_wp2
    go_ret
    exact ⟨rfl, hb18⟩
  · have hce := HW1.out hc
    have hcq : (cdB != 0) = true := by simpa using hc
    have hcz : (cdA == cdB) = true := by simpa using hce
    clear hce HW1 HW2
    go_wp2
    go_ret
    exact ⟨rfl, hb16⟩
/-! ### The row's step. -/
theorem own : ownKnob Tryz.prog.godebug = none := by kernel_rfl
theorem laidOut : laidOutB Tryz.prog = true := by kernel_rfl
set_option maxRecDepth 100000 in
theorem lifted (os : Os) (started : os.Started) (H : Type) (enc : TypeId × Value → H) :
    ReturnsInHanded {} Tryz.checked os 5 .any (Rows.fnRunTwoSpec.pre6 enc Tryz.prog Tryz.f5 Rows.fnRunTwoRow.domain false) (Rows.fnRunTwoSpec.post enc Tryz.prog Tryz.f5 false true false false) := by
  refine returnsInHanded_of_change (C := Tryz.checked) own started (by kernel_rfl) Tryz.func5
    (ChangeSpec.witness6 (enc := enc) (C := Tryz.checked) false ⟨#[], #[.slice none 0 0, .slice none 0 0], []⟩ 8 (by kernel_rfl) (by kernel_rfl) (by kernel_rfl) (by kernel_rfl)) ?_
  intro W base args ds gs before hval0 hW hcnd _
  have hval : ∀ (j : Nat) t v, Tryz.f5.params[j]? = some t → args[j]? = some v → Value.okWide Tryz.prog W .any base t v := hval0
  have hW' := hW
  obtain ⟨p, q, hA0, hV, rfl, hfz, hnd⟩ := hW
  have hA : DataW.TrodAll enc Tryz.prog W 0 (fun _ => true) true Tryz.f5.params.toList args.toList ds p := hA0
  rw [Tryz.params5] at hA hval
  obtain ⟨v0, vs0, d0, ds0, p0, q0, hargs, rfl, rfl, h0, r0⟩ := trodAll_cons hA
  obtain ⟨v1, vs1, d1, ds1, p1, q1, rfl, rfl, rfl, h1, r1⟩ := trodAll_cons r0
  obtain ⟨rfl, rfl, rfl⟩ := trodAll_nil r1
  obtain rfl : args = #[v0, v1] := by cases args; simp_all
  obtain ⟨rfl, rfl⟩ := trodVars_none hV
  obtain ⟨a0, len0, cap0, rfl⟩ := okWide_slice Tryz.underlying22 (hval 0 22 v0 rfl rfl)
  have k0 := h0
  have lt0 : ∀ x ∈ p0, x.block < W.heap.size := by obtain ⟨m, hm⟩ := k0; exact DataW.trod_lt m _ _ _ hm
  obtain ⟨z0, w0⟩ : ∃ zs, IsRow .u8 W a0 len0 cap0 zs := by
    obtain ⟨fuel, hf⟩ := h0
    rcases open_ints Tryz.underlying22 Tryz.underlying5 (by kernel_rfl) hf with ⟨hcs, _⟩ | ⟨x, l, c, zs, hcs, _, hl, hm, hz, _, hcell, hwz⟩
    · simp [Value.cells] at hcs
      obtain ⟨rfl, rfl, rfl⟩ := hcs
      exact ⟨[], .inl ⟨rfl, rfl, rfl, rfl⟩⟩
    · simp [Value.cells] at hcs
      obtain ⟨rfl, rfl, rfl⟩ := hcs
      exact ⟨zs, .inr ⟨_, rfl, hl, hm, by simpa using hz, hcell, hwz⟩⟩
  obtain ⟨a1, len1, cap1, rfl⟩ := okWide_slice Tryz.underlying22 (hval 1 22 v1 rfl rfl)
  have k1 := h1
  have lt1 : ∀ x ∈ p1, x.block < W.heap.size := by obtain ⟨m, hm⟩ := k1; exact DataW.trod_lt m _ _ _ hm
  obtain ⟨z1, w1⟩ : ∃ zs, IsRow .u8 W a1 len1 cap1 zs := by
    obtain ⟨fuel, hf⟩ := h1
    rcases open_ints Tryz.underlying22 Tryz.underlying5 (by kernel_rfl) hf with ⟨hcs, _⟩ | ⟨x, l, c, zs, hcs, _, hl, hm, hz, _, hcell, hwz⟩
    · simp [Value.cells] at hcs
      obtain ⟨rfl, rfl, rfl⟩ := hcs
      exact ⟨[], .inl ⟨rfl, rfl, rfl, rfl⟩⟩
    · simp [Value.cells] at hcs
      obtain ⟨rfl, rfl, rfl⟩ := hcs
      exact ⟨zs, .inr ⟨_, rfl, hl, hm, by simpa using hz, hcell, hwz⟩⟩
  clear hA0 hval0
  refine (walk a0 len0 cap0 z0 a1 len1 cap1 z1 W w0 w1).mono fun e W' ⟨he, bel⟩ => ?_
  subst he
  exact ⟨_, rfl, _, _, _, [], _, [], hW', trodAll_mk1 (shut_bool Tryz.underlying4 _), (trodAll_cons_mk (Below.trod laidOut (by kernel_rfl) (of_decide_eq_true (by kernel_rfl)) k0 bel lt0) (trodAll_cons_mk (Below.trod laidOut (by kernel_rfl) (of_decide_eq_true (by kernel_rfl)) k1 bel lt1) trodAll_mk0)), rfl, bel.frame _, fun h => by cases h⟩
theorem over : Rows.fnRunTwoRow.holds Tryz.pinned (OpenSpec.ofChange Rows.fnRunTwoSpec) :=
  OpenClaim.holds_of_wide 5 Tryz.f5 rfl rfl rfl rfl rfl rfl rfl ⟨rfl, rfl, rfl, rfl, rfl⟩ rfl rfl rfl rfl rfl (by kernel_rfl) Tryz.func5 (by kernel_rfl)
    (of_decide_eq_true (by kernel_rfl)) (by unfold Func.isWrapper; first | (rw [if_pos (by decide +kernel)]; kernel_rfl) | (rw [if_neg (by decide +kernel)]; exact ⟨rfl, rfl⟩))
    (fun os started H enc _ => lifted os started H enc)
theorem proved : Rows.FnRunTwoSaid := over
#print axioms proved
end Go.Proofs.YtdaffohimifecaaGreat.fnRunTwo
