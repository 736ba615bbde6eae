/- For every two codes of at most 1<<20 bytes each (longer ones are let pass by the law itself): RunScript answers as the model's RunScript, and what runs at a height and an age runs at later ones with the same items. -/
import Derived.Test.YtdaffohimifecaaGreatRows
import Derived.Test.YtdaffohimifecaaGreatZe
import Derived.WalkKit
import Derived.WalkSpells
import Derived.ProofKit
import Derived.OpenShut
import Derived.ShutString
import Derived.Below
import Derived.SliceStrings
namespace Go.Proofs.YtdaffohimifecaaGreat.fnRunLater
open Go.ChangeShapes Go.WideShapes Go.ChangeAt Go.RowKit
open Go.ChangeMaps (open_string shut_string)
set_option maxRecDepth 100000 in
set_option maxHeartbeats 6400000 in
theorem walk (a0 : Option Addr) (len0 cap0 : Nat) (z0 : List Int) (a1 : Option Addr) (len1 cap1 : Nat) (z1 : List Int) (w : World) (w0 : IsRow .u8 w a0 len0 cap0 z0) (w1 : IsRow .u8 w a1 len1 cap1 z1) :
    Calls Tryz.prog 6 #[.slice a0 len0 cap0, .slice a1 len1 cap1] w fun e w' => e = .returned (.bool true) ∧ Below w.heap.size w w' := by
  have hcm := w0.len
  have hcm1 := w1.len
  by_cases h0 : (1048576 : Int) < (len0 : Int)
  · go_enter Tryz.func6, Tryz.ntmps6
    go_wp2
    go_ret
    exact ⟨rfl, Below.refl _ _⟩
  by_cases h1 : (1048576 : Int) < (len1 : Int)
  · go_enter Tryz.func6, Tryz.ntmps6
    go_wp2
    go_ret
    exact ⟨rfl, Below.refl _ _⟩
  go_enter Tryz.func6, Tryz.ntmps6
  go_wp2_with fail
  refine (drawRunScript_any a0 len0 cap0 z0 _ w0 (by omega)).mono ?_
  rintro e W1 ⟨g2, n, cap2, l, ss, g, cp, T, hE, aE, rfl, hol, hn, hsr, hl3, hsz, t0, t1, t2, t3, t4, hb0⟩
  have HA : Hid (Bk W1.heap.size 26 #[.string T, .int .i64 hE, .int .i64 aE] (W1.alloc (.cells #[.string T, .int .i64 hE, .int .i64 aE] 26 (0, 0)))) := Lib.hid (Bk.new _ _ _)
  have HO := Lib.hid (hol.alloc (.cells #[.string T, .int .i64 hE, .int .i64 aE] 26 (0, 0)))
  have HS := Lib.hid (hsr.alloc (.cells #[.string T, .int .i64 hE, .int .i64 aE] 26 (0, 0)))
  have hb1 := below_alloc hb0 (.cells #[.string T, .int .i64 hE, .int .i64 aE] 26 (0, 0))
  have HR := Lib.hid (w1.below hb1)
  have hlen1 : len1 ≤ 1048576 := by omega
  have HZ : Hid (∀ s ∈ ss, s.size ≤ 1048576) := Lib.hid fun s h => by have := hsz s h; omega
  clear w0 w1 hcm hcm1 h0 h1 hol hsr hsz hb0
  obtain ⟨L, HL⟩ : ∃ L, Hid ((Vm.run ⟨T, hE, aE⟩ l ss).1 = L) := ⟨_, Lib.hid rfl⟩
  obtain ⟨cd, HC⟩ : ∃ c, Hid ((Vm.run ⟨T, hE, aE⟩ l ss).2 = c) := ⟨_, Lib.hid rfl⟩
  have hfit := Vm.run_fits ⟨T, hE, aE⟩ l ss
  rw [HL.out] at hfit
  obtain ⟨m, hm⟩ : ∃ n, L.length = n := ⟨_, rfl⟩
  have hm24 : m ≤ 24 := by have := hfit.1; omega
  have Hspec : Hid (∀ W, OL W (some ⟨g2, 0, none⟩) n (l) → SR W (some ⟨g, 0, none⟩) ss.length ss → Calls Tryz.prog 11 #[.slice (some ⟨g2, 0, none⟩) n cap2, .slice (some ⟨g, 0, none⟩) ss.length cp, .agg #[.string T, .int .i64 (hE), .int .i64 (aE)]] W (RunP m L cd W)) := specRun (E := ⟨T, hE, aE⟩) HL.out HC.out hm (by omega) (by omega) HZ.out (by simp only; omega)
  have Himpl : Hid (∀ W, OL W (some ⟨g2, 0, none⟩) n (l) → SR W (some ⟨g, 0, none⟩) ss.length ss → Calls Tryz.prog 10 #[.slice (some ⟨g2, 0, none⟩) n cap2, .slice (some ⟨g, 0, none⟩) ss.length cp, .agg #[.string T, .int .i64 (hE), .int .i64 (aE)]] W (RunP m L cd W)) := implRun (E := ⟨T, hE, aE⟩) HL.out HC.out hm (by omega) (by omega) HZ.out (fun h => by cases h) (by simp only; omega)
  have hq : (cd == cd) = true := by simp
  have hq2 : (cd != cd) = false := by simp
  have hnn := hfit.1
  clear hfit
  obtain ⟨c0, c1, c2⟩ := Bk.c3w HA.out
  go_wp2_with fail
  refine (Himpl.out _ HO.out HS.out).mono ?_
  rintro e W2 ⟨x, cx, rfl, hs1, hx, _⟩
  replace HA := Lib.hid (HA.out.below hx)
  replace HO := Lib.hid (HO.out.below hx)
  replace HS := Lib.hid (HS.out.below hx)
  replace HR := Lib.hid (HR.out.below hx)
  have hb2 := hb1.trans (hx.mono hb1.size)
  have HX := Lib.hid hs1
  clear hs1
  clear hb1 hx
  clear c0 c1 c2
  obtain ⟨c0, c1, c2⟩ := Bk.c3w HA.out
  go_wp2_with fail
  refine (Hspec.out _ HO.out HS.out).mono ?_
  rintro e W3 ⟨y, cy, rfl, hs1, hx, _⟩
  replace HA := Lib.hid (HA.out.below hx)
  replace HO := Lib.hid (HO.out.below hx)
  replace HS := Lib.hid (HS.out.below hx)
  replace HR := Lib.hid (HR.out.below hx)
  replace HX := Lib.hid (HX.out.below hx)
  have hb3 := hb2.trans (hx.mono hb2.size)
  have HY := Lib.hid hs1
  clear hs1
  clear hb2 hx
  clear c0 c1 c2
  go_wp2_with fail
  refine (wcTexts_any x y m cx cy L _ HX.out HY.out (by omega)).mono ?_
  rintro e W4 ⟨rfl, hx⟩
  replace HA := Lib.hid (HA.out.below hx)
  replace HO := Lib.hid (HO.out.below hx)
  replace HS := Lib.hid (HS.out.below hx)
  replace HR := Lib.hid (HR.out.below hx)
  replace HX := Lib.hid (HX.out.below hx)
  replace HY := Lib.hid (HY.out.below hx)
  have hb4 := hb3.trans (hx.mono hb3.size)
  clear hb3 hx
  by_cases hc : cd = 0
  · subst hc
    by_cases hl2 : (len1 : Int) < 2
    · skip
      go_wp2_with fail
      refine (wcTexts_any x y m cx cy L _ HX.out HY.out (by omega)).mono ?_
      rintro e W5 ⟨rfl, hx⟩
      replace HA := Lib.hid (HA.out.below hx)
      replace HO := Lib.hid (HO.out.below hx)
      replace HS := Lib.hid (HS.out.below hx)
      replace HR := Lib.hid (HR.out.below hx)
      replace HX := Lib.hid (HX.out.below hx)
      replace HY := Lib.hid (HY.out.below hx)
      have hb5 := hb4.trans (hx.mono hb4.size)
      clear hb4 hx
      go_wp2
      go_ret
      exact ⟨rfl, hb5⟩
    · skip
      go_wp2_with fail
      obtain ⟨gm, off, rfl, hgl, hcells, hbd⟩ := HR.out.at10 (by omega)
      have x0 := hcells 0 (by omega)
      have x1 := hcells 1 (by omega)
      rw [Nat.add_zero] at x0
      obtain ⟨u00, u01⟩ := hbd 0
      obtain ⟨u10, u11⟩ := hbd 1
      obtain ⟨u, HU⟩ : ∃ u, Hid (z1.getD 0 0 = u) := ⟨_, Lib.hid rfl⟩
      obtain ⟨v, HV⟩ : ∃ v, Hid (z1.getD 1 0 = v) := ⟨_, Lib.hid rfl⟩
      rw [HU.out] at x0 u00 u01
      rw [HV.out] at x1 u10 u11
      clear HU HV hcells hbd HR HY Hspec
      have hlat := Vm.run_later (E := ⟨T, hE, aE⟩) (F := ⟨T, hE + u, aE + v⟩) rfl (show hE ≤ hE + u by omega) (show aE ≤ aE + v by omega) HC.out
      have hrl : (Vm.run ⟨T, hE + u, aE + v⟩ l ss).1 = L := by rw [hlat]; exact HL.out
      have hrc : (Vm.run ⟨T, hE + u, aE + v⟩ l ss).2 = 0 := by rw [hlat]; exact HC.out
      have Hlat : Hid (∀ W, OL W (some ⟨g2, 0, none⟩) n l → SR W (some ⟨g, 0, none⟩) ss.length ss → Calls Tryz.prog 10 #[.slice (some ⟨g2, 0, none⟩) n cap2, .slice (some ⟨g, 0, none⟩) ss.length cp, .agg #[.string T, .int .i64 (hE + u), .int .i64 (aE + v)]] W (RunP m L 0 W)) := implRun (E := ⟨T, hE + u, aE + v⟩) hrl hrc hm (by omega) (by omega) HZ.out (fun h => by cases h) (by simp only; omega)
      clear hlat hrl hrc HL HC hm HZ Himpl
      have hw0 : IntKind.i64.wrap u = u := IntWalk.i64_in _ (by omega)
      have hw1 : IntKind.i64.wrap v = v := IntWalk.i64_in _ (by omega)
      have hw2 : IntKind.i64.wrap (hE + u) = hE + u := IntWalk.i64_in _ (by omega)
      have hw3 : IntKind.i64.wrap (aE + v) = aE + v := IntWalk.i64_in _ (by omega)
      have hi0 : (0 : Int) < (len1 : Int) := by omega
      have hi0n : 0 < len1 := by omega
      have hi1 : (1 : Int) < (len1 : Int) := by omega
      have hSof : ∀ W, Bk W1.heap.size 26 #[.string T, .int .i64 hE, .int .i64 aE] W → W.cell? ⟨gm, off, none⟩ = some (.int .u8 u) → W.cell? ⟨gm, off + 1, none⟩ = some (.int .u8 v) → W.cell? ⟨W1.heap.size, 0, none⟩ = some (.string T) ∧ W.cell? ⟨W1.heap.size, 1, none⟩ = some (.int .i64 hE) ∧ W.cell? ⟨W1.heap.size, 2, none⟩ = some (.int .i64 aE) ∧ W.cell? ⟨gm, off, none⟩ = some (.int .u8 u) ∧ W.cell? ⟨gm, off + 1, none⟩ = some (.int .u8 v) := fun W h p q => ⟨h.cell 0, h.cell 1, h.cell 2, p, q⟩
      have hd := (Below.refl W4.heap.size W4).drew
      replace HA := Lib.hid (HA.out.below hd)
      replace HO := Lib.hid (HO.out.below hd)
      replace HS := Lib.hid (HS.out.below hd)
      replace HX := Lib.hid (HX.out.below hd)
      have hbd := hb4.drew
      have x0' : W4.drew.cell? ⟨gm, off, none⟩ = some (.int .u8 u) := x0
      have x1' : W4.drew.cell? ⟨gm, off + 1, none⟩ = some (.int .u8 v) := x1
      have hgl' : gm < W4.drew.heap.size := hgl
      have hS0 := hSof _ HA.out x0' x1'
      have X0 := Lib.hid x0'
      have X1 := Lib.hid x1'
      clear hd x0 x1 x0' x1' hgl hl2 u00 u01 u10 u11
      go_region_held3 (fun W => W.cell? ⟨W1.heap.size, 0, none⟩ = some (.string T) ∧ W.cell? ⟨W1.heap.size, 1, none⟩ = some (.int .i64 hE) ∧ W.cell? ⟨W1.heap.size, 2, none⟩ = some (.int .i64 aE) ∧ W.cell? ⟨gm, off, none⟩ = some (.int .u8 u) ∧ W.cell? ⟨gm, off + 1, none⟩ = some (.int .u8 v)) (first | with_reducible exact hS0 | with_reducible exact hS1)
        (first
          | (go_at_call 10; refine (Hlat.out _ HO.out HS.out).mono ?_; rintro e W9 ⟨t, ct, rfl, hs1, hx, _⟩; have hS1 := hSof _ (HA.out.below hx) ((hx.cell (p := ⟨gm, off, none⟩) hgl').trans X0.out) ((hx.cell (p := ⟨gm, off + 1, none⟩) hgl').trans X1.out); replace HX := Lib.hid (HX.out.below hx); have HT := Lib.hid hs1; have hb9 := hbd.trans (hx.mono hbd.size); clear hs1))
      clear hS0 hS1 X0 X1 hbd hw0 hw1 hw2 hw3 hSof
      go_wp2_with fail
      refine (wcTexts_any x t m cx ct L _ HX.out HT.out (by omega)).mono ?_
      rintro e W10 ⟨rfl, hx⟩
      have hb10 := hb9.trans (hx.mono hb9.size)
      clear hb9 hx
      go_wp2
      go_ret
      exact ⟨rfl, hb10⟩
  · have hcq : (cd != 0) = true := by simpa using hc
    go_wp2_with fail
    refine (wcTexts_any x y m cx cy L _ HX.out HY.out (by omega)).mono ?_
    rintro e W5 ⟨rfl, hx⟩
    replace HA := Lib.hid (HA.out.below hx)
    replace HO := Lib.hid (HO.out.below hx)
    replace HS := Lib.hid (HS.out.below hx)
    replace HR := Lib.hid (HR.out.below hx)
    replace HX := Lib.hid (HX.out.below hx)
    replace HY := Lib.hid (HY.out.below hx)
    have hb5 := hb4.trans (hx.mono hb4.size)
    clear hb4 hx
    go_wp2
    go_ret
    exact ⟨rfl, hb5⟩
/-! ### The row's step. -/
theorem own : ownKnob Tryz.prog.godebug = none := by kernel_rfl
theorem laidOut : laidOutB Tryz.prog = true := by kernel_rfl
set_option maxRecDepth 100000 in
theorem lifted (os : Os) (started : os.Started) (H : Type) (enc : TypeId × Value → H) :
    ReturnsInHanded {} Tryz.checked os 6 .any (Rows.fnRunLaterSpec.pre6 enc Tryz.prog Tryz.f6 Rows.fnRunLaterRow.domain false) (Rows.fnRunLaterSpec.post enc Tryz.prog Tryz.f6 false true false false) := by
  refine returnsInHanded_of_change (C := Tryz.checked) own started (by kernel_rfl) Tryz.func6
    (ChangeSpec.witness6 (enc := enc) (C := Tryz.checked) false ⟨#[], #[.slice none 0 0, .slice none 0 0], []⟩ 8 (by kernel_rfl) (by kernel_rfl) (by kernel_rfl) (by kernel_rfl)) ?_
  intro W base args ds gs before hval0 hW hcnd _
  have hval : ∀ (j : Nat) t v, Tryz.f6.params[j]? = some t → args[j]? = some v → Value.okWide Tryz.prog W .any base t v := hval0
  have hW' := hW
  obtain ⟨p, q, hA0, hV, rfl, hfz, hnd⟩ := hW
  have hA : DataW.TrodAll enc Tryz.prog W 0 (fun _ => true) true Tryz.f6.params.toList args.toList ds p := hA0
  rw [Tryz.params6] at hA hval
  obtain ⟨v0, vs0, d0, ds0, p0, q0, hargs, rfl, rfl, h0, r0⟩ := trodAll_cons hA
  obtain ⟨v1, vs1, d1, ds1, p1, q1, rfl, rfl, rfl, h1, r1⟩ := trodAll_cons r0
  obtain ⟨rfl, rfl, rfl⟩ := trodAll_nil r1
  obtain rfl : args = #[v0, v1] := by cases args; simp_all
  obtain ⟨rfl, rfl⟩ := trodVars_none hV
  obtain ⟨a0, len0, cap0, rfl⟩ := okWide_slice Tryz.underlying22 (hval 0 22 v0 rfl rfl)
  have k0 := h0
  have lt0 : ∀ x ∈ p0, x.block < W.heap.size := by obtain ⟨m, hm⟩ := k0; exact DataW.trod_lt m _ _ _ hm
  obtain ⟨z0, w0⟩ : ∃ zs, IsRow .u8 W a0 len0 cap0 zs := by
    obtain ⟨fuel, hf⟩ := h0
    rcases open_ints Tryz.underlying22 Tryz.underlying5 (by kernel_rfl) hf with ⟨hcs, _⟩ | ⟨x, l, c, zs, hcs, _, hl, hm, hz, _, hcell, hwz⟩
    · simp [Value.cells] at hcs
      obtain ⟨rfl, rfl, rfl⟩ := hcs
      exact ⟨[], .inl ⟨rfl, rfl, rfl, rfl⟩⟩
    · simp [Value.cells] at hcs
      obtain ⟨rfl, rfl, rfl⟩ := hcs
      exact ⟨zs, .inr ⟨_, rfl, hl, hm, by simpa using hz, hcell, hwz⟩⟩
  obtain ⟨a1, len1, cap1, rfl⟩ := okWide_slice Tryz.underlying22 (hval 1 22 v1 rfl rfl)
  have k1 := h1
  have lt1 : ∀ x ∈ p1, x.block < W.heap.size := by obtain ⟨m, hm⟩ := k1; exact DataW.trod_lt m _ _ _ hm
  obtain ⟨z1, w1⟩ : ∃ zs, IsRow .u8 W a1 len1 cap1 zs := by
    obtain ⟨fuel, hf⟩ := h1
    rcases open_ints Tryz.underlying22 Tryz.underlying5 (by kernel_rfl) hf with ⟨hcs, _⟩ | ⟨x, l, c, zs, hcs, _, hl, hm, hz, _, hcell, hwz⟩
    · simp [Value.cells] at hcs
      obtain ⟨rfl, rfl, rfl⟩ := hcs
      exact ⟨[], .inl ⟨rfl, rfl, rfl, rfl⟩⟩
    · simp [Value.cells] at hcs
      obtain ⟨rfl, rfl, rfl⟩ := hcs
      exact ⟨zs, .inr ⟨_, rfl, hl, hm, by simpa using hz, hcell, hwz⟩⟩
  clear hA0 hval0
  refine (walk a0 len0 cap0 z0 a1 len1 cap1 z1 W w0 w1).mono fun e W' ⟨he, bel⟩ => ?_
  subst he
  exact ⟨_, rfl, _, _, _, [], _, [], hW', trodAll_mk1 (shut_bool Tryz.underlying4 _), (trodAll_cons_mk (Below.trod laidOut (by kernel_rfl) (of_decide_eq_true (by kernel_rfl)) k0 bel lt0) (trodAll_cons_mk (Below.trod laidOut (by kernel_rfl) (of_decide_eq_true (by kernel_rfl)) k1 bel lt1) trodAll_mk0)), rfl, bel.frame _, fun h => by cases h⟩
theorem over : Rows.fnRunLaterRow.holds Tryz.pinned (OpenSpec.ofChange Rows.fnRunLaterSpec) :=
  OpenClaim.holds_of_wide 6 Tryz.f6 rfl rfl rfl rfl rfl rfl rfl ⟨rfl, rfl, rfl, rfl, rfl⟩ rfl rfl rfl rfl rfl (by kernel_rfl) Tryz.func6 (by kernel_rfl)
    (of_decide_eq_true (by kernel_rfl)) (by unfold Func.isWrapper; first | (rw [if_pos (by decide +kernel)]; kernel_rfl) | (rw [if_neg (by decide +kernel)]; exact ⟨rfl, rfl⟩))
    (fun os started H enc _ => lifted os started H enc)
theorem proved : Rows.FnRunLaterSaid := over
#print axioms proved
end Go.Proofs.YtdaffohimifecaaGreat.fnRunLater
