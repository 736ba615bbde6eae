/- For every code of at most 1<<20 bytes (longer ones are let pass by the law itself): RunScript answers as the model's RunScript; a run that fails leaves nothing, one that does not leaves at most 24 items of at most 80 bytes each. -/
import Derived.Test.YtdaffohimifecaaGreatRows
import Derived.Test.YtdaffohimifecaaGreatZe
import Derived.WalkKit
import Derived.WalkSpells
import Derived.ProofKit
import Derived.OpenShut
import Derived.ShutString
import Derived.Below
import Derived.SliceStrings
namespace Go.Proofs.YtdaffohimifecaaGreat.fnRunScript
open Go.ChangeShapes Go.WideShapes Go.ChangeAt Go.RowKit
open Go.ChangeMaps (open_string shut_string)
set_option maxRecDepth 100000 in
set_option maxHeartbeats 6400000 in
theorem walk (a0 : Option Addr) (len0 cap0 : Nat) (z0 : List Int) (w : World) (w0 : IsRow .u8 w a0 len0 cap0 z0) :
    Calls Tryz.prog 3 #[.slice a0 len0 cap0] w fun e w' => e = .returned (.bool true) ∧ Below w.heap.size w w' := by
  have hcm := w0.len
  by_cases h0 : (1048576 : Int) < (len0 : Int)
  · go_enter Tryz.func3, Tryz.ntmps3
    go_wp2
    go_ret
    exact ⟨rfl, Below.refl _ _⟩
  go_enter Tryz.func3, Tryz.ntmps3
  go_wp2_with fail
  refine (drawRunScript_any a0 len0 cap0 z0 _ w0 (by omega)).mono ?_
  rintro e W1 ⟨g2, n, cap2, l, ss, g, cp, T, hE, aE, rfl, hol, hn, hsr, hl3, hsz, t0, t1, t2, t3, t4, hb0⟩
  have HA : Hid (Bk W1.heap.size 26 #[.string T, .int .i64 hE, .int .i64 aE] (W1.alloc (.cells #[.string T, .int .i64 hE, .int .i64 aE] 26 (0, 0)))) := Lib.hid (Bk.new _ _ _)
  have HO := Lib.hid (hol.alloc (.cells #[.string T, .int .i64 hE, .int .i64 aE] 26 (0, 0)))
  have HS := Lib.hid (hsr.alloc (.cells #[.string T, .int .i64 hE, .int .i64 aE] 26 (0, 0)))
  have hb1 := below_alloc hb0 (.cells #[.string T, .int .i64 hE, .int .i64 aE] 26 (0, 0))
  have HZ : Hid (∀ s ∈ ss, s.size ≤ 1048576) := Lib.hid fun s h => by have := hsz s h; omega
  clear w0 hcm h0 hol hsr hsz hb0
  obtain ⟨L, HL⟩ : ∃ L, Hid ((Vm.run ⟨T, hE, aE⟩ l ss).1 = L) := ⟨_, Lib.hid rfl⟩
  obtain ⟨cd, HC⟩ : ∃ c, Hid ((Vm.run ⟨T, hE, aE⟩ l ss).2 = c) := ⟨_, Lib.hid rfl⟩
  have hfit := Vm.run_fits ⟨T, hE, aE⟩ l ss
  rw [HL.out] at hfit
  obtain ⟨m, hm⟩ : ∃ n, L.length = n := ⟨_, rfl⟩
  have hm24 : m ≤ 24 := by have := hfit.1; omega
  have Hspec : Hid (∀ W, OL W (some ⟨g2, 0, none⟩) n (l) → SR W (some ⟨g, 0, none⟩) ss.length ss → Calls Tryz.prog 11 #[.slice (some ⟨g2, 0, none⟩) n cap2, .slice (some ⟨g, 0, none⟩) ss.length cp, .agg #[.string T, .int .i64 (hE), .int .i64 (aE)]] W (RunP m L cd W)) := specRun (E := ⟨T, hE, aE⟩) HL.out HC.out hm (by omega) (by omega) HZ.out (by simp only; omega)
  have Himpl : Hid (∀ W, OL W (some ⟨g2, 0, none⟩) n (l) → SR W (some ⟨g, 0, none⟩) ss.length ss → Calls Tryz.prog 10 #[.slice (some ⟨g2, 0, none⟩) n cap2, .slice (some ⟨g, 0, none⟩) ss.length cp, .agg #[.string T, .int .i64 (hE), .int .i64 (aE)]] W (RunP m L cd W)) := implRun (E := ⟨T, hE, aE⟩) HL.out HC.out hm (by omega) (by omega) HZ.out (fun h => by cases h) (by simp only; omega)
  have hnil : cd ≠ 0 → m = 0 := fun h => by
    rw [← HC.out] at h
    have := Vm.run_nil h
    rw [HL.out] at this
    rw [← hm, this]; rfl
  have HF := Lib.hid hfit.2
  have hq : (cd == cd) = true := by simp
  clear HL HC hm hfit hn hl3 t0 t1 t2 t3 t4
  obtain ⟨c0, c1, c2⟩ := Bk.c3w HA.out
  go_wp2_with fail
  refine (Himpl.out _ HO.out HS.out).mono ?_
  rintro e W2 ⟨x, cx, rfl, hs1, hx, _⟩
  replace HA := Lib.hid (HA.out.below hx)
  replace HO := Lib.hid (HO.out.below hx)
  replace HS := Lib.hid (HS.out.below hx)
  have hb2 := hb1.trans (hx.mono hb1.size)
  have HX := Lib.hid hs1
  clear hs1
  clear hb1 hx
  clear c0 c1 c2
  obtain ⟨c0, c1, c2⟩ := Bk.c3w HA.out
  go_wp2_with fail
  refine (Hspec.out _ HO.out HS.out).mono ?_
  rintro e W3 ⟨y, cy, rfl, hs1, hx, _⟩
  replace HA := Lib.hid (HA.out.below hx)
  replace HO := Lib.hid (HO.out.below hx)
  replace HS := Lib.hid (HS.out.below hx)
  replace HX := Lib.hid (HX.out.below hx)
  have hb3 := hb2.trans (hx.mono hb2.size)
  have HY := Lib.hid hs1
  clear hs1
  clear hb2 hx
  clear c0 c1 c2
  clear HA HO HS Himpl Hspec HZ
  go_wp2_with fail
  refine (wcTexts_any x y m cx cy L _ HX.out HY.out (by omega)).mono ?_
  rintro e W4 ⟨rfl, hx⟩
  replace HX := Lib.hid (HX.out.below hx)
  have hb4 := hb3.trans (hx.mono hb3.size)
  clear hb3 hx
  clear HY
  by_cases hc : cd = 0
  · subst hc
    clear hnil
    go_wp2
    go_loopw [11] (fun i wr => ∃ k : Nat, k ≤ m ∧ i = .int .i64 (k : Int) ∧ SR wr x m L ∧ Below w.heap.size w wr)
      (fun i _ => m - (intOf i).toNat)
    case atStart => exact ⟨0, by omega, rfl, HX.out, hb4⟩
    case round =>
      obtain ⟨k, hk, rfl, hsx, hbel⟩ := hrel
      clear HX hb4
      by_cases hlt : k < m
      · obtain ⟨b, off, rfl, _, hc⟩ := hsx.2 (by omega)
        have hck := hc k hlt
        have hkl : L.getD k ByteArray.empty ∈ L := by
          have : k < L.length := by have := hsx.1; omega
          rw [List.getD_eq_getElem?_getD, List.getElem?_eq_getElem this]
          exact List.getElem_mem this
        have h80 := HF.out _ hkl
        have HSX := Lib.hid hsx
        clear hc hkl hsx
        generalize L.getD k ByteArray.empty = t at hck h80
        go_wp2
        go_roundw
        case rel => exact ⟨k + 1, by omega, by simp, HSX.out, hbel⟩
        case measure => simp [intOf]; omega
      · go_wp2
        go_ret
        exact ⟨by simp; omega, hbel⟩
  · have hcq : (cd != 0) = true := by simpa using hc
    have hm0 := hnil hc
    subst hm0
    clear hc hnil
    go_wp2
    go_ret
    exact ⟨rfl, hb4⟩
/-! ### The row's step. -/
theorem own : ownKnob Tryz.prog.godebug = none := by kernel_rfl
theorem laidOut : laidOutB Tryz.prog = true := by kernel_rfl
set_option maxRecDepth 100000 in
theorem lifted (os : Os) (started : os.Started) (H : Type) (enc : TypeId × Value → H) :
    ReturnsInHanded {} Tryz.checked os 3 .any (Rows.fnRunScriptSpec.pre6 enc Tryz.prog Tryz.f3 Rows.fnRunScriptRow.domain false) (Rows.fnRunScriptSpec.post enc Tryz.prog Tryz.f3 false true false false) := by
  refine returnsInHanded_of_change (C := Tryz.checked) own started (by kernel_rfl) Tryz.func3
    (ChangeSpec.witness6 (enc := enc) (C := Tryz.checked) false ⟨#[], #[.slice none 0 0], []⟩ 8 (by kernel_rfl) (by kernel_rfl) (by kernel_rfl) (by kernel_rfl)) ?_
  intro W base args ds gs before hval0 hW hcnd _
  have hval : ∀ (j : Nat) t v, Tryz.f3.params[j]? = some t → args[j]? = some v → Value.okWide Tryz.prog W .any base t v := hval0
  have hW' := hW
  obtain ⟨p, q, hA0, hV, rfl, hfz, hnd⟩ := hW
  have hA : DataW.TrodAll enc Tryz.prog W 0 (fun _ => true) true Tryz.f3.params.toList args.toList ds p := hA0
  rw [Tryz.params3] at hA hval
  obtain ⟨v0, vs0, d0, ds0, p0, q0, hargs, rfl, rfl, h0, r0⟩ := trodAll_cons hA
  obtain ⟨rfl, rfl, rfl⟩ := trodAll_nil r0
  obtain rfl : args = #[v0] := by cases args; simp_all
  obtain ⟨rfl, rfl⟩ := trodVars_none hV
  obtain ⟨a0, len0, cap0, rfl⟩ := okWide_slice Tryz.underlying22 (hval 0 22 v0 rfl rfl)
  have k0 := h0
  have lt0 : ∀ x ∈ p0, x.block < W.heap.size := by obtain ⟨m, hm⟩ := k0; exact DataW.trod_lt m _ _ _ hm
  obtain ⟨z0, w0⟩ : ∃ zs, IsRow .u8 W a0 len0 cap0 zs := by
    obtain ⟨fuel, hf⟩ := h0
    rcases open_ints Tryz.underlying22 Tryz.underlying5 (by kernel_rfl) hf with ⟨hcs, _⟩ | ⟨x, l, c, zs, hcs, _, hl, hm, hz, _, hcell, hwz⟩
    · simp [Value.cells] at hcs
      obtain ⟨rfl, rfl, rfl⟩ := hcs
      exact ⟨[], .inl ⟨rfl, rfl, rfl, rfl⟩⟩
    · simp [Value.cells] at hcs
      obtain ⟨rfl, rfl, rfl⟩ := hcs
      exact ⟨zs, .inr ⟨_, rfl, hl, hm, by simpa using hz, hcell, hwz⟩⟩
  clear hA0 hval0
  refine (walk a0 len0 cap0 z0 W w0).mono fun e W' ⟨he, bel⟩ => ?_
  subst he
  exact ⟨_, rfl, _, _, _, [], _, [], hW', trodAll_mk1 (shut_bool Tryz.underlying4 _), (trodAll_cons_mk (Below.trod laidOut (by kernel_rfl) (of_decide_eq_true (by kernel_rfl)) k0 bel lt0) trodAll_mk0), rfl, bel.frame _, fun h => by cases h⟩
theorem over : Rows.fnRunScriptRow.holds Tryz.pinned (OpenSpec.ofChange Rows.fnRunScriptSpec) :=
  OpenClaim.holds_of_wide 3 Tryz.f3 rfl rfl rfl rfl rfl rfl rfl ⟨rfl, rfl, rfl, rfl, rfl⟩ rfl rfl rfl rfl rfl (by kernel_rfl) Tryz.func3 (by kernel_rfl)
    (of_decide_eq_true (by kernel_rfl)) (by unfold Func.isWrapper; first | (rw [if_pos (by decide +kernel)]; kernel_rfl) | (rw [if_neg (by decide +kernel)]; exact ⟨rfl, rfl⟩))
    (fun os started H enc _ => lifted os started H enc)
theorem proved : Rows.FnRunScriptSaid := over
#print axioms proved
end Go.Proofs.YtdaffohimifecaaGreat.fnRunScript
