/- For every code of at most 1<<20 bytes (longer ones are let pass by the law itself): OpenLast answers as the model's OpenLast, and the witness opens the last branches of a timed and of a revocable lock just in time. -/
import Derived.Test.YtoocibabceeagabGreatRows
import Derived.Test.YtoocibabceeagabGreatUl
import Derived.WalkKit
import Derived.WalkSpells
import Derived.ProofKit
import Derived.OpenShut
import Derived.ShutString
import Derived.Below
import Derived.SliceStrings
namespace Go.Proofs.YtoocibabceeagabGreat.fnOpenLast
open Go.ChangeShapes Go.WideShapes Go.ChangeAt Go.RowKit
open Go.ChangeMaps (open_string shut_string)
set_option maxRecDepth 100000 in
set_option maxHeartbeats 6400000 in
theorem walk (a0 : Option Addr) (len0 cap0 : Nat) (z0 : List Int) (w : World) (w0 : IsRow .u8 w a0 len0 cap0 z0) :
    Calls Tryz.prog 6 #[.slice a0 len0 cap0] w fun e w' => e = .returned (.bool true) ∧ Below w.heap.size w w' := by
  have hcm := w0.len
  by_cases h : (1048576 : Int) < (len0 : Int)
  · go_enter Tryz.func6, Tryz.ntmps6
    go_wp2
    go_ret
    exact ⟨rfl, Below.refl _ _⟩
  go_enter Tryz.func6, Tryz.ntmps6
  go_wp2_with fail
  refine (drawOpenLast_any a0 len0 cap0 z0 _ w0 (by omega)).mono ?_
  rintro e w1 ⟨x, t, rfl, x0, x1, htz, hb1⟩
  clear w0 h hcm
  have ht : t.size ≤ 1048576 := by omega
  cases hx : Wt.sec x
  · have HIP := Lib.hid (show ∀ W, Calls Tryz.prog 31 #[.int .i64 x, .string t] W (WtR [] false W) from fun W => (implOpenLast_any x t W ht).mono fun e w' h => h.2 hx)
    have HSP := Lib.hid (show ∀ W, Calls Tryz.prog 32 #[.int .i64 x, .string t] W (WtR [] false W) from fun W => OpenLast_no x t W hx)
    unfold WtR at HIP HSP
    simp only [List.length_nil] at HIP HSP
    clear hx
    go_wp2_with fail
    refine (HIP.out _).mono ?_
    rintro e w2 ⟨a2, c2, rfl, hx, hown2⟩
    have hb2 := hb1.trans (hx.mono hb1.size)
    have HS2 := Lib.hid (SR.own hown2).2
    clear hx hown2
    go_wp2_with fail
    refine (HSP.out _).mono ?_
    rintro e w3 ⟨a3, c3, rfl, hx, hown3⟩
    have hb3 := hb2.trans (hx.mono hb2.size)
    have HS3 := Lib.hid (SR.own hown3).2
    replace HS2 := Lib.hid (HS2.out.below hx)
    clear hx hown3 hb2
    go_wp2_with fail
    refine (wcTexts_any a2 a3 0 c2 c3 [] _ HS2.out HS3.out (by omega)).mono ?_
    rintro e w4 ⟨rfl, hx⟩
    have hb4 := hb3.trans (hx.mono hb3.size)
    clear hx hb3
    go_wp2
    go_ret
    exact ⟨rfl, hb4⟩
  have HIP := Lib.hid (show ∀ W, Calls Tryz.prog 31 #[.int .i64 x, .string t] W (WtR ([Wt.sig x t, ⟨#[]⟩]) true W) from fun W => (implOpenLast_any x t W ht).mono fun e w' h => h.1 hx)
  have HSP := Lib.hid (show ∀ W, Calls Tryz.prog 32 #[.int .i64 x, .string t] W (WtR ([Wt.sig x t, ⟨#[]⟩]) true W) from fun W => OpenLast_yes x t W hx ht)
  unfold WtR at HIP HSP
  have HKE := Lib.hid (fun W => keyOf_sec x hx W)
  have htm := Lk.timed_yes (show (0 : Int) ≤ 7 ∧ (7 : Int) ≤ 4294967295 by decide) Gr.kok_base (Wt.kok_gp hx) (show (0 : Int) ≤ 9 ∧ (9 : Int) ≤ 9999 by decide)
  have hrv := Lk.rev_yes Gr.kok_base (Wt.kok_gp hx) (show (1 : Int) ≤ 9 ∧ (9 : Int) ≤ 99 by decide)
  have HLT := Lib.hid (fun W => lockTimed_yes 7 4 9 (Sg.gp x) htm W)
  have HLR := Lib.hid (fun W => lockRev_yes 4 9 (Sg.gp x) hrv W)
  unfold LkY at HLT HLR
  have HU1 := Lib.hid (fun (k : Int) W g c h => unlock_lock (Lk.ok_timed' htm) [Wt.sig x t, ⟨#[]⟩] t k 0 _ (Wt.opens_last (E := ⟨t, k, 0⟩) (d := 7) (p := 4) (h := 9) hx (by decide)) (Wt.sizes2 x t _ (by decide)) ht g 2 c (by omega) W h)
  have HU2 := Lib.hid (fun (k : Int) W g c h => unlock_lock (Lk.ok_revocable' hrv) [Wt.sig x t, ⟨#[]⟩] t 0 k _ (Wt.opens_old (E := ⟨t, 0, k⟩) (v := 4) (d := 9) hx (by decide)) (Wt.sizes2 x t _ (by decide)) ht g 2 c (by omega) W h)
  clear htm hrv
  obtain ⟨K, HK⟩ : ∃ y, Hid (Sg.gp x = y) := ⟨_, Lib.hid rfl⟩
  rw [HK.out] at HKE HLT HLR HU1 HU2
  obtain ⟨X, HX⟩ : ∃ y, Hid (Jo.bs (Lk.timed 7 4 9 K) = y) := ⟨_, Lib.hid rfl⟩
  rw [HX.out] at HLT HU1
  obtain ⟨Y, HY⟩ : ∃ y, Hid (Jo.bs (Lk.revocable 4 9 K) = y) := ⟨_, Lib.hid rfl⟩
  rw [HY.out] at HLR HU2
  obtain ⟨L, HL⟩ : ∃ L, Hid ([Wt.sig x t, ⟨#[]⟩] = L) := ⟨_, Lib.hid rfl⟩
  have hnL : L.length = 2 := by rw [← HL.out]; rfl
  rw [HL.out, hnL] at HIP HSP
  clear hnL
  rw [HL.out] at HU1 HU2
  clear hx HK HX HY HL x0 x1 htz
  go_wp2_with fail
  refine (HIP.out _).mono ?_
  rintro e w2 ⟨a2, c2, rfl, hx, hown2⟩
  have hb2 := hb1.trans (hx.mono hb1.size)
  have HS2 := Lib.hid (SR.own hown2).2
  obtain ⟨g, rfl, _, _⟩ := own_someU hown2 (by decide)
  clear hx hown2
  go_wp2_with fail
  refine (HSP.out _).mono ?_
  rintro e w3 ⟨a3, c3, rfl, hx, hown3⟩
  have hb3 := hb2.trans (hx.mono hb2.size)
  have HS3 := Lib.hid (SR.own hown3).2
  replace HS2 := Lib.hid (HS2.out.below hx)
  clear hx hown3 hb2
  go_wp2_with fail
  refine (wcTexts_any (some ⟨g, 0, none⟩) a3 2 c2 c3 L _ HS2.out HS3.out (by omega)).mono ?_
  rintro e w4 ⟨rfl, hx⟩
  have hb4 := hb3.trans (hx.mono hb3.size)
  have HS4 := Lib.hid (HS2.out.below hx)
  clear hx hb3 HS2 HS3
  go_wp2_with fail
  refine (HKE.out _).mono ?_
  rintro e w5 ⟨rfl, hx⟩
  have hb5 := hb4.trans (hx.mono hb4.size)
  have HS5 := Lib.hid (HS4.out.below hx)
  clear hx hb4
  go_wp2_with fail
  refine (HLT.out _).mono ?_
  rintro e w6 ⟨rfl, hx⟩
  have hb6 := hb5.trans (hx.mono hb5.size)
  have HS6 := Lib.hid (HS5.out.below hx)
  clear hx hb5
  go_wp2_with fail
  refine (HLR.out _).mono ?_
  rintro e w7 ⟨rfl, hx⟩
  have hb7 := hb6.trans (hx.mono hb6.size)
  have HS7 := Lib.hid (HS6.out.below hx)
  clear hx hb6
  clear HKE HLT HLR
  go_wp2
  go_loopw [16] (fun i wr => ∃ (k : Nat), 7 ≤ k ∧ k ≤ 12 ∧ i = .int .i64 (k : Int) ∧ Below w7.heap.size w7 wr)
    (fun i _ => 12 - (intOf i).toNat)
  case atStart => exact ⟨7, by omega, by omega, rfl, Below.refl _ _⟩
  case round =>
    obtain ⟨k, hk0, hk, rfl, hbel⟩ := hrel
    by_cases hlt : k < 12
    · have HSr := Lib.hid (HS7.out.below hbel)
      have HA := Lib.hid (HU1.out (k : Int))
      have HB := Lib.hid (HU2.out (k : Int))
      by_cases h9 : 9 ≤ k
      · have hd : decide ((9 : Int) ≤ (k : Int)) = true := by simp; omega
        simp only [hd] at HA HB
        go_wp2_with fail
        refine (HA.out _ _ _ HSr.out).mono ?_
        rintro e v1 ⟨rfl, hx⟩
        have hb1' := hbel.trans (hx.mono hbel.size)
        have HSs := Lib.hid (HSr.out.below hx)
        clear hx
        go_wp2_with fail
        refine (HB.out _ _ _ HSs.out).mono ?_
        rintro e v2 ⟨rfl, hx⟩
        have hb2' := hb1'.trans (hx.mono hb1'.size)
        clear hx hb1' hbel
        go_wp2
        go_roundw
        case rel => exact ⟨k + 1, by omega, by omega, by simp, hb2'⟩
        case measure => simp [intOf]; omega
      · have hd : decide ((9 : Int) ≤ (k : Int)) = false := by simp; omega
        simp only [hd] at HA HB
        go_wp2_with fail
        refine (HA.out _ _ _ HSr.out).mono ?_
        rintro e v1 ⟨rfl, hx⟩
        have hb1' := hbel.trans (hx.mono hbel.size)
        have HSs := Lib.hid (HSr.out.below hx)
        clear hx
        go_wp2_with fail
        refine (HB.out _ _ _ HSs.out).mono ?_
        rintro e v2 ⟨rfl, hx⟩
        have hb2' := hb1'.trans (hx.mono hb1'.size)
        clear hx hb1' hbel
        go_wp2
        go_roundw
        case rel => exact ⟨k + 1, by omega, by omega, by simp, hb2'⟩
        case measure => simp [intOf]; omega
    · obtain rfl : k = 12 := by omega
      have hbz := hb7.trans (hbel.mono hb7.size)
      go_wp2
      go_ret
      exact ⟨rfl, hbz⟩
/-! ### The row's step. -/
theorem own : ownKnob Tryz.prog.godebug = none := by kernel_rfl
theorem laidOut : laidOutB Tryz.prog = true := by kernel_rfl
set_option maxRecDepth 100000 in
theorem lifted (os : Os) (started : os.Started) (H : Type) (enc : TypeId × Value → H) :
    ReturnsInHanded {} Tryz.checked os 6 .any (Rows.fnOpenLastSpec.pre6 enc Tryz.prog Tryz.f6 Rows.fnOpenLastRow.domain false) (Rows.fnOpenLastSpec.post enc Tryz.prog Tryz.f6 false true false false) := by
  refine returnsInHanded_of_change (C := Tryz.checked) own started (by kernel_rfl) Tryz.func6
    (ChangeSpec.witness6 (enc := enc) (C := Tryz.checked) false ⟨#[], #[.slice none 0 0], []⟩ 8 (by kernel_rfl) (by kernel_rfl) (by kernel_rfl) (by kernel_rfl)) ?_
  intro W base args ds gs before hval0 hW hcnd _
  have hval : ∀ (j : Nat) t v, Tryz.f6.params[j]? = some t → args[j]? = some v → Value.okWide Tryz.prog W .any base t v := hval0
  have hW' := hW
  obtain ⟨p, q, hA0, hV, rfl, hfz, hnd⟩ := hW
  have hA : DataW.TrodAll enc Tryz.prog W 0 (fun _ => true) true Tryz.f6.params.toList args.toList ds p := hA0
  rw [Tryz.params6] at hA hval
  obtain ⟨v0, vs0, d0, ds0, p0, q0, hargs, rfl, rfl, h0, r0⟩ := trodAll_cons hA
  obtain ⟨rfl, rfl, rfl⟩ := trodAll_nil r0
  obtain rfl : args = #[v0] := by cases args; simp_all
  obtain ⟨rfl, rfl⟩ := trodVars_none hV
  obtain ⟨a0, len0, cap0, rfl⟩ := okWide_slice Tryz.underlying22 (hval 0 22 v0 rfl rfl)
  have k0 := h0
  have lt0 : ∀ x ∈ p0, x.block < W.heap.size := by obtain ⟨m, hm⟩ := k0; exact DataW.trod_lt m _ _ _ hm
  obtain ⟨z0, w0⟩ : ∃ zs, IsRow .u8 W a0 len0 cap0 zs := by
    obtain ⟨fuel, hf⟩ := h0
    rcases open_ints Tryz.underlying22 Tryz.underlying5 (by kernel_rfl) hf with ⟨hcs, _⟩ | ⟨x, l, c, zs, hcs, _, hl, hm, hz, _, hcell, hwz⟩
    · simp [Value.cells] at hcs
      obtain ⟨rfl, rfl, rfl⟩ := hcs
      exact ⟨[], .inl ⟨rfl, rfl, rfl, rfl⟩⟩
    · simp [Value.cells] at hcs
      obtain ⟨rfl, rfl, rfl⟩ := hcs
      exact ⟨zs, .inr ⟨_, rfl, hl, hm, by simpa using hz, hcell, hwz⟩⟩
  clear hA0 hval0
  refine (walk a0 len0 cap0 z0 W w0).mono fun e W' ⟨he, bel⟩ => ?_
  subst he
  exact ⟨_, rfl, _, _, _, [], _, [], hW', trodAll_mk1 (shut_bool Tryz.underlying4 _), (trodAll_cons_mk (Below.trod laidOut (by kernel_rfl) (of_decide_eq_true (by kernel_rfl)) k0 bel lt0) trodAll_mk0), rfl, bel.frame _, fun h => by cases h⟩
theorem over : Rows.fnOpenLastRow.holds Tryz.pinned (OpenSpec.ofChange Rows.fnOpenLastSpec) :=
  OpenClaim.holds_of_wide 6 Tryz.f6 rfl rfl rfl rfl rfl rfl rfl ⟨rfl, rfl, rfl, rfl, rfl⟩ rfl rfl rfl rfl rfl (by kernel_rfl) Tryz.func6 (by kernel_rfl)
    (of_decide_eq_true (by kernel_rfl)) (by unfold Func.isWrapper; first | (rw [if_pos (by decide +kernel)]; kernel_rfl) | (rw [if_neg (by decide +kernel)]; exact ⟨rfl, rfl⟩))
    (fun os started H enc _ => lifted os started H enc)
theorem proved : Rows.FnOpenLastSaid := over
#print axioms proved
end Go.Proofs.YtoocibabceeagabGreat.fnOpenLast
