/- For every code of at most 1<<20 bytes (longer ones are let pass by the law itself): OpenRevoked answers as the model's OpenRevoked, and the witness opens the first branch of a revocable lock at once and later. -/
import Derived.Test.YtoocibabceeagabGreatRows
import Derived.Test.YtoocibabceeagabGreatUl
import Derived.WalkKit
import Derived.WalkSpells
import Derived.ProofKit
import Derived.OpenShut
import Derived.ShutString
import Derived.Below
import Derived.SliceStrings
namespace Go.Proofs.YtoocibabceeagabGreat.fnOpenRevoked
open Go.ChangeShapes Go.WideShapes Go.ChangeAt Go.RowKit
open Go.ChangeMaps (open_string shut_string)
set_option maxRecDepth 100000 in
set_option maxHeartbeats 6400000 in
theorem walk (a0 : Option Addr) (len0 cap0 : Nat) (z0 : List Int) (w : World) (w0 : IsRow .u8 w a0 len0 cap0 z0) :
    Calls Tryz.prog 7 #[.slice a0 len0 cap0] w fun e w' => e = .returned (.bool true) ∧ Below w.heap.size w w' := by
  have hcm := w0.len
  by_cases h : (1048576 : Int) < (len0 : Int)
  · go_enter Tryz.func7, Tryz.ntmps7
    go_wp2
    go_ret
    exact ⟨rfl, Below.refl _ _⟩
  go_enter Tryz.func7, Tryz.ntmps7
  go_wp2_with fail
  refine (drawOpenRevoked_any a0 len0 cap0 z0 _ w0 (by omega)).mono ?_
  rintro e w1 ⟨x, t, rfl, x0, x1, htz, hb1⟩
  clear w0 h hcm
  have ht : t.size ≤ 1048576 := by omega
  cases hx : Wt.sec x
  · have HIP := Lib.hid (show ∀ W, Calls Tryz.prog 35 #[.int .i64 x, .string t] W (WtR [] false W) from fun W => (implOpenRevoked_any x t W ht).mono fun e w' h => h.2 hx)
    have HSP := Lib.hid (show ∀ W, Calls Tryz.prog 36 #[.int .i64 x, .string t] W (WtR [] false W) from fun W => OpenRevoked_no x t W hx)
    unfold WtR at HIP HSP
    simp only [List.length_nil] at HIP HSP
    clear hx
    go_wp2_with fail
    refine (HIP.out _).mono ?_
    rintro e w2 ⟨a2, c2, rfl, hx, hown2⟩
    have hb2 := hb1.trans (hx.mono hb1.size)
    have HS2 := Lib.hid (SR.own hown2).2
    clear hx hown2
    go_wp2_with fail
    refine (HSP.out _).mono ?_
    rintro e w3 ⟨a3, c3, rfl, hx, hown3⟩
    have hb3 := hb2.trans (hx.mono hb2.size)
    have HS3 := Lib.hid (SR.own hown3).2
    replace HS2 := Lib.hid (HS2.out.below hx)
    clear hx hown3 hb2
    go_wp2_with fail
    refine (wcTexts_any a2 a3 0 c2 c3 [] _ HS2.out HS3.out (by omega)).mono ?_
    rintro e w4 ⟨rfl, hx⟩
    have hb4 := hb3.trans (hx.mono hb3.size)
    clear hx hb3
    go_wp2
    go_ret
    exact ⟨rfl, hb4⟩
  have HIP := Lib.hid (show ∀ W, Calls Tryz.prog 35 #[.int .i64 x, .string t] W (WtR ([Wt.sig x t, Wt.tr true]) true W) from fun W => (implOpenRevoked_any x t W ht).mono fun e w' h => h.1 hx)
  have HSP := Lib.hid (show ∀ W, Calls Tryz.prog 36 #[.int .i64 x, .string t] W (WtR ([Wt.sig x t, Wt.tr true]) true W) from fun W => OpenRevoked_yes x t W hx ht)
  unfold WtR at HIP HSP
  have HKE := Lib.hid (fun W => keyOf_sec x hx W)
  have hrv := Lk.rev_yes (Wt.kok_gp hx) Gr.kok_base (show (1 : Int) ≤ 9 ∧ (9 : Int) ≤ 99 by decide)
  have HLK := Lib.hid (fun W => lockRev_yes (Sg.gp x) 9 4 hrv W)
  unfold LkY at HLK
  have HU1 := Lib.hid (fun W g c h => unlock_lock (Lk.ok_revocable' hrv) [Wt.sig x t, Wt.tr true] t 0 0 true (Wt.opens_revoked (E := ⟨t, 0, 0⟩) hx (by decide)) (Wt.sizes2 x t _ (by decide)) ht g 2 c (by omega) W h)
  have HU2 := Lib.hid (fun W g c h => unlock_lock (Lk.ok_revocable' hrv) [Wt.sig x t, Wt.tr true] t 0 50 true (Wt.opens_revoked (E := ⟨t, 0, 50⟩) hx (by decide)) (Wt.sizes2 x t _ (by decide)) ht g 2 c (by omega) W h)
  clear hrv
  obtain ⟨K, HK⟩ : ∃ y, Hid (Sg.gp x = y) := ⟨_, Lib.hid rfl⟩
  rw [HK.out] at HKE HLK HU1 HU2
  obtain ⟨X, HX⟩ : ∃ y, Hid (Jo.bs (Lk.revocable K 9 4) = y) := ⟨_, Lib.hid rfl⟩
  rw [HX.out] at HLK HU1 HU2
  obtain ⟨L, HL⟩ : ∃ L, Hid ([Wt.sig x t, Wt.tr true] = L) := ⟨_, Lib.hid rfl⟩
  have hnL : L.length = 2 := by rw [← HL.out]; rfl
  rw [HL.out, hnL] at HIP HSP
  clear hnL
  rw [HL.out] at HU1 HU2
  clear hx HK HX HL x0 x1 htz
  go_wp2_with fail
  refine (HIP.out _).mono ?_
  rintro e w2 ⟨a2, c2, rfl, hx, hown2⟩
  have hb2 := hb1.trans (hx.mono hb1.size)
  have HS2 := Lib.hid (SR.own hown2).2
  obtain ⟨g, rfl, _, _⟩ := own_someU hown2 (by decide)
  clear hx hown2
  go_wp2_with fail
  refine (HSP.out _).mono ?_
  rintro e w3 ⟨a3, c3, rfl, hx, hown3⟩
  have hb3 := hb2.trans (hx.mono hb2.size)
  have HS3 := Lib.hid (SR.own hown3).2
  replace HS2 := Lib.hid (HS2.out.below hx)
  clear hx hown3 hb2
  go_wp2_with fail
  refine (wcTexts_any (some ⟨g, 0, none⟩) a3 2 c2 c3 L _ HS2.out HS3.out (by omega)).mono ?_
  rintro e w4 ⟨rfl, hx⟩
  have hb4 := hb3.trans (hx.mono hb3.size)
  have HS4 := Lib.hid (HS2.out.below hx)
  clear hx hb3 HS2 HS3
  go_wp2_with fail
  refine (HKE.out _).mono ?_
  rintro e w5 ⟨rfl, hx⟩
  have hb5 := hb4.trans (hx.mono hb4.size)
  have HS5 := Lib.hid (HS4.out.below hx)
  clear hx hb4
  go_wp2_with fail
  refine (HLK.out _).mono ?_
  rintro e w6 ⟨rfl, hx⟩
  have hb6 := hb5.trans (hx.mono hb5.size)
  have HS6 := Lib.hid (HS5.out.below hx)
  clear hx hb5
  go_wp2_with fail
  refine (HU1.out _ _ _ HS6.out).mono ?_
  rintro e w7 ⟨rfl, hx⟩
  have hb7 := hb6.trans (hx.mono hb6.size)
  have HS7 := Lib.hid (HS6.out.below hx)
  clear hx hb6
  go_wp2_with fail
  refine (HU2.out _ _ _ HS7.out).mono ?_
  rintro e w8 ⟨rfl, hx⟩
  have hb8 := hb7.trans (hx.mono hb7.size)
  have HS8 := Lib.hid (HS7.out.below hx)
  clear hx hb7
  go_wp2
  go_ret
  exact ⟨rfl, hb8⟩
/-! ### The row's step. -/
theorem own : ownKnob Tryz.prog.godebug = none := by kernel_rfl
theorem laidOut : laidOutB Tryz.prog = true := by kernel_rfl
set_option maxRecDepth 100000 in
theorem lifted (os : Os) (started : os.Started) (H : Type) (enc : TypeId × Value → H) :
    ReturnsInHanded {} Tryz.checked os 7 .any (Rows.fnOpenRevokedSpec.pre6 enc Tryz.prog Tryz.f7 Rows.fnOpenRevokedRow.domain false) (Rows.fnOpenRevokedSpec.post enc Tryz.prog Tryz.f7 false true false false) := by
  refine returnsInHanded_of_change (C := Tryz.checked) own started (by kernel_rfl) Tryz.func7
    (ChangeSpec.witness6 (enc := enc) (C := Tryz.checked) false ⟨#[], #[.slice none 0 0], []⟩ 8 (by kernel_rfl) (by kernel_rfl) (by kernel_rfl) (by kernel_rfl)) ?_
  intro W base args ds gs before hval0 hW hcnd _
  have hval : ∀ (j : Nat) t v, Tryz.f7.params[j]? = some t → args[j]? = some v → Value.okWide Tryz.prog W .any base t v := hval0
  have hW' := hW
  obtain ⟨p, q, hA0, hV, rfl, hfz, hnd⟩ := hW
  have hA : DataW.TrodAll enc Tryz.prog W 0 (fun _ => true) true Tryz.f7.params.toList args.toList ds p := hA0
  rw [Tryz.params7] at hA hval
  obtain ⟨v0, vs0, d0, ds0, p0, q0, hargs, rfl, rfl, h0, r0⟩ := trodAll_cons hA
  obtain ⟨rfl, rfl, rfl⟩ := trodAll_nil r0
  obtain rfl : args = #[v0] := by cases args; simp_all
  obtain ⟨rfl, rfl⟩ := trodVars_none hV
  obtain ⟨a0, len0, cap0, rfl⟩ := okWide_slice Tryz.underlying22 (hval 0 22 v0 rfl rfl)
  have k0 := h0
  have lt0 : ∀ x ∈ p0, x.block < W.heap.size := by obtain ⟨m, hm⟩ := k0; exact DataW.trod_lt m _ _ _ hm
  obtain ⟨z0, w0⟩ : ∃ zs, IsRow .u8 W a0 len0 cap0 zs := by
    obtain ⟨fuel, hf⟩ := h0
    rcases open_ints Tryz.underlying22 Tryz.underlying5 (by kernel_rfl) hf with ⟨hcs, _⟩ | ⟨x, l, c, zs, hcs, _, hl, hm, hz, _, hcell, hwz⟩
    · simp [Value.cells] at hcs
      obtain ⟨rfl, rfl, rfl⟩ := hcs
      exact ⟨[], .inl ⟨rfl, rfl, rfl, rfl⟩⟩
    · simp [Value.cells] at hcs
      obtain ⟨rfl, rfl, rfl⟩ := hcs
      exact ⟨zs, .inr ⟨_, rfl, hl, hm, by simpa using hz, hcell, hwz⟩⟩
  clear hA0 hval0
  refine (walk a0 len0 cap0 z0 W w0).mono fun e W' ⟨he, bel⟩ => ?_
  subst he
  exact ⟨_, rfl, _, _, _, [], _, [], hW', trodAll_mk1 (shut_bool Tryz.underlying4 _), (trodAll_cons_mk (Below.trod laidOut (by kernel_rfl) (of_decide_eq_true (by kernel_rfl)) k0 bel lt0) trodAll_mk0), rfl, bel.frame _, fun h => by cases h⟩
theorem over : Rows.fnOpenRevokedRow.holds Tryz.pinned (OpenSpec.ofChange Rows.fnOpenRevokedSpec) :=
  OpenClaim.holds_of_wide 7 Tryz.f7 rfl rfl rfl rfl rfl rfl rfl ⟨rfl, rfl, rfl, rfl, rfl⟩ rfl rfl rfl rfl rfl (by kernel_rfl) Tryz.func7 (by kernel_rfl)
    (of_decide_eq_true (by kernel_rfl)) (by unfold Func.isWrapper; first | (rw [if_pos (by decide +kernel)]; kernel_rfl) | (rw [if_neg (by decide +kernel)]; exact ⟨rfl, rfl⟩))
    (fun os started H enc _ => lifted os started H enc)
theorem proved : Rows.FnOpenRevokedSaid := over
#print axioms proved
end Go.Proofs.YtoocibabceeagabGreat.fnOpenRevoked
