/- For every two codes of at most 1<<20 bytes each (longer ones are let pass by the law itself): GroupPow answers as the model's GroupPow, and powers of two exponents below the order are multiplied to the power of their sum modulo the order. -/
import Derived.Test.YtefneohkkfjcpacRows
import Derived.Test.YtefneohkkfjcpacDe
import Derived.Test.YtefneohkkfjcpacGk
import Derived.WalkKit
import Derived.WalkSpells
import Derived.ProofKit
import Derived.OpenShut
import Derived.ShutString
import Derived.Below
import Derived.SliceStrings
namespace Go.Proofs.Ytefneohkkfjcpac.fnPowersAdd
open Go.ChangeShapes Go.WideShapes Go.ChangeAt Go.RowKit
open Go.ChangeMaps (open_string shut_string)
set_option maxRecDepth 100000 in
set_option maxHeartbeats 1600000 in
theorem walk (a0 : Option Addr) (len0 cap0 : Nat) (z0 : List Int) (a1 : Option Addr) (len1 cap1 : Nat) (z1 : List Int) (w : World) (w0 : IsRow .u8 w a0 len0 cap0 z0) (w1 : IsRow .u8 w a1 len1 cap1 z1) :
    Calls Try.prog 5 #[.slice a0 len0 cap0, .slice a1 len1 cap1] w fun e w' => e = .returned (.bool true) ∧ Below w.heap.size w w' := by
  have hcm := w0.len
  have hcm1 := w1.len
  by_cases h : (1048576 : Int) < (len0 : Int)
  · go_enter Try.func5, Try.ntmps5
    go_wp2
    go_ret
    exact ⟨rfl, Below.refl _ _⟩
  by_cases h' : (1048576 : Int) < (len1 : Int)
  · go_enter Try.func5, Try.ntmps5
    go_wp2
    go_ret
    exact ⟨rfl, Below.refl _ _⟩
  go_enter Try.func5, Try.ntmps5
  go_wp2_with fail
  refine (drawGroupPow_any a0 len0 cap0 z0 _ w0 (by omega)).mono ?_
  rintro e v0 ⟨a, b, rfl, x0, x1, y0, y1, hb0⟩
  have HW1 := w1.below hb0
  clear w0 w1
  go_wp2_with fail
  refine (drawGroupPow_any a1 len1 cap1 z1 _ HW1 (by omega)).mono ?_
  rintro e v1 ⟨d, f, rfl, d0, d1, f0, f1, hb1⟩
  replace hb1 := below_after hb0 hb1
  clear hb0 HW1 h h' hcm hcm1 x0 x1 d0 d1
  by_cases hk : Gr.pok a b = true
  · have HA := Lib.hid hk
    by_cases hl : Gr.pok a f = true
    · have HB := Lib.hid hl
      by_cases hr : b < 1073741789 ∧ f < 1073741789
      · obtain ⟨hr1, hr2⟩ := hr
        have hab := (Gr.pok_iff a b).mp hk
        have haf := (Gr.pok_iff a f).mp hl
        have HS := Lib.hid (Gr.pow_add hab.1 hab.2 haf.2)
        have HQ := Lib.hid ((Gr.pok_iff a ((b + f) % 1073741789)).mpr ⟨hab.1, Int.emod_nonneg _ (by decide)⟩)
        have HO : Hid ((Gr.ok (Gr.pow a b) && Gr.ok (Gr.pow a f)) = true) := Lib.hid (by rw [Gr.ok_yes (Gr.pow_E hab.1 hab.2), Gr.ok_yes (Gr.pow_E hab.1 haf.2)]; rfl)
        obtain ⟨hab0, hb0⟩ := hab
        obtain ⟨hab1, hf0⟩ := haf
        clear hk hl hab0 hab1
        obtain ⟨M, HM⟩ : ∃ M, Hid (Gr.pow a b = M) := ⟨_, Lib.hid rfl⟩
        obtain ⟨L, HL⟩ : ∃ L, Hid (Gr.pow a f = L) := ⟨_, Lib.hid rfl⟩
        rw [HM.out, HL.out] at HS HO
        obtain ⟨S, HT⟩ : ∃ S, Hid (Gr.mul M L = S) := ⟨_, Lib.hid rfl⟩
        rw [HT.out] at HS
        have HS2 : Hid (Gr.pow a ((b + f) % 1073741789) = S) := Lib.hid HS.out.symm
        clear HS
        have r0 : 0 ≤ (b + f) % 1073741789 := Int.emod_nonneg _ (by decide)
        have r1 : (b + f) % 1073741789 < 1073741789 := Int.emod_lt_of_pos _ (by decide)
        have HM2 : Hid (Gr.pow a b = M) := HM
        go_wp2_with fail
        refine (implGroupPow_any a b _ (by omega)).mono ?_
        rw [HA.out, HM.out]
        rintro e w2 ⟨rfl, hb2⟩
        replace hb2 := below_after hb1 hb2
        clear hb1
        go_wp2_with fail
        refine (specGroupPow_any a b _ (by omega)).mono ?_
        rw [HA.out, HM.out]
        rintro e ws ⟨rfl, hws⟩
        subst hws
        go_wp2_with fail
        refine (implGroupPow_any a f _ (by omega)).mono ?_
        rw [HB.out, HL.out]
        rintro e w3 ⟨rfl, hb3⟩
        replace hb3 := below_after hb2 hb3
        clear hb2
        go_wp2_with fail
        refine (specGroupPow_any a f _ (by omega)).mono ?_
        rw [HB.out, HL.out]
        rintro e ws ⟨rfl, hws⟩
        subst hws
        go_wp2_with fail
        refine (implGroupMul_any M L _).mono ?_
        rw [HO.out, HT.out]
        rintro e w4 ⟨rfl, hb4⟩
        replace hb4 := below_after hb3 hb4
        clear hb3
        go_wp2_with fail
        refine (implGroupPow_any a ((b + f) % 1073741789) _ (by omega)).mono ?_
        rw [HQ.out, HS2.out]
        rintro e w5 ⟨rfl, hb5⟩
        replace hb5 := below_after hb4 hb5
        clear hb4
        go_wp2
        go_ret
        exact ⟨rfl, hb5⟩
      · by_cases hr1 : b < 1073741789
        · have hr2 : 1073741789 ≤ f := by omega
          have hc1 : decide (1073741789 ≤ b) = false := by simp; omega
          clear hr hk hl
          obtain ⟨M, HM⟩ : ∃ M, Hid (Gr.pow a b = M) := ⟨_, Lib.hid rfl⟩
          obtain ⟨L, HL⟩ : ∃ L, Hid (Gr.pow a f = L) := ⟨_, Lib.hid rfl⟩
          go_wp2_with fail
          refine (implGroupPow_any a b _ (by omega)).mono ?_
          rw [HA.out, HM.out]
          rintro e w2 ⟨rfl, hb2⟩
          replace hb2 := below_after hb1 hb2
          clear hb1
          go_wp2_with fail
          refine (specGroupPow_any a b _ (by omega)).mono ?_
          rw [HA.out, HM.out]
          rintro e ws ⟨rfl, hws⟩
          subst hws
          go_wp2_with fail
          refine (implGroupPow_any a f _ (by omega)).mono ?_
          rw [HB.out, HL.out]
          rintro e w3 ⟨rfl, hb3⟩
          replace hb3 := below_after hb2 hb3
          clear hb2
          go_wp2_with fail
          refine (specGroupPow_any a f _ (by omega)).mono ?_
          rw [HB.out, HL.out]
          rintro e ws ⟨rfl, hws⟩
          subst hws
          go_wp2
          go_ret
          exact ⟨rfl, hb3⟩
        · have hr2 : 1073741789 ≤ b := by omega
          clear hr hk hl hr1
          obtain ⟨M, HM⟩ : ∃ M, Hid (Gr.pow a b = M) := ⟨_, Lib.hid rfl⟩
          obtain ⟨L, HL⟩ : ∃ L, Hid (Gr.pow a f = L) := ⟨_, Lib.hid rfl⟩
          go_wp2_with fail
          refine (implGroupPow_any a b _ (by omega)).mono ?_
          rw [HA.out, HM.out]
          rintro e w2 ⟨rfl, hb2⟩
          replace hb2 := below_after hb1 hb2
          clear hb1
          go_wp2_with fail
          refine (specGroupPow_any a b _ (by omega)).mono ?_
          rw [HA.out, HM.out]
          rintro e ws ⟨rfl, hws⟩
          subst hws
          go_wp2_with fail
          refine (implGroupPow_any a f _ (by omega)).mono ?_
          rw [HB.out, HL.out]
          rintro e w3 ⟨rfl, hb3⟩
          replace hb3 := below_after hb2 hb3
          clear hb2
          go_wp2_with fail
          refine (specGroupPow_any a f _ (by omega)).mono ?_
          rw [HB.out, HL.out]
          rintro e ws ⟨rfl, hws⟩
          subst hws
          go_wp2
          go_ret
          exact ⟨rfl, hb3⟩
    · have HB : Hid (Gr.pok a f = false) := Lib.hid (by simpa using hl)
      clear hk hl
      obtain ⟨M, HM⟩ : ∃ M, Hid (Gr.pow a b = M) := ⟨_, Lib.hid rfl⟩
      obtain ⟨L, HL⟩ : ∃ L, Hid (Gr.pow a f = L) := ⟨_, Lib.hid rfl⟩
      go_wp2_with fail
      refine (implGroupPow_any a b _ (by omega)).mono ?_
      rw [HA.out, HM.out]
      rintro e w2 ⟨rfl, hb2⟩
      replace hb2 := below_after hb1 hb2
      clear hb1
      go_wp2_with fail
      refine (specGroupPow_any a b _ (by omega)).mono ?_
      rw [HA.out, HM.out]
      rintro e ws ⟨rfl, hws⟩
      subst hws
      go_wp2_with fail
      refine (implGroupPow_any a f _ (by omega)).mono ?_
      rw [HB.out, HL.out]
      rintro e w3 ⟨rfl, hb3⟩
      replace hb3 := below_after hb2 hb3
      clear hb2
      go_wp2_with fail
      refine (specGroupPow_any a f _ (by omega)).mono ?_
      rw [HB.out, HL.out]
      rintro e ws ⟨rfl, hws⟩
      subst hws
      go_wp2
      go_ret
      exact ⟨rfl, hb3⟩
  · have HA : Hid (Gr.pok a b = false) := Lib.hid (by simpa using hk)
    clear hk
    obtain ⟨F, HF⟩ : ∃ F, Hid (Gr.pok a f = F) := ⟨_, Lib.hid rfl⟩
    obtain ⟨M, HM⟩ : ∃ M, Hid (Gr.pow a b = M) := ⟨_, Lib.hid rfl⟩
    obtain ⟨L, HL⟩ : ∃ L, Hid (Gr.pow a f = L) := ⟨_, Lib.hid rfl⟩
    go_wp2_with fail
    refine (implGroupPow_any a b _ (by omega)).mono ?_
    rw [HA.out, HM.out]
    rintro e w2 ⟨rfl, hb2⟩
    replace hb2 := below_after hb1 hb2
    clear hb1
    go_wp2_with fail
    refine (specGroupPow_any a b _ (by omega)).mono ?_
    rw [HA.out, HM.out]
    rintro e ws ⟨rfl, hws⟩
    subst hws
    go_wp2_with fail
    refine (implGroupPow_any a f _ (by omega)).mono ?_
    rw [HF.out, HL.out]
    rintro e w3 ⟨rfl, hb3⟩
    replace hb3 := below_after hb2 hb3
    clear hb2
    go_wp2_with fail
    refine (specGroupPow_any a f _ (by omega)).mono ?_
    rw [HF.out, HL.out]
    rintro e ws ⟨rfl, hws⟩
    subst hws
    go_wp2
    go_ret
    exact ⟨rfl, hb3⟩
/-! ### The row's step. -/
theorem own : ownKnob Try.prog.godebug = none := by kernel_rfl
theorem laidOut : laidOutB Try.prog = true := by kernel_rfl
set_option maxRecDepth 100000 in
theorem lifted (os : Os) (started : os.Started) (H : Type) (enc : TypeId × Value → H) :
    ReturnsInHanded {} Try.checked os 5 .any (Rows.fnPowersAddSpec.pre6 enc Try.prog Try.f5 Rows.fnPowersAddRow.domain false) (Rows.fnPowersAddSpec.post enc Try.prog Try.f5 false true false false) := by
  refine returnsInHanded_of_change (C := Try.checked) own started (by kernel_rfl) Try.func5
    (ChangeSpec.witness6 (enc := enc) (C := Try.checked) false ⟨#[], #[.slice none 0 0, .slice none 0 0], []⟩ 8 (by kernel_rfl) (by kernel_rfl) (by kernel_rfl) (by kernel_rfl)) ?_
  intro W base args ds gs before hval0 hW hcnd _
  have hval : ∀ (j : Nat) t v, Try.f5.params[j]? = some t → args[j]? = some v → Value.okWide Try.prog W .any base t v := hval0
  have hW' := hW
  obtain ⟨p, q, hA0, hV, rfl, hfz, hnd⟩ := hW
  have hA : DataW.TrodAll enc Try.prog W 0 (fun _ => true) true Try.f5.params.toList args.toList ds p := hA0
  rw [Try.params5] at hA hval
  obtain ⟨v0, vs0, d0, ds0, p0, q0, hargs, rfl, rfl, h0, r0⟩ := trodAll_cons hA
  obtain ⟨v1, vs1, d1, ds1, p1, q1, rfl, rfl, rfl, h1, r1⟩ := trodAll_cons r0
  obtain ⟨rfl, rfl, rfl⟩ := trodAll_nil r1
  obtain rfl : args = #[v0, v1] := by cases args; simp_all
  obtain ⟨rfl, rfl⟩ := trodVars_none hV
  obtain ⟨a0, len0, cap0, rfl⟩ := okWide_slice Try.underlying22 (hval 0 22 v0 rfl rfl)
  have k0 := h0
  have lt0 : ∀ x ∈ p0, x.block < W.heap.size := by obtain ⟨m, hm⟩ := k0; exact DataW.trod_lt m _ _ _ hm
  obtain ⟨z0, w0⟩ : ∃ zs, IsRow .u8 W a0 len0 cap0 zs := by
    obtain ⟨fuel, hf⟩ := h0
    rcases open_ints Try.underlying22 Try.underlying5 (by kernel_rfl) hf with ⟨hcs, _⟩ | ⟨x, l, c, zs, hcs, _, hl, hm, hz, _, hcell, hwz⟩
    · simp [Value.cells] at hcs
      obtain ⟨rfl, rfl, rfl⟩ := hcs
      exact ⟨[], .inl ⟨rfl, rfl, rfl, rfl⟩⟩
    · simp [Value.cells] at hcs
      obtain ⟨rfl, rfl, rfl⟩ := hcs
      exact ⟨zs, .inr ⟨_, rfl, hl, hm, by simpa using hz, hcell, hwz⟩⟩
  obtain ⟨a1, len1, cap1, rfl⟩ := okWide_slice Try.underlying22 (hval 1 22 v1 rfl rfl)
  have k1 := h1
  have lt1 : ∀ x ∈ p1, x.block < W.heap.size := by obtain ⟨m, hm⟩ := k1; exact DataW.trod_lt m _ _ _ hm
  obtain ⟨z1, w1⟩ : ∃ zs, IsRow .u8 W a1 len1 cap1 zs := by
    obtain ⟨fuel, hf⟩ := h1
    rcases open_ints Try.underlying22 Try.underlying5 (by kernel_rfl) hf with ⟨hcs, _⟩ | ⟨x, l, c, zs, hcs, _, hl, hm, hz, _, hcell, hwz⟩
    · simp [Value.cells] at hcs
      obtain ⟨rfl, rfl, rfl⟩ := hcs
      exact ⟨[], .inl ⟨rfl, rfl, rfl, rfl⟩⟩
    · simp [Value.cells] at hcs
      obtain ⟨rfl, rfl, rfl⟩ := hcs
      exact ⟨zs, .inr ⟨_, rfl, hl, hm, by simpa using hz, hcell, hwz⟩⟩
  clear hA0 hval0
  refine (walk a0 len0 cap0 z0 a1 len1 cap1 z1 W w0 w1).mono fun e W' ⟨he, bel⟩ => ?_
  subst he
  exact ⟨_, rfl, _, _, _, [], _, [], hW', trodAll_mk1 (shut_bool Try.underlying4 _), (trodAll_cons_mk (Below.trod laidOut (by kernel_rfl) (of_decide_eq_true (by kernel_rfl)) k0 bel lt0) (trodAll_cons_mk (Below.trod laidOut (by kernel_rfl) (of_decide_eq_true (by kernel_rfl)) k1 bel lt1) trodAll_mk0)), rfl, bel.frame _, fun h => by cases h⟩
theorem over : Rows.fnPowersAddRow.holds Try.pinned (OpenSpec.ofChange Rows.fnPowersAddSpec) :=
  OpenClaim.holds_of_wide 5 Try.f5 rfl rfl rfl rfl rfl rfl rfl ⟨rfl, rfl, rfl, rfl, rfl⟩ rfl rfl rfl rfl rfl (by kernel_rfl) Try.func5 (by kernel_rfl)
    (of_decide_eq_true (by kernel_rfl)) (by unfold Func.isWrapper; first | (rw [if_pos (by decide +kernel)]; kernel_rfl) | (rw [if_neg (by decide +kernel)]; exact ⟨rfl, rfl⟩))
    (fun os started H enc _ => lifted os started H enc)
theorem proved : Rows.FnPowersAddSaid := over
#print axioms proved
end Go.Proofs.Ytefneohkkfjcpac.fnPowersAdd
