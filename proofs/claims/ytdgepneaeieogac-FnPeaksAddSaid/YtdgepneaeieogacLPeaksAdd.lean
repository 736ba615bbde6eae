/- For every code of at most 1<<20 bytes (longer ones are let pass by the law itself): PeaksAdd answers as the model's PeaksAdd, and what it answers has an element. -/
import Derived.Test.YtdgepneaeieogacRows
import Derived.Test.YtdgepneaeieogacDw
import Derived.Test.YtdgepneaeieogacMh
import Derived.Test.YtdgepneaeieogacMk
import Derived.WalkKit
import Derived.WalkSpells
import Derived.ProofKit
import Derived.OpenShut
import Derived.ShutString
import Derived.Below
import Derived.SliceStrings
namespace Go.Proofs.Ytdgepneaeieogac.fnPeaksAdd
open Go.ChangeShapes Go.WideShapes Go.ChangeAt Go.RowKit
open Go.ChangeMaps (open_string shut_string)
set_option maxRecDepth 100000 in
set_option maxHeartbeats 1600000 in
theorem walk (a0 : Option Addr) (len0 cap0 : Nat) (z0 : List Int) (w : World) (w0 : IsRow .u8 w a0 len0 cap0 z0) :
    Calls Try.prog 3 #[.slice a0 len0 cap0] w fun e w' => e = .returned (.bool true) ∧ Below w.heap.size w w' := by
  have hcm := w0.len
  by_cases h : (1048576 : Int) < (len0 : Int)
  · go_enter Try.func3, Try.ntmps3
    go_wp2
    go_ret
    exact ⟨rfl, Below.refl _ _⟩
  go_enter Try.func3, Try.ntmps3
  go_wp2_with fail
  refine (drawPeaksAdd_any a0 len0 cap0 z0 _ w0 (by omega)).mono ?_
  rintro e w1 ⟨n, b, cp, p, s, rfl, hpl, hs, hb1, hown1⟩
  clear w0
  have HI := Lib.hid (IR.own hown1).2
  have hcc := own_capV hown1
  have HA : Hid (b = none → cp = 0) := Lib.hid fun hb => by
    rcases hown1.2 with ⟨h, _⟩ | ⟨g, cap', cur, h, _⟩
    · simp at h; exact h.2.2
    · rw [hb] at h; simp at h
  obtain ⟨L, HL⟩ : ∃ L, Hid (Me.paL n p s = L) := ⟨_, Lib.hid rfl⟩
  obtain ⟨ok, HO⟩ : ∃ ok, Hid (Me.paB n p = ok) := ⟨_, Lib.hid rfl⟩
  have hlen := Me.paL_len n p s
  rw [HL.out] at hlen
  have HPOS : Hid (ok = true → 1 ≤ L.length) := Lib.hid fun hk => by
    rw [← HL.out]
    by_cases h : Me.paOk n p
    · rw [Me.paL_yes h]; exact Me.addP_pos _ _ _
    · rw [← HO.out, Me.paB_no h] at hk; cases hk
  obtain ⟨m, hm⟩ : ∃ m, p.length = m := ⟨_, rfl⟩
  rw [hm] at HI hcc hpl
  rw [hm]
  clear hown1 hm
  go_wp2_with fail
  refine (implPeaksAdd_any n b m cp p s _ HI.out HA.out hcc.1 hcc.2 (by omega)).mono ?_
  rw [HL.out, HO.out]
  rintro e w2 ⟨a2, cp2, rfl, hb2, hown2⟩
  have HI2 := Lib.hid (HI.out.below hb2)
  have HR2 := Lib.hid (IR.own hown2).2
  have hb12 := hb1.trans (hb2.mono hb1.size)
  clear hb1 hb2 hown2
  go_wp2_with fail
  refine (specPeaksAdd_any n b m cp p s _ HI2.out (by omega) (by omega)).mono ?_
  rw [HL.out, HO.out]
  rintro e w3 ⟨a3, cp3, rfl, hb3, hown3⟩
  have HR3 := Lib.hid (IR.own hown3).2
  have HR23 := Lib.hid (HR2.out.below hb3)
  have hb13 := hb12.trans (hb3.mono hb12.size)
  clear hb12 hb3 hown3
  go_wp2_with fail
  refine (wcInts_any a2 a3 L.length cp2 cp3 L _ HR23.out HR3.out (by omega)).mono ?_
  rintro e w4 ⟨rfl, hb4⟩
  have hb14 := hb13.trans (hb4.mono hb13.size)
  clear hb13 hb4
  cases ok
  · go_wp2
    go_ret
    exact ⟨rfl, hb14⟩
  · have hp1 : (1 : Int) ≤ (L.length : Int) := by have := HPOS.out rfl; omega
    go_wp2
    go_ret
    exact ⟨rfl, hb14⟩
/-! ### The row's step. -/
theorem own : ownKnob Try.prog.godebug = none := by kernel_rfl
theorem laidOut : laidOutB Try.prog = true := by kernel_rfl
set_option maxRecDepth 100000 in
theorem lifted (os : Os) (started : os.Started) (H : Type) (enc : TypeId × Value → H) :
    ReturnsInHanded {} Try.checked os 3 .any (Rows.fnPeaksAddSpec.pre6 enc Try.prog Try.f3 Rows.fnPeaksAddRow.domain false) (Rows.fnPeaksAddSpec.post enc Try.prog Try.f3 false true false false) := by
  refine returnsInHanded_of_change (C := Try.checked) own started (by kernel_rfl) Try.func3
    (ChangeSpec.witness6 (enc := enc) (C := Try.checked) false ⟨#[], #[.slice none 0 0], []⟩ 8 (by kernel_rfl) (by kernel_rfl) (by kernel_rfl) (by kernel_rfl)) ?_
  intro W base args ds gs before hval0 hW hcnd _
  have hval : ∀ (j : Nat) t v, Try.f3.params[j]? = some t → args[j]? = some v → Value.okWide Try.prog W .any base t v := hval0
  have hW' := hW
  obtain ⟨p, q, hA0, hV, rfl, hfz, hnd⟩ := hW
  have hA : DataW.TrodAll enc Try.prog W 0 (fun _ => true) true Try.f3.params.toList args.toList ds p := hA0
  rw [Try.params3] at hA hval
  obtain ⟨v0, vs0, d0, ds0, p0, q0, hargs, rfl, rfl, h0, r0⟩ := trodAll_cons hA
  obtain ⟨rfl, rfl, rfl⟩ := trodAll_nil r0
  obtain rfl : args = #[v0] := by cases args; simp_all
  obtain ⟨rfl, rfl⟩ := trodVars_none hV
  obtain ⟨a0, len0, cap0, rfl⟩ := okWide_slice Try.underlying22 (hval 0 22 v0 rfl rfl)
  have k0 := h0
  have lt0 : ∀ x ∈ p0, x.block < W.heap.size := by obtain ⟨m, hm⟩ := k0; exact DataW.trod_lt m _ _ _ hm
  obtain ⟨z0, w0⟩ : ∃ zs, IsRow .u8 W a0 len0 cap0 zs := by
    obtain ⟨fuel, hf⟩ := h0
    rcases open_ints Try.underlying22 Try.underlying5 (by kernel_rfl) hf with ⟨hcs, _⟩ | ⟨x, l, c, zs, hcs, _, hl, hm, hz, _, hcell, hwz⟩
    · simp [Value.cells] at hcs
      obtain ⟨rfl, rfl, rfl⟩ := hcs
      exact ⟨[], .inl ⟨rfl, rfl, rfl, rfl⟩⟩
    · simp [Value.cells] at hcs
      obtain ⟨rfl, rfl, rfl⟩ := hcs
      exact ⟨zs, .inr ⟨_, rfl, hl, hm, by simpa using hz, hcell, hwz⟩⟩
  clear hA0 hval0
  refine (walk a0 len0 cap0 z0 W w0).mono fun e W' ⟨he, bel⟩ => ?_
  subst he
  exact ⟨_, rfl, _, _, _, [], _, [], hW', trodAll_mk1 (shut_bool Try.underlying4 _), (trodAll_cons_mk (Below.trod laidOut (by kernel_rfl) (of_decide_eq_true (by kernel_rfl)) k0 bel lt0) trodAll_mk0), rfl, bel.frame _, fun h => by cases h⟩
theorem over : Rows.fnPeaksAddRow.holds Try.pinned (OpenSpec.ofChange Rows.fnPeaksAddSpec) :=
  OpenClaim.holds_of_wide 3 Try.f3 rfl rfl rfl rfl rfl rfl rfl ⟨rfl, rfl, rfl, rfl, rfl⟩ rfl rfl rfl rfl rfl (by kernel_rfl) Try.func3 (by kernel_rfl)
    (of_decide_eq_true (by kernel_rfl)) (by unfold Func.isWrapper; first | (rw [if_pos (by decide +kernel)]; kernel_rfl) | (rw [if_neg (by decide +kernel)]; exact ⟨rfl, rfl⟩))
    (fun os started H enc _ => lifted os started H enc)
theorem proved : Rows.FnPeaksAddSaid := over
#print axioms proved
end Go.Proofs.Ytdgepneaeieogac.fnPeaksAdd
