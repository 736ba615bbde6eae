/- For every code of at most 1<<20 bytes (longer ones are let pass by the law itself): EncodeTexts writes what the model writes, and DecodeTexts reads it back. -/
import Derived.Test.YtlhcanokimjonabRows
import Derived.Test.YtlhcanokimjonabDt
import Derived.Test.YtlhcanokimjonabTe
import Derived.Test.YtlhcanokimjonabTd
import Derived.WalkKit
import Derived.WalkSpells
import Derived.ProofKit
import Derived.OpenShut
import Derived.ShutString
import Derived.Below
import Derived.SliceStrings
namespace Go.Proofs.Ytlhcanokimjonab.fnEncodeTexts
open Go.ChangeShapes Go.WideShapes Go.ChangeAt Go.RowKit
open Go.ChangeMaps (open_string shut_string)
set_option maxRecDepth 100000 in
set_option maxHeartbeats 1600000 in
theorem walk (a0 : Option Addr) (len0 cap0 : Nat) (z0 : List Int) (w : World) (w0 : IsRow .u8 w a0 len0 cap0 z0) :
    Calls Try.prog 8 #[.slice a0 len0 cap0] w fun e w' => e = .returned (.bool true) ∧ Below w.heap.size w w' := by
  have hcm := w0.len
  by_cases h : (1048576 : Int) < (len0 : Int)
  · go_enter Try.func8, Try.ntmps8
    go_wp2
    go_ret
    exact ⟨rfl, Below.refl _ _⟩
  go_enter Try.func8, Try.ntmps8
  go_wp2_with fail
  refine (drawEncodeTexts_any a0 len0 cap0 z0 _ w0 (by omega)).mono ?_
  rintro e w1 ⟨ss, g, cp, rfl, hm, hz, hb1, hown1⟩
  clear w0
  have HS := Lib.hid (SR.own hown1).2
  have HF : Hid (En.fit ss 40) := Lib.hid ⟨fun s hs => by have := hz s hs; omega, by omega⟩
  have HD := Lib.hid (En.decTs_texts ss HF.out)
  clear hown1 hz
  go_wp2_with fail
  refine (implEncodeTexts_any _ ss.length cp ss _ HS.out (by omega)).mono ?_
  rintro e w2 ⟨hor, hb2⟩
  obtain rfl : e = .returned (.tuple #[.string (En.texts ss), .bool true]) := by
    rcases hor with ⟨_, h⟩ | ⟨h, _⟩
    · exact h
    · exact absurd HF.out h
  have HS2 := Lib.hid (HS.out.below hb2)
  have hbA := hb1.trans (hb2.mono hb1.size)
  clear hor hb1 hb2
  go_wp2_with fail
  refine (specEncodeTexts_ok _ ss.length cp ss _ HS2.out HF.out).mono ?_
  rintro e w3 ⟨rfl, hb3⟩
  have HS3 := Lib.hid (HS2.out.below hb3)
  have hbB := hbA.trans (hb3.mono hbA.size)
  clear hbA hb3
  go_wp2_with fail
  refine (implDecodeTexts_any (En.texts ss) _).mono fun e w4 hr => ?_
  obtain ⟨a4, cap4, rfl, hown4, hb4⟩ : ∃ a cap, e = .returned (.tuple #[.slice a ss.length cap, .bool true]) ∧ w4.ownsRow w3.heap.size 9 1 (.slice a ss.length cap) ss.length (ss.map Value.string) ∧ Below w3.heap.size w3 w4 := by
    rcases hr with ⟨⟨h1, _⟩ | ⟨l, a, cap, h1, h2, h3⟩, h4⟩
    · rw [HD.out] at h1; cases h1
    · rw [HD.out] at h1
      cases h1
      exact ⟨a, cap, h2, h3, h4⟩
  have HS4 := Lib.hid (HS3.out.below hb4)
  have HO4 := Lib.hid (SR.own hown4).2
  have hbC := hbB.trans (hb4.mono hbB.size)
  clear hr hown4 hb4 hbB
  go_wp2_with fail
  refine (wcTexts_any a4 _ ss.length cap4 cp ss _ HO4.out HS4.out (by omega)).mono ?_
  rintro e w5 ⟨rfl, hb5⟩
  go_wp2
  go_ret
  exact ⟨rfl, hbC.trans (hb5.mono hbC.size)⟩
/-! ### The row's step. -/
theorem own : ownKnob Try.prog.godebug = none := by kernel_rfl
theorem laidOut : laidOutB Try.prog = true := by kernel_rfl
set_option maxRecDepth 100000 in
theorem lifted (os : Os) (started : os.Started) (H : Type) (enc : TypeId × Value → H) :
    ReturnsInHanded {} Try.checked os 8 .any (Rows.fnEncodeTextsSpec.pre6 enc Try.prog Try.f8 Rows.fnEncodeTextsRow.domain false) (Rows.fnEncodeTextsSpec.post enc Try.prog Try.f8 false true false false) := by
  refine returnsInHanded_of_change (C := Try.checked) own started (by kernel_rfl) Try.func8
    (ChangeSpec.witness6 (enc := enc) (C := Try.checked) false ⟨#[], #[.slice none 0 0], []⟩ 8 (by kernel_rfl) (by kernel_rfl) (by kernel_rfl) (by kernel_rfl)) ?_
  intro W base args ds gs before hval0 hW hcnd _
  have hval : ∀ (j : Nat) t v, Try.f8.params[j]? = some t → args[j]? = some v → Value.okWide Try.prog W .any base t v := hval0
  have hW' := hW
  obtain ⟨p, q, hA0, hV, rfl, hfz, hnd⟩ := hW
  have hA : DataW.TrodAll enc Try.prog W 0 (fun _ => true) true Try.f8.params.toList args.toList ds p := hA0
  rw [Try.params8] at hA hval
  obtain ⟨v0, vs0, d0, ds0, p0, q0, hargs, rfl, rfl, h0, r0⟩ := trodAll_cons hA
  obtain ⟨rfl, rfl, rfl⟩ := trodAll_nil r0
  obtain rfl : args = #[v0] := by cases args; simp_all
  obtain ⟨rfl, rfl⟩ := trodVars_none hV
  obtain ⟨a0, len0, cap0, rfl⟩ := okWide_slice Try.underlying22 (hval 0 22 v0 rfl rfl)
  have k0 := h0
  have lt0 : ∀ x ∈ p0, x.block < W.heap.size := by obtain ⟨m, hm⟩ := k0; exact DataW.trod_lt m _ _ _ hm
  obtain ⟨z0, w0⟩ : ∃ zs, IsRow .u8 W a0 len0 cap0 zs := by
    obtain ⟨fuel, hf⟩ := h0
    rcases open_ints Try.underlying22 Try.underlying5 (by kernel_rfl) hf with ⟨hcs, _⟩ | ⟨x, l, c, zs, hcs, _, hl, hm, hz, _, hcell, hwz⟩
    · simp [Value.cells] at hcs
      obtain ⟨rfl, rfl, rfl⟩ := hcs
      exact ⟨[], .inl ⟨rfl, rfl, rfl, rfl⟩⟩
    · simp [Value.cells] at hcs
      obtain ⟨rfl, rfl, rfl⟩ := hcs
      exact ⟨zs, .inr ⟨_, rfl, hl, hm, by simpa using hz, hcell, hwz⟩⟩
  clear hA0 hval0
  refine (walk a0 len0 cap0 z0 W w0).mono fun e W' ⟨he, bel⟩ => ?_
  subst he
  exact ⟨_, rfl, _, _, _, [], _, [], hW', trodAll_mk1 (shut_bool Try.underlying4 _), (trodAll_cons_mk (Below.trod laidOut (by kernel_rfl) (of_decide_eq_true (by kernel_rfl)) k0 bel lt0) trodAll_mk0), rfl, bel.frame _, fun h => by cases h⟩
theorem over : Rows.fnEncodeTextsRow.holds Try.pinned (OpenSpec.ofChange Rows.fnEncodeTextsSpec) :=
  OpenClaim.holds_of_wide 8 Try.f8 rfl rfl rfl rfl rfl rfl rfl ⟨rfl, rfl, rfl, rfl, rfl⟩ rfl rfl rfl rfl rfl (by kernel_rfl) Try.func8 (by kernel_rfl)
    (of_decide_eq_true (by kernel_rfl)) (by unfold Func.isWrapper; first | (rw [if_pos (by decide +kernel)]; kernel_rfl) | (rw [if_neg (by decide +kernel)]; exact ⟨rfl, rfl⟩))
    (fun os started H enc _ => lifted os started H enc)
theorem proved : Rows.FnEncodeTextsSaid := over
#print axioms proved
end Go.Proofs.Ytlhcanokimjonab.fnEncodeTexts
