/- For every code of at most 1<<20 bytes (longer ones are let pass by the law itself): DecodeTexts reads what the model reads, and EncodeTexts writes what was read back. -/
import Derived.Test.YtlhcanokimjonacRows
import Derived.Test.YtlhcanokimjonacDt
import Derived.Test.YtlhcanokimjonacTe
import Derived.Test.YtlhcanokimjonacTd
import Derived.WalkKit
import Derived.WalkSpells
import Derived.ProofKit
import Derived.OpenShut
import Derived.ShutString
import Derived.Below
import Derived.SliceStrings
namespace Go.Proofs.Ytlhcanokimjonac.fnDecodeTexts
open Go.ChangeShapes Go.WideShapes Go.ChangeAt Go.RowKit
open Go.ChangeMaps (open_string shut_string)
set_option maxRecDepth 100000 in
set_option maxHeartbeats 1600000 in
theorem walk (a0 : Option Addr) (len0 cap0 : Nat) (z0 : List Int) (w : World) (w0 : IsRow .u8 w a0 len0 cap0 z0) :
    Calls Try.prog 4 #[.slice a0 len0 cap0] w fun e w' => e = .returned (.bool true) ∧ Below w.heap.size w w' := by
  have hcm := w0.len
  by_cases h : (1048576 : Int) < (len0 : Int)
  · go_enter Try.func4, Try.ntmps4
    go_wp2
    go_ret
    exact ⟨rfl, Below.refl _ _⟩
  go_enter Try.func4, Try.ntmps4
  go_wp2_with fail
  refine (drawDecodeTexts_any l1Texts_any a0 len0 cap0 z0 _ w0 (by omega)).mono ?_
  rintro e w1 ⟨s, rfl, hs, hb1⟩
  clear w0
  cases hd : En.decTs s with
  | none =>
    have HNO : Hid (∀ W e W', DecR s W e W' → e = .returned (.tuple #[.slice none 0 0, .bool false]) ∧ Below W.heap.size W W') := Lib.hid (by
      intro W e W' h
      rcases h with ⟨⟨_, h1⟩ | ⟨l, _, _, h1, _⟩, h2⟩
      · exact ⟨h1, h2⟩
      · rw [hd] at h1; cases h1)
    have HNI : Hid (∀ W, SR W none 0 []) := Lib.hid fun W => ⟨rfl, fun h => absurd h (by omega)⟩
    clear hd
    go_wp2_with fail
    refine (implDecodeTexts_any s _).mono fun e w2 hr => ?_
    obtain ⟨rfl, hb2⟩ := HNO.out _ _ _ hr
    have hbA := hb1.trans (hb2.mono hb1.size)
    clear hr hb1 hb2
    go_wp2_with fail
    refine (specDecodeTexts_any s _).mono fun e w3 hr => ?_
    obtain ⟨rfl, hb3⟩ := HNO.out _ _ _ hr
    have hbB := hbA.trans (hb3.mono hbA.size)
    clear hr hbA hb3
    go_wp2_with fail
    refine (wcTexts_any none none 0 0 0 [] _ (HNI.out _) (HNI.out _) (by omega)).mono ?_
    rintro e w4 ⟨rfl, hb4⟩
    go_wp2
    go_ret
    exact ⟨rfl, hbB.trans (hb4.mono hbB.size)⟩
  | some ss =>
    have HNO : Hid (∀ W e W', DecR s W e W' → ∃ a cap, e = .returned (.tuple #[.slice a ss.length cap, .bool true]) ∧ W'.ownsRow W.heap.size 9 1 (.slice a ss.length cap) ss.length (ss.map Value.string) ∧ Below W.heap.size W W') := Lib.hid (by
      intro W e W' h
      rcases h with ⟨⟨h1, _⟩ | ⟨l, a, cap, h1, h2, h3⟩, h4⟩
      · rw [hd] at h1; cases h1
      · rw [hd] at h1
        cases h1
        exact ⟨a, cap, h2, h3, h4⟩)
    have HT := Lib.hid (En.texts_decTs hd)
    have h40 := HT.out.2.2
    clear hd
    go_wp2_with fail
    refine (implDecodeTexts_any s _).mono fun e w2 hr => ?_
    obtain ⟨a2, cap2, rfl, hown2, hb2⟩ := HNO.out _ _ _ hr
    have HS2 := Lib.hid (SR.own hown2).2
    have hbA := hb1.trans (hb2.mono hb1.size)
    clear hr hown2 hb1 hb2
    go_wp2_with fail
    refine (specDecodeTexts_any s _).mono fun e w3 hr => ?_
    obtain ⟨a3, cap3, rfl, hown3, hb3⟩ := HNO.out _ _ _ hr
    have HS3 := Lib.hid (SR.own hown3).2
    have HS23 := Lib.hid (HS2.out.below hb3)
    have hbB := hbA.trans (hb3.mono hbA.size)
    clear hr hown3 hbA hb3
    go_wp2_with fail
    refine (wcTexts_any a2 a3 ss.length cap2 cap3 ss _ HS23.out HS3.out (by omega)).mono ?_
    rintro e w4 ⟨rfl, hb4⟩
    have HS24 := Lib.hid (HS23.out.below hb4)
    have hbC := hbB.trans (hb4.mono hbB.size)
    clear hbB hb4
    go_wp2_with fail
    refine (implEncodeTexts_any a2 ss.length cap2 ss _ HS24.out (by omega)).mono ?_
    rintro e w5 ⟨hor, hb5⟩
    obtain rfl : e = .returned (.tuple #[.string s, .bool true]) := by
      rcases hor with ⟨_, h⟩ | ⟨h, _⟩
      · rw [HT.out.1] at h; exact h
      · exact absurd HT.out.2 h
    clear hor
    go_wp2
    go_ret
    exact ⟨rfl, hbC.trans (hb5.mono hbC.size)⟩
/-! ### The row's step. -/
theorem own : ownKnob Try.prog.godebug = none := by kernel_rfl
theorem laidOut : laidOutB Try.prog = true := by kernel_rfl
set_option maxRecDepth 100000 in
theorem lifted (os : Os) (started : os.Started) (H : Type) (enc : TypeId × Value → H) :
    ReturnsInHanded {} Try.checked os 4 .any (Rows.fnDecodeTextsSpec.pre6 enc Try.prog Try.f4 Rows.fnDecodeTextsRow.domain false) (Rows.fnDecodeTextsSpec.post enc Try.prog Try.f4 false true false false) := by
  refine returnsInHanded_of_change (C := Try.checked) own started (by kernel_rfl) Try.func4
    (ChangeSpec.witness6 (enc := enc) (C := Try.checked) false ⟨#[], #[.slice none 0 0], []⟩ 8 (by kernel_rfl) (by kernel_rfl) (by kernel_rfl) (by kernel_rfl)) ?_
  intro W base args ds gs before hval0 hW hcnd _
  have hval : ∀ (j : Nat) t v, Try.f4.params[j]? = some t → args[j]? = some v → Value.okWide Try.prog W .any base t v := hval0
  have hW' := hW
  obtain ⟨p, q, hA0, hV, rfl, hfz, hnd⟩ := hW
  have hA : DataW.TrodAll enc Try.prog W 0 (fun _ => true) true Try.f4.params.toList args.toList ds p := hA0
  rw [Try.params4] at hA hval
  obtain ⟨v0, vs0, d0, ds0, p0, q0, hargs, rfl, rfl, h0, r0⟩ := trodAll_cons hA
  obtain ⟨rfl, rfl, rfl⟩ := trodAll_nil r0
  obtain rfl : args = #[v0] := by cases args; simp_all
  obtain ⟨rfl, rfl⟩ := trodVars_none hV
  obtain ⟨a0, len0, cap0, rfl⟩ := okWide_slice Try.underlying28 (hval 0 28 v0 rfl rfl)
  have k0 := h0
  have lt0 : ∀ x ∈ p0, x.block < W.heap.size := by obtain ⟨m, hm⟩ := k0; exact DataW.trod_lt m _ _ _ hm
  obtain ⟨z0, w0⟩ : ∃ zs, IsRow .u8 W a0 len0 cap0 zs := by
    obtain ⟨fuel, hf⟩ := h0
    rcases open_ints Try.underlying28 Try.underlying5 (by kernel_rfl) hf with ⟨hcs, _⟩ | ⟨x, l, c, zs, hcs, _, hl, hm, hz, _, hcell, hwz⟩
    · simp [Value.cells] at hcs
      obtain ⟨rfl, rfl, rfl⟩ := hcs
      exact ⟨[], .inl ⟨rfl, rfl, rfl, rfl⟩⟩
    · simp [Value.cells] at hcs
      obtain ⟨rfl, rfl, rfl⟩ := hcs
      exact ⟨zs, .inr ⟨_, rfl, hl, hm, by simpa using hz, hcell, hwz⟩⟩
  clear hA0 hval0
  refine (walk a0 len0 cap0 z0 W w0).mono fun e W' ⟨he, bel⟩ => ?_
  subst he
  exact ⟨_, rfl, _, _, _, [], _, [], hW', trodAll_mk1 (shut_bool Try.underlying4 _), (trodAll_cons_mk (Below.trod laidOut (by kernel_rfl) (of_decide_eq_true (by kernel_rfl)) k0 bel lt0) trodAll_mk0), rfl, bel.frame _, fun h => by cases h⟩
theorem over : Rows.fnDecodeTextsRow.holds Try.pinned (OpenSpec.ofChange Rows.fnDecodeTextsSpec) :=
  OpenClaim.holds_of_wide 4 Try.f4 rfl rfl rfl rfl rfl rfl rfl ⟨rfl, rfl, rfl, rfl, rfl⟩ rfl rfl rfl rfl rfl (by kernel_rfl) Try.func4 (by kernel_rfl)
    (of_decide_eq_true (by kernel_rfl)) (by unfold Func.isWrapper; first | (rw [if_pos (by decide +kernel)]; kernel_rfl) | (rw [if_neg (by decide +kernel)]; exact ⟨rfl, rfl⟩))
    (fun os started H enc _ => lifted os started H enc)
theorem proved : Rows.FnDecodeTextsSaid := over
#print axioms proved
end Go.Proofs.Ytlhcanokimjonac.fnDecodeTexts
