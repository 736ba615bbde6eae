/- For every code of at most 1<<20 bytes (longer ones are let pass by the law itself): Verify answers as the model's Verify; of each R there is one S: the next S isn't valid; what is valid has a key and an element. -/
import Derived.Test.YtnjgdbfiebaomaaRows
import Derived.Test.YtnjgdbfiebaomaaSk
import Derived.Test.YtnjgdbfiebaomaaDh
import Derived.WalkKit
import Derived.WalkSpells
import Derived.ProofKit
import Derived.OpenShut
import Derived.ShutString
import Derived.Below
import Derived.SliceStrings
namespace Go.Proofs.Ytnjgdbfiebaomaa.fnVerify
open Go.ChangeShapes Go.WideShapes Go.ChangeAt Go.RowKit
open Go.ChangeMaps (open_string shut_string)
set_option maxRecDepth 100000 in
set_option maxHeartbeats 1600000 in
theorem walk (a0 : Option Addr) (len0 cap0 : Nat) (z0 : List Int) (w : World) (w0 : IsRow .u8 w a0 len0 cap0 z0) :
    Calls Try.prog 5 #[.slice a0 len0 cap0] w fun e w' => e = .returned (.bool true) ∧ Below w.heap.size w w' := by
  have hcm := w0.len
  by_cases h : (1048576 : Int) < (len0 : Int)
  · go_enter Try.func5, Try.ntmps5
    go_wp2
    go_ret
    exact ⟨rfl, Below.refl _ _⟩
  go_enter Try.func5, Try.ntmps5
  go_wp2_with fail
  refine (drawVerify_any a0 len0 cap0 z0 _ w0 (by omega)).mono ?_
  rintro e w1 ⟨K, R, S, t, rfl, ht, R0, R1, S0, S1, hb1⟩
  clear w0 h hcm
  have HX1 : Bk w1.heap.size 31 #[.int .i64 R, .int .i64 S] (w1.alloc (.cells #[.int .i64 R, .int .i64 S] 31 (0, 0))) := Bk.new _ _ _
  replace hb1 := below_alloc hb1 (.cells #[.int .i64 R, .int .i64 S] 31 (0, 0))
  have hcon1 := fun W => implVerify_any K R S t W (by omega)
  have hcon2 := fun W => specVerify_any K R S t W (by omega)
  cases hv : Sg.ver K t R S
  · rw [hv] at hcon1 hcon2
    clear hv
    obtain ⟨c1, d1⟩ := Bk.c2 HX1
    go_wp2_with fail
    refine (hcon1 _).mono ?_
    rintro e w2 ⟨rfl, hb2⟩
    have HX2 := HX1.below hb2
    obtain ⟨c2, d2⟩ := Bk.c2 HX2
    replace hb2 := below_after hb1 hb2
    clear hb1
    go_wp2_with fail
    refine (hcon2 _).mono ?_
    rintro e w3 ⟨rfl, hb3⟩
    have HX3 := HX2.below hb3
    obtain ⟨c3, d3⟩ := Bk.c2 HX3
    replace hb3 := below_after hb2 hb3
    clear hb2
    go_wp2
    go_ret
    exact ⟨rfl, hb3⟩
  · have hn := Sg.ver_next hv
    obtain ⟨k1, k2, s0, s1⟩ := Sg.ver_kok hv
    have hcon3 := fun W => implVerify_any K R ((S + 1) % 1073741789) t W (by omega)
    have hcon4 := implKeyOk_any K
    have hcon5 := implGroupOk_any R
    rw [hv] at hcon1 hcon2
    rw [hn] at hcon3
    rw [k1] at hcon4
    rw [k2] at hcon5
    clear hv hn k1 k2
    obtain ⟨c1, d1⟩ := Bk.c2 HX1
    go_wp2_with fail
    refine (hcon1 _).mono ?_
    rintro e w2 ⟨rfl, hb2⟩
    have HX2 := HX1.below hb2
    obtain ⟨c2, d2⟩ := Bk.c2 HX2
    replace hb2 := below_after hb1 hb2
    clear hb1
    go_wp2_with fail
    refine (hcon2 _).mono ?_
    rintro e w3 ⟨rfl, hb3⟩
    have HX3 := HX2.below hb3
    obtain ⟨c3, d3⟩ := Bk.c2 HX3
    replace hb3 := below_after hb2 hb3
    clear hb2
    go_wp2_with fail
    refine (hcon3 _).mono ?_
    rintro e w4 ⟨rfl, hb4⟩
    have HX4 := HX3.below hb4
    obtain ⟨c4, d4⟩ := Bk.c2 HX4
    replace hb4 := below_after hb3 hb4
    clear hb3
    go_wp2_with fail
    refine (hcon4 _).mono ?_
    rintro e w5 ⟨rfl, hb5⟩
    have HX5 := HX4.below hb5
    obtain ⟨c5, d5⟩ := Bk.c2 HX5
    replace hb5 := below_after hb4 hb5
    clear hb4
    go_wp2_with fail
    refine (hcon5 _).mono ?_
    rintro e w6 ⟨rfl, hb6⟩
    have HX6 := HX5.below hb6
    obtain ⟨c6, d6⟩ := Bk.c2 HX6
    replace hb6 := below_after hb5 hb6
    clear hb5
    go_wp2
    go_ret
    exact ⟨rfl, hb6⟩
/-! ### The row's step. -/
theorem own : ownKnob Try.prog.godebug = none := by kernel_rfl
theorem laidOut : laidOutB Try.prog = true := by kernel_rfl
set_option maxRecDepth 100000 in
theorem lifted (os : Os) (started : os.Started) (H : Type) (enc : TypeId × Value → H) :
    ReturnsInHanded {} Try.checked os 5 .any (Rows.fnVerifySpec.pre6 enc Try.prog Try.f5 Rows.fnVerifyRow.domain false) (Rows.fnVerifySpec.post enc Try.prog Try.f5 false true false false) := by
  refine returnsInHanded_of_change (C := Try.checked) own started (by kernel_rfl) Try.func5
    (ChangeSpec.witness6 (enc := enc) (C := Try.checked) false ⟨#[], #[.slice none 0 0], []⟩ 8 (by kernel_rfl) (by kernel_rfl) (by kernel_rfl) (by kernel_rfl)) ?_
  intro W base args ds gs before hval0 hW hcnd _
  have hval : ∀ (j : Nat) t v, Try.f5.params[j]? = some t → args[j]? = some v → Value.okWide Try.prog W .any base t v := hval0
  have hW' := hW
  obtain ⟨p, q, hA0, hV, rfl, hfz, hnd⟩ := hW
  have hA : DataW.TrodAll enc Try.prog W 0 (fun _ => true) true Try.f5.params.toList args.toList ds p := hA0
  rw [Try.params5] at hA hval
  obtain ⟨v0, vs0, d0, ds0, p0, q0, hargs, rfl, rfl, h0, r0⟩ := trodAll_cons hA
  obtain ⟨rfl, rfl, rfl⟩ := trodAll_nil r0
  obtain rfl : args = #[v0] := by cases args; simp_all
  obtain ⟨rfl, rfl⟩ := trodVars_none hV
  obtain ⟨a0, len0, cap0, rfl⟩ := okWide_slice Try.underlying22 (hval 0 22 v0 rfl rfl)
  have k0 := h0
  have lt0 : ∀ x ∈ p0, x.block < W.heap.size := by obtain ⟨m, hm⟩ := k0; exact DataW.trod_lt m _ _ _ hm
  obtain ⟨z0, w0⟩ : ∃ zs, IsRow .u8 W a0 len0 cap0 zs := by
    obtain ⟨fuel, hf⟩ := h0
    rcases open_ints Try.underlying22 Try.underlying5 (by kernel_rfl) hf with ⟨hcs, _⟩ | ⟨x, l, c, zs, hcs, _, hl, hm, hz, _, hcell, hwz⟩
    · simp [Value.cells] at hcs
      obtain ⟨rfl, rfl, rfl⟩ := hcs
      exact ⟨[], .inl ⟨rfl, rfl, rfl, rfl⟩⟩
    · simp [Value.cells] at hcs
      obtain ⟨rfl, rfl, rfl⟩ := hcs
      exact ⟨zs, .inr ⟨_, rfl, hl, hm, by simpa using hz, hcell, hwz⟩⟩
  clear hA0 hval0
  refine (walk a0 len0 cap0 z0 W w0).mono fun e W' ⟨he, bel⟩ => ?_
  subst he
  exact ⟨_, rfl, _, _, _, [], _, [], hW', trodAll_mk1 (shut_bool Try.underlying4 _), (trodAll_cons_mk (Below.trod laidOut (by kernel_rfl) (of_decide_eq_true (by kernel_rfl)) k0 bel lt0) trodAll_mk0), rfl, bel.frame _, fun h => by cases h⟩
theorem over : Rows.fnVerifyRow.holds Try.pinned (OpenSpec.ofChange Rows.fnVerifySpec) :=
  OpenClaim.holds_of_wide 5 Try.f5 rfl rfl rfl rfl rfl rfl rfl ⟨rfl, rfl, rfl, rfl, rfl⟩ rfl rfl rfl rfl rfl (by kernel_rfl) Try.func5 (by kernel_rfl)
    (of_decide_eq_true (by kernel_rfl)) (by unfold Func.isWrapper; first | (rw [if_pos (by decide +kernel)]; kernel_rfl) | (rw [if_neg (by decide +kernel)]; exact ⟨rfl, rfl⟩))
    (fun os started H enc _ => lifted os started H enc)
theorem proved : Rows.FnVerifySaid := over
#print axioms proved
end Go.Proofs.Ytnjgdbfiebaomaa.fnVerify
