/- For every code of at most 1<<20 bytes (longer ones are let pass by the law itself): AdaptorReveal answers as the model's AdaptorReveal; what it answers is the secret of the point, with which AdaptorFinish answers the signature. -/
import Derived.Test.YtimajobbkemdbaaRows
import Derived.Test.YtimajobbkemdbaaAx
import Derived.Test.YtimajobbkemdbaaDn
import Derived.WalkKit
import Derived.WalkSpells
import Derived.ProofKit
import Derived.OpenShut
import Derived.ShutString
import Derived.Below
import Derived.SliceStrings
namespace Go.Proofs.Ytimajobbkemdbaa.fnAdaptorReveal
open Go.ChangeShapes Go.WideShapes Go.ChangeAt Go.RowKit
open Go.ChangeMaps (open_string shut_string)
set_option maxRecDepth 100000 in
set_option maxHeartbeats 1600000 in
theorem walk (a0 : Option Addr) (len0 cap0 : Nat) (z0 : List Int) (w : World) (w0 : IsRow .u8 w a0 len0 cap0 z0) :
    Calls Try.prog 6 #[.slice a0 len0 cap0] w fun e w' => e = .returned (.bool true) ∧ Below w.heap.size w w' := by
  have hcm := w0.len
  by_cases h : (1048576 : Int) < (len0 : Int)
  · go_enter Try.func6, Try.ntmps6
    go_wp2
    go_ret
    exact ⟨rfl, Below.refl _ _⟩
  go_enter Try.func6, Try.ntmps6
  go_wp2_with fail
  refine (drawAdaptorReveal_any a0 len0 cap0 z0 _ w0 (by omega)).mono ?_
  rintro e w1 ⟨K, R, S, P, R2, S2, t, rfl, ht, hb1⟩
  clear w0 h hcm
  have HA1 : Bk w1.heap.size 26 #[.int .i64 R, .int .i64 S, .int .i64 P] ((w1.alloc (.cells #[.int .i64 R, .int .i64 S, .int .i64 P] 26 (0, 0))).alloc (.cells #[.int .i64 R2, .int .i64 S2] 35 (0, 0))) := (Bk.new _ _ _).alloc _
  have HG1 : Bk (w1.heap.size + 1) 35 #[.int .i64 R2, .int .i64 S2] ((w1.alloc (.cells #[.int .i64 R, .int .i64 S, .int .i64 P] 26 (0, 0))).alloc (.cells #[.int .i64 R2, .int .i64 S2] 35 (0, 0))) := Bk.new' _ _ _ _ (by simp)
  have hc1 := below_alloc (below_alloc hb1 (.cells #[.int .i64 R, .int .i64 S, .int .i64 P] 26 (0, 0))) (.cells #[.int .i64 R2, .int .i64 S2] 35 (0, 0))
  clear hb1
  have hcon1 := fun W => implAdaptorReveal_any K R S P R2 S2 t W (by omega)
  have hcon2 := fun W => specAdaptorReveal_any K R S P R2 S2 t W (by omega)
  unfold Ad.r0 at hcon1 hcon2
  cases hr : Ad.rok K t R S P R2 S2
  · simp only [hr, Bool.false_eq_true, if_false] at hcon1 hcon2
    clear hr
    obtain ⟨a0, a1, a2⟩ := Bk.c3 HA1
    obtain ⟨g0, g1⟩ := Bk.c2 HG1
    go_wp2_with fail
    refine (hcon1 _).mono ?_
    rintro e2 w2 ⟨rfl, hb2⟩
    have HA2 := HA1.below hb2
    have HG2 := HG1.below hb2
    have hc2 := below_after hc1 hb2
    clear hb2 hc1 HA1 HG1
    clear a0 a1 a2
    clear g0 g1
    obtain ⟨a0, a1, a2⟩ := Bk.c3 HA2
    obtain ⟨g0, g1⟩ := Bk.c2 HG2
    go_wp2_with fail
    refine (hcon2 _).mono ?_
    rintro e3 w3 ⟨rfl, hb3⟩
    have HA3 := HA2.below hb3
    have HG3 := HG2.below hb3
    have hc3 := below_after hc2 hb3
    clear hb3 hc2 HA2 HG2
    go_wp2
    go_ret
    exact ⟨rfl, hc3⟩
  · simp only [hr, if_true] at hcon1 hcon2
    obtain ⟨h1, h2, h3, h4, h5⟩ := Ad.reveal hr
    have hcon3 := fun W => implKeyOf_any (Ad.dif S S2) W
    rw [Sg.key_ok h1, h2, h1] at hcon3
    have hcon4 := fun W => implAdaptorFinish_yes R S P (Ad.dif S S2) W h5
    rw [h4, ← h3] at hcon4
    obtain ⟨X, HX⟩ : ∃ X, Hid (Ad.dif S S2 = X) := ⟨_, Lib.hid rfl⟩
    rw [HX.out] at hcon1 hcon2 hcon3 hcon4
    have hq1 := fun W => eq_sig R2 S2 R2 S2 W
    simp only [beq_self_eq_true, Bool.and_true] at hq1
    have hq2 := noGuard_sig
    clear hr h1 h2 h3 h4 h5 HX
    obtain ⟨a0, a1, a2⟩ := Bk.c3 HA1
    obtain ⟨g0, g1⟩ := Bk.c2 HG1
    go_wp2_with fail
    refine (hcon1 _).mono ?_
    rintro e2 w2 ⟨rfl, hb2⟩
    have HA2 := HA1.below hb2
    have HG2 := HG1.below hb2
    have hc2 := below_after hc1 hb2
    clear hb2 hc1 HA1 HG1
    clear a0 a1 a2
    clear g0 g1
    obtain ⟨a0, a1, a2⟩ := Bk.c3 HA2
    obtain ⟨g0, g1⟩ := Bk.c2 HG2
    go_wp2_with fail
    refine (hcon2 _).mono ?_
    rintro e3 w3 ⟨rfl, hb3⟩
    have HA3 := HA2.below hb3
    have HG3 := HG2.below hb3
    have hc3 := below_after hc2 hb3
    clear hb3 hc2 HA2 HG2
    clear a0 a1 a2
    clear g0 g1
    obtain ⟨a0, a1, a2⟩ := Bk.c3 HA3
    obtain ⟨g0, g1⟩ := Bk.c2 HG3
    go_wp2_with fail
    refine (hcon3 _).mono ?_
    rintro e4 w4 ⟨rfl, hb4⟩
    have HA4 := HA3.below hb4
    have HG4 := HG3.below hb4
    have hc4 := below_after hc3 hb4
    clear hb4 hc3 HA3 HG3
    clear a0 a1 a2
    clear g0 g1
    obtain ⟨a0, a1, a2⟩ := Bk.c3 HA4
    obtain ⟨g0, g1⟩ := Bk.c2 HG4
    go_wp2_with fail
    refine (hcon4 _).mono ?_
    rintro e5 w5 ⟨rfl, hb5⟩
    have HA5 := (HA4.below hb5).alloc (.cells #[.int .i64 R2, .int .i64 S2] 35 (0, 0))
    have HG5 := (HG4.below hb5).alloc (.cells #[.int .i64 R2, .int .i64 S2] 35 (0, 0))
    have HY5 : Bk (w5.heap.size) 35 #[.int .i64 R2, .int .i64 S2] _ := Bk.new (w5) 35 #[.int .i64 R2, .int .i64 S2]
    have hc5 := below_alloc (below_after hc4 hb5) (.cells #[.int .i64 R2, .int .i64 S2] 35 (0, 0))
    clear hb5 hc4 HA4 HG4
    clear a0 a1 a2
    clear g0 g1
    obtain ⟨a0, a1, a2⟩ := Bk.c3 HA5
    obtain ⟨g0, g1⟩ := Bk.c2 HG5
    obtain ⟨y0, y1⟩ := Bk.c2 HY5
    go_wp2
    go_ret
    exact ⟨rfl, hc5⟩
/-! ### The row's step. -/
theorem own : ownKnob Try.prog.godebug = none := by kernel_rfl
theorem laidOut : laidOutB Try.prog = true := by kernel_rfl
set_option maxRecDepth 100000 in
theorem lifted (os : Os) (started : os.Started) (H : Type) (enc : TypeId × Value → H) :
    ReturnsInHanded {} Try.checked os 6 .any (Rows.fnAdaptorRevealSpec.pre6 enc Try.prog Try.f6 Rows.fnAdaptorRevealRow.domain false) (Rows.fnAdaptorRevealSpec.post enc Try.prog Try.f6 false true false false) := by
  refine returnsInHanded_of_change (C := Try.checked) own started (by kernel_rfl) Try.func6
    (ChangeSpec.witness6 (enc := enc) (C := Try.checked) false ⟨#[], #[.slice none 0 0], []⟩ 8 (by kernel_rfl) (by kernel_rfl) (by kernel_rfl) (by kernel_rfl)) ?_
  intro W base args ds gs before hval0 hW hcnd _
  have hval : ∀ (j : Nat) t v, Try.f6.params[j]? = some t → args[j]? = some v → Value.okWide Try.prog W .any base t v := hval0
  have hW' := hW
  obtain ⟨p, q, hA0, hV, rfl, hfz, hnd⟩ := hW
  have hA : DataW.TrodAll enc Try.prog W 0 (fun _ => true) true Try.f6.params.toList args.toList ds p := hA0
  rw [Try.params6] at hA hval
  obtain ⟨v0, vs0, d0, ds0, p0, q0, hargs, rfl, rfl, h0, r0⟩ := trodAll_cons hA
  obtain ⟨rfl, rfl, rfl⟩ := trodAll_nil r0
  obtain rfl : args = #[v0] := by cases args; simp_all
  obtain ⟨rfl, rfl⟩ := trodVars_none hV
  obtain ⟨a0, len0, cap0, rfl⟩ := okWide_slice Try.underlying22 (hval 0 22 v0 rfl rfl)
  have k0 := h0
  have lt0 : ∀ x ∈ p0, x.block < W.heap.size := by obtain ⟨m, hm⟩ := k0; exact DataW.trod_lt m _ _ _ hm
  obtain ⟨z0, w0⟩ : ∃ zs, IsRow .u8 W a0 len0 cap0 zs := by
    obtain ⟨fuel, hf⟩ := h0
    rcases open_ints Try.underlying22 Try.underlying5 (by kernel_rfl) hf with ⟨hcs, _⟩ | ⟨x, l, c, zs, hcs, _, hl, hm, hz, _, hcell, hwz⟩
    · simp [Value.cells] at hcs
      obtain ⟨rfl, rfl, rfl⟩ := hcs
      exact ⟨[], .inl ⟨rfl, rfl, rfl, rfl⟩⟩
    · simp [Value.cells] at hcs
      obtain ⟨rfl, rfl, rfl⟩ := hcs
      exact ⟨zs, .inr ⟨_, rfl, hl, hm, by simpa using hz, hcell, hwz⟩⟩
  clear hA0 hval0
  refine (walk a0 len0 cap0 z0 W w0).mono fun e W' ⟨he, bel⟩ => ?_
  subst he
  exact ⟨_, rfl, _, _, _, [], _, [], hW', trodAll_mk1 (shut_bool Try.underlying4 _), (trodAll_cons_mk (Below.trod laidOut (by kernel_rfl) (of_decide_eq_true (by kernel_rfl)) k0 bel lt0) trodAll_mk0), rfl, bel.frame _, fun h => by cases h⟩
theorem over : Rows.fnAdaptorRevealRow.holds Try.pinned (OpenSpec.ofChange Rows.fnAdaptorRevealSpec) :=
  OpenClaim.holds_of_wide 6 Try.f6 rfl rfl rfl rfl rfl rfl rfl ⟨rfl, rfl, rfl, rfl, rfl⟩ rfl rfl rfl rfl rfl (by kernel_rfl) Try.func6 (by kernel_rfl)
    (of_decide_eq_true (by kernel_rfl)) (by unfold Func.isWrapper; first | (rw [if_pos (by decide +kernel)]; kernel_rfl) | (rw [if_neg (by decide +kernel)]; exact ⟨rfl, rfl⟩))
    (fun os started H enc _ => lifted os started H enc)
theorem proved : Rows.FnAdaptorRevealSaid := over
#print axioms proved
end Go.Proofs.Ytimajobbkemdbaa.fnAdaptorReveal
