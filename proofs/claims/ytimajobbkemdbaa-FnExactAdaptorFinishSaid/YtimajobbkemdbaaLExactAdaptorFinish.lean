/- For every adaptor signature and every number, AdaptorFinish of the program answers as the model's AdaptorFinish. -/
import Derived.Test.YtimajobbkemdbaaRows
import Derived.Test.YtimajobbkemdbaaAx
import Derived.WalkKit
import Derived.WalkSpells
import Derived.ProofKit
import Derived.OpenShut
import Derived.ShutString
import Derived.Below
import Derived.SliceStrings
namespace Go.Proofs.Ytimajobbkemdbaa.fnExactAdaptorFinish
open Go.ChangeShapes Go.WideShapes Go.ChangeAt Go.RowKit
open Go.ChangeMaps (open_string shut_string)
set_option maxRecDepth 100000 in
set_option maxHeartbeats 1600000 in
theorem walk (r s p : Int) (_ : (Lit.int .i64 r).wf = true) (_ : (Lit.int .i64 s).wf = true) (_ : (Lit.int .i64 p).wf = true) (u : Int) (_ : (Lit.int .i64 u).wf = true) (w : World) :
    Calls Try.prog 9 #[.agg #[.int .i64 r, .int .i64 s, .int .i64 p], .int .i64 u] w fun e w' => e = .returned (.bool true) ∧ Below w.heap.size w w' := by
  have HA0 : Bk w.heap.size 49 #[.int .i64 r, .int .i64 s, .int .i64 p] (w.alloc (.cells #[.int .i64 r, .int .i64 s, .int .i64 p] 49 (0, 0))) := Bk.new _ _ _
  have hc0 := below_alloc (Below.refl w.heap.size w) (.cells #[.int .i64 r, .int .i64 s, .int .i64 p] 49 (0, 0))
  have hcon1 := fun W => specAdaptorFinish_any r s p u W
  have hcon2 := fun W => implAdaptorFinish_any r s p u W
  obtain ⟨R, HR⟩ : ∃ R, Hid (Ad.f0 r s p u = R) := ⟨_, Lib.hid rfl⟩
  obtain ⟨S, HS⟩ : ∃ S, Hid (Ad.f1 r s p u = S) := ⟨_, Lib.hid rfl⟩
  obtain ⟨ok, HO⟩ : ∃ ok, Hid (Ad.fok r s p u = ok) := ⟨_, Lib.hid rfl⟩
  rw [HR.out, HS.out, HO.out] at hcon1 hcon2
  clear HR HS HO
  go_enter Try.func9, Try.ntmps9
  obtain ⟨a0, a1, a2⟩ := Bk.c3 HA0
  go_wp2_with fail
  refine (toAdaptor_any r s p _).mono ?_
  rintro e1 w1 ⟨rfl, hb1⟩
  have HA1 := HA0.below hb1
  have hc1 := below_after hc0 hb1
  clear hb1 hc0 HA0
  clear a0 a1 a2
  obtain ⟨a0, a1, a2⟩ := Bk.c3 HA1
  go_wp2_with fail
  refine (hcon1 _).mono ?_
  rintro e2 w2 ⟨rfl, hb2⟩
  have HA2 := (HA1.below hb2).alloc (.cells #[.int .i64 R, .int .i64 S] 35 (0, 0))
  have HX2 : Bk (w2.heap.size) 35 #[.int .i64 R, .int .i64 S] _ := Bk.new (w2) 35 #[.int .i64 R, .int .i64 S]
  have hc2 := below_alloc (below_after hc1 hb2) (.cells #[.int .i64 R, .int .i64 S] 35 (0, 0))
  clear hb2 hc1 HA1
  clear a0 a1 a2
  obtain ⟨a0, a1, a2⟩ := Bk.c3 HA2
  go_wp2_with fail
  refine (toAdaptor_any r s p _).mono ?_
  rintro e3 w3 ⟨rfl, hb3⟩
  have HA3 := HA2.below hb3
  have HX3 := HX2.below hb3
  have hc3 := below_after hc2 hb3
  clear hb3 hc2 HA2 HX2
  clear a0 a1 a2
  go_wp2_with fail
  refine (hcon2 _).mono ?_
  rintro e4 w4 ⟨rfl, hb4⟩
  have HA4 := (HA3.below hb4).alloc (.cells #[.int .i64 R, .int .i64 S] 35 (0, 0))
  have HX4 := (HX3.below hb4).alloc (.cells #[.int .i64 R, .int .i64 S] 35 (0, 0))
  have HY4 : Bk (w4.heap.size) 35 #[.int .i64 R, .int .i64 S] _ := Bk.new (w4) 35 #[.int .i64 R, .int .i64 S]
  have hc4 := below_alloc (below_after hc3 hb4) (.cells #[.int .i64 R, .int .i64 S] 35 (0, 0))
  clear hb4 hc3 HA3 HX3
  obtain ⟨c0, c1⟩ := Bk.c2 HX4
  obtain ⟨d0, d1⟩ := Bk.c2 HY4
  go_wp2_with fail
  refine (eqSig_any R S _).mono ?_
  rintro e5 w5 ⟨rfl, hb5⟩
  have HA5 := HA4.below hb5
  have HX5 := HX4.below hb5
  have HY5 := HY4.below hb5
  have hc5 := below_after hc4 hb5
  clear hb5 hc4 HA4 HX4 HY4
  go_wp2
  go_ret
  exact ⟨rfl, hc5⟩
/-! ### The row's step. -/
theorem own : ownKnob Try.prog.godebug = none := by kernel_rfl
set_option maxRecDepth 100000 in
theorem lifted (os : Os) (started : os.Started) (H : Type) (enc : TypeId × Value → H) :
    ReturnsInHanded {} Try.checked os 9 .any (Rows.fnExactAdaptorFinishSpec.pre6 enc Try.prog Try.f9 Rows.fnExactAdaptorFinishRow.domain false) (Rows.fnExactAdaptorFinishSpec.post enc Try.prog Try.f9 false true false false) := by
  refine returnsInHanded_of_change (C := Try.checked) own started (by kernel_rfl) Try.func9
    (ChangeSpec.witness6 (enc := enc) (C := Try.checked) false ⟨#[], #[.agg #[.int .i64 0, .int .i64 0, .int .i64 0], .int .i64 0], []⟩ 8 (by kernel_rfl) (by kernel_rfl) (by kernel_rfl) (by kernel_rfl)) ?_
  intro W base args ds gs before hval0 hW hcnd _
  have hval : ∀ (j : Nat) t v, Try.f9.params[j]? = some t → args[j]? = some v → Value.okWide Try.prog W .any base t v := hval0
  have hW' := hW
  obtain ⟨p, q, hA0, hV, rfl, hfz, hnd⟩ := hW
  have hA : DataW.TrodAll enc Try.prog W 0 (fun _ => true) true Try.f9.params.toList args.toList ds p := hA0
  rw [Try.params9] at hA hval
  obtain ⟨v0, vs0, d0, ds0, p0, q0, hargs, rfl, rfl, h0, r0⟩ := trodAll_cons hA
  obtain ⟨v1, vs1, d1, ds1, p1, q1, rfl, rfl, rfl, h1, r1⟩ := trodAll_cons r0
  obtain ⟨rfl, rfl, rfl⟩ := trodAll_nil r1
  obtain rfl : args = #[v0, v1] := by cases args; simp_all
  obtain ⟨rfl, rfl⟩ := trodVars_none hV
  obtain ⟨rA0, sA0, pA0, rfl, rfl, rfl, wr0, ws0, wp0⟩ := open_adaptor (hval 0 49 v0 rfl rfl) h0
  obtain ⟨a1, rfl, rfl, rfl, w1⟩ := open_int Try.underlying3 (hval 1 3 v1 rfl rfl) h1
  clear hA0 hval0
  refine (walk rA0 sA0 pA0 wr0 ws0 wp0 a1 w1 W).mono fun e W' ⟨he, bel⟩ => ?_
  subst he
  exact ⟨_, rfl, _, _, _, [], _, [], hW', trodAll_mk1 (shut_bool Try.underlying4 _), (trodAll_cons_mk (shut_adaptor _ _ _ wr0 ws0 wp0) (trodAll_cons_mk (shut_int Try.underlying3 w1) trodAll_mk0)), rfl, bel.frame _, fun h => by cases h⟩
theorem over : Rows.fnExactAdaptorFinishRow.holds Try.pinned (OpenSpec.ofChange Rows.fnExactAdaptorFinishSpec) :=
  OpenClaim.holds_of_wide 9 Try.f9 rfl rfl rfl rfl rfl rfl rfl ⟨rfl, rfl, rfl, rfl, rfl⟩ rfl rfl rfl rfl rfl (by kernel_rfl) Try.func9 (by kernel_rfl)
    (of_decide_eq_true (by kernel_rfl)) (by unfold Func.isWrapper; first | (rw [if_pos (by decide +kernel)]; kernel_rfl) | (rw [if_neg (by decide +kernel)]; exact ⟨rfl, rfl⟩))
    (fun os started H enc _ => lifted os started H enc)
theorem proved : Rows.FnExactAdaptorFinishSaid := over
#print axioms proved
end Go.Proofs.Ytimajobbkemdbaa.fnExactAdaptorFinish
