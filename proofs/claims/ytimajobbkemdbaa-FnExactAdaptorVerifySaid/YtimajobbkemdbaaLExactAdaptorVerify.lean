/- For every number, every message of at most 1<<20 bytes (a longer one is let pass by the law itself) and every adaptor signature, AdaptorVerify of the program answers as the model's AdaptorVerify. -/
import Derived.Test.YtimajobbkemdbaaRows
import Derived.Test.YtimajobbkemdbaaAx
import Derived.WalkKit
import Derived.WalkSpells
import Derived.ProofKit
import Derived.OpenShut
import Derived.ShutString
import Derived.Below
import Derived.SliceStrings
namespace Go.Proofs.Ytimajobbkemdbaa.fnExactAdaptorVerify
open Go.ChangeShapes Go.WideShapes Go.ChangeAt Go.RowKit
open Go.ChangeMaps (open_string shut_string)
set_option maxRecDepth 100000 in
set_option maxHeartbeats 1600000 in
theorem walk (k : Int) (_ : (Lit.int .i64 k).wf = true) (t : ByteArray) (_ : t.size ≤ maxLen) (r s p : Int) (_ : (Lit.int .i64 r).wf = true) (_ : (Lit.int .i64 s).wf = true) (_ : (Lit.int .i64 p).wf = true) (w : World) :
    Calls Try.prog 8 #[.int .i64 k, .string t, .agg #[.int .i64 r, .int .i64 s, .int .i64 p]] w fun e w' => e = .returned (.bool true) ∧ Below w.heap.size w w' := by
  by_cases h : (1048576 : Int) < (t.size : Int)
  · go_enter Try.func8, Try.ntmps8
    go_wp2
    go_ret
    exact ⟨rfl, below_alloc (Below.refl _ _) _⟩
  have HA0 : Bk w.heap.size 49 #[.int .i64 r, .int .i64 s, .int .i64 p] (w.alloc (.cells #[.int .i64 r, .int .i64 s, .int .i64 p] 49 (0, 0))) := Bk.new _ _ _
  have hc0 := below_alloc (Below.refl w.heap.size w) (.cells #[.int .i64 r, .int .i64 s, .int .i64 p] 49 (0, 0))
  have hcon1 := fun W => specAdaptorVerify_any k r s p t W (by omega)
  have hcon2 := fun W => implAdaptorVerify_any k r s p t W (by omega)
  obtain ⟨ok, HO⟩ : ∃ ok, Hid (Ad.ver k t r s p = ok) := ⟨_, Lib.hid rfl⟩
  rw [HO.out] at hcon1 hcon2
  clear HO
  go_enter Try.func8, Try.ntmps8
  obtain ⟨a0, a1, a2⟩ := Bk.c3 HA0
  go_wp2_with fail
  refine (toAdaptor_any r s p _).mono ?_
  rintro e1 w1 ⟨rfl, hb1⟩
  have HA1 := HA0.below hb1
  have hc1 := below_after hc0 hb1
  clear hb1 hc0 HA0
  clear a0 a1 a2
  obtain ⟨a0, a1, a2⟩ := Bk.c3 HA1
  go_wp2_with fail
  refine (hcon1 _).mono ?_
  rintro e2 w2 ⟨rfl, hb2⟩
  have HA2 := HA1.below hb2
  have hc2 := below_after hc1 hb2
  clear hb2 hc1 HA1
  clear a0 a1 a2
  obtain ⟨a0, a1, a2⟩ := Bk.c3 HA2
  go_wp2_with fail
  refine (toAdaptor_any r s p _).mono ?_
  rintro e3 w3 ⟨rfl, hb3⟩
  have HA3 := HA2.below hb3
  have hc3 := below_after hc2 hb3
  clear hb3 hc2 HA2
  clear a0 a1 a2
  obtain ⟨a0, a1, a2⟩ := Bk.c3 HA3
  go_wp2_with fail
  refine (hcon2 _).mono ?_
  rintro e4 w4 ⟨rfl, hb4⟩
  have HA4 := HA3.below hb4
  have hc4 := below_after hc3 hb4
  clear hb4 hc3 HA3
  clear a0 a1 a2
  obtain ⟨a0, a1, a2⟩ := Bk.c3 HA4
  go_wp2
  go_ret
  exact ⟨rfl, hc4⟩
/-! ### The row's step. -/
theorem own : ownKnob Try.prog.godebug = none := by kernel_rfl
set_option maxRecDepth 100000 in
theorem lifted (os : Os) (started : os.Started) (H : Type) (enc : TypeId × Value → H) :
    ReturnsInHanded {} Try.checked os 8 .any (Rows.fnExactAdaptorVerifySpec.pre6 enc Try.prog Try.f8 Rows.fnExactAdaptorVerifyRow.domain false) (Rows.fnExactAdaptorVerifySpec.post enc Try.prog Try.f8 false true false false) := by
  refine returnsInHanded_of_change (C := Try.checked) own started (by kernel_rfl) Try.func8
    (ChangeSpec.witness6 (enc := enc) (C := Try.checked) false ⟨#[], #[.int .i64 0, .string ByteArray.empty, .agg #[.int .i64 0, .int .i64 0, .int .i64 0]], []⟩ 8 (by kernel_rfl) (by kernel_rfl) (by kernel_rfl) (by kernel_rfl)) ?_
  intro W base args ds gs before hval0 hW hcnd _
  have hval : ∀ (j : Nat) t v, Try.f8.params[j]? = some t → args[j]? = some v → Value.okWide Try.prog W .any base t v := hval0
  have hW' := hW
  obtain ⟨p, q, hA0, hV, rfl, hfz, hnd⟩ := hW
  have hA : DataW.TrodAll enc Try.prog W 0 (fun _ => true) true Try.f8.params.toList args.toList ds p := hA0
  rw [Try.params8] at hA hval
  obtain ⟨v0, vs0, d0, ds0, p0, q0, hargs, rfl, rfl, h0, r0⟩ := trodAll_cons hA
  obtain ⟨v1, vs1, d1, ds1, p1, q1, rfl, rfl, rfl, h1, r1⟩ := trodAll_cons r0
  obtain ⟨v2, vs2, d2, ds2, p2, q2, rfl, rfl, rfl, h2, r2⟩ := trodAll_cons r1
  obtain ⟨rfl, rfl, rfl⟩ := trodAll_nil r2
  obtain rfl : args = #[v0, v1, v2] := by cases args; simp_all
  obtain ⟨rfl, rfl⟩ := trodVars_none hV
  obtain ⟨a0, rfl, rfl, rfl, w0⟩ := open_int Try.underlying3 (hval 0 3 v0 rfl rfl) h0
  obtain ⟨a1, rfl, rfl, rfl, w1⟩ := open_string Try.underlying9 (hval 1 9 v1 rfl rfl) h1
  obtain ⟨rA2, sA2, pA2, rfl, rfl, rfl, wr2, ws2, wp2⟩ := open_adaptor (hval 2 49 v2 rfl rfl) h2
  clear hA0 hval0
  refine (walk a0 w0 a1 w1 rA2 sA2 pA2 wr2 ws2 wp2 W).mono fun e W' ⟨he, bel⟩ => ?_
  subst he
  exact ⟨_, rfl, _, _, _, [], _, [], hW', trodAll_mk1 (shut_bool Try.underlying4 _), (trodAll_cons_mk (shut_int Try.underlying3 w0) (trodAll_cons_mk (shut_string Try.underlying9 w1) (trodAll_cons_mk (shut_adaptor _ _ _ wr2 ws2 wp2) trodAll_mk0))), rfl, bel.frame _, fun h => by cases h⟩
theorem over : Rows.fnExactAdaptorVerifyRow.holds Try.pinned (OpenSpec.ofChange Rows.fnExactAdaptorVerifySpec) :=
  OpenClaim.holds_of_wide 8 Try.f8 rfl rfl rfl rfl rfl rfl rfl ⟨rfl, rfl, rfl, rfl, rfl⟩ rfl rfl rfl rfl rfl (by kernel_rfl) Try.func8 (by kernel_rfl)
    (of_decide_eq_true (by kernel_rfl)) (by unfold Func.isWrapper; first | (rw [if_pos (by decide +kernel)]; kernel_rfl) | (rw [if_neg (by decide +kernel)]; exact ⟨rfl, rfl⟩))
    (fun os started H enc _ => lifted os started H enc)
theorem proved : Rows.FnExactAdaptorVerifySaid := over
#print axioms proved
end Go.Proofs.Ytimajobbkemdbaa.fnExactAdaptorVerify
