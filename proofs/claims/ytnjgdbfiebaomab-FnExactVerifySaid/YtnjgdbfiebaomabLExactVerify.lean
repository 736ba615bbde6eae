/- For every number, every message of at most 1<<20 bytes (a longer one is let pass by the law itself) and every pair R, S of numbers, Verify of the program answers as the model's Verify. -/
import Derived.Test.YtnjgdbfiebaomabRows
import Derived.Test.YtnjgdbfiebaomabSk
import Derived.Test.YtnjgdbfiebaomabSx
import Derived.WalkKit
import Derived.WalkSpells
import Derived.ProofKit
import Derived.OpenShut
import Derived.ShutString
import Derived.Below
import Derived.SliceStrings
namespace Go.Proofs.Ytnjgdbfiebaomab.fnExactVerify
open Go.ChangeShapes Go.WideShapes Go.ChangeAt Go.RowKit
open Go.ChangeMaps (open_string shut_string)
set_option maxRecDepth 100000 in
set_option maxHeartbeats 1600000 in
theorem walk (k : Int) (_ : (Lit.int .i64 k).wf = true) (t : ByteArray) (_ : t.size ≤ maxLen) (r s : Int) (_ : (Lit.int .i64 r).wf = true) (_ : (Lit.int .i64 s).wf = true) (w : World) :
    Calls Try.prog 5 #[.int .i64 k, .string t, .agg #[.int .i64 r, .int .i64 s]] w fun e w' => e = .returned (.bool true) ∧ Below w.heap.size w w' := by
  by_cases h : (1048576 : Int) < (t.size : Int)
  · go_enter Try.func5, Try.ntmps5
    go_wp2
    go_ret
    exact ⟨rfl, below_alloc (Below.refl _ _) _⟩
  have hcon1 := fun W => specVerify_any k r s t W (by omega)
  have hcon2 := fun W => implVerify_any k r s t W (by omega)
  obtain ⟨ok, HO⟩ : ∃ ok, Hid (Sg.ver k t r s = ok) := ⟨_, Lib.hid rfl⟩
  rw [HO.out] at hcon1 hcon2
  clear HO
  have HX0 : Bk w.heap.size 30 #[.int .i64 r, .int .i64 s] (w.alloc (.cells #[.int .i64 r, .int .i64 s] 30 (0, 0))) := Bk.new _ _ _
  have hb0 := below_alloc (Below.refl w.heap.size w) (.cells #[.int .i64 r, .int .i64 s] 30 (0, 0))
  go_enter Try.func5, Try.ntmps5
  go_wp2_with fail
  refine (toSig_any r s _).mono ?_
  rintro e w1 ⟨rfl, hb1⟩
  have HX1 := HX0.below hb1
  obtain ⟨c1, d1⟩ := Bk.c2 HX1
  replace hb1 := below_after hb0 hb1
  clear hb0
  go_wp2_with fail
  refine (hcon1 _).mono ?_
  rintro e w2 ⟨rfl, hb2⟩
  have HX2 := HX1.below hb2
  obtain ⟨c2, d2⟩ := Bk.c2 HX2
  replace hb2 := below_after hb1 hb2
  clear hb1
  go_wp2_with fail
  refine (toSig_any r s _).mono ?_
  rintro e w3 ⟨rfl, hb3⟩
  have HX3 := HX2.below hb3
  obtain ⟨c3, d3⟩ := Bk.c2 HX3
  replace hb3 := below_after hb2 hb3
  clear hb2
  go_wp2_with fail
  refine (hcon2 _).mono ?_
  rintro e w4 ⟨rfl, hb4⟩
  have HX4 := HX3.below hb4
  obtain ⟨c4, d4⟩ := Bk.c2 HX4
  replace hb4 := below_after hb3 hb4
  clear hb3
  go_wp2
  go_ret
  exact ⟨rfl, hb4⟩
/-! ### The row's step. -/
theorem own : ownKnob Try.prog.godebug = none := by kernel_rfl
set_option maxRecDepth 100000 in
theorem lifted (os : Os) (started : os.Started) (H : Type) (enc : TypeId × Value → H) :
    ReturnsInHanded {} Try.checked os 5 .any (Rows.fnExactVerifySpec.pre6 enc Try.prog Try.f5 Rows.fnExactVerifyRow.domain false) (Rows.fnExactVerifySpec.post enc Try.prog Try.f5 false true false false) := by
  refine returnsInHanded_of_change (C := Try.checked) own started (by kernel_rfl) Try.func5
    (ChangeSpec.witness6 (enc := enc) (C := Try.checked) false ⟨#[], #[.int .i64 0, .string ByteArray.empty, .agg #[.int .i64 0, .int .i64 0]], []⟩ 8 (by kernel_rfl) (by kernel_rfl) (by kernel_rfl) (by kernel_rfl)) ?_
  intro W base args ds gs before hval0 hW hcnd _
  have hval : ∀ (j : Nat) t v, Try.f5.params[j]? = some t → args[j]? = some v → Value.okWide Try.prog W .any base t v := hval0
  have hW' := hW
  obtain ⟨p, q, hA0, hV, rfl, hfz, hnd⟩ := hW
  have hA : DataW.TrodAll enc Try.prog W 0 (fun _ => true) true Try.f5.params.toList args.toList ds p := hA0
  rw [Try.params5] at hA hval
  obtain ⟨v0, vs0, d0, ds0, p0, q0, hargs, rfl, rfl, h0, r0⟩ := trodAll_cons hA
  obtain ⟨v1, vs1, d1, ds1, p1, q1, rfl, rfl, rfl, h1, r1⟩ := trodAll_cons r0
  obtain ⟨v2, vs2, d2, ds2, p2, q2, rfl, rfl, rfl, h2, r2⟩ := trodAll_cons r1
  obtain ⟨rfl, rfl, rfl⟩ := trodAll_nil r2
  obtain rfl : args = #[v0, v1, v2] := by cases args; simp_all
  obtain ⟨rfl, rfl⟩ := trodVars_none hV
  obtain ⟨a0, rfl, rfl, rfl, w0⟩ := open_int Try.underlying3 (hval 0 3 v0 rfl rfl) h0
  obtain ⟨a1, rfl, rfl, rfl, w1⟩ := open_string Try.underlying9 (hval 1 9 v1 rfl rfl) h1
  obtain ⟨r2, s2, rfl, rfl, rfl, wr2, ws2⟩ := open_sig (hval 2 30 v2 rfl rfl) h2
  clear hA0 hval0
  refine (walk a0 w0 a1 w1 r2 s2 wr2 ws2 W).mono fun e W' ⟨he, bel⟩ => ?_
  subst he
  exact ⟨_, rfl, _, _, _, [], _, [], hW', trodAll_mk1 (shut_bool Try.underlying4 _), (trodAll_cons_mk (shut_int Try.underlying3 w0) (trodAll_cons_mk (shut_string Try.underlying9 w1) (trodAll_cons_mk (shut_sig _ _ wr2 ws2) trodAll_mk0))), rfl, bel.frame _, fun h => by cases h⟩
theorem over : Rows.fnExactVerifyRow.holds Try.pinned (OpenSpec.ofChange Rows.fnExactVerifySpec) :=
  OpenClaim.holds_of_wide 5 Try.f5 rfl rfl rfl rfl rfl rfl rfl ⟨rfl, rfl, rfl, rfl, rfl⟩ rfl rfl rfl rfl rfl (by kernel_rfl) Try.func5 (by kernel_rfl)
    (of_decide_eq_true (by kernel_rfl)) (by unfold Func.isWrapper; first | (rw [if_pos (by decide +kernel)]; kernel_rfl) | (rw [if_neg (by decide +kernel)]; exact ⟨rfl, rfl⟩))
    (fun os started H enc _ => lifted os started H enc)
theorem proved : Rows.FnExactVerifySaid := over
#print axioms proved
end Go.Proofs.Ytnjgdbfiebaomab.fnExactVerify
