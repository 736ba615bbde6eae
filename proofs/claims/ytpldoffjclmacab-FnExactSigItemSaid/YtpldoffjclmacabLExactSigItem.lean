/- For every pair R, S of numbers, SigItem of the program answers as the model's SigItem. -/
import Derived.Test.YtpldoffjclmacabRows
import Derived.Test.YtpldoffjclmacabYa
import Derived.WalkKit
import Derived.WalkSpells
import Derived.ProofKit
import Derived.OpenShut
import Derived.ShutString
import Derived.Below
import Derived.SliceStrings
namespace Go.Proofs.Ytpldoffjclmacab.fnExactSigItem
open Go.ChangeShapes Go.WideShapes Go.ChangeAt Go.RowKit
open Go.ChangeMaps (open_string shut_string)
set_option maxRecDepth 100000 in
set_option maxHeartbeats 3200000 in
theorem walk (r s : Int) (_ : (Lit.int .i64 r).wf = true) (_ : (Lit.int .i64 s).wf = true) (w : World) :
    Calls Try.prog 5 #[.agg #[.int .i64 r, .int .i64 s]] w fun e w' => e = .returned (.bool true) ∧ Below w.heap.size w w' := by
  have hcon1 := fun W => specSigItem_any r s W
  have hcon2 := fun W => implSigItem_any r s W
  obtain ⟨t, HT⟩ : ∃ t, Hid (Jo.item r s = t) := ⟨_, Lib.hid rfl⟩
  rw [HT.out] at hcon1 hcon2
  have hq : (t.toList == t.toList) = true := by simp
  clear HT
  have HX0 : Bk w.heap.size 31 #[.int .i64 r, .int .i64 s] (w.alloc (.cells #[.int .i64 r, .int .i64 s] 31 (0, 0))) := Bk.new _ _ _
  have hb0 := below_allocY (Below.refl w.heap.size w) (.cells #[.int .i64 r, .int .i64 s] 31 (0, 0))
  go_enter Try.func5, Try.ntmps5
  go_wp2_with fail
  refine (toSig_any r s _).mono ?_
  rintro e w1 ⟨rfl, hb1⟩
  have HX1 := HX0.below hb1
  obtain ⟨c1, d1⟩ := Bk.c2 HX1
  replace hb1 := below_aft9 hb0 hb1
  clear hb0
  go_wp2_with fail
  refine (hcon1 _).mono ?_
  rintro e w2 ⟨rfl, hb2⟩
  have HX2 := HX1.below hb2
  obtain ⟨c2, d2⟩ := Bk.c2 HX2
  replace hb2 := below_aft9 hb1 hb2
  clear hb1
  go_wp2_with fail
  refine (toSig_any r s _).mono ?_
  rintro e w3 ⟨rfl, hb3⟩
  replace hb3 := below_aft9 hb2 hb3
  clear hb2
  go_wp2_with fail
  refine (hcon2 _).mono ?_
  rintro e w4 ⟨rfl, hb4⟩
  replace hb4 := below_aft9 hb3 hb4
  clear hb3
  go_wp2
  go_ret
  exact ⟨rfl, hb4⟩
/-! ### The row's step. -/
theorem own : ownKnob Try.prog.godebug = none := by kernel_rfl
set_option maxRecDepth 100000 in
theorem lifted (os : Os) (started : os.Started) (H : Type) (enc : TypeId × Value → H) :
    ReturnsInHanded {} Try.checked os 5 .any (Rows.fnExactSigItemSpec.pre6 enc Try.prog Try.f5 Rows.fnExactSigItemRow.domain false) (Rows.fnExactSigItemSpec.post enc Try.prog Try.f5 false true false false) := by
  refine returnsInHanded_of_change (C := Try.checked) own started (by kernel_rfl) Try.func5
    (ChangeSpec.witness6 (enc := enc) (C := Try.checked) false ⟨#[], #[.agg #[.int .i64 0, .int .i64 0]], []⟩ 8 (by kernel_rfl) (by kernel_rfl) (by kernel_rfl) (by kernel_rfl)) ?_
  intro W base args ds gs before hval0 hW hcnd _
  have hval : ∀ (j : Nat) t v, Try.f5.params[j]? = some t → args[j]? = some v → Value.okWide Try.prog W .any base t v := hval0
  have hW' := hW
  obtain ⟨p, q, hA0, hV, rfl, hfz, hnd⟩ := hW
  have hA : DataW.TrodAll enc Try.prog W 0 (fun _ => true) true Try.f5.params.toList args.toList ds p := hA0
  rw [Try.params5] at hA hval
  obtain ⟨v0, vs0, d0, ds0, p0, q0, hargs, rfl, rfl, h0, r0⟩ := trodAll_cons hA
  obtain ⟨rfl, rfl, rfl⟩ := trodAll_nil r0
  obtain rfl : args = #[v0] := by cases args; simp_all
  obtain ⟨rfl, rfl⟩ := trodVars_none hV
  obtain ⟨rA0, sA0, rfl, rfl, rfl, wr0, ws0⟩ := open_sig (hval 0 31 v0 rfl rfl) h0
  clear hA0 hval0
  refine (walk rA0 sA0 wr0 ws0 W).mono fun e W' ⟨he, bel⟩ => ?_
  subst he
  exact ⟨_, rfl, _, _, _, [], _, [], hW', trodAll_mk1 (shut_bool Try.underlying4 _), (trodAll_cons_mk (shut_sig _ _ wr0 ws0) trodAll_mk0), rfl, bel.frame _, fun h => by cases h⟩
theorem over : Rows.fnExactSigItemRow.holds Try.pinned (OpenSpec.ofChange Rows.fnExactSigItemSpec) :=
  OpenClaim.holds_of_wide 5 Try.f5 rfl rfl rfl rfl rfl rfl rfl ⟨rfl, rfl, rfl, rfl, rfl⟩ rfl rfl rfl rfl rfl (by kernel_rfl) Try.func5 (by kernel_rfl)
    (of_decide_eq_true (by kernel_rfl)) (by unfold Func.isWrapper; first | (rw [if_pos (by decide +kernel)]; kernel_rfl) | (rw [if_neg (by decide +kernel)]; exact ⟨rfl, rfl⟩))
    (fun os started H enc _ => lifted os started H enc)
theorem proved : Rows.FnExactSigItemSaid := over
#print axioms proved
end Go.Proofs.Ytpldoffjclmacab.fnExactSigItem
