/- For every two numbers and every message of at most 1<<20 bytes (a longer one is let pass by the law itself), AdaptorSign of the program answers as the model's AdaptorSign. -/
import Derived.Test.YtimajobbkemdbaaRows
import Derived.Test.YtimajobbkemdbaaAx
import Derived.WalkKit
import Derived.WalkSpells
import Derived.ProofKit
import Derived.OpenShut
import Derived.ShutString
import Derived.Below
import Derived.SliceStrings
namespace Go.Proofs.Ytimajobbkemdbaa.fnExactAdaptorSign
open Go.ChangeShapes Go.WideShapes Go.ChangeAt Go.RowKit
open Go.ChangeMaps (open_string shut_string)
set_option maxRecDepth 100000 in
set_option maxHeartbeats 1600000 in
theorem walk (u : Int) (_ : (Lit.int .i64 u).wf = true) (t : ByteArray) (_ : t.size ≤ maxLen) (p : Int) (_ : (Lit.int .i64 p).wf = true) (w : World) :
    Calls Try.prog 7 #[.int .i64 u, .string t, .int .i64 p] w fun e w' => e = .returned (.bool true) ∧ Below w.heap.size w w' := by
  by_cases h : (1048576 : Int) < (t.size : Int)
  · go_enter Try.func7, Try.ntmps7
    go_wp2
    go_ret
    exact ⟨rfl, Below.refl _ _⟩
  have hcon1 := fun W => specAdaptorSign_any u t p W (by omega)
  have hcon2 := fun W => implAdaptorSign_any u t p W (by omega)
  obtain ⟨R, HR⟩ : ∃ R, Hid (Ad.a0 u t p = R) := ⟨_, Lib.hid rfl⟩
  obtain ⟨S, HS⟩ : ∃ S, Hid (Ad.a1 u t p = S) := ⟨_, Lib.hid rfl⟩
  obtain ⟨P, HP⟩ : ∃ P, Hid (Ad.a2 u p = P) := ⟨_, Lib.hid rfl⟩
  obtain ⟨ok, HO⟩ : ∃ ok, Hid ((Gr.sok u && Gr.kok p) = ok) := ⟨_, Lib.hid rfl⟩
  rw [HR.out, HS.out, HP.out, HO.out] at hcon1 hcon2
  clear HR HS HP HO
  have hc0 := Below.refl w.heap.size w
  go_enter Try.func7, Try.ntmps7
  go_wp2_with fail
  refine (hcon1 _).mono ?_
  rintro e1 w1 ⟨rfl, hb1⟩
  have HX1 : Bk (w1.heap.size) 26 #[.int .i64 R, .int .i64 S, .int .i64 P] _ := Bk.new (w1) 26 #[.int .i64 R, .int .i64 S, .int .i64 P]
  have hc1 := below_alloc (below_after hc0 hb1) (.cells #[.int .i64 R, .int .i64 S, .int .i64 P] 26 (0, 0))
  clear hb1 hc0 
  go_wp2_with fail
  refine (hcon2 _).mono ?_
  rintro e2 w2 ⟨rfl, hb2⟩
  have HX2 := (HX1.below hb2).alloc (.cells #[.int .i64 R, .int .i64 S, .int .i64 P] 26 (0, 0))
  have HY2 : Bk (w2.heap.size) 26 #[.int .i64 R, .int .i64 S, .int .i64 P] _ := Bk.new (w2) 26 #[.int .i64 R, .int .i64 S, .int .i64 P]
  have hc2 := below_alloc (below_after hc1 hb2) (.cells #[.int .i64 R, .int .i64 S, .int .i64 P] 26 (0, 0))
  clear hb2 hc1 HX1
  obtain ⟨c0, c1, c2⟩ := Bk.c3 HX2
  obtain ⟨d0, d1, d2⟩ := Bk.c3 HY2
  go_wp2_with fail
  refine (eqAdaptor_any R S P _).mono ?_
  rintro e3 w3 ⟨rfl, hb3⟩
  have HX3 := HX2.below hb3
  have HY3 := HY2.below hb3
  have hc3 := below_after hc2 hb3
  clear hb3 hc2 HX2 HY2
  clear c0 c1 c2 d0 d1 d2
  go_wp2
  go_ret
  exact ⟨rfl, hc3⟩
/-! ### The row's step. -/
theorem own : ownKnob Try.prog.godebug = none := by kernel_rfl
set_option maxRecDepth 100000 in
theorem lifted (os : Os) (started : os.Started) (H : Type) (enc : TypeId × Value → H) :
    ReturnsInHanded {} Try.checked os 7 .any (Rows.fnExactAdaptorSignSpec.pre6 enc Try.prog Try.f7 Rows.fnExactAdaptorSignRow.domain false) (Rows.fnExactAdaptorSignSpec.post enc Try.prog Try.f7 false true false false) := by
  refine returnsInHanded_of_change (C := Try.checked) own started (by kernel_rfl) Try.func7
    (ChangeSpec.witness6 (enc := enc) (C := Try.checked) false ⟨#[], #[.int .i64 0, .string ByteArray.empty, .int .i64 0], []⟩ 8 (by kernel_rfl) (by kernel_rfl) (by kernel_rfl) (by kernel_rfl)) ?_
  intro W base args ds gs before hval0 hW hcnd _
  have hval : ∀ (j : Nat) t v, Try.f7.params[j]? = some t → args[j]? = some v → Value.okWide Try.prog W .any base t v := hval0
  have hW' := hW
  obtain ⟨p, q, hA0, hV, rfl, hfz, hnd⟩ := hW
  have hA : DataW.TrodAll enc Try.prog W 0 (fun _ => true) true Try.f7.params.toList args.toList ds p := hA0
  rw [Try.params7] at hA hval
  obtain ⟨v0, vs0, d0, ds0, p0, q0, hargs, rfl, rfl, h0, r0⟩ := trodAll_cons hA
  obtain ⟨v1, vs1, d1, ds1, p1, q1, rfl, rfl, rfl, h1, r1⟩ := trodAll_cons r0
  obtain ⟨v2, vs2, d2, ds2, p2, q2, rfl, rfl, rfl, h2, r2⟩ := trodAll_cons r1
  obtain ⟨rfl, rfl, rfl⟩ := trodAll_nil r2
  obtain rfl : args = #[v0, v1, v2] := by cases args; simp_all
  obtain ⟨rfl, rfl⟩ := trodVars_none hV
  obtain ⟨a0, rfl, rfl, rfl, w0⟩ := open_int Try.underlying3 (hval 0 3 v0 rfl rfl) h0
  obtain ⟨a1, rfl, rfl, rfl, w1⟩ := open_string Try.underlying9 (hval 1 9 v1 rfl rfl) h1
  obtain ⟨a2, rfl, rfl, rfl, w2⟩ := open_int Try.underlying3 (hval 2 3 v2 rfl rfl) h2
  clear hA0 hval0
  refine (walk a0 w0 a1 w1 a2 w2 W).mono fun e W' ⟨he, bel⟩ => ?_
  subst he
  exact ⟨_, rfl, _, _, _, [], _, [], hW', trodAll_mk1 (shut_bool Try.underlying4 _), (trodAll_cons_mk (shut_int Try.underlying3 w0) (trodAll_cons_mk (shut_string Try.underlying9 w1) (trodAll_cons_mk (shut_int Try.underlying3 w2) trodAll_mk0))), rfl, bel.frame _, fun h => by cases h⟩
theorem over : Rows.fnExactAdaptorSignRow.holds Try.pinned (OpenSpec.ofChange Rows.fnExactAdaptorSignSpec) :=
  OpenClaim.holds_of_wide 7 Try.f7 rfl rfl rfl rfl rfl rfl rfl ⟨rfl, rfl, rfl, rfl, rfl⟩ rfl rfl rfl rfl rfl (by kernel_rfl) Try.func7 (by kernel_rfl)
    (of_decide_eq_true (by kernel_rfl)) (by unfold Func.isWrapper; first | (rw [if_pos (by decide +kernel)]; kernel_rfl) | (rw [if_neg (by decide +kernel)]; exact ⟨rfl, rfl⟩))
    (fun os started H enc _ => lifted os started H enc)
theorem proved : Rows.FnExactAdaptorSignSaid := over
#print axioms proved
end Go.Proofs.Ytimajobbkemdbaa.fnExactAdaptorSign
