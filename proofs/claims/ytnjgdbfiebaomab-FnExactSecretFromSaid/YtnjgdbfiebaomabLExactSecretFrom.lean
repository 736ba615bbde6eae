/- For every two signed messages of at most 1<<20 bytes in all (longer ones are let pass by the law itself), SecretFrom of the program answers as the model's SecretFrom. -/
import Derived.Test.YtnjgdbfiebaomabRows
import Derived.Test.YtnjgdbfiebaomabSm5
import Derived.Test.YtnjgdbfiebaomabSx
import Derived.Deep.RegionHeld3
import Derived.WalkKit
import Derived.WalkSpells
import Derived.ProofKit
import Derived.OpenShut
import Derived.ShutString
import Derived.Below
import Derived.SliceStrings
namespace Go.Proofs.Ytnjgdbfiebaomab.fnExactSecretFrom
open Go.ChangeShapes Go.WideShapes Go.ChangeAt Go.RowKit
open Go.ChangeMaps (open_string shut_string)
set_option maxRecDepth 100000 in
set_option maxHeartbeats 1600000 in
theorem walk (k1 r1 s1 : Int) (t1 : ByteArray) (_ : (Lit.int .i64 k1).wf = true) (w1' : t1.size ≤ maxLen) (_ : (Lit.int .i64 r1).wf = true) (_ : (Lit.int .i64 s1).wf = true) (k2 r2 s2 : Int) (t2 : ByteArray) (_ : (Lit.int .i64 k2).wf = true) (w2' : t2.size ≤ maxLen) (_ : (Lit.int .i64 r2).wf = true) (_ : (Lit.int .i64 s2).wf = true) (w : World) :
    Calls Try.prog 6 #[.agg #[.int .i64 k1, .string t1, .int .i64 r1, .int .i64 s1], .agg #[.int .i64 k2, .string t2, .int .i64 r2, .int .i64 s2]] w fun e w' => e = .returned (.bool true) ∧ Below w.heap.size w w' := by
  have HA0 : Bk w.heap.size 35 #[.int .i64 k1, .string t1, .int .i64 r1, .int .i64 s1] ((w.alloc (.cells #[.int .i64 k1, .string t1, .int .i64 r1, .int .i64 s1] 35 (0, 0))).alloc (.cells #[.int .i64 k2, .string t2, .int .i64 r2, .int .i64 s2] 35 (0, 0))) := (Bk.new _ _ _).alloc _
  have HB0 : Bk (w.heap.size + 1) 35 #[.int .i64 k2, .string t2, .int .i64 r2, .int .i64 s2] ((w.alloc (.cells #[.int .i64 k1, .string t1, .int .i64 r1, .int .i64 s1] 35 (0, 0))).alloc (.cells #[.int .i64 k2, .string t2, .int .i64 r2, .int .i64 s2] 35 (0, 0))) := Bk.new' _ _ _ _ (by simp)
  have hb0 := below_alloc (below_alloc (Below.refl w.heap.size w) (.cells #[.int .i64 k1, .string t1, .int .i64 r1, .int .i64 s1] 35 (0, 0))) (.cells #[.int .i64 k2, .string t2, .int .i64 r2, .int .i64 s2] 35 (0, 0))
  have HW1 : Hid (t1.size ≤ 9223372036854775807) := Lib.hid (by have := w1'; unfold maxLen at this; omega)
  have HW2 : Hid (t2.size ≤ 9223372036854775807) := Lib.hid (by have := w2'; unfold maxLen at this; omega)
  clear w1' w2'
  go_enter Try.func6, Try.ntmps6
  go_wp2_with fail
  refine (szSigned_any k1 r1 s1 1048576 t1 _ (by omega) (by omega) HW1.out).mono ?_
  rintro x1 w1 ⟨v1, rfl, hv1, hb1⟩
  have HA1 := HA0.below hb1
  have HB1 := HB0.below hb1
  replace hb1 := below_after hb0 hb1
  clear HA0 HB0 hb0
  obtain ⟨m10, m11, m12, m13⟩ := Bk.c4 HA1
  obtain ⟨n10, n11, n12, n13⟩ := Bk.c4 HB1
  by_cases hn1 : v1 < 0
  · go_wp2
    go_ret
    exact ⟨rfl, hb1⟩
  obtain ⟨e1, e2⟩ := hv1.resolve_left hn1
  have c1 : (t1.size : Int) ≤ 1048576 := e2
  have c2 : 0 ≤ v1 := by omega
  have c3 : v1 ≤ 1048576 := by omega
  clear e1 e2 hv1 hn1
  go_wp2_with fail
  refine (szSigned_any k2 r2 s2 v1 t2 _ (by omega) (by omega) HW2.out).mono ?_
  rintro x2 w2 ⟨v2, rfl, hv2, hb2⟩
  have HA2 := HA1.below hb2
  have HB2 := HB1.below hb2
  replace hb2 := below_after hb1 hb2
  clear HA1 HB1 hb1
  obtain ⟨m20, m21, m22, m23⟩ := Bk.c4 HA2
  obtain ⟨n20, n21, n22, n23⟩ := Bk.c4 HB2
  by_cases hn2 : v2 < 0
  · go_wp2
    go_ret
    exact ⟨rfl, hb2⟩
  obtain ⟨e3, e4⟩ := hv2.resolve_left hn2
  have c4 : (t2.size : Int) ≤ 1048576 := by omega
  have c5 : 0 ≤ v2 := by omega
  clear e3 e4 hv2 hn2
  have hcon1 := fun W => implSecretFrom_any k1 r1 s1 t1 k2 r2 s2 t2 W (by omega) (by omega)
  have hcon2 := fun W => specSecretFrom_any k1 r1 s1 t1 k2 r2 s2 t2 W (by omega) (by omega)
  obtain ⟨X, HX⟩ : ∃ X, Hid (Sg.sec k1 r1 s1 t1 k2 r2 s2 t2 = X) := ⟨_, Lib.hid rfl⟩
  obtain ⟨ok, HO⟩ : ∃ ok, Hid (Sg.okTwo k1 r1 s1 t1 k2 r2 s2 t2 = ok) := ⟨_, Lib.hid rfl⟩
  rw [HX.out, HO.out] at hcon1 hcon2
  clear HX HO HW1 HW2
  have hSof : ∀ W, Bk w.heap.size 35 #[.int .i64 k1, .string t1, .int .i64 r1, .int .i64 s1] W → Bk (w.heap.size + 1) 35 #[.int .i64 k2, .string t2, .int .i64 r2, .int .i64 s2] W → W.cell? ⟨w.heap.size, 0, none⟩ = some (.int .i64 k1) ∧ W.cell? ⟨w.heap.size, 1, none⟩ = some (.string t1) ∧ W.cell? ⟨w.heap.size, 2, none⟩ = some (.int .i64 r1) ∧ W.cell? ⟨w.heap.size, 3, none⟩ = some (.int .i64 s1) ∧ W.cell? ⟨w.heap.size + 1, 0, none⟩ = some (.int .i64 k2) ∧ W.cell? ⟨w.heap.size + 1, 1, none⟩ = some (.string t2) ∧ W.cell? ⟨w.heap.size + 1, 2, none⟩ = some (.int .i64 r2) ∧ W.cell? ⟨w.heap.size + 1, 3, none⟩ = some (.int .i64 s2) := fun W h k => ⟨h.cell 0, h.cell 1, h.cell 2, h.cell 3, k.cell 0, k.cell 1, k.cell 2, k.cell 3⟩
  have hS2 := hSof _ HA2.drew HB2.drew
  go_wp2
  go_region_held3 (fun W => W.cell? ⟨w.heap.size, 0, none⟩ = some (.int .i64 k1) ∧ W.cell? ⟨w.heap.size, 1, none⟩ = some (.string t1) ∧ W.cell? ⟨w.heap.size, 2, none⟩ = some (.int .i64 r1) ∧ W.cell? ⟨w.heap.size, 3, none⟩ = some (.int .i64 s1) ∧ W.cell? ⟨w.heap.size + 1, 0, none⟩ = some (.int .i64 k2) ∧ W.cell? ⟨w.heap.size + 1, 1, none⟩ = some (.string t2) ∧ W.cell? ⟨w.heap.size + 1, 2, none⟩ = some (.int .i64 r2) ∧ W.cell? ⟨w.heap.size + 1, 3, none⟩ = some (.int .i64 s2)) (first | with_reducible exact hS2 | with_reducible exact hS3 | with_reducible exact hS4 | with_reducible exact hS5)
    (first
      | (go_at_call_of 18 (Value.agg #[.int .i64 k1, .string t1, .int .i64 r1, .int .i64 s1]); refine (toSigned_any k1 r1 s1 t1 _).mono ?_; rintro x3 w3 ⟨rfl, hb3⟩; have HA3 := HA2.drew.below hb3; have HB3 := HB2.drew.below hb3; have hS3 := hSof _ HA3 HB3; replace hb3 := below_after hb2.drew hb3)
      | (go_at_call_of 18 (Value.agg #[.int .i64 k2, .string t2, .int .i64 r2, .int .i64 s2]); refine (toSigned_any k2 r2 s2 t2 _).mono ?_; rintro x4 w4 ⟨rfl, hb4⟩; have HA4 := HA3.below hb4; have HB4 := HB3.below hb4; have hS4 := hSof _ HA4 HB4; replace hb4 := below_after hb3 hb4)
      | (go_at_call 17; refine (hcon2 _).mono ?_; rintro x5 w5 ⟨rfl, hb5⟩; have HA5 := HA4.below hb5; have HB5 := HB4.below hb5; have hS5 := hSof _ HA5 HB5; replace hb5 := below_after hb4 hb5))
  clear HA2 HB2 hb2 hS2 HA3 HB3 hb3 hS3 HA4 HB4 hb4 hS4 hS5
  obtain ⟨m50, m51, m52, m53⟩ := Bk.c4 HA5
  obtain ⟨n50, n51, n52, n53⟩ := Bk.c4 HB5
  have hS5 := hSof _ HA5.drew HB5.drew
  go_wp2
  go_region_held3 (fun W => W.cell? ⟨w.heap.size, 0, none⟩ = some (.int .i64 k1) ∧ W.cell? ⟨w.heap.size, 1, none⟩ = some (.string t1) ∧ W.cell? ⟨w.heap.size, 2, none⟩ = some (.int .i64 r1) ∧ W.cell? ⟨w.heap.size, 3, none⟩ = some (.int .i64 s1) ∧ W.cell? ⟨w.heap.size + 1, 0, none⟩ = some (.int .i64 k2) ∧ W.cell? ⟨w.heap.size + 1, 1, none⟩ = some (.string t2) ∧ W.cell? ⟨w.heap.size + 1, 2, none⟩ = some (.int .i64 r2) ∧ W.cell? ⟨w.heap.size + 1, 3, none⟩ = some (.int .i64 s2)) (first | with_reducible exact hS5 | with_reducible exact hS6 | with_reducible exact hS7 | with_reducible exact hS8)
    (first
      | (go_at_call_of 18 (Value.agg #[.int .i64 k1, .string t1, .int .i64 r1, .int .i64 s1]); refine (toSigned_any k1 r1 s1 t1 _).mono ?_; rintro x6 w6 ⟨rfl, hb6⟩; have HA6 := HA5.drew.below hb6; have HB6 := HB5.drew.below hb6; have hS6 := hSof _ HA6 HB6; replace hb6 := below_after hb5.drew hb6)
      | (go_at_call_of 18 (Value.agg #[.int .i64 k2, .string t2, .int .i64 r2, .int .i64 s2]); refine (toSigned_any k2 r2 s2 t2 _).mono ?_; rintro x7 w7 ⟨rfl, hb7⟩; have HA7 := HA6.below hb7; have HB7 := HB6.below hb7; have hS7 := hSof _ HA7 HB7; replace hb7 := below_after hb6 hb7)
      | (go_at_call 19; refine (hcon1 _).mono ?_; rintro x8 w8 ⟨rfl, hb8⟩; have HA8 := HA7.below hb8; have HB8 := HB7.below hb8; have hS8 := hSof _ HA8 HB8; replace hb8 := below_after hb7 hb8))
  clear HA5 HB5 hb5 hS5 HA6 HB6 hb6 hS6 HA7 HB7 hb7 hS7 hS8
  obtain ⟨m80, m81, m82, m83⟩ := Bk.c4 HA8
  obtain ⟨n80, n81, n82, n83⟩ := Bk.c4 HB8
  go_wp2
  go_ret
  exact ⟨rfl, hb8⟩
/-! ### The row's step. -/
theorem own : ownKnob Try.prog.godebug = none := by kernel_rfl
set_option maxRecDepth 100000 in
theorem lifted (os : Os) (started : os.Started) (H : Type) (enc : TypeId × Value → H) :
    ReturnsInHanded {} Try.checked os 6 .any (Rows.fnExactSecretFromSpec.pre6 enc Try.prog Try.f6 Rows.fnExactSecretFromRow.domain false) (Rows.fnExactSecretFromSpec.post enc Try.prog Try.f6 false true false false) := by
  refine returnsInHanded_of_change (C := Try.checked) own started (by kernel_rfl) Try.func6
    (ChangeSpec.witness6 (enc := enc) (C := Try.checked) false ⟨#[], #[.agg #[.int .i64 0, .string ByteArray.empty, .int .i64 0, .int .i64 0], .agg #[.int .i64 0, .string ByteArray.empty, .int .i64 0, .int .i64 0]], []⟩ 8 (by kernel_rfl) (by kernel_rfl) (by kernel_rfl) (by kernel_rfl)) ?_
  intro W base args ds gs before hval0 hW hcnd _
  have hval : ∀ (j : Nat) t v, Try.f6.params[j]? = some t → args[j]? = some v → Value.okWide Try.prog W .any base t v := hval0
  have hW' := hW
  obtain ⟨p, q, hA0, hV, rfl, hfz, hnd⟩ := hW
  have hA : DataW.TrodAll enc Try.prog W 0 (fun _ => true) true Try.f6.params.toList args.toList ds p := hA0
  rw [Try.params6] at hA hval
  obtain ⟨v0, vs0, d0, ds0, p0, q0, hargs, rfl, rfl, h0, r0⟩ := trodAll_cons hA
  obtain ⟨v1, vs1, d1, ds1, p1, q1, rfl, rfl, rfl, h1, r1⟩ := trodAll_cons r0
  obtain ⟨rfl, rfl, rfl⟩ := trodAll_nil r1
  obtain rfl : args = #[v0, v1] := by cases args; simp_all
  obtain ⟨rfl, rfl⟩ := trodVars_none hV
  obtain ⟨kA0, rA0, sA0, tA0, rfl, rfl, rfl, wk0, wt0, wr0, ws0⟩ := open_signed (hval 0 35 v0 rfl rfl) h0
  obtain ⟨kA1, rA1, sA1, tA1, rfl, rfl, rfl, wk1, wt1, wr1, ws1⟩ := open_signed (hval 1 35 v1 rfl rfl) h1
  clear hA0 hval0
  refine (walk kA0 rA0 sA0 tA0 wk0 wt0 wr0 ws0 kA1 rA1 sA1 tA1 wk1 wt1 wr1 ws1 W).mono fun e W' ⟨he, bel⟩ => ?_
  subst he
  exact ⟨_, rfl, _, _, _, [], _, [], hW', trodAll_mk1 (shut_bool Try.underlying4 _), (trodAll_cons_mk (shut_signed _ _ _ _ wk0 wt0 wr0 ws0) (trodAll_cons_mk (shut_signed _ _ _ _ wk1 wt1 wr1 ws1) trodAll_mk0)), rfl, bel.frame _, fun h => by cases h⟩
theorem over : Rows.fnExactSecretFromRow.holds Try.pinned (OpenSpec.ofChange Rows.fnExactSecretFromSpec) :=
  OpenClaim.holds_of_wide 6 Try.f6 rfl rfl rfl rfl rfl rfl rfl ⟨rfl, rfl, rfl, rfl, rfl⟩ rfl rfl rfl rfl rfl (by kernel_rfl) Try.func6 (by kernel_rfl)
    (of_decide_eq_true (by kernel_rfl)) (by unfold Func.isWrapper; first | (rw [if_pos (by decide +kernel)]; kernel_rfl) | (rw [if_neg (by decide +kernel)]; exact ⟨rfl, rfl⟩))
    (fun os started H enc _ => lifted os started H enc)
theorem proved : Rows.FnExactSecretFromSaid := over
#print axioms proved
end Go.Proofs.Ytnjgdbfiebaomab.fnExactSecretFrom
