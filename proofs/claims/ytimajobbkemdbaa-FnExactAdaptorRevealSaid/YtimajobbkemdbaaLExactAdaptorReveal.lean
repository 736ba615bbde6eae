/- For every number, every message of at most 1<<20 bytes (a longer one is let pass by the law itself), every adaptor signature and every signature, AdaptorReveal of the program answers as the model's AdaptorReveal. -/
import Derived.Test.YtimajobbkemdbaaRows
import Derived.Test.YtimajobbkemdbaaAx
import Derived.WalkKit
import Derived.WalkSpells
import Derived.ProofKit
import Derived.OpenShut
import Derived.ShutString
import Derived.Below
import Derived.SliceStrings
namespace Go.Proofs.Ytimajobbkemdbaa.fnExactAdaptorReveal
open Go.ChangeShapes Go.WideShapes Go.ChangeAt Go.RowKit
open Go.ChangeMaps (open_string shut_string)
set_option maxRecDepth 100000 in
set_option maxHeartbeats 1600000 in
theorem walk (k : Int) (_ : (Lit.int .i64 k).wf = true) (t : ByteArray) (_ : t.size ≤ maxLen) (r s p : Int) (_ : (Lit.int .i64 r).wf = true) (_ : (Lit.int .i64 s).wf = true) (_ : (Lit.int .i64 p).wf = true) (r2 s2 : Int) (_ : (Lit.int .i64 r2).wf = true) (_ : (Lit.int .i64 s2).wf = true) (w : World) :
    Calls Try.prog 10 #[.int .i64 k, .string t, .agg #[.int .i64 r, .int .i64 s, .int .i64 p], .agg #[.int .i64 r2, .int .i64 s2]] w fun e w' => e = .returned (.bool true) ∧ Below w.heap.size w w' := by
  by_cases h : (1048576 : Int) < (t.size : Int)
  · go_enter Try.func10, Try.ntmps10
    go_wp2
    go_ret
    exact ⟨rfl, below_alloc (below_alloc (Below.refl _ _) _) _⟩
  have HA0 : Bk w.heap.size 49 #[.int .i64 r, .int .i64 s, .int .i64 p] ((w.alloc (.cells #[.int .i64 r, .int .i64 s, .int .i64 p] 49 (0, 0))).alloc (.cells #[.int .i64 r2, .int .i64 s2] 54 (0, 0))) := (Bk.new _ _ _).alloc _
  have HG0 : Bk (w.heap.size + 1) 54 #[.int .i64 r2, .int .i64 s2] ((w.alloc (.cells #[.int .i64 r, .int .i64 s, .int .i64 p] 49 (0, 0))).alloc (.cells #[.int .i64 r2, .int .i64 s2] 54 (0, 0))) := Bk.new' _ _ _ _ (by simp)
  have hc0 := below_alloc (below_alloc (Below.refl w.heap.size w) (.cells #[.int .i64 r, .int .i64 s, .int .i64 p] 49 (0, 0))) (.cells #[.int .i64 r2, .int .i64 s2] 54 (0, 0))
  have hcon1 := fun W => specAdaptorReveal_any k r s p r2 s2 t W (by omega)
  have hcon2 := fun W => implAdaptorReveal_any k r s p r2 s2 t W (by omega)
  obtain ⟨X, HX⟩ : ∃ X, Hid (Ad.r0 k t r s p r2 s2 = X) := ⟨_, Lib.hid rfl⟩
  obtain ⟨ok, HO⟩ : ∃ ok, Hid (Ad.rok k t r s p r2 s2 = ok) := ⟨_, Lib.hid rfl⟩
  rw [HX.out, HO.out] at hcon1 hcon2
  clear HX HO
  go_enter Try.func10, Try.ntmps10
  have hSof : ∀ W, Bk w.heap.size 49 #[.int .i64 r, .int .i64 s, .int .i64 p] W → Bk (w.heap.size + 1) 54 #[.int .i64 r2, .int .i64 s2] W → W.cell? ⟨w.heap.size, 0, none⟩ = some (.int .i64 r) ∧ W.cell? ⟨w.heap.size, 1, none⟩ = some (.int .i64 s) ∧ W.cell? ⟨w.heap.size, 2, none⟩ = some (.int .i64 p) ∧ W.cell? ⟨w.heap.size + 1, 0, none⟩ = some (.int .i64 r2) ∧ W.cell? ⟨w.heap.size + 1, 1, none⟩ = some (.int .i64 s2) := fun W h k => ⟨h.cell 0, h.cell 1, h.cell 2, k.cell 0, k.cell 1⟩
  have hS0 := hSof _ HA0.drew HG0.drew
  go_wp2
  go_region_held3 (fun W => W.cell? ⟨w.heap.size, 0, none⟩ = some (.int .i64 r) ∧ W.cell? ⟨w.heap.size, 1, none⟩ = some (.int .i64 s) ∧ W.cell? ⟨w.heap.size, 2, none⟩ = some (.int .i64 p) ∧ W.cell? ⟨w.heap.size + 1, 0, none⟩ = some (.int .i64 r2) ∧ W.cell? ⟨w.heap.size + 1, 1, none⟩ = some (.int .i64 s2)) (first | with_reducible exact hS0 | with_reducible exact hS1 | with_reducible exact hS2 | with_reducible exact hS3)
    (first
      | (go_at_call 28; refine (toAdaptor_any r s p _).mono ?_; rintro x1 w1 ⟨rfl, hb1⟩; have HA1 := HA0.drew.below hb1; have HG1 := HG0.drew.below hb1; have hS1 := hSof _ HA1 HG1; have hc1 := below_after hc0.drew hb1)
      | (go_at_call 30; refine (toSig_any r2 s2 _).mono ?_; rintro x2 w2 ⟨rfl, hb2⟩; have HA2 := HA1.below hb2; have HG2 := HG1.below hb2; have hS2 := hSof _ HA2 HG2; have hc2 := below_after hc1 hb2)
      | (go_at_call 26; refine (hcon1 _).mono ?_; rintro x3 w3 ⟨rfl, hb3⟩; have HA3 := HA2.below hb3; have HG3 := HG2.below hb3; have hS3 := hSof _ HA3 HG3; have hc3 := below_after hc2 hb3))
  clear hS0
  have hS3 := hSof _ HA3.drew HG3.drew
  go_wp2
  go_region_held3 (fun W => W.cell? ⟨w.heap.size, 0, none⟩ = some (.int .i64 r) ∧ W.cell? ⟨w.heap.size, 1, none⟩ = some (.int .i64 s) ∧ W.cell? ⟨w.heap.size, 2, none⟩ = some (.int .i64 p) ∧ W.cell? ⟨w.heap.size + 1, 0, none⟩ = some (.int .i64 r2) ∧ W.cell? ⟨w.heap.size + 1, 1, none⟩ = some (.int .i64 s2)) (first | with_reducible exact hS3 | with_reducible exact hS4 | with_reducible exact hS5 | with_reducible exact hS6)
    (first
      | (go_at_call 28; refine (toAdaptor_any r s p _).mono ?_; rintro x4 w4 ⟨rfl, hb4⟩; have HA4 := HA3.drew.below hb4; have HG4 := HG3.drew.below hb4; have hS4 := hSof _ HA4 HG4; have hc4 := below_after hc3.drew hb4)
      | (go_at_call 30; refine (toSig_any r2 s2 _).mono ?_; rintro x5 w5 ⟨rfl, hb5⟩; have HA5 := HA4.below hb5; have HG5 := HG4.below hb5; have hS5 := hSof _ HA5 HG5; have hc5 := below_after hc4 hb5)
      | (go_at_call 25; refine (hcon2 _).mono ?_; rintro x6 w6 ⟨rfl, hb6⟩; have HA6 := HA5.below hb6; have HG6 := HG5.below hb6; have hS6 := hSof _ HA6 HG6; have hc6 := below_after hc5 hb6))
  clear hS3
  go_wp2
  go_ret
  exact ⟨rfl, hc6⟩
/-! ### The row's step. -/
theorem own : ownKnob Try.prog.godebug = none := by kernel_rfl
set_option maxRecDepth 100000 in
theorem lifted (os : Os) (started : os.Started) (H : Type) (enc : TypeId × Value → H) :
    ReturnsInHanded {} Try.checked os 10 .any (Rows.fnExactAdaptorRevealSpec.pre6 enc Try.prog Try.f10 Rows.fnExactAdaptorRevealRow.domain false) (Rows.fnExactAdaptorRevealSpec.post enc Try.prog Try.f10 false true false false) := by
  refine returnsInHanded_of_change (C := Try.checked) own started (by kernel_rfl) Try.func10
    (ChangeSpec.witness6 (enc := enc) (C := Try.checked) false ⟨#[], #[.int .i64 0, .string ByteArray.empty, .agg #[.int .i64 0, .int .i64 0, .int .i64 0], .agg #[.int .i64 0, .int .i64 0]], []⟩ 8 (by kernel_rfl) (by kernel_rfl) (by kernel_rfl) (by kernel_rfl)) ?_
  intro W base args ds gs before hval0 hW hcnd _
  have hval : ∀ (j : Nat) t v, Try.f10.params[j]? = some t → args[j]? = some v → Value.okWide Try.prog W .any base t v := hval0
  have hW' := hW
  obtain ⟨p, q, hA0, hV, rfl, hfz, hnd⟩ := hW
  have hA : DataW.TrodAll enc Try.prog W 0 (fun _ => true) true Try.f10.params.toList args.toList ds p := hA0
  rw [Try.params10] at hA hval
  obtain ⟨v0, vs0, d0, ds0, p0, q0, hargs, rfl, rfl, h0, r0⟩ := trodAll_cons hA
  obtain ⟨v1, vs1, d1, ds1, p1, q1, rfl, rfl, rfl, h1, r1⟩ := trodAll_cons r0
  obtain ⟨v2, vs2, d2, ds2, p2, q2, rfl, rfl, rfl, h2, r2⟩ := trodAll_cons r1
  obtain ⟨v3, vs3, d3, ds3, p3, q3, rfl, rfl, rfl, h3, r3⟩ := trodAll_cons r2
  obtain ⟨rfl, rfl, rfl⟩ := trodAll_nil r3
  obtain rfl : args = #[v0, v1, v2, v3] := by cases args; simp_all
  obtain ⟨rfl, rfl⟩ := trodVars_none hV
  obtain ⟨a0, rfl, rfl, rfl, w0⟩ := open_int Try.underlying3 (hval 0 3 v0 rfl rfl) h0
  obtain ⟨a1, rfl, rfl, rfl, w1⟩ := open_string Try.underlying9 (hval 1 9 v1 rfl rfl) h1
  obtain ⟨rA2, sA2, pA2, rfl, rfl, rfl, wr2, ws2, wp2⟩ := open_adaptor (hval 2 49 v2 rfl rfl) h2
  obtain ⟨rA3, sA3, rfl, rfl, rfl, wr3, ws3⟩ := open_sig (hval 3 54 v3 rfl rfl) h3
  clear hA0 hval0
  refine (walk a0 w0 a1 w1 rA2 sA2 pA2 wr2 ws2 wp2 rA3 sA3 wr3 ws3 W).mono fun e W' ⟨he, bel⟩ => ?_
  subst he
  exact ⟨_, rfl, _, _, _, [], _, [], hW', trodAll_mk1 (shut_bool Try.underlying4 _), (trodAll_cons_mk (shut_int Try.underlying3 w0) (trodAll_cons_mk (shut_string Try.underlying9 w1) (trodAll_cons_mk (shut_adaptor _ _ _ wr2 ws2 wp2) (trodAll_cons_mk (shut_sig _ _ wr3 ws3) trodAll_mk0)))), rfl, bel.frame _, fun h => by cases h⟩
theorem over : Rows.fnExactAdaptorRevealRow.holds Try.pinned (OpenSpec.ofChange Rows.fnExactAdaptorRevealSpec) :=
  OpenClaim.holds_of_wide 10 Try.f10 rfl rfl rfl rfl rfl rfl rfl ⟨rfl, rfl, rfl, rfl, rfl⟩ rfl rfl rfl rfl rfl (by kernel_rfl) Try.func10 (by kernel_rfl)
    (of_decide_eq_true (by kernel_rfl)) (by unfold Func.isWrapper; first | (rw [if_pos (by decide +kernel)]; kernel_rfl) | (rw [if_neg (by decide +kernel)]; exact ⟨rfl, rfl⟩))
    (fun os started H enc _ => lifted os started H enc)
theorem proved : Rows.FnExactAdaptorRevealSaid := over
#print axioms proved
end Go.Proofs.Ytimajobbkemdbaa.fnExactAdaptorReveal
