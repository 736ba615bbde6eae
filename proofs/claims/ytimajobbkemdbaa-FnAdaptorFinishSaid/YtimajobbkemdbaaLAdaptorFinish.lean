/- For every code of at most 1<<20 bytes (longer ones are let pass by the law itself): AdaptorFinish answers as the model's AdaptorFinish, and the difference of both S is the secret. -/
import Derived.Test.YtimajobbkemdbaaRows
import Derived.Test.YtimajobbkemdbaaAx
import Derived.Test.YtimajobbkemdbaaDn
import Derived.WalkKit
import Derived.WalkSpells
import Derived.ProofKit
import Derived.OpenShut
import Derived.ShutString
import Derived.Below
import Derived.SliceStrings
namespace Go.Proofs.Ytimajobbkemdbaa.fnAdaptorFinish
open Go.ChangeShapes Go.WideShapes Go.ChangeAt Go.RowKit
open Go.ChangeMaps (open_string shut_string)
set_option maxRecDepth 100000 in
set_option maxHeartbeats 1600000 in
theorem walk (a0 : Option Addr) (len0 cap0 : Nat) (z0 : List Int) (w : World) (w0 : IsRow .u8 w a0 len0 cap0 z0) :
    Calls Try.prog 5 #[.slice a0 len0 cap0] w fun e w' => e = .returned (.bool true) ∧ Below w.heap.size w w' := by
  have hcm := w0.len
  by_cases h : (1048576 : Int) < (len0 : Int)
  · go_enter Try.func5, Try.ntmps5
    go_wp2
    go_ret
    exact ⟨rfl, Below.refl _ _⟩
  go_enter Try.func5, Try.ntmps5
  go_wp2_with fail
  refine (drawAdaptorFinish_any a0 len0 cap0 z0 _ w0 (by omega)).mono ?_
  rintro e w1 ⟨R, S, P, u, rfl, hb1⟩
  clear w0 h hcm
  have HA1 : Bk w1.heap.size 26 #[.int .i64 R, .int .i64 S, .int .i64 P] (w1.alloc (.cells #[.int .i64 R, .int .i64 S, .int .i64 P] 26 (0, 0))) := Bk.new _ _ _
  have hc1 := below_alloc hb1 (.cells #[.int .i64 R, .int .i64 S, .int .i64 P] 26 (0, 0))
  clear hb1
  have hq2 := noGuard_sig
  have hcon1 := fun W => implAdaptorFinish_any R S P u W
  have hcon2 := fun W => specAdaptorFinish_any R S P u W
  unfold Ad.f0 Ad.f1 at hcon1 hcon2
  cases hf : Ad.fok R S P u
  · simp only [hf, Bool.false_eq_true, if_false] at hcon1 hcon2
    have hq1 := fun W => eq_sig 0 0 0 0 W
    simp only [beq_self_eq_true, Bool.and_true] at hq1
    clear hf
    obtain ⟨a0, a1, a2⟩ := Bk.c3 HA1
    go_wp2_with fail
    refine (hcon1 _).mono ?_
    rintro e2 w2 ⟨rfl, hb2⟩
    have HA2 := (HA1.below hb2).alloc (.cells #[.int .i64 0, .int .i64 0] 35 (0, 0))
    have HX2 : Bk (w2.heap.size) 35 #[.int .i64 0, .int .i64 0] _ := Bk.new (w2) 35 #[.int .i64 0, .int .i64 0]
    have hc2 := below_alloc (below_after hc1 hb2) (.cells #[.int .i64 0, .int .i64 0] 35 (0, 0))
    clear hb2 hc1 HA1
    clear a0 a1 a2
    obtain ⟨a0, a1, a2⟩ := Bk.c3 HA2
    go_wp2_with fail
    refine (hcon2 _).mono ?_
    rintro e3 w3 ⟨rfl, hb3⟩
    have HA3 := (HA2.below hb3).alloc (.cells #[.int .i64 0, .int .i64 0] 35 (0, 0))
    have HX3 := (HX2.below hb3).alloc (.cells #[.int .i64 0, .int .i64 0] 35 (0, 0))
    have HY3 : Bk (w3.heap.size) 35 #[.int .i64 0, .int .i64 0] _ := Bk.new (w3) 35 #[.int .i64 0, .int .i64 0]
    have hc3 := below_alloc (below_after hc2 hb3) (.cells #[.int .i64 0, .int .i64 0] 35 (0, 0))
    clear hb3 hc2 HA2 HX2
    obtain ⟨c0, c1⟩ := Bk.c2 HX3
    obtain ⟨d0, d1⟩ := Bk.c2 HY3
    go_wp2
    go_ret
    exact ⟨rfl, hc3⟩
  · simp only [hf, if_true] at hcon1 hcon2
    obtain ⟨⟨u0, u1⟩, _, _, s0, s1⟩ := (Ad.fok_iff R S P u).mp hf
    have hd : ((S + u) % 1073741789 - S + 1073741789) % 1073741789 = u := by omega
    have t0 := Int.emod_nonneg (S + u) (show (1073741789 : Int) ≠ 0 by decide)
    have t1 := Int.emod_lt_of_pos (S + u) (show (0 : Int) < 1073741789 by decide)
    obtain ⟨T, HT⟩ : ∃ T, Hid ((S + u) % 1073741789 = T) := ⟨_, Lib.hid rfl⟩
    obtain ⟨F, HF⟩ : ∃ F, Hid (Ad.fin R P = F) := ⟨_, Lib.hid rfl⟩
    rw [HT.out, HF.out] at hcon1 hcon2
    rw [HT.out] at hd t0 t1
    have hq1 := fun W => eq_sig F T F T W
    simp only [beq_self_eq_true, Bool.and_true] at hq1
    have hw1 : IntKind.i64.wrap (T - S) = T - S := by unfold IntKind.wrap; simp [IntKind.bits, IntKind.signed]; omega
    have hw2 : IntKind.i64.wrap (T - S + 1073741789) = T - S + 1073741789 := by unfold IntKind.wrap; simp [IntKind.bits, IntKind.signed]; omega
    have hw3 : Int.tmod (T - S + 1073741789) 1073741789 = u := by rw [Int.tmod_eq_emod_of_nonneg (by omega)]; exact hd
    clear hf HT HF hd t0 t1 u0 u1 s0 s1
    obtain ⟨a0, a1, a2⟩ := Bk.c3 HA1
    go_wp2_with fail
    refine (hcon1 _).mono ?_
    rintro e2 w2 ⟨rfl, hb2⟩
    have HA2 := (HA1.below hb2).alloc (.cells #[.int .i64 F, .int .i64 T] 35 (0, 0))
    have HX2 : Bk (w2.heap.size) 35 #[.int .i64 F, .int .i64 T] _ := Bk.new (w2) 35 #[.int .i64 F, .int .i64 T]
    have hc2 := below_alloc (below_after hc1 hb2) (.cells #[.int .i64 F, .int .i64 T] 35 (0, 0))
    clear hb2 hc1 HA1
    clear a0 a1 a2
    obtain ⟨a0, a1, a2⟩ := Bk.c3 HA2
    go_wp2_with fail
    refine (hcon2 _).mono ?_
    rintro e3 w3 ⟨rfl, hb3⟩
    have HA3 := (HA2.below hb3).alloc (.cells #[.int .i64 F, .int .i64 T] 35 (0, 0))
    have HX3 := (HX2.below hb3).alloc (.cells #[.int .i64 F, .int .i64 T] 35 (0, 0))
    have HY3 : Bk (w3.heap.size) 35 #[.int .i64 F, .int .i64 T] _ := Bk.new (w3) 35 #[.int .i64 F, .int .i64 T]
    have hc3 := below_alloc (below_after hc2 hb3) (.cells #[.int .i64 F, .int .i64 T] 35 (0, 0))
    clear hb3 hc2 HA2 HX2
    clear a0 a1 a2
    obtain ⟨a0, a1, a2⟩ := Bk.c3 HA3
    obtain ⟨c0, c1⟩ := Bk.c2 HX3
    obtain ⟨d0, d1⟩ := Bk.c2 HY3
    go_wp2
    go_ret
    exact ⟨rfl, hc3⟩
/-! ### The row's step. -/
theorem own : ownKnob Try.prog.godebug = none := by kernel_rfl
theorem laidOut : laidOutB Try.prog = true := by kernel_rfl
set_option maxRecDepth 100000 in
theorem lifted (os : Os) (started : os.Started) (H : Type) (enc : TypeId × Value → H) :
    ReturnsInHanded {} Try.checked os 5 .any (Rows.fnAdaptorFinishSpec.pre6 enc Try.prog Try.f5 Rows.fnAdaptorFinishRow.domain false) (Rows.fnAdaptorFinishSpec.post enc Try.prog Try.f5 false true false false) := by
  refine returnsInHanded_of_change (C := Try.checked) own started (by kernel_rfl) Try.func5
    (ChangeSpec.witness6 (enc := enc) (C := Try.checked) false ⟨#[], #[.slice none 0 0], []⟩ 8 (by kernel_rfl) (by kernel_rfl) (by kernel_rfl) (by kernel_rfl)) ?_
  intro W base args ds gs before hval0 hW hcnd _
  have hval : ∀ (j : Nat) t v, Try.f5.params[j]? = some t → args[j]? = some v → Value.okWide Try.prog W .any base t v := hval0
  have hW' := hW
  obtain ⟨p, q, hA0, hV, rfl, hfz, hnd⟩ := hW
  have hA : DataW.TrodAll enc Try.prog W 0 (fun _ => true) true Try.f5.params.toList args.toList ds p := hA0
  rw [Try.params5] at hA hval
  obtain ⟨v0, vs0, d0, ds0, p0, q0, hargs, rfl, rfl, h0, r0⟩ := trodAll_cons hA
  obtain ⟨rfl, rfl, rfl⟩ := trodAll_nil r0
  obtain rfl : args = #[v0] := by cases args; simp_all
  obtain ⟨rfl, rfl⟩ := trodVars_none hV
  obtain ⟨a0, len0, cap0, rfl⟩ := okWide_slice Try.underlying22 (hval 0 22 v0 rfl rfl)
  have k0 := h0
  have lt0 : ∀ x ∈ p0, x.block < W.heap.size := by obtain ⟨m, hm⟩ := k0; exact DataW.trod_lt m _ _ _ hm
  obtain ⟨z0, w0⟩ : ∃ zs, IsRow .u8 W a0 len0 cap0 zs := by
    obtain ⟨fuel, hf⟩ := h0
    rcases open_ints Try.underlying22 Try.underlying5 (by kernel_rfl) hf with ⟨hcs, _⟩ | ⟨x, l, c, zs, hcs, _, hl, hm, hz, _, hcell, hwz⟩
    · simp [Value.cells] at hcs
      obtain ⟨rfl, rfl, rfl⟩ := hcs
      exact ⟨[], .inl ⟨rfl, rfl, rfl, rfl⟩⟩
    · simp [Value.cells] at hcs
      obtain ⟨rfl, rfl, rfl⟩ := hcs
      exact ⟨zs, .inr ⟨_, rfl, hl, hm, by simpa using hz, hcell, hwz⟩⟩
  clear hA0 hval0
  refine (walk a0 len0 cap0 z0 W w0).mono fun e W' ⟨he, bel⟩ => ?_
  subst he
  exact ⟨_, rfl, _, _, _, [], _, [], hW', trodAll_mk1 (shut_bool Try.underlying4 _), (trodAll_cons_mk (Below.trod laidOut (by kernel_rfl) (of_decide_eq_true (by kernel_rfl)) k0 bel lt0) trodAll_mk0), rfl, bel.frame _, fun h => by cases h⟩
theorem over : Rows.fnAdaptorFinishRow.holds Try.pinned (OpenSpec.ofChange Rows.fnAdaptorFinishSpec) :=
  OpenClaim.holds_of_wide 5 Try.f5 rfl rfl rfl rfl rfl rfl rfl ⟨rfl, rfl, rfl, rfl, rfl⟩ rfl rfl rfl rfl rfl (by kernel_rfl) Try.func5 (by kernel_rfl)
    (of_decide_eq_true (by kernel_rfl)) (by unfold Func.isWrapper; first | (rw [if_pos (by decide +kernel)]; kernel_rfl) | (rw [if_neg (by decide +kernel)]; exact ⟨rfl, rfl⟩))
    (fun os started H enc _ => lifted os started H enc)
theorem proved : Rows.FnAdaptorFinishSaid := over
#print axioms proved
end Go.Proofs.Ytimajobbkemdbaa.fnAdaptorFinish
