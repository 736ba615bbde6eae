/- For every number and every list of at most 1<<20 numbers (longer ones are let pass by the law itself), LockMany of the program answers as the model's LockMany, and leaves the list as it was. -/
import Derived.Test.YtoocibabceeagaaRows
import Derived.Test.YtoocibabceeagaaUg
import Derived.Test.YtoocibabceeagaaSm
import Derived.WalkKit
import Derived.WalkSpells
import Derived.ProofKit
import Derived.OpenShut
import Derived.ShutString
import Derived.Below
import Derived.SliceStrings
namespace Go.Proofs.Ytoocibabceeagaa.fnExactLockMany
open Go.ChangeShapes Go.WideShapes Go.ChangeAt Go.RowKit
open Go.ChangeMaps (open_string shut_string)
set_option maxRecDepth 100000 in
set_option maxHeartbeats 3200000 in
theorem walk (need : Int) (_ : (Lit.int .i64 need).wf = true) (a0 : Option Addr) (len0 cap0 : Nat) (z0 : List Int) (w : World) (w0 : IsInts w a0 len0 cap0 z0) :
    Calls Try.prog 11 #[.int .i64 need, .slice a0 len0 cap0] w fun e w' => e = .returned (.bool true) ∧ Below w.heap.size w w' := by
  obtain ⟨hl0, hl1, hl2⟩ := w0.len
  have HS := Lib.hid w0.ir
  clear w0
  generalize z0.take len0 = zs at HS
  by_cases hbig : (1048576 : Int) < (len0 : Int)
  · go_enter Try.func11, Try.ntmps11
    go_wp2
    go_ret
    exact ⟨rfl, Below.refl _ _⟩
  have hlen : len0 ≤ 1048576 := by omega
  have HSP := Lib.hid (fun W b h => specLockMany_any need (some ⟨b, 0, none⟩) len0 len0 zs W h (by omega))
  have HIP := Lib.hid (fun W b h => implLockMany_any need (some ⟨b, 0, none⟩) len0 len0 zs W h (by omega))
  unfold LkQ at HSP HIP
  obtain ⟨ok, HOK⟩ : ∃ x, Hid (Lk.manyOk need zs = x) := ⟨_, Lib.hid rfl⟩
  rw [HOK.out] at HSP HIP
  obtain ⟨X, HX⟩ : ∃ x, Hid (Lk.s ok (Lk.many need zs) = x) := ⟨_, Lib.hid rfl⟩
  rw [HX.out] at HSP HIP
  have hq : (X.toList == X.toList) = true := by simp
  clear HOK HX
  go_enter Try.func11, Try.ntmps11
  go_wp2_with fail
  refine (toIntS_any a0 len0 cap0 zs _ HS.out hlen).mono ?_
  rintro e w1 ⟨b1, rfl, _, hi1, hb1⟩
  have H1 := Lib.hid hi1
  clear hi1
  go_wp2_with fail
  refine (HSP.out _ _ H1.out).mono ?_
  rintro e w2 ⟨rfl, hx⟩
  have hb2 := hb1.trans (hx.mono hb1.size)
  clear hx hb1 H1
  go_wp2_with fail
  refine (toIntS_any a0 len0 cap0 zs _ (HS.out.below hb2) hlen).mono ?_
  rintro e w3 ⟨b3, rfl, _, hi3, hx⟩
  have H3 := Lib.hid hi3
  have hb3 := hb2.trans (hx.mono hb2.size)
  clear hi3 hx hb2
  go_wp2_with fail
  refine (HIP.out _ _ H3.out).mono ?_
  rintro e w4 ⟨rfl, hx⟩
  have hb4 := hb3.trans (hx.mono hb3.size)
  replace H3 := Lib.hid (H3.out.below hx)
  clear hx hb3
  cases ok
  all_goals
    go_wp2_with fail
    refine (toIntS_any a0 len0 cap0 zs _ (HS.out.below hb4) hlen).mono ?_
    rintro e w5 ⟨b5, rfl, _, hi5, hx⟩
    have H5 := Lib.hid hi5
    have hb5 := hb4.trans (hx.mono hb4.size)
    replace H3 := Lib.hid (H3.out.below hx)
    clear hi5 hx hb4
    go_wp2_with fail
    refine (eqIntS_any (some ⟨b3, 0, none⟩) (some ⟨b5, 0, none⟩) len0 len0 len0 zs _ H3.out H5.out (by omega)).mono ?_
    rintro e w6 ⟨rfl, hx⟩
    have hb6 := hb5.trans (hx.mono hb5.size)
    clear hx hb5 H3 H5
    go_wp2
    go_ret
    exact ⟨rfl, hb6⟩
/-! ### The row's step. -/
theorem own : ownKnob Try.prog.godebug = none := by kernel_rfl
theorem laidOut : laidOutB Try.prog = true := by kernel_rfl
set_option maxRecDepth 100000 in
theorem lifted (os : Os) (started : os.Started) (H : Type) (enc : TypeId × Value → H) :
    ReturnsInHanded {} Try.checked os 11 .any (Rows.fnExactLockManySpec.pre6 enc Try.prog Try.f11 Rows.fnExactLockManyRow.domain false) (Rows.fnExactLockManySpec.post enc Try.prog Try.f11 false true false false) := by
  refine returnsInHanded_of_change (C := Try.checked) own started (by kernel_rfl) Try.func11
    (ChangeSpec.witness6 (enc := enc) (C := Try.checked) false ⟨#[], #[.int .i64 0, .slice none 0 0], []⟩ 8 (by kernel_rfl) (by kernel_rfl) (by kernel_rfl) (by kernel_rfl)) ?_
  intro W base args ds gs before hval0 hW hcnd _
  have hval : ∀ (j : Nat) t v, Try.f11.params[j]? = some t → args[j]? = some v → Value.okWide Try.prog W .any base t v := hval0
  have hW' := hW
  obtain ⟨p, q, hA0, hV, rfl, hfz, hnd⟩ := hW
  have hA : DataW.TrodAll enc Try.prog W 0 (fun _ => true) true Try.f11.params.toList args.toList ds p := hA0
  rw [Try.params11] at hA hval
  obtain ⟨v0, vs0, d0, ds0, p0, q0, hargs, rfl, rfl, h0, r0⟩ := trodAll_cons hA
  obtain ⟨v1, vs1, d1, ds1, p1, q1, rfl, rfl, rfl, h1, r1⟩ := trodAll_cons r0
  obtain ⟨rfl, rfl, rfl⟩ := trodAll_nil r1
  obtain rfl : args = #[v0, v1] := by cases args; simp_all
  obtain ⟨rfl, rfl⟩ := trodVars_none hV
  obtain ⟨a0, rfl, rfl, rfl, w0⟩ := open_int Try.underlying3 (hval 0 3 v0 rfl rfl) h0
  obtain ⟨a1, len1, cap1, rfl⟩ := okWide_slice Try.underlying28 (hval 1 28 v1 rfl rfl)
  have k1 := h1
  have lt1 : ∀ x ∈ p1, x.block < W.heap.size := by obtain ⟨m, hm⟩ := k1; exact DataW.trod_lt m _ _ _ hm
  obtain ⟨z1, w1⟩ : ∃ zs, IsInts W a1 len1 cap1 zs := by
    obtain ⟨fuel, hf⟩ := h1
    rcases open_ints Try.underlying28 Try.underlying3 (by kernel_rfl) hf with ⟨hcs, _⟩ | ⟨x, l, c, zs, hcs, _, hl, hm, hz, _, hcell, hwz⟩
    · simp [Value.cells] at hcs
      obtain ⟨rfl, rfl, rfl⟩ := hcs
      exact ⟨[], .inl ⟨rfl, rfl, rfl, rfl⟩⟩
    · simp [Value.cells] at hcs
      obtain ⟨rfl, rfl, rfl⟩ := hcs
      exact ⟨zs, .inr ⟨_, rfl, hl, hm, by simpa using hz, hcell, hwz⟩⟩
  clear hA0 hval0
  refine (walk a0 w0 a1 len1 cap1 z1 W w1).mono fun e W' ⟨he, bel⟩ => ?_
  subst he
  exact ⟨_, rfl, _, _, _, [], _, [], hW', trodAll_mk1 (shut_bool Try.underlying4 _), (trodAll_cons_mk (shut_int Try.underlying3 w0) (trodAll_cons_mk (Below.trod laidOut (by kernel_rfl) (of_decide_eq_true (by kernel_rfl)) k1 bel lt1) trodAll_mk0)), rfl, bel.frame _, fun h => by cases h⟩
theorem over : Rows.fnExactLockManyRow.holds Try.pinned (OpenSpec.ofChange Rows.fnExactLockManySpec) :=
  OpenClaim.holds_of_wide 11 Try.f11 rfl rfl rfl rfl rfl rfl rfl ⟨rfl, rfl, rfl, rfl, rfl⟩ rfl rfl rfl rfl rfl (by kernel_rfl) Try.func11 (by kernel_rfl)
    (of_decide_eq_true (by kernel_rfl)) (by unfold Func.isWrapper; first | (rw [if_pos (by decide +kernel)]; kernel_rfl) | (rw [if_neg (by decide +kernel)]; exact ⟨rfl, rfl⟩))
    (fun os started H enc _ => lifted os started H enc)
theorem proved : Rows.FnExactLockManySaid := over
#print axioms proved
end Go.Proofs.Ytoocibabceeagaa.fnExactLockMany
