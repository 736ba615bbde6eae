/- For every code of at most 1<<20 bytes (longer ones are let pass by the law itself): LockMany answers as the model's LockMany, and what it makes is named shared. -/
import Derived.Test.YtoocibabceeagaaRows
import Derived.Test.YtoocibabceeagaaUj
import Derived.Test.YtoocibabceeagaaUg
import Derived.Test.YtoocibabceeagaaUf
import Derived.WalkKit
import Derived.WalkSpells
import Derived.ProofKit
import Derived.OpenShut
import Derived.ShutString
import Derived.Below
import Derived.SliceStrings
namespace Go.Proofs.Ytoocibabceeagaa.fnLockMany
open Go.ChangeShapes Go.WideShapes Go.ChangeAt Go.RowKit
open Go.ChangeMaps (open_string shut_string)
set_option maxRecDepth 100000 in
set_option maxHeartbeats 3200000 in
theorem walk (a0 : Option Addr) (len0 cap0 : Nat) (z0 : List Int) (w : World) (w0 : IsRow .u8 w a0 len0 cap0 z0) :
    Calls Try.prog 5 #[.slice a0 len0 cap0] w fun e w' => e = .returned (.bool true) ∧ Below w.heap.size w w' := by
  have hcm := w0.len
  by_cases h : (1048576 : Int) < (len0 : Int)
  · go_enter Try.func5, Try.ntmps5
    go_wp2
    go_ret
    exact ⟨rfl, Below.refl _ _⟩
  go_enter Try.func5, Try.ntmps5
  go_wp2_with fail
  refine (drawLockMany_any a0 len0 cap0 z0 _ w0 (by omega)).mono ?_
  rintro e w1 ⟨need, zs, g, cp, rfl, hl6, hir, hb1⟩
  clear w0 h hcm
  have HIR := Lib.hid hir
  have HS := Lib.hid (fun W h => specLockMany_any need (some ⟨g, 0, none⟩) zs.length cp zs W h (by omega))
  have HI := Lib.hid (fun W h => implLockMany_any need (some ⟨g, 0, none⟩) zs.length cp zs W h (by omega))
  unfold LkQ at HS HI
  clear hir hl6
  obtain ⟨ok, HOK⟩ : ∃ x, Hid (Lk.manyOk need zs = x) := ⟨_, Lib.hid rfl⟩
  have HNM : Hid (∀ W, ok = true → Calls Try.prog 18 #[.string (Lk.s ok (Lk.many need zs))] W fun e w' => e = .returned (.string ⟨#[115, 104, 97, 114, 101, 100]⟩) ∧ Below W.heap.size W w') := Lib.hid fun W hk => by
    subst hk
    have hz := Jo.bs_size (Lk.many need zs)
    have hs : Lk.s true (Lk.many need zs) = Jo.bs (Lk.many need zs) := rfl
    have hn : Lk.nameS (Jo.bs (Lk.many need zs)) = ⟨#[115, 104, 97, 114, 101, 100]⟩ := Lk.nameS_is (k := 2) (by decide) ⟨need, zs, HOK.out, rfl⟩
    rw [hs, ← hn]
    exact implLockName_any _ W (by omega)
  rw [HOK.out] at HS HI
  obtain ⟨X, HX⟩ : ∃ x, Hid (Lk.s ok (Lk.many need zs) = x) := ⟨_, Lib.hid rfl⟩
  rw [HX.out] at HS HI HNM
  have hq : (X.toList == X.toList) = true := by simp
  have hqe : ((⟨#[115, 104, 97, 114, 101, 100]⟩ : ByteArray).toList == (⟨#[115, 104, 97, 114, 101, 100]⟩ : ByteArray).toList) = true := by simp
  clear HOK HX
  go_wp2_with fail
  refine (HI.out _ HIR.out).mono ?_
  rintro e w2 ⟨rfl, hx⟩
  have hb2 := hb1.trans (hx.mono hb1.size)
  replace HIR := Lib.hid (HIR.out.below hx)
  clear hx
  go_wp2_with fail
  refine (HS.out _ HIR.out).mono ?_
  rintro e w3 ⟨rfl, hx⟩
  have hb3 := hb2.trans (hx.mono hb2.size)
  clear hx hb2
  cases ok
  · go_wp2
    go_ret
    exact ⟨rfl, hb3⟩
  · go_wp2_with fail
    refine (HNM.out _ (by first | rfl | trivial)).mono ?_
    rintro e w4 ⟨rfl, hx⟩
    have hb4 := hb3.trans (hx.mono hb3.size)
    go_wp2
    go_ret
    exact ⟨rfl, hb4⟩
/-! ### The row's step. -/
theorem own : ownKnob Try.prog.godebug = none := by kernel_rfl
theorem laidOut : laidOutB Try.prog = true := by kernel_rfl
set_option maxRecDepth 100000 in
theorem lifted (os : Os) (started : os.Started) (H : Type) (enc : TypeId × Value → H) :
    ReturnsInHanded {} Try.checked os 5 .any (Rows.fnLockManySpec.pre6 enc Try.prog Try.f5 Rows.fnLockManyRow.domain false) (Rows.fnLockManySpec.post enc Try.prog Try.f5 false true false false) := by
  refine returnsInHanded_of_change (C := Try.checked) own started (by kernel_rfl) Try.func5
    (ChangeSpec.witness6 (enc := enc) (C := Try.checked) false ⟨#[], #[.slice none 0 0], []⟩ 8 (by kernel_rfl) (by kernel_rfl) (by kernel_rfl) (by kernel_rfl)) ?_
  intro W base args ds gs before hval0 hW hcnd _
  have hval : ∀ (j : Nat) t v, Try.f5.params[j]? = some t → args[j]? = some v → Value.okWide Try.prog W .any base t v := hval0
  have hW' := hW
  obtain ⟨p, q, hA0, hV, rfl, hfz, hnd⟩ := hW
  have hA : DataW.TrodAll enc Try.prog W 0 (fun _ => true) true Try.f5.params.toList args.toList ds p := hA0
  rw [Try.params5] at hA hval
  obtain ⟨v0, vs0, d0, ds0, p0, q0, hargs, rfl, rfl, h0, r0⟩ := trodAll_cons hA
  obtain ⟨rfl, rfl, rfl⟩ := trodAll_nil r0
  obtain rfl : args = #[v0] := by cases args; simp_all
  obtain ⟨rfl, rfl⟩ := trodVars_none hV
  obtain ⟨a0, len0, cap0, rfl⟩ := okWide_slice Try.underlying22 (hval 0 22 v0 rfl rfl)
  have k0 := h0
  have lt0 : ∀ x ∈ p0, x.block < W.heap.size := by obtain ⟨m, hm⟩ := k0; exact DataW.trod_lt m _ _ _ hm
  obtain ⟨z0, w0⟩ : ∃ zs, IsRow .u8 W a0 len0 cap0 zs := by
    obtain ⟨fuel, hf⟩ := h0
    rcases open_ints Try.underlying22 Try.underlying5 (by kernel_rfl) hf with ⟨hcs, _⟩ | ⟨x, l, c, zs, hcs, _, hl, hm, hz, _, hcell, hwz⟩
    · simp [Value.cells] at hcs
      obtain ⟨rfl, rfl, rfl⟩ := hcs
      exact ⟨[], .inl ⟨rfl, rfl, rfl, rfl⟩⟩
    · simp [Value.cells] at hcs
      obtain ⟨rfl, rfl, rfl⟩ := hcs
      exact ⟨zs, .inr ⟨_, rfl, hl, hm, by simpa using hz, hcell, hwz⟩⟩
  clear hA0 hval0
  refine (walk a0 len0 cap0 z0 W w0).mono fun e W' ⟨he, bel⟩ => ?_
  subst he
  exact ⟨_, rfl, _, _, _, [], _, [], hW', trodAll_mk1 (shut_bool Try.underlying4 _), (trodAll_cons_mk (Below.trod laidOut (by kernel_rfl) (of_decide_eq_true (by kernel_rfl)) k0 bel lt0) trodAll_mk0), rfl, bel.frame _, fun h => by cases h⟩
theorem over : Rows.fnLockManyRow.holds Try.pinned (OpenSpec.ofChange Rows.fnLockManySpec) :=
  OpenClaim.holds_of_wide 5 Try.f5 rfl rfl rfl rfl rfl rfl rfl ⟨rfl, rfl, rfl, rfl, rfl⟩ rfl rfl rfl rfl rfl (by kernel_rfl) Try.func5 (by kernel_rfl)
    (of_decide_eq_true (by kernel_rfl)) (by unfold Func.isWrapper; first | (rw [if_pos (by decide +kernel)]; kernel_rfl) | (rw [if_neg (by decide +kernel)]; exact ⟨rfl, rfl⟩))
    (fun os started H enc _ => lifted os started H enc)
theorem proved : Rows.FnLockManySaid := over
#print axioms proved
end Go.Proofs.Ytoocibabceeagaa.fnLockMany
