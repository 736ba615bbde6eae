/- For every list of at most 1<<20 numbers (a longer one is let pass by the law itself), SharedKey of the program answers as the model's SharedKey, and leaves the list as it was. -/
import Derived.Test.YtabihimhenhnnaaRows
import Derived.Test.YtabihimhenhnnaaSr
import Derived.WalkKit
import Derived.WalkSpells
import Derived.ProofKit
import Derived.OpenShut
import Derived.ShutString
import Derived.Below
import Derived.SliceStrings
namespace Go.Proofs.Ytabihimhenhnnaa.fnExactSharedKey
open Go.ChangeShapes Go.WideShapes Go.ChangeAt Go.RowKit
open Go.ChangeMaps (open_string shut_string)
set_option maxRecDepth 100000 in
set_option maxHeartbeats 1600000 in
theorem walk (a0 : Option Addr) (len0 cap0 : Nat) (z0 : List Int) (w : World) (w0 : IsInts w a0 len0 cap0 z0) :
    Calls Try.prog 5 #[.slice a0 len0 cap0] w fun e w' => e = .returned (.bool true) ∧ Below w.heap.size w w' := by
  obtain ⟨hl0, hl1, hl2⟩ := w0.len
  have HS := w0.ir
  clear w0
  generalize z0.take len0 = zs at HS
  by_cases h : (1048576 : Int) < (len0 : Int)
  · go_enter Try.func5, Try.ntmps5
    go_wp2
    go_ret
    exact ⟨rfl, Below.refl _ _⟩
  obtain ⟨K, HK⟩ : ∃ K, Hid (Sd.res zs = K) := ⟨_, Lib.hid rfl⟩
  obtain ⟨X, HX⟩ : ∃ X, Hid (Sd.ok zs = X) := ⟨_, Lib.hid rfl⟩
  have hcon1 : Hid (∀ W b, IR W (some ⟨b, 0, none⟩) len0 zs → Calls Try.prog 9 #[.slice (some ⟨b, 0, none⟩) len0 len0] W fun e w' => e = .returned (.tuple #[.int .i64 K, .bool X]) ∧ Below W.heap.size W w') := Lib.hid fun W b hi => by
    have := specSharedKey_any (some ⟨b, 0, none⟩) len0 len0 zs W hi
    rwa [HK.out, HX.out] at this
  have hcon2 : Hid (∀ W b, IR W (some ⟨b, 0, none⟩) len0 zs → Calls Try.prog 8 #[.slice (some ⟨b, 0, none⟩) len0 len0] W fun e w' => e = .returned (.tuple #[.int .i64 K, .bool X]) ∧ Below W.heap.size W w') := Lib.hid fun W b hi => by
    have := implSharedKey_any (some ⟨b, 0, none⟩) len0 len0 zs W hi (by omega)
    rwa [HK.out, HX.out] at this
  clear HK HX
  go_enter Try.func5, Try.ntmps5
  go_wp2_with fail
  refine (toIntS_any a0 len0 cap0 zs _ HS (by omega)).mono ?_
  rintro e w1 ⟨b1, rfl, hn1, hi1, hb1⟩
  have HS1 := HS.below hb1
  go_wp2_with fail
  refine (hcon1.out _ _ hi1).mono ?_
  rintro e w2 ⟨rfl, hb2⟩
  have HS2 := HS1.below hb2
  replace hb2 := below_after hb1 hb2
  clear HS1 hi1 hb1
  go_wp2_with fail
  refine (toIntS_any a0 len0 cap0 zs _ HS2 (by omega)).mono ?_
  rintro e w3 ⟨b3, rfl, hn3, hi3, hb3⟩
  have HS3 := HS2.below hb3
  replace hb3 := below_after hb2 hb3
  clear HS2 hb2
  go_wp2_with fail
  refine (hcon2.out _ _ hi3).mono ?_
  rintro e w4 ⟨rfl, hb4⟩
  have HS4 := HS3.below hb4
  have hi4 := hi3.below hb4
  replace hb4 := below_after hb3 hb4
  clear HS3 hi3 hb3
  go_wp2_with fail
  refine (toIntS_any a0 len0 cap0 zs _ HS4 (by omega)).mono ?_
  rintro e w5 ⟨b5, rfl, hn5, hi5, hb5⟩
  have hi45 := hi4.below hb5
  replace hb5 := below_after hb4 hb5
  clear HS4 hi4 hb4
  go_wp2_with fail
  refine (eqIntS_any (some ⟨b3, 0, none⟩) (some ⟨b5, 0, none⟩) len0 len0 len0 zs _ hi45 hi5 (by omega)).mono ?_
  rintro e w6 ⟨rfl, hb6⟩
  replace hb6 := below_after hb5 hb6
  clear hb5 hi45 hi5
  go_wp2
  go_ret
  exact ⟨rfl, hb6⟩
/-! ### The row's step. -/
theorem own : ownKnob Try.prog.godebug = none := by kernel_rfl
theorem laidOut : laidOutB Try.prog = true := by kernel_rfl
set_option maxRecDepth 100000 in
theorem lifted (os : Os) (started : os.Started) (H : Type) (enc : TypeId × Value → H) :
    ReturnsInHanded {} Try.checked os 5 .any (Rows.fnExactSharedKeySpec.pre6 enc Try.prog Try.f5 Rows.fnExactSharedKeyRow.domain false) (Rows.fnExactSharedKeySpec.post enc Try.prog Try.f5 false true false false) := by
  refine returnsInHanded_of_change (C := Try.checked) own started (by kernel_rfl) Try.func5
    (ChangeSpec.witness6 (enc := enc) (C := Try.checked) false ⟨#[], #[.slice none 0 0], []⟩ 8 (by kernel_rfl) (by kernel_rfl) (by kernel_rfl) (by kernel_rfl)) ?_
  intro W base args ds gs before hval0 hW hcnd _
  have hval : ∀ (j : Nat) t v, Try.f5.params[j]? = some t → args[j]? = some v → Value.okWide Try.prog W .any base t v := hval0
  have hW' := hW
  obtain ⟨p, q, hA0, hV, rfl, hfz, hnd⟩ := hW
  have hA : DataW.TrodAll enc Try.prog W 0 (fun _ => true) true Try.f5.params.toList args.toList ds p := hA0
  rw [Try.params5] at hA hval
  obtain ⟨v0, vs0, d0, ds0, p0, q0, hargs, rfl, rfl, h0, r0⟩ := trodAll_cons hA
  obtain ⟨rfl, rfl, rfl⟩ := trodAll_nil r0
  obtain rfl : args = #[v0] := by cases args; simp_all
  obtain ⟨rfl, rfl⟩ := trodVars_none hV
  obtain ⟨a0, len0, cap0, rfl⟩ := okWide_slice Try.underlying23 (hval 0 23 v0 rfl rfl)
  have k0 := h0
  have lt0 : ∀ x ∈ p0, x.block < W.heap.size := by obtain ⟨m, hm⟩ := k0; exact DataW.trod_lt m _ _ _ hm
  obtain ⟨z0, w0⟩ : ∃ zs, IsInts W a0 len0 cap0 zs := by
    obtain ⟨fuel, hf⟩ := h0
    rcases open_ints Try.underlying23 Try.underlying3 (by kernel_rfl) hf with ⟨hcs, _⟩ | ⟨x, l, c, zs, hcs, _, hl, hm, hz, _, hcell, hwz⟩
    · simp [Value.cells] at hcs
      obtain ⟨rfl, rfl, rfl⟩ := hcs
      exact ⟨[], .inl ⟨rfl, rfl, rfl, rfl⟩⟩
    · simp [Value.cells] at hcs
      obtain ⟨rfl, rfl, rfl⟩ := hcs
      exact ⟨zs, .inr ⟨_, rfl, hl, hm, by simpa using hz, hcell, hwz⟩⟩
  clear hA0 hval0
  refine (walk a0 len0 cap0 z0 W w0).mono fun e W' ⟨he, bel⟩ => ?_
  subst he
  exact ⟨_, rfl, _, _, _, [], _, [], hW', trodAll_mk1 (shut_bool Try.underlying4 _), (trodAll_cons_mk (Below.trod laidOut (by kernel_rfl) (of_decide_eq_true (by kernel_rfl)) k0 bel lt0) trodAll_mk0), rfl, bel.frame _, fun h => by cases h⟩
theorem over : Rows.fnExactSharedKeyRow.holds Try.pinned (OpenSpec.ofChange Rows.fnExactSharedKeySpec) :=
  OpenClaim.holds_of_wide 5 Try.f5 rfl rfl rfl rfl rfl rfl rfl ⟨rfl, rfl, rfl, rfl, rfl⟩ rfl rfl rfl rfl rfl (by kernel_rfl) Try.func5 (by kernel_rfl)
    (of_decide_eq_true (by kernel_rfl)) (by unfold Func.isWrapper; first | (rw [if_pos (by decide +kernel)]; kernel_rfl) | (rw [if_neg (by decide +kernel)]; exact ⟨rfl, rfl⟩))
    (fun os started H enc _ => lifted os started H enc)
theorem proved : Rows.FnExactSharedKeySaid := over
#print axioms proved
end Go.Proofs.Ytabihimhenhnnaa.fnExactSharedKey
