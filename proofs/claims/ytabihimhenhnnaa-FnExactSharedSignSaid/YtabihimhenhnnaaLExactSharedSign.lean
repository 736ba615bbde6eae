/- For every list of at most 1<<20 numbers and every message of at most 1<<20 bytes (longer ones are let pass by the law itself), SharedSign of the program answers as the model's SharedSign, and leaves the list as it was. -/
import Derived.Test.YtabihimhenhnnaaRows
import Derived.Test.YtabihimhenhnnaaSs
import Derived.Test.YtabihimhenhnnaaSn
import Derived.Test.YtabihimhenhnnaaSx
import Derived.WalkKit
import Derived.WalkSpells
import Derived.ProofKit
import Derived.OpenShut
import Derived.ShutString
import Derived.Below
import Derived.SliceStrings
namespace Go.Proofs.Ytabihimhenhnnaa.fnExactSharedSign
open Go.ChangeShapes Go.WideShapes Go.ChangeAt Go.RowKit
open Go.ChangeMaps (open_string shut_string)
set_option maxRecDepth 100000 in
set_option maxHeartbeats 1600000 in
theorem walk (a0 : Option Addr) (len0 cap0 : Nat) (z0 : List Int) (t : ByteArray) (_ : t.size ≤ maxLen) (w : World) (w0 : IsInts w a0 len0 cap0 z0) :
    Calls Try.prog 6 #[.slice a0 len0 cap0, .string t] w fun e w' => e = .returned (.bool true) ∧ Below w.heap.size w w' := by
  obtain ⟨hl0, hl1, hl2⟩ := w0.len
  have HS := w0.ir
  clear w0
  generalize z0.take len0 = zs at HS
  by_cases h : (1048576 : Int) < (len0 : Int)
  · go_enter Try.func6, Try.ntmps6
    go_wp2
    go_ret
    exact ⟨rfl, Below.refl _ _⟩
  by_cases h2 : (1048576 : Int) < (t.size : Int)
  · go_enter Try.func6, Try.ntmps6
    go_wp2
    go_ret
    exact ⟨rfl, Below.refl _ _⟩
  obtain ⟨R, HR⟩ : ∃ K, Hid (Sd.s0 zs t = K) := ⟨_, Lib.hid rfl⟩
  obtain ⟨S, HSS⟩ : ∃ K, Hid (Sd.s1 zs t = K) := ⟨_, Lib.hid rfl⟩
  obtain ⟨X, HX⟩ : ∃ X, Hid (Sd.sok zs = X) := ⟨_, Lib.hid rfl⟩
  have hcon1 : Hid (∀ W b, IR W (some ⟨b, 0, none⟩) len0 zs → Calls Try.prog 13 #[.slice (some ⟨b, 0, none⟩) len0 len0, .string t] W fun e w' => e = .returned (.tuple #[.agg #[.int .i64 R, .int .i64 S], .bool X]) ∧ Below W.heap.size W w') := Lib.hid fun W b hi => by
    have := specSharedSign_any (some ⟨b, 0, none⟩) len0 len0 zs t W hi (by omega) (by omega)
    rwa [HR.out, HSS.out, HX.out] at this
  have hcon2 : Hid (∀ W b, IR W (some ⟨b, 0, none⟩) len0 zs → Calls Try.prog 12 #[.slice (some ⟨b, 0, none⟩) len0 len0, .string t] W fun e w' => e = .returned (.tuple #[.agg #[.int .i64 R, .int .i64 S], .bool X]) ∧ Below W.heap.size W w') := Lib.hid fun W b hi => by
    have := implSharedSign_any (some ⟨b, 0, none⟩) len0 len0 zs t W hi (by omega) (by omega)
    rwa [HR.out, HSS.out, HX.out] at this
  clear HR HSS HX
  go_enter Try.func6, Try.ntmps6
  go_wp2_with fail
  refine (toIntS_any a0 len0 cap0 zs _ HS (by omega)).mono ?_
  rintro e w1 ⟨b1, rfl, hn1, hi1, hb1⟩
  have HS1 := HS.below hb1
  go_wp2_with fail
  refine (hcon1.out _ _ hi1).mono ?_
  rintro e w2 ⟨rfl, hb2⟩
  have HX2 : Bk w2.heap.size 32 #[.int .i64 R, .int .i64 S] (w2.alloc (.cells #[.int .i64 R, .int .i64 S] 32 (0, 0))) := Bk.new _ _ _
  have HS2 := (HS1.below hb2).alloc (.cells #[.int .i64 R, .int .i64 S] 32 (0, 0))
  replace hb2 := below_alloc (below_after hb1 hb2) (.cells #[.int .i64 R, .int .i64 S] 32 (0, 0))
  clear HS1 hi1 hb1
  go_wp2_with fail
  refine (toIntS_any a0 len0 cap0 zs _ HS2 (by omega)).mono ?_
  rintro e w3 ⟨b3, rfl, hn3, hi3, hb3⟩
  have HS3 := HS2.below hb3
  have HX3 := HX2.below hb3
  replace hb3 := below_after hb2 hb3
  clear HS2 hb2 HX2
  go_wp2_with fail
  refine (hcon2.out _ _ hi3).mono ?_
  rintro e w4 ⟨rfl, hb4⟩
  have HS4 := (HS3.below hb4).alloc (.cells #[.int .i64 R, .int .i64 S] 32 (0, 0))
  have hi4 := (hi3.below hb4).alloc (.cells #[.int .i64 R, .int .i64 S] 32 (0, 0))
  have HX4 := (HX3.below hb4).alloc (.cells #[.int .i64 R, .int .i64 S] 32 (0, 0))
  replace hb4 := below_alloc (below_after hb3 hb4) (.cells #[.int .i64 R, .int .i64 S] 32 (0, 0))
  clear HS3 hi3 hb3 HX3
  obtain ⟨c0, c1⟩ := Bk.c2 HX4
  go_wp2_with fail
  refine (eqSig_any R S _).mono ?_
  rintro e w5 ⟨rfl, hb5⟩
  have HS5 := HS4.below hb5
  have hi5 := hi4.below hb5
  replace hb5 := below_after hb4 hb5
  clear HS4 hi4 hb4 HX4 c0 c1
  cases X
  all_goals
    go_wp2_with fail
    refine (toIntS_any a0 len0 cap0 zs _ HS5 (by omega)).mono ?_
    rintro e w6 ⟨b6, rfl, hn6, hi6, hb6⟩
    have hi56 := hi5.below hb6
    replace hb6 := below_after hb5 hb6
    clear HS5 hi5 hb5
    go_wp2_with fail
    refine (eqIntS_any (some ⟨b3, 0, none⟩) (some ⟨b6, 0, none⟩) len0 len0 len0 zs _ hi56 hi6 (by omega)).mono ?_
    rintro e w7 ⟨rfl, hb7⟩
    replace hb7 := below_after hb6 hb7
    clear hb6 hi56 hi6
    go_wp2
    go_ret
    exact ⟨rfl, hb7⟩
/-! ### The row's step. -/
theorem own : ownKnob Try.prog.godebug = none := by kernel_rfl
theorem laidOut : laidOutB Try.prog = true := by kernel_rfl
set_option maxRecDepth 100000 in
theorem lifted (os : Os) (started : os.Started) (H : Type) (enc : TypeId × Value → H) :
    ReturnsInHanded {} Try.checked os 6 .any (Rows.fnExactSharedSignSpec.pre6 enc Try.prog Try.f6 Rows.fnExactSharedSignRow.domain false) (Rows.fnExactSharedSignSpec.post enc Try.prog Try.f6 false true false false) := by
  refine returnsInHanded_of_change (C := Try.checked) own started (by kernel_rfl) Try.func6
    (ChangeSpec.witness6 (enc := enc) (C := Try.checked) false ⟨#[], #[.slice none 0 0, .string ByteArray.empty], []⟩ 8 (by kernel_rfl) (by kernel_rfl) (by kernel_rfl) (by kernel_rfl)) ?_
  intro W base args ds gs before hval0 hW hcnd _
  have hval : ∀ (j : Nat) t v, Try.f6.params[j]? = some t → args[j]? = some v → Value.okWide Try.prog W .any base t v := hval0
  have hW' := hW
  obtain ⟨p, q, hA0, hV, rfl, hfz, hnd⟩ := hW
  have hA : DataW.TrodAll enc Try.prog W 0 (fun _ => true) true Try.f6.params.toList args.toList ds p := hA0
  rw [Try.params6] at hA hval
  obtain ⟨v0, vs0, d0, ds0, p0, q0, hargs, rfl, rfl, h0, r0⟩ := trodAll_cons hA
  obtain ⟨v1, vs1, d1, ds1, p1, q1, rfl, rfl, rfl, h1, r1⟩ := trodAll_cons r0
  obtain ⟨rfl, rfl, rfl⟩ := trodAll_nil r1
  obtain rfl : args = #[v0, v1] := by cases args; simp_all
  obtain ⟨rfl, rfl⟩ := trodVars_none hV
  obtain ⟨a0, len0, cap0, rfl⟩ := okWide_slice Try.underlying23 (hval 0 23 v0 rfl rfl)
  have k0 := h0
  have lt0 : ∀ x ∈ p0, x.block < W.heap.size := by obtain ⟨m, hm⟩ := k0; exact DataW.trod_lt m _ _ _ hm
  obtain ⟨z0, w0⟩ : ∃ zs, IsInts W a0 len0 cap0 zs := by
    obtain ⟨fuel, hf⟩ := h0
    rcases open_ints Try.underlying23 Try.underlying3 (by kernel_rfl) hf with ⟨hcs, _⟩ | ⟨x, l, c, zs, hcs, _, hl, hm, hz, _, hcell, hwz⟩
    · simp [Value.cells] at hcs
      obtain ⟨rfl, rfl, rfl⟩ := hcs
      exact ⟨[], .inl ⟨rfl, rfl, rfl, rfl⟩⟩
    · simp [Value.cells] at hcs
      obtain ⟨rfl, rfl, rfl⟩ := hcs
      exact ⟨zs, .inr ⟨_, rfl, hl, hm, by simpa using hz, hcell, hwz⟩⟩
  obtain ⟨a1, rfl, rfl, rfl, w1⟩ := open_string Try.underlying9 (hval 1 9 v1 rfl rfl) h1
  clear hA0 hval0
  refine (walk a0 len0 cap0 z0 a1 w1 W w0).mono fun e W' ⟨he, bel⟩ => ?_
  subst he
  exact ⟨_, rfl, _, _, _, [], _, [], hW', trodAll_mk1 (shut_bool Try.underlying4 _), (trodAll_cons_mk (Below.trod laidOut (by kernel_rfl) (of_decide_eq_true (by kernel_rfl)) k0 bel lt0) (trodAll_cons_mk (shut_string Try.underlying9 w1) trodAll_mk0)), rfl, bel.frame _, fun h => by cases h⟩
theorem over : Rows.fnExactSharedSignRow.holds Try.pinned (OpenSpec.ofChange Rows.fnExactSharedSignSpec) :=
  OpenClaim.holds_of_wide 6 Try.f6 rfl rfl rfl rfl rfl rfl rfl ⟨rfl, rfl, rfl, rfl, rfl⟩ rfl rfl rfl rfl rfl (by kernel_rfl) Try.func6 (by kernel_rfl)
    (of_decide_eq_true (by kernel_rfl)) (by unfold Func.isWrapper; first | (rw [if_pos (by decide +kernel)]; kernel_rfl) | (rw [if_neg (by decide +kernel)]; exact ⟨rfl, rfl⟩))
    (fun os started H enc _ => lifted os started H enc)
theorem proved : Rows.FnExactSharedSignSaid := over
#print axioms proved
end Go.Proofs.Ytabihimhenhnnaa.fnExactSharedSign
