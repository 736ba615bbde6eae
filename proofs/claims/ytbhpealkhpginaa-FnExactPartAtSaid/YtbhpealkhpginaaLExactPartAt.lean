/- For every list of shares of at most 1<<20 (a longer one is let pass by the law itself) and every number, PartAt of the program answers as the model's PartAt, and leaves the list as it was. -/
import Derived.Test.YtbhpealkhpginaaRows
import Derived.Test.YtbhpealkhpginaaQi
import Derived.Test.YtbhpealkhpginaaQw
import Derived.Test.YtbhpealkhpginaaQv
import Derived.WalkKit
import Derived.WalkSpells
import Derived.ProofKit
import Derived.OpenShut
import Derived.ShutString
import Derived.Below
import Derived.SliceStrings
namespace Go.Proofs.Ytbhpealkhpginaa.fnExactPartAt
open Go.ChangeShapes Go.WideShapes Go.ChangeAt Go.RowKit
open Go.ChangeMaps (open_string shut_string)
def IsSz (n : Nat) : Prop := n ≤ 1048576
set_option maxRecDepth 100000 in
set_option maxHeartbeats 1600000 in
theorem walk (a0 : Option Addr) (len0 cap0 : Nat) (z0 : List (Int × Int)) (x : Int) (_ : (Lit.int .i64 x).wf = true) (w : World) (w0 : IsPts w a0 len0 cap0 z0) :
    Calls Try.prog 10 #[.slice a0 len0 cap0, .int .i64 x] w fun e w' => e = .returned (.bool true) ∧ Below w.heap.size w w' := by
  obtain ⟨hl0, hl1, HS⟩ := w0
  generalize z0 = zs at HS
  obtain ⟨R, HR⟩ : ∃ K, Hid (Po.at0 zs x = K) := ⟨_, Lib.hid rfl⟩
  obtain ⟨S, HSS⟩ : ∃ K, Hid (Po.at1 zs x = K) := ⟨_, Lib.hid rfl⟩
  obtain ⟨T, HT⟩ : ∃ X, Hid (Po.atOk zs x = X) := ⟨_, Lib.hid rfl⟩
  have hcon1 : Hid (∀ W b, IsSz len0 → QR W (some ⟨b, 0, none⟩) len0 zs → Calls Try.prog 21 #[.slice (some ⟨b, 0, none⟩) len0 len0, .int .i64 x] W fun e w' => e = .returned (.tuple #[.agg #[.int .i64 R, .int .i64 S], .bool T]) ∧ Below W.heap.size W w') := Lib.hid fun W b hz hi => by
    unfold IsSz at hz
    have := specPartAt_any (some ⟨b, 0, none⟩) len0 len0 zs x W hi
    rwa [HR.out, HSS.out, HT.out] at this
  have hcon2 : Hid (∀ W b, IsSz len0 → QR W (some ⟨b, 0, none⟩) len0 zs → Calls Try.prog 20 #[.slice (some ⟨b, 0, none⟩) len0 len0, .int .i64 x] W fun e w' => e = .returned (.tuple #[.agg #[.int .i64 R, .int .i64 S], .bool T]) ∧ Below W.heap.size W w') := Lib.hid fun W b hz hi => by
    unfold IsSz at hz
    have := implPartAt_any (some ⟨b, 0, none⟩) len0 len0 zs x W hi (Nat.le_refl _) (by omega)
    rwa [HR.out, HSS.out, HT.out] at this
  clear HR HT HSS
  go_enter Try.func10, Try.ntmps10
  go_wp2_with fail
  refine (szPartS_any a0 len0 cap0 _ (by omega)).mono ?_
  rintro e w1 ⟨⟨v, rfl, hv⟩, hw1⟩
  subst hw1
  by_cases hneg : v < 0
  · go_wp2
    go_ret
    exact ⟨rfl, Below.refl _ _⟩
  have hsz : len0 ≤ 1048576 := hv.resolve_left hneg
  have HZ : IsSz len0 := hsz
  clear hv
  go_wp2_with fail
  refine (toPartS_any a0 len0 cap0 zs _ HS hsz).mono ?_
  rintro e w1 ⟨b1, rfl, hi1, hb1⟩
  have HS1 := HS.below hb1
  go_wp2_with fail
  refine (hcon1.out _ _ HZ hi1).mono ?_
  rintro e w2 ⟨rfl, hb2⟩
  have HX2 : Bk w2.heap.size 35 #[.int .i64 R, .int .i64 S] (w2.alloc (.cells #[.int .i64 R, .int .i64 S] 35 (0, 0))) := Bk.new _ _ _
  have HS2 := (HS1.below hb2).alloc (.cells #[.int .i64 R, .int .i64 S] 35 (0, 0))
  replace hb2 := below_alloc (below_after hb1 hb2) (.cells #[.int .i64 R, .int .i64 S] 35 (0, 0))
  clear HS1 hi1 hb1
  go_wp2_with fail
  refine (toPartS_any a0 len0 cap0 zs _ HS2 hsz).mono ?_
  rintro e w3 ⟨b3, rfl, hi3, hb3⟩
  have HS3 := HS2.below hb3
  have HX3 := HX2.below hb3
  replace hb3 := below_after hb2 hb3
  clear HS2 hb2
  go_wp2_with fail
  refine (hcon2.out _ _ HZ hi3).mono ?_
  rintro e w4 ⟨rfl, hb4⟩
  have HS4 := (HS3.below hb4).alloc (.cells #[.int .i64 R, .int .i64 S] 35 (0, 0))
  have hi4 := (hi3.below hb4).alloc (.cells #[.int .i64 R, .int .i64 S] 35 (0, 0))
  have HX4 := (HX3.below hb4).alloc (.cells #[.int .i64 R, .int .i64 S] 35 (0, 0))
  replace hb4 := below_alloc (below_after hb3 hb4) (.cells #[.int .i64 R, .int .i64 S] 35 (0, 0))
  clear HS3 hi3 hb3 HX3
  obtain ⟨c0, c1⟩ := Bk.c2 HX4
  go_wp2_with fail
  refine (eqPart_any R S _).mono ?_
  rintro e w5 ⟨rfl, hb5⟩
  have HS5 := HS4.below hb5
  have hi5 := hi4.below hb5
  replace hb5 := below_after hb4 hb5
  clear HS4 hi4 hb4 HX4 c0 c1
  cases T
  all_goals
    go_wp2_with fail
    refine (toPartS_any a0 len0 cap0 zs _ HS5 hsz).mono ?_
    rintro e w6 ⟨b6, rfl, hi6, hb6⟩
    have hi56 := hi5.below hb6
    replace hb6 := below_after hb5 hb6
    clear HS5 hi5 hb5
    go_wp2_with fail
    refine (eqPartS_any b3 b6 len0 len0 len0 zs _ hi56 hi6 (by omega)).mono ?_
    rintro e w7 ⟨rfl, hb7⟩
    replace hb7 := below_after hb6 hb7
    clear hb6 hi56 hi6
    go_wp2
    go_ret
    exact ⟨rfl, hb7⟩
/-! ### The row's step. -/
theorem own : ownKnob Try.prog.godebug = none := by kernel_rfl
theorem laidOut : laidOutB Try.prog = true := by kernel_rfl
set_option maxRecDepth 100000 in
theorem lifted (os : Os) (started : os.Started) (H : Type) (enc : TypeId × Value → H) :
    ReturnsInHanded {} Try.checked os 10 .any (Rows.fnExactPartAtSpec.pre6 enc Try.prog Try.f10 Rows.fnExactPartAtRow.domain false) (Rows.fnExactPartAtSpec.post enc Try.prog Try.f10 false true false false) := by
  refine returnsInHanded_of_change (C := Try.checked) own started (by kernel_rfl) Try.func10
    (ChangeSpec.witness6 (enc := enc) (C := Try.checked) false ⟨#[], #[.slice none 0 0, .int .i64 0], []⟩ 8 (by kernel_rfl) (by kernel_rfl) (by kernel_rfl) (by kernel_rfl)) ?_
  intro W base args ds gs before hval0 hW hcnd _
  have hval : ∀ (j : Nat) t v, Try.f10.params[j]? = some t → args[j]? = some v → Value.okWide Try.prog W .any base t v := hval0
  have hW' := hW
  obtain ⟨p, q, hA0, hV, rfl, hfz, hnd⟩ := hW
  have hA : DataW.TrodAll enc Try.prog W 0 (fun _ => true) true Try.f10.params.toList args.toList ds p := hA0
  rw [Try.params10] at hA hval
  obtain ⟨v0, vs0, d0, ds0, p0, q0, hargs, rfl, rfl, h0, r0⟩ := trodAll_cons hA
  obtain ⟨v1, vs1, d1, ds1, p1, q1, rfl, rfl, rfl, h1, r1⟩ := trodAll_cons r0
  obtain ⟨rfl, rfl, rfl⟩ := trodAll_nil r1
  obtain rfl : args = #[v0, v1] := by cases args; simp_all
  obtain ⟨rfl, rfl⟩ := trodVars_none hV
  obtain ⟨a0, len0, cap0, rfl⟩ := okWide_slice Try.underlying49 (hval 0 49 v0 rfl rfl)
  have k0 := h0
  have lt0 : ∀ x ∈ p0, x.block < W.heap.size := by obtain ⟨m, hm⟩ := k0; exact DataW.trod_lt m _ _ _ hm
  obtain ⟨z0, w0⟩ : ∃ l, IsPts W a0 len0 cap0 l := by
    obtain ⟨fuel, hf⟩ := h0
    exact open_pts (by simpa [Value.cells] using hf)
  obtain ⟨a1, rfl, rfl, rfl, w1⟩ := open_int Try.underlying3 (hval 1 3 v1 rfl rfl) h1
  clear hA0 hval0
  refine (walk a0 len0 cap0 z0 a1 w1 W w0).mono fun e W' ⟨he, bel⟩ => ?_
  subst he
  exact ⟨_, rfl, _, _, _, [], _, [], hW', trodAll_mk1 (shut_bool Try.underlying4 _), (trodAll_cons_mk (Below.trod laidOut (by kernel_rfl) (of_decide_eq_true (by kernel_rfl)) k0 bel lt0) (trodAll_cons_mk (shut_int Try.underlying3 w1) trodAll_mk0)), rfl, bel.frame _, fun h => by cases h⟩
theorem over : Rows.fnExactPartAtRow.holds Try.pinned (OpenSpec.ofChange Rows.fnExactPartAtSpec) :=
  OpenClaim.holds_of_wide 10 Try.f10 rfl rfl rfl rfl rfl rfl rfl ⟨rfl, rfl, rfl, rfl, rfl⟩ rfl rfl rfl rfl rfl (by kernel_rfl) Try.func10 (by kernel_rfl)
    (of_decide_eq_true (by kernel_rfl)) (by unfold Func.isWrapper; first | (rw [if_pos (by decide +kernel)]; kernel_rfl) | (rw [if_neg (by decide +kernel)]; exact ⟨rfl, rfl⟩))
    (fun os started H enc _ => lifted os started H enc)
theorem proved : Rows.FnExactPartAtSaid := over
#print axioms proved
end Go.Proofs.Ytbhpealkhpginaa.fnExactPartAt
