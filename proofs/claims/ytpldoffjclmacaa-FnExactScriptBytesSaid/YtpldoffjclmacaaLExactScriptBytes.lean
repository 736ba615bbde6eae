/- For every list of operations that holds together at most 1<<20 elements and bytes as the law counts them (longer ones are let pass by the law itself), ScriptBytes of the program answers as the model's ScriptBytes, and leaves the list as it was. -/
import Derived.Test.YtpldoffjclmacaaRows
import Derived.Test.YtpldoffjclmacaaYc
import Derived.Test.YtpldoffjclmacaaOb
import Derived.WalkKit
import Derived.WalkSpells
import Derived.ProofKit
import Derived.OpenShut
import Derived.ShutString
import Derived.Below
import Derived.SliceStrings
namespace Go.Proofs.Ytpldoffjclmacaa.fnExactScriptBytes
open Go.ChangeShapes Go.WideShapes Go.ChangeAt Go.RowKit
open Go.ChangeMaps (open_string shut_string)
def IsSz (n : Nat) : Prop := n ≤ 1048576
set_option maxRecDepth 100000 in
set_option maxHeartbeats 3200000 in
theorem walk (a0 : Option Addr) (len0 cap0 : Nat) (z0 : List Jo) (w : World) (w0 : IsOps w a0 len0 cap0 z0) :
    Calls Try.prog 6 #[.slice a0 len0 cap0] w fun e w' => e = .returned (.bool true) ∧ Below w.heap.size w w' := by
  obtain ⟨hl0, hl1, HS, hbd⟩ := w0
  have hts := fun j hj => (hbd j hj).1
  clear hbd
  obtain ⟨X, HX⟩ : ∃ x, Hid (Jo.bs z0 = x) := ⟨_, Lib.hid rfl⟩
  obtain ⟨T, HT⟩ : ∃ x, Hid (Jo.ok z0 = x) := ⟨_, Lib.hid rfl⟩
  have hcon1 : Hid (∀ W b, IsSz len0 → OL W (some ⟨b, 0, none⟩) len0 z0 → Calls Try.prog 10 #[.slice (some ⟨b, 0, none⟩) len0 len0] W fun e w' => e = .returned (.tuple #[.string X, .bool T]) ∧ Below W.heap.size W w') := Lib.hid fun W b hz hi => by
    unfold IsSz at hz
    have := specScriptBytes_any (some ⟨b, 0, none⟩) len0 len0 z0 W hi (by omega)
    rw [HX.out, HT.out] at this
    exact this
  have hcon2 : Hid (∀ W b, IsSz len0 → OL W (some ⟨b, 0, none⟩) len0 z0 → Calls Try.prog 9 #[.slice (some ⟨b, 0, none⟩) len0 len0] W fun e w' => e = .returned (.tuple #[.string X, .bool T]) ∧ Below W.heap.size W w') := Lib.hid fun W b hz hi => by
    unfold IsSz at hz
    have := implScriptBytes_any (some ⟨b, 0, none⟩) len0 len0 z0 W hi (by omega)
    rw [HX.out, HT.out] at this
    exact this
  clear HX HT
  have hqX : (X.toList == X.toList) = true := by simp
  go_enter Try.func6, Try.ntmps6
  go_wp2_with fail
  refine (szOpS_any a0 len0 cap0 z0 _ HS (by omega) hts).mono ?_
  rintro e w1 ⟨v, rfl, hv, hb0⟩
  by_cases hneg : v < 0
  · clear hv HS hts
    go_wp2
    go_ret
    exact ⟨rfl, hb0⟩
  have hsz : len0 ≤ 1048576 := (hv.resolve_left hneg).1
  have HZ : IsSz len0 := hsz
  have HS0 := HS.below hb0
  clear hv hts HS
  go_wp2_with fail
  refine (toOpS_any a0 len0 cap0 z0 _ HS0 hsz).mono ?_
  rintro e w2 ⟨b1, rfl, hi1, hb1⟩
  have HS1 := HS0.below hb1
  replace hb1 := below_aft9 hb0 hb1
  clear hb0 HS0
  go_wp2_with fail
  refine (hcon1.out _ _ HZ hi1).mono ?_
  rintro e w2 ⟨rfl, hb2⟩
  have HS2 := HS1.below hb2
  replace hb2 := below_aft9 hb1 hb2
  clear HS1 hi1 hb1
  go_wp2_with fail
  refine (toOpS_any a0 len0 cap0 z0 _ HS2 hsz).mono ?_
  rintro e w3 ⟨b3, rfl, hi3, hb3⟩
  have HS3 := HS2.below hb3
  replace hb3 := below_aft9 hb2 hb3
  clear HS2 hb2
  go_wp2_with fail
  refine (hcon2.out _ _ HZ hi3).mono ?_
  rintro e w4 ⟨rfl, hb4⟩
  have HS5 := HS3.below hb4
  have hi5 := hi3.below hb4
  have hb5 := below_aft9 hb3 hb4
  clear HS3 hi3 hb3 hb4
  cases T
  all_goals
    go_wp2_with fail
    refine (toOpS_any a0 len0 cap0 z0 _ HS5 hsz).mono ?_
    rintro e w6 ⟨b6, rfl, hi6, hb6⟩
    have hi56 := hi5.below hb6
    replace hb6 := below_aft9 hb5 hb6
    clear HS5 hi5 hb5
    go_wp2_with fail
    refine (eqOpS_any (some ⟨b3, 0, none⟩) (some ⟨b6, 0, none⟩) len0 len0 len0 z0 _ hi56 hi6 (by omega)).mono ?_
    rintro e w7 ⟨rfl, hb7⟩
    replace hb7 := below_aft9 hb6 hb7
    clear hb6 hi56 hi6
    go_wp2
    go_ret
    exact ⟨rfl, hb7⟩
/-! ### The row's step. -/
theorem own : ownKnob Try.prog.godebug = none := by kernel_rfl
theorem laidOut : laidOutB Try.prog = true := by kernel_rfl
set_option maxRecDepth 100000 in
theorem lifted (os : Os) (started : os.Started) (H : Type) (enc : TypeId × Value → H) :
    ReturnsInHanded {} Try.checked os 6 .any (Rows.fnExactScriptBytesSpec.pre6 enc Try.prog Try.f6 Rows.fnExactScriptBytesRow.domain false) (Rows.fnExactScriptBytesSpec.post enc Try.prog Try.f6 false true false false) := by
  refine returnsInHanded_of_change (C := Try.checked) own started (by kernel_rfl) Try.func6
    (ChangeSpec.witness6 (enc := enc) (C := Try.checked) false ⟨#[], #[.slice none 0 0], []⟩ 8 (by kernel_rfl) (by kernel_rfl) (by kernel_rfl) (by kernel_rfl)) ?_
  intro W base args ds gs before hval0 hW hcnd _
  have hval : ∀ (j : Nat) t v, Try.f6.params[j]? = some t → args[j]? = some v → Value.okWide Try.prog W .any base t v := hval0
  have hW' := hW
  obtain ⟨p, q, hA0, hV, rfl, hfz, hnd⟩ := hW
  have hA : DataW.TrodAll enc Try.prog W 0 (fun _ => true) true Try.f6.params.toList args.toList ds p := hA0
  rw [Try.params6] at hA hval
  obtain ⟨v0, vs0, d0, ds0, p0, q0, hargs, rfl, rfl, h0, r0⟩ := trodAll_cons hA
  obtain ⟨rfl, rfl, rfl⟩ := trodAll_nil r0
  obtain rfl : args = #[v0] := by cases args; simp_all
  obtain ⟨rfl, rfl⟩ := trodVars_none hV
  obtain ⟨a0, len0, cap0, rfl⟩ := okWide_slice Try.underlying32 (hval 0 32 v0 rfl rfl)
  have k0 := h0
  have lt0 : ∀ x ∈ p0, x.block < W.heap.size := by obtain ⟨m, hm⟩ := k0; exact DataW.trod_lt m _ _ _ hm
  obtain ⟨z0, w0⟩ : ∃ l, IsOps W a0 len0 cap0 l := by
    obtain ⟨fuel, hf⟩ := h0
    exact open_ops (by simpa [Value.cells] using hf)
  clear hA0 hval0
  refine (walk a0 len0 cap0 z0 W w0).mono fun e W' ⟨he, bel⟩ => ?_
  subst he
  exact ⟨_, rfl, _, _, _, [], _, [], hW', trodAll_mk1 (shut_bool Try.underlying4 _), (trodAll_cons_mk (Below.trod laidOut (by kernel_rfl) (of_decide_eq_true (by kernel_rfl)) k0 bel lt0) trodAll_mk0), rfl, bel.frame _, fun h => by cases h⟩
theorem over : Rows.fnExactScriptBytesRow.holds Try.pinned (OpenSpec.ofChange Rows.fnExactScriptBytesSpec) :=
  OpenClaim.holds_of_wide 6 Try.f6 rfl rfl rfl rfl rfl rfl rfl ⟨rfl, rfl, rfl, rfl, rfl⟩ rfl rfl rfl rfl rfl (by kernel_rfl) Try.func6 (by kernel_rfl)
    (of_decide_eq_true (by kernel_rfl)) (by unfold Func.isWrapper; first | (rw [if_pos (by decide +kernel)]; kernel_rfl) | (rw [if_neg (by decide +kernel)]; exact ⟨rfl, rfl⟩))
    (fun os started H enc _ => lifted os started H enc)
theorem proved : Rows.FnExactScriptBytesSaid := over
#print axioms proved
end Go.Proofs.Ytpldoffjclmacaa.fnExactScriptBytes
