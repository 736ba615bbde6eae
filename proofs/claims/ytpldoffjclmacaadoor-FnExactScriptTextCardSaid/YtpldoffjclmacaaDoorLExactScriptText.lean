/- For every list of operations that holds together at most 1<<20 elements and bytes as the law counts them (longer ones are let pass by the law itself), ScriptText of the program answers as the model's ScriptText, and leaves the list as it was. -/
import Derived.Test.YtpldoffjclmacaaDoorRows
import Derived.Test.YtpldoffjclmacaaDoorYi
import Derived.Test.YtpldoffjclmacaaDoorYj
import Derived.Test.YtpldoffjclmacaaDoorOb
import Derived.Test.YtpldoffjclmacaaDoorTie
import Derived.Test.YtpldoffjclmacaaDoorCards
import Derived.SevenTiedAt
import Derived.OpenVars
import Derived.ChangeVars
import Derived.LaidMore
import Derived.LaidLaws
import Derived.JoinedOf
import Derived.Stop.Joined
import Derived.WalkKit
import Derived.WalkSpells
import Derived.ProofKit
import Derived.OpenShut
import Derived.ShutString
import Derived.Below
import Derived.SliceStrings
namespace Go.Proofs.YtpldoffjclmacaaDoor.fnExactScriptText
open Go.ChangeShapes Go.WideShapes Go.ChangeAt Go.RowKit
open Go.ChangeMaps (open_string shut_string)
def IsSz (n : Nat) : Prop := n ≤ 1048576
set_option maxRecDepth 100000 in
set_option maxHeartbeats 3200000 in
theorem walk (a0 : Option Addr) (len0 cap0 : Nat) (z0 : List Jo) (w : World) (w0 : IsOps w a0 len0 cap0 z0) (hgv : GV w) :
    Calls Tryd.prog 4 #[.slice a0 len0 cap0] w fun e w' => e = .returned (.bool true) ∧ Below w.heap.size w w' := by
  obtain ⟨hl0, hl1, HS, hbd⟩ := w0
  have hts := fun j hj => (hbd j hj).1
  clear hbd
  obtain ⟨X, HX⟩ : ∃ x, Hid (Jo.tx z0 = x) := ⟨_, Lib.hid rfl⟩
  obtain ⟨T, HT⟩ : ∃ x, Hid (Jo.ok z0 = x) := ⟨_, Lib.hid rfl⟩
  have hcon1 : Hid (∀ W b, IsSz len0 → OL W (some ⟨b, 0, none⟩) len0 z0 → Calls Tryd.prog 11 #[.slice (some ⟨b, 0, none⟩) len0 len0] W fun e w' => e = .returned (.tuple #[.string X, .bool T]) ∧ Below W.heap.size W w') := Lib.hid fun W b hz hi => by
    unfold IsSz at hz
    have := specScriptText_any (some ⟨b, 0, none⟩) len0 len0 z0 W hi (by omega)
    rw [HX.out, HT.out] at this
    exact this
  have hcon2 : Hid (∀ W b, IsSz len0 → OL W (some ⟨b, 0, none⟩) len0 z0 → GV W → Calls Tryd.prog 9 #[.slice (some ⟨b, 0, none⟩) len0 len0] W fun e w' => e = .returned (.tuple #[.string X, .bool T]) ∧ Below W.heap.size W w') := Lib.hid fun W b hz hi hG => by
    unfold IsSz at hz
    have := implScriptText_any (some ⟨b, 0, none⟩) len0 len0 z0 W hi (by omega) hG
    rw [HX.out, HT.out] at this
    exact this
  clear HX HT
  have hqX : (X.toList == X.toList) = true := by simp
  go_enter Tryd.func4, Tryd.ntmps4
  go_wp2_with fail
  refine (szOpS_any a0 len0 cap0 z0 _ HS (by omega) hts).mono ?_
  rintro e w1 ⟨v, rfl, hv, hb0⟩
  by_cases hneg : v < 0
  · clear hv HS hts
    go_wp2
    go_ret
    exact ⟨rfl, hb0⟩
  have hsz : len0 ≤ 1048576 := (hv.resolve_left hneg).1
  have HZ : IsSz len0 := hsz
  have HS0 := HS.below hb0
  have hgv0 := hgv.below hb0
  clear hv hts HS
  go_wp2_with fail
  refine (toOpS_any a0 len0 cap0 z0 _ HS0 hsz).mono ?_
  rintro e w2 ⟨b1, rfl, hi1, hb1⟩
  have HS1 := HS0.below hb1
  have hgv1 := hgv0.below hb1
  replace hb1 := below_aft9 hb0 hb1
  clear hb0 HS0
  go_wp2_with fail
  refine (hcon1.out _ _ HZ hi1).mono ?_
  rintro e w2 ⟨rfl, hb2⟩
  have HS2 := HS1.below hb2
  have hgv2 := hgv1.below hb2
  replace hb2 := below_aft9 hb1 hb2
  clear HS1 hi1 hb1
  go_wp2_with fail
  refine (toOpS_any a0 len0 cap0 z0 _ HS2 hsz).mono ?_
  rintro e w3 ⟨b3, rfl, hi3, hb3⟩
  have HS3 := HS2.below hb3
  have hgv3 := hgv2.below hb3
  replace hb3 := below_aft9 hb2 hb3
  clear HS2 hb2
  go_wp2_with fail
  refine (hcon2.out _ _ HZ hi3 hgv3).mono ?_
  rintro e w4 ⟨rfl, hb4⟩
  have HS5 := HS3.below hb4
  have hi5 := hi3.below hb4
  have hb5 := below_aft9 hb3 hb4
  clear HS3 hi3 hb3 hb4
  cases T
  all_goals
    go_wp2_with fail
    refine (toOpS_any a0 len0 cap0 z0 _ HS5 hsz).mono ?_
    rintro e w6 ⟨b6, rfl, hi6, hb6⟩
    have hi56 := hi5.below hb6
    replace hb6 := below_aft9 hb5 hb6
    clear HS5 hi5 hb5
    go_wp2_with fail
    refine (eqOpS_any (some ⟨b3, 0, none⟩) (some ⟨b6, 0, none⟩) len0 len0 len0 z0 _ hi56 hi6 (by omega)).mono ?_
    rintro e w7 ⟨rfl, hb7⟩
    replace hb7 := below_aft9 hb6 hb7
    clear hb6 hi56 hi6
    go_wp2
    go_ret
    exact ⟨rfl, hb7⟩
/-! ### The row's step. -/
theorem own : ownKnob Tryd.prog.godebug = none := by kernel_rfl
theorem laidOut : laidOutB Tryd.prog = true := by kernel_rfl
theorem door_met (os : Os) (args : Array Value) : laidMetH Tryd.prog Rows.fnExactScriptTextRow.laid ((World.doorLaid Tryd.prog 400 os).forCall (fun _ _ => 0) ⟨#[], args, []⟩).memory := by
  rw [MakeChecks.laidMetH_plain _ _ _ (by kernel_rfl)]
  exact laidMet_of_run' 8 (by kernel_rfl) (by kernel_rfl)
theorem gvL {W : World} (h : laidMetH Tryd.prog Rows.fnExactScriptTextRow.laid W) : GV W := by
  rw [MakeChecks.laidMetH_plain _ _ _ (by kernel_rfl)] at h
  obtain ⟨ps, ⟨g0, t0, cs0, f0, p0, q0, hg0, ht0, hv0, hd0, ⟨g1, t1, cs1, f1, p1, q1, hg1, ht1, hv1, hd1, ⟨g2, t2, cs2, f2, p2, q2, hg2, ht2, hv2, hd2, ⟨g3, t3, cs3, f3, p3, q3, hg3, ht3, hv3, hd3, _, _⟩, _⟩, _⟩, _⟩, _, _⟩ := h
  obtain rfl := Option.some.inj (gWords.symm.trans hg3)
  obtain rfl := Option.some.inj (tWords.symm.trans ht3)
  obtain rfl := Option.some.inj (gTab.symm.trans hg2)
  obtain rfl := Option.some.inj (tTab.symm.trans ht2)
  exact gv_of hv3 hd3 hv2 hd2
set_option maxRecDepth 100000 in
theorem lifted (os : Os) (started : os.Started) (H : Type) (enc : TypeId × Value → H) :
    ReturnsInHanded {} Tryd.checked os 4 .any (fun w args => (Rows.fnExactScriptTextSpec.pre enc Tryd.prog Tryd.f4 [] false w args ∧ laidMetH Tryd.prog Rows.fnExactScriptTextRow.laid w) ∧ sizedMet enc Tryd.prog Tryd.f4 (OpenSpec.ofChange Rows.fnExactScriptTextSpec) false w args) (Rows.fnExactScriptTextSpec.post enc Tryd.prog Tryd.f4 false true false false) := by
  refine returnsInHanded_of_change_and (C := Tryd.checked) (X := fun w _ => laidMetH Tryd.prog Rows.fnExactScriptTextRow.laid w) (fun _ _ _ hh h => h.of_heap hh) own started (by kernel_rfl) Tryd.func4
    (ChangeSpec.witness_shaped (enc := enc) (C := Tryd.checked) (os := os) (X := fun w _ => laidMetH Tryd.prog Rows.fnExactScriptTextRow.laid w) false (World.doorLaid Tryd.prog 400 os) #[.slice none 0 0] 8 rfl (World.shaped_of_RefB (by kernel_rfl) (by kernel_rfl)) (by kernel_rfl) (by kernel_rfl) (by kernel_rfl) (door_met os _)) ?_
  intro W base args ds gs before hval0 hW _ _ hL _
  have hval : ∀ (j : Nat) t v, Tryd.f4.params[j]? = some t → args[j]? = some v → Value.okWide Tryd.prog W .any base t v := hval0
  have hW' := hW
  obtain ⟨p, q, hA0, hV, rfl, hfz, hnd⟩ := hW
  have hA : DataW.TrodAll enc Tryd.prog W 0 (fun _ => true) true Tryd.f4.params.toList args.toList ds p := hA0
  rw [Tryd.params4] at hA hval
  obtain ⟨v0, vs0, d0, ds0, p0, q0, hargs, rfl, rfl, h0, r0⟩ := trodAll_cons hA
  obtain ⟨rfl, rfl, rfl⟩ := trodAll_nil r0
  obtain rfl : args = #[v0] := by cases args; simp_all
  have hV2 := hV
  obtain ⟨_, _, _, _, g1, _, rfl, _⟩ := trodVars_one hV2
  have hgv := gvL hL
  obtain ⟨a0, len0, cap0, rfl⟩ := okWide_slice Tryd.underlying29 (hval 0 29 v0 rfl rfl)
  have k0 := h0
  have lt0 : ∀ x ∈ p0, x.block < W.heap.size := by obtain ⟨m, hm⟩ := k0; exact DataW.trod_lt m _ _ _ hm
  obtain ⟨z0, w0⟩ : ∃ l, IsOps W a0 len0 cap0 l := by
    obtain ⟨fuel, hf⟩ := h0
    exact open_ops (by simpa [Value.cells] using hf)
  clear hA0 hval0
  refine (walk a0 len0 cap0 z0 W w0 hgv).mono fun e W' ⟨he, bel⟩ => ?_
  subst he
  exact ⟨_, rfl, _, _, _, [], _, q, hW', trodAll_mk1 (shut_bool Tryd.underlying4 _), (trodAll_cons_mk (Below.trod laidOut (by kernel_rfl) (of_decide_eq_true (by kernel_rfl)) k0 bel lt0) trodAll_mk0), Below.trodVars laidOut bel (by kernel_rfl) hV, bel.frame _, fun h => by cases h⟩
theorem over : Rows.fnExactScriptTextRow.holds Tryd.pinned (OpenSpec.ofChange Rows.fnExactScriptTextSpec) :=
  OpenClaim.holds_of_wide 4 Tryd.f4 rfl rfl rfl rfl rfl rfl rfl ⟨rfl, rfl, rfl, rfl, rfl⟩ rfl rfl rfl rfl rfl (by kernel_rfl) Tryd.func4 (by kernel_rfl)
    (of_decide_eq_true (by kernel_rfl)) (by unfold Func.isWrapper; first | (rw [if_pos (by decide +kernel)]; kernel_rfl) | (rw [if_neg (by decide +kernel)]; exact ⟨rfl, rfl⟩))
    (fun os started H enc _ => lifted os started H enc)
theorem proved : Rows.FnExactScriptTextCardSaid :=
  Claim7.holds_tied_plain_at .later [] [.data, .data, .data, .data] true (true, "6e2f67af9938b37e119bf44c8f848d327ecf294c7a26371e097341461b8419ce") false
    over (fun _ h => by cases h) (by kernel_rfl) (fun _ h => by cases h) fnExactScriptText_row_tie rfl ⟨rfl, rfl⟩ (by kernel_rfl) rfl
    (fun f fn hf hfn => by
      obtain rfl : f = 4 := Option.some.inj ((show Tryd.prog.funcNamed "loop.example/workchain/laws.FnExactScriptText" = some 4 by kernel_rfl).symm.trans hf) |>.symm
      obtain rfl : fn = Tryd.f4 := (Option.some.inj (Tryd.func4.symm.trans hfn)).symm
      exact ⟨by kernel_rfl, fun j t ht => by
        rw [Tryd.params4] at ht
        have hm : t ∈ [29] := by simpa using Array.mem_of_getElem? ht
        have hall : ([29].all fun u => !Tryd.prog.wantsStandIn u) = true := by kernel_rfl
        exact (show Tryd.prog.wantsStandIn t = false by simpa using List.all_eq_true.1 hall t hm)⟩)
    (by kernel_rfl)
#print axioms proved
end Go.Proofs.YtpldoffjclmacaaDoor.fnExactScriptText
