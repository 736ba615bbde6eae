/- For every code of at most 1<<20 bytes (longer ones are let pass by the law itself): ScriptOk answers as the model's ScriptOk; just the scripts have bytes and a text. -/
import Derived.Test.YtpldoffjclmacaaDoorRows
import Derived.Test.YtpldoffjclmacaaDoorYi
import Derived.Test.YtpldoffjclmacaaDoorYj
import Derived.Test.YtpldoffjclmacaaDoorYl
import Derived.Test.YtpldoffjclmacaaDoorTie
import Derived.Test.YtpldoffjclmacaaDoorCards
import Derived.SevenTiedAt
import Derived.OpenVars
import Derived.ChangeVars
import Derived.LaidMore
import Derived.LaidLaws
import Derived.JoinedOf
import Derived.Stop.Joined
import Derived.WalkKit
import Derived.WalkSpells
import Derived.ProofKit
import Derived.OpenShut
import Derived.ShutString
import Derived.Below
import Derived.SliceStrings
namespace Go.Proofs.YtpldoffjclmacaaDoor.fnScriptOk
open Go.ChangeShapes Go.WideShapes Go.ChangeAt Go.RowKit
open Go.ChangeMaps (open_string shut_string)
set_option maxRecDepth 100000 in
set_option maxHeartbeats 3200000 in
theorem walk (a0 : Option Addr) (len0 cap0 : Nat) (z0 : List Int) (w : World) (w0 : IsRow .u8 w a0 len0 cap0 z0) (hgv : GV w) :
    Calls Tryd.prog 3 #[.slice a0 len0 cap0] w fun e w' => e = .returned (.bool true) ∧ Below w.heap.size w w' := by
  have hcm := w0.len
  by_cases h : (1048576 : Int) < (len0 : Int)
  · go_enter Tryd.func3, Tryd.ntmps3
    go_wp2
    go_ret
    exact ⟨rfl, Below.refl _ _⟩
  go_enter Tryd.func3, Tryd.ntmps3
  go_wp2_with fail
  refine (drawScriptOk_any a0 len0 cap0 z0 _ w0 (by omega)).mono ?_
  rintro e w1 ⟨a, n, cap, l, rfl, ol1, hn, hb1⟩
  have hgv1 := hgv.below hb1
  clear w0 h hcm hgv
  have hcon1 := fun W h => implScriptOk_any a n cap l W h (by omega)
  have hcon2 := fun W h => specScriptOk_any a n cap l W h (by omega)
  have hcon3 := fun W h => implScriptBytes_any a n cap l W h (by omega)
  have hcon4 := fun W h hg => implScriptText_any a n cap l W h (by omega) hg
  obtain ⟨X, HX⟩ : ∃ x, Hid (Jo.bs l = x) := ⟨_, Lib.hid rfl⟩
  obtain ⟨Y, HY⟩ : ∃ x, Hid (Jo.tx l = x) := ⟨_, Lib.hid rfl⟩
  obtain ⟨T, HT⟩ : ∃ x, Hid (Jo.ok l = x) := ⟨_, Lib.hid rfl⟩
  simp only [HX.out, HT.out] at hcon1 hcon2 hcon3
  simp only [HY.out, HT.out] at hcon4
  clear HX HY HT
  cases T
  all_goals
    go_wp2_with fail
    refine (hcon1 _ ol1).mono ?_
    rintro e w2 ⟨rfl, hb2⟩
    have ol2 := ol1.below hb2
    have hgv2 := hgv1.below hb2
    replace hb2 := below_aft9 hb1 hb2
    clear hb1 ol1 hgv1
    go_wp2_with fail
    refine (hcon2 _ ol2).mono ?_
    rintro e w3 ⟨rfl, hb3⟩
    have ol3 := ol2.below hb3
    have hgv3 := hgv2.below hb3
    replace hb3 := below_aft9 hb2 hb3
    clear hb2 ol2 hgv2
    go_wp2_with fail
    refine (hcon3 _ ol3).mono ?_
    rintro e w4 ⟨rfl, hb4⟩
    have ol4 := ol3.below hb4
    have hgv4 := hgv3.below hb4
    replace hb4 := below_aft9 hb3 hb4
    clear hb3 ol3 hgv3
    go_wp2_with fail
    refine (hcon4 _ ol4 hgv4).mono ?_
    rintro e w5 ⟨rfl, hb5⟩
    replace hb5 := below_aft9 hb4 hb5
    clear hb4 ol4 hgv4
    go_wp2
    go_ret
    exact ⟨rfl, hb5⟩
/-! ### The row's step. -/
theorem own : ownKnob Tryd.prog.godebug = none := by kernel_rfl
theorem laidOut : laidOutB Tryd.prog = true := by kernel_rfl
theorem door_met (os : Os) (args : Array Value) : laidMetH Tryd.prog Rows.fnScriptOkRow.laid ((World.doorLaid Tryd.prog 400 os).forCall (fun _ _ => 0) ⟨#[], args, []⟩).memory := by
  rw [MakeChecks.laidMetH_plain _ _ _ (by kernel_rfl)]
  exact laidMet_of_run' 8 (by kernel_rfl) (by kernel_rfl)
theorem gvL {W : World} (h : laidMetH Tryd.prog Rows.fnScriptOkRow.laid W) : GV W := by
  rw [MakeChecks.laidMetH_plain _ _ _ (by kernel_rfl)] at h
  obtain ⟨ps, ⟨g0, t0, cs0, f0, p0, q0, hg0, ht0, hv0, hd0, ⟨g1, t1, cs1, f1, p1, q1, hg1, ht1, hv1, hd1, ⟨g2, t2, cs2, f2, p2, q2, hg2, ht2, hv2, hd2, ⟨g3, t3, cs3, f3, p3, q3, hg3, ht3, hv3, hd3, _, _⟩, _⟩, _⟩, _⟩, _, _⟩ := h
  obtain rfl := Option.some.inj (gWords.symm.trans hg3)
  obtain rfl := Option.some.inj (tWords.symm.trans ht3)
  obtain rfl := Option.some.inj (gTab.symm.trans hg2)
  obtain rfl := Option.some.inj (tTab.symm.trans ht2)
  exact gv_of hv3 hd3 hv2 hd2
set_option maxRecDepth 100000 in
theorem lifted (os : Os) (started : os.Started) (H : Type) (enc : TypeId × Value → H) :
    ReturnsInHanded {} Tryd.checked os 3 .any (fun w args => (Rows.fnScriptOkSpec.pre enc Tryd.prog Tryd.f3 [] false w args ∧ laidMetH Tryd.prog Rows.fnScriptOkRow.laid w) ∧ sizedMet enc Tryd.prog Tryd.f3 (OpenSpec.ofChange Rows.fnScriptOkSpec) false w args) (Rows.fnScriptOkSpec.post enc Tryd.prog Tryd.f3 false true false false) := by
  refine returnsInHanded_of_change_and (C := Tryd.checked) (X := fun w _ => laidMetH Tryd.prog Rows.fnScriptOkRow.laid w) (fun _ _ _ hh h => h.of_heap hh) own started (by kernel_rfl) Tryd.func3
    (ChangeSpec.witness_shaped (enc := enc) (C := Tryd.checked) (os := os) (X := fun w _ => laidMetH Tryd.prog Rows.fnScriptOkRow.laid w) false (World.doorLaid Tryd.prog 400 os) #[.slice none 0 0] 8 rfl (World.shaped_of_RefB (by kernel_rfl) (by kernel_rfl)) (by kernel_rfl) (by kernel_rfl) (by kernel_rfl) (door_met os _)) ?_
  intro W base args ds gs before hval0 hW _ _ hL _
  have hval : ∀ (j : Nat) t v, Tryd.f3.params[j]? = some t → args[j]? = some v → Value.okWide Tryd.prog W .any base t v := hval0
  have hW' := hW
  obtain ⟨p, q, hA0, hV, rfl, hfz, hnd⟩ := hW
  have hA : DataW.TrodAll enc Tryd.prog W 0 (fun _ => true) true Tryd.f3.params.toList args.toList ds p := hA0
  rw [Tryd.params3] at hA hval
  obtain ⟨v0, vs0, d0, ds0, p0, q0, hargs, rfl, rfl, h0, r0⟩ := trodAll_cons hA
  obtain ⟨rfl, rfl, rfl⟩ := trodAll_nil r0
  obtain rfl : args = #[v0] := by cases args; simp_all
  have hV2 := hV
  obtain ⟨_, _, _, _, g1, _, rfl, _⟩ := trodVars_one hV2
  have hgv := gvL hL
  obtain ⟨a0, len0, cap0, rfl⟩ := okWide_slice Tryd.underlying22 (hval 0 22 v0 rfl rfl)
  have k0 := h0
  have lt0 : ∀ x ∈ p0, x.block < W.heap.size := by obtain ⟨m, hm⟩ := k0; exact DataW.trod_lt m _ _ _ hm
  obtain ⟨z0, w0⟩ : ∃ zs, IsRow .u8 W a0 len0 cap0 zs := by
    obtain ⟨fuel, hf⟩ := h0
    rcases open_ints Tryd.underlying22 Tryd.underlying5 (by kernel_rfl) hf with ⟨hcs, _⟩ | ⟨x, l, c, zs, hcs, _, hl, hm, hz, _, hcell, hwz⟩
    · simp [Value.cells] at hcs
      obtain ⟨rfl, rfl, rfl⟩ := hcs
      exact ⟨[], .inl ⟨rfl, rfl, rfl, rfl⟩⟩
    · simp [Value.cells] at hcs
      obtain ⟨rfl, rfl, rfl⟩ := hcs
      exact ⟨zs, .inr ⟨_, rfl, hl, hm, by simpa using hz, hcell, hwz⟩⟩
  clear hA0 hval0
  refine (walk a0 len0 cap0 z0 W w0 hgv).mono fun e W' ⟨he, bel⟩ => ?_
  subst he
  exact ⟨_, rfl, _, _, _, [], _, q, hW', trodAll_mk1 (shut_bool Tryd.underlying4 _), (trodAll_cons_mk (Below.trod laidOut (by kernel_rfl) (of_decide_eq_true (by kernel_rfl)) k0 bel lt0) trodAll_mk0), Below.trodVars laidOut bel (by kernel_rfl) hV, bel.frame _, fun h => by cases h⟩
theorem over : Rows.fnScriptOkRow.holds Tryd.pinned (OpenSpec.ofChange Rows.fnScriptOkSpec) :=
  OpenClaim.holds_of_wide 3 Tryd.f3 rfl rfl rfl rfl rfl rfl rfl ⟨rfl, rfl, rfl, rfl, rfl⟩ rfl rfl rfl rfl rfl (by kernel_rfl) Tryd.func3 (by kernel_rfl)
    (of_decide_eq_true (by kernel_rfl)) (by unfold Func.isWrapper; first | (rw [if_pos (by decide +kernel)]; kernel_rfl) | (rw [if_neg (by decide +kernel)]; exact ⟨rfl, rfl⟩))
    (fun os started H enc _ => lifted os started H enc)
theorem proved : Rows.FnScriptOkCardSaid :=
  Claim7.holds_tied_plain_at .later [] [.data, .data, .data, .data] true (true, "6e2f67af9938b37e119bf44c8f848d327ecf294c7a26371e097341461b8419ce") false
    over (fun _ h => by cases h) (by kernel_rfl) (fun _ h => by cases h) fnScriptOk_row_tie rfl ⟨rfl, rfl⟩ (by kernel_rfl) rfl
    (fun f fn hf hfn => by
      obtain rfl : f = 3 := Option.some.inj ((show Tryd.prog.funcNamed "loop.example/workchain/laws.FnScriptOk" = some 3 by kernel_rfl).symm.trans hf) |>.symm
      obtain rfl : fn = Tryd.f3 := (Option.some.inj (Tryd.func3.symm.trans hfn)).symm
      exact ⟨by kernel_rfl, fun j t ht => by
        rw [Tryd.params3] at ht
        have hm : t ∈ [22] := by simpa using Array.mem_of_getElem? ht
        have hall : ([22].all fun u => !Tryd.prog.wantsStandIn u) = true := by kernel_rfl
        exact (show Tryd.prog.wantsStandIn t = false by simpa using List.all_eq_true.1 hall t hm)⟩)
    (by kernel_rfl)
#print axioms proved
end Go.Proofs.YtpldoffjclmacaaDoor.fnScriptOk
