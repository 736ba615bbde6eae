/- For every code of at most 1<<20 bytes (longer ones are let pass by the law itself): ScriptText answers as the model's ScriptText, and what it writes is read back by ScriptParse. -/
import Derived.Test.YtpldoffjclmacaaGreatDoorRows
import Derived.Test.YtpldoffjclmacaaGreatDoorYi
import Derived.Test.YtpldoffjclmacaaGreatDoorYu
import Derived.Test.YtpldoffjclmacaaGreatDoorYv
import Derived.Test.YtpldoffjclmacaaGreatDoorYl
import Derived.Test.YtpldoffjclmacaaGreatDoorTie
import Derived.Test.YtpldoffjclmacaaGreatDoorCards
import Derived.SevenTiedAt
import Derived.OpenVars
import Derived.ChangeVars
import Derived.LaidMore
import Derived.LaidLaws
import Derived.JoinedOf
import Derived.Stop.Joined
import Derived.WalkKit
import Derived.WalkSpells
import Derived.ProofKit
import Derived.OpenShut
import Derived.ShutString
import Derived.Below
import Derived.SliceStrings
namespace Go.Proofs.YtpldoffjclmacaaGreatDoor.fnScriptText
open Go.ChangeShapes Go.WideShapes Go.ChangeAt Go.RowKit
open Go.ChangeMaps (open_string shut_string)
set_option maxRecDepth 100000 in
set_option maxHeartbeats 3200000 in
theorem walk (a0 : Option Addr) (len0 cap0 : Nat) (z0 : List Int) (w : World) (w0 : IsRow .u8 w a0 len0 cap0 z0) (hgv : GX w) :
    Calls Tryz.prog 3 #[.slice a0 len0 cap0] w fun e w' => e = .returned (.bool true) ∧ Below w.heap.size w w' := by
  have hcm := w0.len
  have HGX := Lib.hid hgv
  clear hgv
  by_cases h : (1048576 : Int) < (len0 : Int)
  · go_enter Tryz.func3, Tryz.ntmps3
    go_wp2
    go_ret
    exact ⟨rfl, Below.refl _ _⟩
  go_enter Tryz.func3, Tryz.ntmps3
  go_wp2_with fail
  refine (drawScriptText_any a0 len0 cap0 z0 _ w0 (by omega)).mono ?_
  rintro e w1 ⟨a, n, cap, l, rfl, ol1, hn, hb1⟩
  clear w0 h hcm
  have hcon1 := fun W h hG => implScriptText_any a n cap l W h (by omega) hG
  have hcon2 := fun W h => specScriptText_any a n cap l W h (by omega)
  cases hok : Jo.ok l
  · obtain ⟨X, HX⟩ : ∃ x, Hid (Jo.tx l = x) := ⟨_, Lib.hid rfl⟩
    simp only [HX.out, hok] at hcon1 hcon2
    have hq : (X.toList == X.toList) = true := by simp
    clear HX hok
    go_wp2_with fail
    refine (hcon1 _ ol1 (HGX.out.below hb1).1).mono ?_
    rintro e w2 ⟨rfl, hb2⟩
    have ol2 := ol1.below hb2
    replace hb2 := below_aft9 hb1 hb2
    clear hb1 ol1
    go_wp2_with fail
    refine (hcon2 _ ol2).mono ?_
    rintro e w3 ⟨rfl, hb3⟩
    replace hb3 := below_aft9 hb2 hb3
    go_wp2
    go_ret
    exact ⟨rfl, hb3⟩
  · have e : Jo.tx l = strOfNums (Jo.text l) := by unfold Jo.tx; rw [if_pos hok]
    have hrd : Jo.parse (Jo.L (Jo.tx l)) = some l := by
      rw [e, Jo.L_str _ (Jo.text_bd hok).2]; exact Jo.parse_text hok
    have hsz : (Jo.tx l).size ≤ 1048576 := by
      have := (Jo.text_bd hok).1
      rw [e, strOfNums_size]; omega
    clear e
    have HLN := Lib.hid ol1.1
    have hcon3 : Hid (∀ W, GX W → Calls Tryz.prog 9 #[.string (Jo.tx l)] W fun e w' => ∃ a3 c3, e = .returned (.tuple #[.slice a3 n c3, .bool true]) ∧ OL w' a3 n l ∧ Below W.heap.size W w') := Lib.hid fun W hG => (implScriptParse_any _ W hsz hG).mono fun e w' h => by
      rcases h with ⟨hl, _⟩ | ⟨l', a3, c3, hl, he, hown, hb⟩
      · rw [hrd] at hl; cases hl
      · rw [hrd] at hl; cases hl
        rw [HLN.out] at he hown
        exact ⟨a3, c3, he, (OL.own hown).2, hb⟩
    obtain ⟨X, HX⟩ : ∃ x, Hid (Jo.tx l = x) := ⟨_, Lib.hid rfl⟩
    simp only [HX.out, hok] at hcon1 hcon2
    rw [HX.out] at hcon3
    have hq : (X.toList == X.toList) = true := by simp
    clear HX hok hrd hsz
    go_wp2_with fail
    refine (hcon1 _ ol1 (HGX.out.below hb1).1).mono ?_
    rintro e w2 ⟨rfl, hb2⟩
    have ol2 := ol1.below hb2
    replace hb2 := below_aft9 hb1 hb2
    clear hb1 ol1
    go_wp2_with fail
    refine (hcon2 _ ol2).mono ?_
    rintro e w3 ⟨rfl, hb3⟩
    have ol3 := ol2.below hb3
    replace hb3 := below_aft9 hb2 hb3
    clear hb2 ol2
    go_wp2_with fail
    refine (hcon3.out _ (HGX.out.below hb3)).mono ?_
    rintro e w4 ⟨a3, c3, rfl, ol34, hb4⟩
    have ol4 := ol3.below hb4
    replace hb4 := below_aft9 hb3 hb4
    clear hb3 ol3
    go_wp2_with fail
    refine (wcOps_any a3 a n c3 cap l _ ol34 ol4 (by omega)).mono ?_
    rintro e w5 ⟨rfl, hb5⟩
    replace hb5 := below_aft9 hb4 hb5
    go_wp2
    go_ret
    exact ⟨rfl, hb5⟩
/-! ### The row's step. -/
theorem own : ownKnob Tryz.prog.godebug = none := by kernel_rfl
theorem laidOut : laidOutB Tryz.prog = true := by kernel_rfl
theorem laid_plain : (Rows.fnScriptTextRow.laid.filter fun x => x.2.handleName?.isNone) = plainL := by kernel_rfl
theorem laid_hand : (Rows.fnScriptTextRow.laid.filter fun x => x.2.handleName?.isSome) = [("errors.errorType", Rows.laid_errors_errorType)] := by kernel_rfl
theorem gvL {W : World} (h : laidMetH Tryz.prog Rows.fnScriptTextRow.laid W) (hS : W.ShapedOpen Tryz.prog) : GX W := by
  unfold laidMetH at h
  rw [laid_hand] at h
  obtain ⟨h, hh⟩ := h
  rw [laid_plain] at h
  unfold plainL at h
  obtain ⟨ps, ⟨g0, t0, cs0, f0, p0, q0, hg0, ht0, hv0, hd0, ⟨g1, t1, cs1, f1, p1, q1, hg1, ht1, hv1, hd1, ⟨g2, t2, cs2, f2, p2, q2, hg2, ht2, hv2, hd2, ⟨g3, t3, cs3, f3, p3, q3, hg3, ht3, hv3, hd3, ⟨g4, t4, cs4, f4, p4, q4, hg4, ht4, hv4, hd4, ⟨g5, t5, cs5, f5, p5, q5, hg5, ht5, hv5, hd5, ⟨g6, t6, cs6, f6, p6, q6, hg6, ht6, hv6, hd6, ⟨g7, t7, cs7, f7, p7, q7, hg7, ht7, hv7, hd7, _, _⟩, _⟩, _⟩, _⟩, _⟩, _⟩, _⟩, _⟩, _, _⟩ := h
  obtain rfl := Option.some.inj (gWords.symm.trans hg6)
  obtain rfl := Option.some.inj (tWords.symm.trans ht6)
  obtain rfl := Option.some.inj (gTab.symm.trans hg2)
  obtain rfl := Option.some.inj (tTab.symm.trans ht2)
  obtain rfl := Option.some.inj (gRange.symm.trans hg4)
  obtain rfl := Option.some.inj (tRange.symm.trans ht4)
  obtain rfl := Option.some.inj (gSyn.symm.trans hg5)
  obtain rfl := Option.some.inj (tSyn.symm.trans ht5)
  exact ⟨gv_of hv6 hd6 hv2 hd2, maxLen_of hS, sent_of gSyn hv5 hd5, sent_of gRange hv4 hd4, err_of hh⟩
set_option maxRecDepth 100000 in
theorem lifted (os : Os) (started : os.Started) (H : Type) (enc : TypeId × Value → H) :
    ReturnsInHanded {} Tryz.checked os 3 .any (fun w args => (Rows.fnScriptTextSpec.pre enc Tryz.prog Tryz.f3 [] false w args ∧ laidMetH Tryz.prog Rows.fnScriptTextRow.laid w) ∧ sizedMet enc Tryz.prog Tryz.f3 (OpenSpec.ofChange Rows.fnScriptTextSpec) false w args) (Rows.fnScriptTextSpec.post enc Tryz.prog Tryz.f3 false true false false) := by
  refine returnsIn_laid_shaped (C := Tryz.checked) (X := fun w _ => laidMetH Tryz.prog Rows.fnScriptTextRow.laid w) (fun _ _ _ hh h => h.of_heap hh) own started (by kernel_rfl) Tryz.func3
    (ChangeSpec.witness_shaped (enc := enc) (C := Tryz.checked) (os := os) (X := fun w _ => laidMetH Tryz.prog Rows.fnScriptTextRow.laid w) false (greatW os) #[.slice none 0 0] 8 (greatW_os os) (World.shaped_of_ZipB (by kernel_rfl) (by kernel_rfl)) (by kernel_rfl) (by kernel_rfl) (by kernel_rfl) (great_met os _ laid_plain laid_hand)) ?_
  intro W base args ds gs before hval0 hW hS hL _
  have hval : ∀ (j : Nat) t v, Tryz.f3.params[j]? = some t → args[j]? = some v → Value.okWide Tryz.prog W .any base t v := hval0
  have hW' := hW
  obtain ⟨p, q, hA0, hV, rfl, hfz, hnd⟩ := hW
  have hA : DataW.TrodAll enc Tryz.prog W 0 (fun _ => true) true Tryz.f3.params.toList args.toList ds p := hA0
  rw [Tryz.params3] at hA hval
  obtain ⟨v0, vs0, d0, ds0, p0, q0, hargs, rfl, rfl, h0, r0⟩ := trodAll_cons hA
  obtain ⟨rfl, rfl, rfl⟩ := trodAll_nil r0
  obtain rfl : args = #[v0] := by cases args; simp_all
  have hV2 := hV
  obtain ⟨_, _, _, _, g1, _, rfl, _⟩ := trodVars_one hV2
  have hgv := gvL hL hS
  obtain ⟨a0, len0, cap0, rfl⟩ := okWide_slice Tryz.underlying22 (hval 0 22 v0 rfl rfl)
  have k0 := h0
  have lt0 : ∀ x ∈ p0, x.block < W.heap.size := by obtain ⟨m, hm⟩ := k0; exact DataW.trod_lt m _ _ _ hm
  obtain ⟨z0, w0⟩ : ∃ zs, IsRow .u8 W a0 len0 cap0 zs := by
    obtain ⟨fuel, hf⟩ := h0
    rcases open_ints Tryz.underlying22 Tryz.underlying5 (by kernel_rfl) hf with ⟨hcs, _⟩ | ⟨x, l, c, zs, hcs, _, hl, hm, hz, _, hcell, hwz⟩
    · simp [Value.cells] at hcs
      obtain ⟨rfl, rfl, rfl⟩ := hcs
      exact ⟨[], .inl ⟨rfl, rfl, rfl, rfl⟩⟩
    · simp [Value.cells] at hcs
      obtain ⟨rfl, rfl, rfl⟩ := hcs
      exact ⟨zs, .inr ⟨_, rfl, hl, hm, by simpa using hz, hcell, hwz⟩⟩
  clear hA0 hval0
  refine (walk a0 len0 cap0 z0 W w0 hgv).mono fun e W' ⟨he, bel⟩ => ?_
  subst he
  exact ⟨_, rfl, _, _, _, [], _, q, hW', trodAll_mk1 (shut_bool Tryz.underlying4 _), (trodAll_cons_mk (Below.trod laidOut (by kernel_rfl) (of_decide_eq_true (by kernel_rfl)) k0 bel lt0) trodAll_mk0), Below.trodVars laidOut bel (by kernel_rfl) hV, bel.frame _, fun h => by cases h⟩
theorem over : Rows.fnScriptTextRow.holds Tryz.pinned (OpenSpec.ofChange Rows.fnScriptTextSpec) :=
  OpenClaim.holds_of_wide 3 Tryz.f3 rfl rfl rfl rfl rfl rfl rfl ⟨rfl, rfl, rfl, rfl, rfl⟩ rfl rfl rfl rfl rfl (by kernel_rfl) Tryz.func3 (by kernel_rfl)
    (of_decide_eq_true (by kernel_rfl)) (by unfold Func.isWrapper; first | (rw [if_pos (by decide +kernel)]; kernel_rfl) | (rw [if_neg (by decide +kernel)]; exact ⟨rfl, rfl⟩))
    (fun os started H enc _ => lifted os started H enc)
theorem proved : Rows.FnScriptTextCardSaid :=
  Claim7.holds_tied_plain_at .later [] [.data, .data, .data, .data, .handle, .sentinel, .sentinel, .data, .pinned] true (true, "cef5abec48b48d3866f68588d7ad242c83ac680f4f0fb79e411b0e9bd7440722") true
    over (fun _ h => by cases h) (by kernel_rfl) (fun _ h => by cases h) fnScriptText_row_tie rfl ⟨rfl, rfl⟩ (by kernel_rfl) rfl
    (fun f fn hf hfn => by
      obtain rfl : f = 3 := Option.some.inj ((show Tryz.prog.funcNamed "loop.example/workchain/laws.FnScriptText" = some 3 by kernel_rfl).symm.trans hf) |>.symm
      obtain rfl : fn = Tryz.f3 := (Option.some.inj (Tryz.func3.symm.trans hfn)).symm
      exact ⟨by kernel_rfl, fun j t ht => by
        rw [Tryz.params3] at ht
        have hm : t ∈ [22] := by simpa using Array.mem_of_getElem? ht
        have hall : ([22].all fun u => !Tryz.prog.wantsStandIn u) = true := by kernel_rfl
        exact (show Tryz.prog.wantsStandIn t = false by simpa using List.all_eq_true.1 hall t hm)⟩)
    (by kernel_rfl)
#print axioms proved
end Go.Proofs.YtpldoffjclmacaaGreatDoor.fnScriptText
