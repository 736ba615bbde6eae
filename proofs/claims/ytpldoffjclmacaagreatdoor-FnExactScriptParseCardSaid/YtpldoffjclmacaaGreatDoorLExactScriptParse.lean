/- For every string of at most 1<<20 bytes (longer ones are let pass by the law itself), ScriptParse of the program answers as the model's ScriptParse, and hands back operations that share no memory with what another call hands back. -/
import Derived.Test.YtpldoffjclmacaaGreatDoorRows
import Derived.Test.YtpldoffjclmacaaGreatDoorYu
import Derived.Test.YtpldoffjclmacaaGreatDoorYv
import Derived.Test.YtpldoffjclmacaaGreatDoorYg
import Derived.Test.YtpldoffjclmacaaGreatDoorTie
import Derived.Test.YtpldoffjclmacaaGreatDoorCards
import Derived.SevenTiedAt
import Derived.OpenVars
import Derived.ChangeVars
import Derived.LaidMore
import Derived.LaidLaws
import Derived.JoinedOf
import Derived.Stop.Joined
import Derived.WalkKit
import Derived.WalkSpells
import Derived.ProofKit
import Derived.OpenShut
import Derived.ShutString
import Derived.Below
import Derived.SliceStrings
namespace Go.Proofs.YtpldoffjclmacaaGreatDoor.fnExactScriptParse
open Go.ChangeShapes Go.WideShapes Go.ChangeAt Go.RowKit
open Go.ChangeMaps (open_string shut_string)
set_option maxRecDepth 100000 in
set_option maxHeartbeats 3200000 in
theorem walk (s : ByteArray) (_ : s.size ≤ maxLen) (w : World) (hgv : GX w) :
    Calls Tryz.prog 5 #[.string s] w fun e w' => e = .returned (.bool true) ∧ Below w.heap.size w w' := by
  by_cases h : (1048576 : Int) < (s.size : Int)
  · go_enter Tryz.func5, Tryz.ntmps5
    go_wp2
    go_ret
    exact ⟨rfl, Below.refl _ _⟩
  have hcon1 := fun W => specScriptParse_any s W (by omega)
  have hcon2 := fun W (hB : Below w.heap.size w W) => implScriptParse_any s W (by omega) (hgv.below hB)
  cases hr : Jo.parse (Jo.L s) with
  | none =>
    have hc1 : Hid (∀ W, Calls Tryz.prog 12 #[.string s] W fun e w' => e = .returned (.tuple #[.slice none 0 0, .bool false]) ∧ Below W.heap.size W w') := Lib.hid fun W => (hcon1 W).mono fun e w' h => by
      rcases h with ⟨_, he, hb⟩ | ⟨l, a, cap, hl, _⟩
      · exact ⟨he, hb⟩
      · rw [hr] at hl; cases hl
    have hc2 : Hid (∀ W, Below w.heap.size w W → Calls Tryz.prog 9 #[.string s] W fun e w' => e = .returned (.tuple #[.slice none 0 0, .bool false]) ∧ Below W.heap.size W w') := Lib.hid fun W hB => (hcon2 W hB).mono fun e w' h => by
      rcases h with ⟨_, he, hb⟩ | ⟨l, a, cap, hl, _⟩
      · exact ⟨he, hb⟩
      · rw [hr] at hl; cases hl
    have HE : Hid (∀ W, OL W none 0 []) := Lib.hid fun W => ⟨rfl, fun h => absurd h (by omega)⟩
    have HE2 : Hid (∀ W, OL W none 0 (marksO 0)) := Lib.hid fun W => ⟨rfl, fun h => absurd h (by omega)⟩
    clear hcon1 hcon2 hr
    go_enter Tryz.func5, Tryz.ntmps5
    go_wp2_with fail
    refine (hc1.out _).mono ?_
    rintro e w1 ⟨rfl, hb1⟩
    go_wp2_with fail
    refine (hc2.out _ hb1).mono ?_
    rintro e w2 ⟨rfl, hb2⟩
    replace hb2 := below_aft9 hb1 hb2
    clear hb1
    go_wp2_with fail
    refine (eqOpS_any none none 0 0 0 [] _ (HE.out _) (HE.out _) (by omega)).mono ?_
    rintro e w3 ⟨rfl, hb3⟩
    replace hb3 := below_aft9 hb2 hb3
    clear hb2
    go_wp2_with fail
    refine (markOpS_any none w.heap.size 0 0 _ (fun h => absurd h (by omega)) (fun h => absurd h (by omega)) (by omega)).mono ?_
    rintro e w4 ⟨rfl, hg4, _⟩
    have hb4 := Below.grown hb3 hg4 hb3.size (fun j hj => by cases hj; exact Nat.le_refl _)
    clear hb3 hg4
    go_wp2_with fail
    refine (heldOpS_any none 0 0 _ (HE2.out _) (by omega)).mono ?_
    rintro e w5 ⟨rfl, hb5⟩
    replace hb5 := below_aft9 hb4 hb5
    clear hb4
    go_wp2_with fail
    refine (hc2.out _ hb5).mono ?_
    rintro e w6 ⟨rfl, hb6⟩
    replace hb6 := below_aft9 hb5 hb6
    clear hb5
    go_wp2_with fail
    refine (eqOpS_any none none 0 0 0 [] _ (HE.out _) (HE.out _) (by omega)).mono ?_
    rintro e w7 ⟨rfl, hb7⟩
    replace hb7 := below_aft9 hb6 hb7
    clear hb6
    go_wp2_with fail
    refine (heldOpS_any none 0 0 _ (HE2.out _) (by omega)).mono ?_
    rintro e w8 ⟨rfl, hb8⟩
    replace hb8 := below_aft9 hb7 hb8
    clear hb7
    go_wp2
    go_ret
    exact ⟨rfl, hb8⟩
  | some l =>
    have h40 : l.length ≤ 40 := ((Jo.ok_iff l).1 (Jo.text_parse Jo.L_bd hr).2).1
    obtain ⟨n, HN⟩ : ∃ n, Hid (l.length = n) := ⟨_, Lib.hid rfl⟩
    rw [HN.out] at h40
    have hc1 : Hid (∀ W, Calls Tryz.prog 12 #[.string s] W fun e w' => ∃ a cap, e = .returned (.tuple #[.slice a n cap, .bool true]) ∧ Hid (w'.ownsRow W.heap.size 40 4 (.slice a n cap) n (Jo.cells l)) ∧ Below W.heap.size W w') := Lib.hid fun W => (hcon1 W).mono fun e w' h => by
      rcases h with ⟨hl, _⟩ | ⟨l', a, cap, hl, he, hown, hb⟩
      · rw [hr] at hl; cases hl
      · rw [hr] at hl; cases hl
        rw [HN.out] at he hown
        exact ⟨a, cap, he, Lib.hid hown, hb⟩
    have hc2 : Hid (∀ W, Below w.heap.size w W → Calls Tryz.prog 9 #[.string s] W fun e w' => ∃ a cap, e = .returned (.tuple #[.slice a n cap, .bool true]) ∧ Hid (w'.ownsRow W.heap.size 40 4 (.slice a n cap) n (Jo.cells l)) ∧ Below W.heap.size W w') := Lib.hid fun W hB => (hcon2 W hB).mono fun e w' h => by
      rcases h with ⟨hl, _⟩ | ⟨l', a, cap, hl, he, hown, hb⟩
      · rw [hr] at hl; cases hl
      · rw [hr] at hl; cases hl
        rw [HN.out] at he hown
        exact ⟨a, cap, he, Lib.hid hown, hb⟩
    clear hcon1 hcon2 hr HN
    go_enter Tryz.func5, Tryz.ntmps5
    go_wp2_with fail
    refine (hc1.out _).mono ?_
    rintro e w1 ⟨a1, cap1, rfl, own1, hb1⟩
    have ol1 := (OL.own own1.out).2
    have hlt1 : ∀ b off, 0 < n → a1 = some ⟨b, off, none⟩ → b < w1.heap.size := fun b off h0 ha => by
      obtain ⟨b', off', he, hlt, _⟩ := ol1.2 h0
      rw [ha] at he; cases he; exact hlt
    go_wp2_with fail
    refine (hc2.out _ hb1).mono ?_
    rintro e w2 ⟨a2, cap2, rfl, own2, hb2⟩
    have ol12 := ol1.below hb2
    have ol2 := (OL.own own2.out).2
    obtain ⟨g, hga, hgw, hgo⟩ : ∃ g, (0 < n → a2 = some ⟨g, 0, none⟩) ∧ w1.heap.size ≤ g ∧ (0 < n → OB g n 0 (marksO n) w2) := by
      rcases own2.out.2 with ⟨he, h0⟩ | ⟨g, cap', cur, he, hg, _⟩
      · exact ⟨w1.heap.size, fun h => absurd h (by omega), Nat.le_refl _, fun h => absurd h (by omega)⟩
      · cases he
        exact ⟨g, fun _ => rfl, hg, fun _ => OB.of_own _ own2.out⟩
    have hwg : w.heap.size ≤ g := Nat.le_trans hb1.size hgw
    replace hb2 := below_aft9 hb1 hb2
    clear hb1 ol1 own1 own2
    go_wp2_with fail
    refine (eqOpS_any a2 a1 n cap2 cap1 l _ ol2 ol12 (by omega)).mono ?_
    rintro e w3 ⟨rfl, hb3⟩
    have ol13 := ol12.below hb3
    have hgo3 := Lib.hid fun h0 => (hgo h0).below hb3
    replace hb3 := below_aft9 hb2 hb3
    clear hb2 ol12 ol2 hgo
    go_wp2_with fail
    refine (markOpS_any a2 g n cap2 _ hga hgo3.out (by omega)).mono ?_
    rintro e w4 ⟨rfl, hg4, hgo4⟩
    have ol14 := ol13.grown hg4 (fun h0 b off ha => by have := hlt1 b off h0 ha; simp; omega)
    have ol24 : OL w4 a2 n (marksO n) := ⟨marksO_len n, fun h0 => by rw [hga h0]; exact ((hgo4 h0).ol (marksO_len n)).2 h0⟩
    have hb4 := Below.grown hb3 hg4 hb3.size (fun j hj => by cases hj; exact hwg)
    clear hb3 hg4 hgo4 ol13 hgo3 hga hgw hlt1
    have hcmp : decide ((1 : Int) + 4 * (n : Int) < 0) = false := decide_eq_false (by omega)
    have hcmp2 : ((1 : Int) + 4 * (n : Int) != 1 + 4 * (n : Int)) = false := by simp
    go_wp2_with fail
    refine (heldOpS_any a2 n cap2 _ ol24 (by omega)).mono ?_
    rintro e w5 ⟨rfl, hb5⟩
    have ol15 := ol14.below hb5
    have ol25 := ol24.below hb5
    replace hb5 := below_aft9 hb4 hb5
    clear hb4 ol14 ol24
    go_wp2_with fail
    refine (hc2.out _ hb5).mono ?_
    rintro e w6 ⟨a6, cap6, rfl, own6, hb6⟩
    have ol16 := ol15.below hb6
    have ol26 := ol25.below hb6
    have ol6 := (OL.own own6.out).2
    replace hb6 := below_aft9 hb5 hb6
    clear hb5 ol15 ol25 own6
    go_wp2_with fail
    refine (eqOpS_any a6 a1 n cap6 cap1 l _ ol6 ol16 (by omega)).mono ?_
    rintro e w7 ⟨rfl, hb7⟩
    have ol27 := ol26.below hb7
    replace hb7 := below_aft9 hb6 hb7
    clear hb6 ol6 ol16 ol26
    go_wp2_with fail
    refine (heldOpS_any a2 n cap2 _ ol27 (by omega)).mono ?_
    rintro e w8 ⟨rfl, hb8⟩
    replace hb8 := below_aft9 hb7 hb8
    clear hb7 ol27
    go_wp2
    go_ret
    exact ⟨rfl, hb8⟩
/-! ### The row's step. -/
theorem own : ownKnob Tryz.prog.godebug = none := by kernel_rfl
theorem laidOut : laidOutB Tryz.prog = true := by kernel_rfl
theorem laid_plain : (Rows.fnExactScriptParseRow.laid.filter fun x => x.2.handleName?.isNone) = plainL := by kernel_rfl
theorem laid_hand : (Rows.fnExactScriptParseRow.laid.filter fun x => x.2.handleName?.isSome) = [("errors.errorType", Rows.laid_errors_errorType)] := by kernel_rfl
theorem gvL {W : World} (h : laidMetH Tryz.prog Rows.fnExactScriptParseRow.laid W) (hS : W.ShapedOpen Tryz.prog) : GX W := by
  unfold laidMetH at h
  rw [laid_hand] at h
  obtain ⟨h, hh⟩ := h
  rw [laid_plain] at h
  unfold plainL at h
  obtain ⟨ps, ⟨g0, t0, cs0, f0, p0, q0, hg0, ht0, hv0, hd0, ⟨g1, t1, cs1, f1, p1, q1, hg1, ht1, hv1, hd1, ⟨g2, t2, cs2, f2, p2, q2, hg2, ht2, hv2, hd2, ⟨g3, t3, cs3, f3, p3, q3, hg3, ht3, hv3, hd3, ⟨g4, t4, cs4, f4, p4, q4, hg4, ht4, hv4, hd4, ⟨g5, t5, cs5, f5, p5, q5, hg5, ht5, hv5, hd5, ⟨g6, t6, cs6, f6, p6, q6, hg6, ht6, hv6, hd6, ⟨g7, t7, cs7, f7, p7, q7, hg7, ht7, hv7, hd7, _, _⟩, _⟩, _⟩, _⟩, _⟩, _⟩, _⟩, _⟩, _, _⟩ := h
  obtain rfl := Option.some.inj (gWords.symm.trans hg6)
  obtain rfl := Option.some.inj (tWords.symm.trans ht6)
  obtain rfl := Option.some.inj (gTab.symm.trans hg2)
  obtain rfl := Option.some.inj (tTab.symm.trans ht2)
  obtain rfl := Option.some.inj (gRange.symm.trans hg4)
  obtain rfl := Option.some.inj (tRange.symm.trans ht4)
  obtain rfl := Option.some.inj (gSyn.symm.trans hg5)
  obtain rfl := Option.some.inj (tSyn.symm.trans ht5)
  exact ⟨gv_of hv6 hd6 hv2 hd2, maxLen_of hS, sent_of gSyn hv5 hd5, sent_of gRange hv4 hd4, err_of hh⟩
set_option maxRecDepth 100000 in
theorem lifted (os : Os) (started : os.Started) (H : Type) (enc : TypeId × Value → H) :
    ReturnsInHanded {} Tryz.checked os 5 .any (fun w args => (Rows.fnExactScriptParseSpec.pre enc Tryz.prog Tryz.f5 [] false w args ∧ laidMetH Tryz.prog Rows.fnExactScriptParseRow.laid w) ∧ sizedMet enc Tryz.prog Tryz.f5 (OpenSpec.ofChange Rows.fnExactScriptParseSpec) false w args) (Rows.fnExactScriptParseSpec.post enc Tryz.prog Tryz.f5 false true false false) := by
  refine returnsIn_laid_shaped (C := Tryz.checked) (X := fun w _ => laidMetH Tryz.prog Rows.fnExactScriptParseRow.laid w) (fun _ _ _ hh h => h.of_heap hh) own started (by kernel_rfl) Tryz.func5
    (ChangeSpec.witness_shaped (enc := enc) (C := Tryz.checked) (os := os) (X := fun w _ => laidMetH Tryz.prog Rows.fnExactScriptParseRow.laid w) false (greatW os) #[.string ByteArray.empty] 8 (greatW_os os) (World.shaped_of_ZipB (by kernel_rfl) (by kernel_rfl)) (by kernel_rfl) (by kernel_rfl) (by kernel_rfl) (great_met os _ laid_plain laid_hand)) ?_
  intro W base args ds gs before hval0 hW hS hL _
  have hval : ∀ (j : Nat) t v, Tryz.f5.params[j]? = some t → args[j]? = some v → Value.okWide Tryz.prog W .any base t v := hval0
  have hW' := hW
  obtain ⟨p, q, hA0, hV, rfl, hfz, hnd⟩ := hW
  have hA : DataW.TrodAll enc Tryz.prog W 0 (fun _ => true) true Tryz.f5.params.toList args.toList ds p := hA0
  rw [Tryz.params5] at hA hval
  obtain ⟨v0, vs0, d0, ds0, p0, q0, hargs, rfl, rfl, h0, r0⟩ := trodAll_cons hA
  obtain ⟨rfl, rfl, rfl⟩ := trodAll_nil r0
  obtain rfl : args = #[v0] := by cases args; simp_all
  have hV2 := hV
  obtain ⟨_, _, _, _, g1, _, rfl, _⟩ := trodVars_one hV2
  have hgv := gvL hL hS
  obtain ⟨a0, rfl, rfl, rfl, w0⟩ := open_string Tryz.underlying9 (hval 0 9 v0 rfl rfl) h0
  clear hA0 hval0
  refine (walk a0 w0 W hgv).mono fun e W' ⟨he, bel⟩ => ?_
  subst he
  exact ⟨_, rfl, _, _, _, [], _, q, hW', trodAll_mk1 (shut_bool Tryz.underlying4 _), (trodAll_cons_mk (shut_string Tryz.underlying9 w0) trodAll_mk0), Below.trodVars laidOut bel (by kernel_rfl) hV, bel.frame _, fun h => by cases h⟩
theorem over : Rows.fnExactScriptParseRow.holds Tryz.pinned (OpenSpec.ofChange Rows.fnExactScriptParseSpec) :=
  OpenClaim.holds_of_wide 5 Tryz.f5 rfl rfl rfl rfl rfl rfl rfl ⟨rfl, rfl, rfl, rfl, rfl⟩ rfl rfl rfl rfl rfl (by kernel_rfl) Tryz.func5 (by kernel_rfl)
    (of_decide_eq_true (by kernel_rfl)) (by unfold Func.isWrapper; first | (rw [if_pos (by decide +kernel)]; kernel_rfl) | (rw [if_neg (by decide +kernel)]; exact ⟨rfl, rfl⟩))
    (fun os started H enc _ => lifted os started H enc)
theorem proved : Rows.FnExactScriptParseCardSaid :=
  Claim7.holds_tied_plain_at .later [] [.data, .data, .data, .data, .handle, .sentinel, .sentinel, .data, .pinned] true (true, "cef5abec48b48d3866f68588d7ad242c83ac680f4f0fb79e411b0e9bd7440722") true
    over (fun _ h => by cases h) (by kernel_rfl) (fun _ h => by cases h) fnExactScriptParse_row_tie rfl ⟨rfl, rfl⟩ (by kernel_rfl) rfl
    (fun f fn hf hfn => by
      obtain rfl : f = 5 := Option.some.inj ((show Tryz.prog.funcNamed "loop.example/workchain/laws.FnExactScriptParse" = some 5 by kernel_rfl).symm.trans hf) |>.symm
      obtain rfl : fn = Tryz.f5 := (Option.some.inj (Tryz.func5.symm.trans hfn)).symm
      exact ⟨by kernel_rfl, fun j t ht => by
        rw [Tryz.params5] at ht
        have hm : t ∈ [9] := by simpa using Array.mem_of_getElem? ht
        have hall : ([9].all fun u => !Tryz.prog.wantsStandIn u) = true := by kernel_rfl
        exact (show Tryz.prog.wantsStandIn t = false by simpa using List.all_eq_true.1 hall t hm)⟩)
    (by kernel_rfl)
#print axioms proved
end Go.Proofs.YtpldoffjclmacaaGreatDoor.fnExactScriptParse
