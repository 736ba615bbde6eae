/- For every code of at most 1<<20 bytes (longer ones are let pass by the law itself): ScriptParse answers as the model's ScriptParse, and what it reads is written again by ScriptText. -/
import Derived.Test.YtpldoffjclmacaaGreatDoorRows
import Derived.Test.YtpldoffjclmacaaGreatDoorYi
import Derived.Test.YtpldoffjclmacaaGreatDoorYu
import Derived.Test.YtpldoffjclmacaaGreatDoorYv
import Derived.Test.YtpldoffjclmacaaGreatDoorYl
import Derived.Test.YtpldoffjclmacaaGreatDoorTie
import Derived.Test.YtpldoffjclmacaaGreatDoorCards
import Derived.SevenTiedAt
import Derived.OpenVars
import Derived.ChangeVars
import Derived.LaidMore
import Derived.LaidLaws
import Derived.JoinedOf
import Derived.Stop.Joined
import Derived.WalkKit
import Derived.WalkSpells
import Derived.ProofKit
import Derived.OpenShut
import Derived.ShutString
import Derived.Below
import Derived.SliceStrings
namespace Go.Proofs.YtpldoffjclmacaaGreatDoor.fnScriptParse
open Go.ChangeShapes Go.WideShapes Go.ChangeAt Go.RowKit
open Go.ChangeMaps (open_string shut_string)
theorem Jo.tx_size (l : List Jo) : (Jo.tx l).size ≤ 6480 := by
  unfold Jo.tx
  split
  · rename_i h
    rw [strOfNums_size]
    exact (Jo.text_bd h).1
  · exact Nat.zero_le _
set_option maxRecDepth 100000 in
set_option maxHeartbeats 3200000 in
theorem l93Text_any (B : Nat) (a : Option Addr) (len cap : Nat) (zs : List Int) (p : Nat) (w : World) (hp : p ≤ 500000000) (hD0 : Dw B a len cap zs w p) :
    Calls Tryz.prog 25 #[.pointer (some ⟨B, 0, none⟩)] w (StrR B a len cap zs p 2000 7000 w) := by
  go_enter Tryz.func25, Tryz.ntmps25
  go_wp2_with fail
  refine (l91Ops_any B a len cap zs _ _ (by omega) hD0).mono ?_
  rintro e w1 ⟨a2, n, cap2, l, q, rfl, hol, hn, q0, q1, hD1, hG1⟩
  go_wp2_with fail
  refine (specScriptText_any a2 n cap2 l _ hol (by omega)).mono ?_
  rintro e w2 ⟨rfl, hb2⟩
  have hD2 := hD1.belK hb2
  have hG2 := gtrans hG1 (gb_belK hb2 B)
  have hsz := Jo.tx_size l
  obtain ⟨X, HX⟩ : ∃ x, Hid (Jo.tx l = x) := ⟨_, Lib.hid rfl⟩
  obtain ⟨f, HF⟩ : ∃ x, Hid (Jo.ok l = x) := ⟨_, Lib.hid rfl⟩
  rw [HX.out] at hsz ⊢
  rw [HF.out]
  clear HX HF hol hb2 hD1 hG1 hD0
  go_wp2_with fail
  refine (pick_any B a len cap zs _ 8 _ (by omega) (by omega) hD2).mono ?_
  rintro e w3 ⟨v, rfl, v0, v1, hD3, hG3⟩
  replace hG3 := gtrans hG2 hG3
  clear hG2 hD2
  by_cases k0 : v = 0
  · have H0 : (v == 0) = true := by simpa using k0
    clear k0 v0 v1
    go_wp2_with fail
    have hD4 := hD3.alloc (.cells ((([⟨#[]⟩, ⟨#[100, 117, 112]⟩, ⟨#[109, 97, 110, 121, 58, 50, 58, 49]⟩, ⟨#[120, 48]⟩, ⟨#[120, 122, 122]⟩, ⟨#[105, 102, 32, 101, 110, 100]⟩, ⟨#[97, 102, 116, 101, 114, 58, 48, 49]⟩, ⟨#[100, 117, 112, 32, 32, 100, 114, 111, 112]⟩, ⟨#[101, 110, 100]⟩] : List ByteArray).map Value.string).toArray) 9)
    refine (pick_any B a len cap zs _ 9 _ (by omega) (by omega) hD4).mono ?_
    rintro e w4 ⟨u, rfl, a4, b4, hD5, hG5⟩
    obtain ⟨k, rfl⟩ := Int.eq_ofNat_of_zero_le a4
    have hk : k < 9 := by omega
    have hne : w3.heap.size ≠ B := by have := hD3.lt; omega
    obtain ⟨s, hs, hsz2⟩ : ∃ s : ByteArray, ([⟨#[]⟩, ⟨#[100, 117, 112]⟩, ⟨#[109, 97, 110, 121, 58, 50, 58, 49]⟩, ⟨#[120, 48]⟩, ⟨#[120, 122, 122]⟩, ⟨#[105, 102, 32, 101, 110, 100]⟩, ⟨#[97, 102, 116, 101, 114, 58, 48, 49]⟩, ⟨#[100, 117, 112, 32, 32, 100, 114, 111, 112]⟩, ⟨#[101, 110, 100]⟩] : List ByteArray)[k]? = some s ∧ s.size ≤ 9 := by
      match k, hk with
      | 0, _ => exact ⟨_, rfl, by decide⟩
      | 1, _ => exact ⟨_, rfl, by decide⟩
      | 2, _ => exact ⟨_, rfl, by decide⟩
      | 3, _ => exact ⟨_, rfl, by decide⟩
      | 4, _ => exact ⟨_, rfl, by decide⟩
      | 5, _ => exact ⟨_, rfl, by decide⟩
      | 6, _ => exact ⟨_, rfl, by decide⟩
      | 7, _ => exact ⟨_, rfl, by decide⟩
      | 8, _ => exact ⟨_, rfl, by decide⟩
    have hc : w4.cell? ⟨w3.heap.size, k, none⟩ = some (.string s) := hG5.cell (lit_cellV _ _ _ _ _ (by rw [List.getElem?_map, hs]; rfl)) (by simpa using hne)
    clear hs
    go_wp2
    go_ret
    exact ⟨s, _, rfl, by omega, by omega, by omega, hD5, gtrans hG3 (gtrans (World.grownBy_alloc _ _ _) hG5)⟩
  · have H0 : (v == 0) = false := by simpa using k0
    clear k0 v0 v1
    go_wp2_with fail
    refine (l91Seldom_any B a len cap zs _ X _ (by omega) (by omega) hD3).mono ?_
    rintro e w4 ⟨t, q2, rfl, ht, q3, q4, hD4, hG4⟩
    go_wp2
    go_ret
    exact ⟨t, q2, rfl, by omega, by omega, by omega, hD4, gtrans hG3 hG4⟩
set_option maxRecDepth 100000 in
set_option maxHeartbeats 3200000 in
theorem drawScriptParse_any (a : Option Addr) (len cap : Nat) (zs : List Int) (w : World) (hr : IsRow .u8 w a len cap zs) (hlm : len ≤ 1048576) :
    Calls Tryz.prog 11 #[.slice a len cap] w fun e w' => ∃ s : ByteArray, e = .returned (.string s) ∧ s.size ≤ 7000 ∧ Below w.heap.size w w' := by
  go_enter Tryz.func11, Tryz.ntmps11
  go_wp2_with fail
  refine (l6Open_any a len cap zs _ hr hlm).mono ?_
  rintro e w1 ⟨B, a', l', c', zs', rfl, hB, hD, hb1⟩
  clear hr
  go_wp2_with fail
  refine (l93Text_any B a' l' c' zs' _ _ (by omega) hD).mono ?_
  rintro e w2 ⟨s, q, rfl, hs, _, _, _, hG2⟩
  have hbel := Below.grown hb1 hG2 hb1.size (fun j hj => by cases hj; exact hB)
  go_wp2
  go_ret
  exact ⟨s, rfl, hs, hbel⟩
set_option maxRecDepth 100000 in
set_option maxHeartbeats 3200000 in
theorem walk (a0 : Option Addr) (len0 cap0 : Nat) (z0 : List Int) (w : World) (w0 : IsRow .u8 w a0 len0 cap0 z0) (hgv : GX w) :
    Calls Tryz.prog 4 #[.slice a0 len0 cap0] w fun e w' => e = .returned (.bool true) ∧ Below w.heap.size w w' := by
  have hcm := w0.len
  have HGX := Lib.hid hgv
  clear hgv
  by_cases h : (1048576 : Int) < (len0 : Int)
  · go_enter Tryz.func4, Tryz.ntmps4
    go_wp2
    go_ret
    exact ⟨rfl, Below.refl _ _⟩
  go_enter Tryz.func4, Tryz.ntmps4
  go_wp2_with fail
  refine (drawScriptParse_any a0 len0 cap0 z0 _ w0 (by omega)).mono ?_
  rintro e w1 ⟨s, rfl, hs, hb1⟩
  clear w0 h hcm
  have hcon1 := fun W hG => implScriptParse_any s W (by omega) hG
  have hcon2 := fun W => specScriptParse_any s W (by omega)
  cases hr : Jo.parse (Jo.L s) with
  | none =>
    have hc1 : Hid (∀ W, GX W → Calls Tryz.prog 9 #[.string s] W fun e w' => e = .returned (.tuple #[.slice none 0 0, .bool false]) ∧ Below W.heap.size W w') := Lib.hid fun W hG => (hcon1 W hG).mono fun e w' h => by
      rcases h with ⟨_, he, hb⟩ | ⟨l, a, cap, hl, _⟩
      · exact ⟨he, hb⟩
      · rw [hr] at hl; cases hl
    have hc2 : Hid (∀ W, Calls Tryz.prog 12 #[.string s] W fun e w' => e = .returned (.tuple #[.slice none 0 0, .bool false]) ∧ Below W.heap.size W w') := Lib.hid fun W => (hcon2 W).mono fun e w' h => by
      rcases h with ⟨_, he, hb⟩ | ⟨l, a, cap, hl, _⟩
      · exact ⟨he, hb⟩
      · rw [hr] at hl; cases hl
    have HE : Hid (∀ W, OL W none 0 []) := Lib.hid fun W => ⟨rfl, fun h => absurd h (by omega)⟩
    clear hcon1 hcon2 hr hs
    go_wp2_with fail
    refine (hc1.out _ (HGX.out.below hb1)).mono ?_
    rintro e w2 ⟨rfl, hb2⟩
    replace hb2 := below_aft9 hb1 hb2
    clear hb1
    go_wp2_with fail
    refine (hc2.out _).mono ?_
    rintro e w3 ⟨rfl, hb3⟩
    replace hb3 := below_aft9 hb2 hb3
    clear hb2
    go_wp2_with fail
    refine (wcOps_any none none 0 0 0 [] _ (HE.out _) (HE.out _) (by omega)).mono ?_
    rintro e w4 ⟨rfl, hb4⟩
    replace hb4 := below_aft9 hb3 hb4
    go_wp2
    go_ret
    exact ⟨rfl, hb4⟩
  | some l =>
    obtain ⟨ht, hok⟩ := Jo.text_parse Jo.L_bd hr
    have h40 : l.length ≤ 40 := ((Jo.ok_iff l).1 hok).1
    have htx : Jo.tx l = s := by unfold Jo.tx; rw [if_pos hok, ht, Jo.str_L]
    obtain ⟨n, HN⟩ : ∃ n, Hid (l.length = n) := ⟨_, Lib.hid rfl⟩
    rw [HN.out] at h40
    have hc1 : Hid (∀ W, GX W → Calls Tryz.prog 9 #[.string s] W fun e w' => ∃ a cap, e = .returned (.tuple #[.slice a n cap, .bool true]) ∧ OL w' a n l ∧ Below W.heap.size W w') := Lib.hid fun W hG => (hcon1 W hG).mono fun e w' h => by
      rcases h with ⟨hl, _⟩ | ⟨l', a, cap, hl, he, hown, hb⟩
      · rw [hr] at hl; cases hl
      · rw [hr] at hl; cases hl
        rw [HN.out] at he hown
        exact ⟨a, cap, he, (OL.own hown).2, hb⟩
    have hc2 : Hid (∀ W, Calls Tryz.prog 12 #[.string s] W fun e w' => ∃ a cap, e = .returned (.tuple #[.slice a n cap, .bool true]) ∧ OL w' a n l ∧ Below W.heap.size W w') := Lib.hid fun W => (hcon2 W).mono fun e w' h => by
      rcases h with ⟨hl, _⟩ | ⟨l', a, cap, hl, he, hown, hb⟩
      · rw [hr] at hl; cases hl
      · rw [hr] at hl; cases hl
        rw [HN.out] at he hown
        exact ⟨a, cap, he, (OL.own hown).2, hb⟩
    have hc3 : Hid (∀ W a cap, OL W a n l → GV W → Calls Tryz.prog 7 #[.slice a n cap] W fun e w' => e = .returned (.tuple #[.string s, .bool true]) ∧ Below W.heap.size W w') := Lib.hid fun W a cap hol hG => by
      have := implScriptText_any a n cap l W hol (by omega) hG
      rw [htx, hok] at this
      exact this
    have hq : (s.toList == s.toList) = true := by simp
    clear hcon1 hcon2 hr hs ht hok htx HN
    go_wp2_with fail
    refine (hc1.out _ (HGX.out.below hb1)).mono ?_
    rintro e w2 ⟨a1, cap1, rfl, ol1, hb2⟩
    replace hb2 := below_aft9 hb1 hb2
    clear hb1
    go_wp2_with fail
    refine (hc2.out _).mono ?_
    rintro e w3 ⟨a2, cap2, rfl, ol2, hb3⟩
    have ol13 := ol1.below hb3
    replace hb3 := below_aft9 hb2 hb3
    clear hb2 ol1
    go_wp2_with fail
    refine (wcOps_any a1 a2 n cap1 cap2 l _ ol13 ol2 (by omega)).mono ?_
    rintro e w4 ⟨rfl, hb4⟩
    have ol14 := ol13.below hb4
    replace hb4 := below_aft9 hb3 hb4
    clear hb3 ol13 ol2
    go_wp2_with fail
    refine (hc3.out _ _ _ ol14 (HGX.out.below hb4).1).mono ?_
    rintro e w5 ⟨rfl, hb5⟩
    replace hb5 := below_aft9 hb4 hb5
    clear hb4 ol14
    go_wp2
    go_ret
    exact ⟨rfl, hb5⟩
/-! ### The row's step. -/
theorem own : ownKnob Tryz.prog.godebug = none := by kernel_rfl
theorem laidOut : laidOutB Tryz.prog = true := by kernel_rfl
theorem laid_plain : (Rows.fnScriptParseRow.laid.filter fun x => x.2.handleName?.isNone) = plainL := by kernel_rfl
theorem laid_hand : (Rows.fnScriptParseRow.laid.filter fun x => x.2.handleName?.isSome) = [("errors.errorType", Rows.laid_errors_errorType)] := by kernel_rfl
theorem gvL {W : World} (h : laidMetH Tryz.prog Rows.fnScriptParseRow.laid W) (hS : W.ShapedOpen Tryz.prog) : GX W := by
  unfold laidMetH at h
  rw [laid_hand] at h
  obtain ⟨h, hh⟩ := h
  rw [laid_plain] at h
  unfold plainL at h
  obtain ⟨ps, ⟨g0, t0, cs0, f0, p0, q0, hg0, ht0, hv0, hd0, ⟨g1, t1, cs1, f1, p1, q1, hg1, ht1, hv1, hd1, ⟨g2, t2, cs2, f2, p2, q2, hg2, ht2, hv2, hd2, ⟨g3, t3, cs3, f3, p3, q3, hg3, ht3, hv3, hd3, ⟨g4, t4, cs4, f4, p4, q4, hg4, ht4, hv4, hd4, ⟨g5, t5, cs5, f5, p5, q5, hg5, ht5, hv5, hd5, ⟨g6, t6, cs6, f6, p6, q6, hg6, ht6, hv6, hd6, ⟨g7, t7, cs7, f7, p7, q7, hg7, ht7, hv7, hd7, _, _⟩, _⟩, _⟩, _⟩, _⟩, _⟩, _⟩, _⟩, _, _⟩ := h
  obtain rfl := Option.some.inj (gWords.symm.trans hg6)
  obtain rfl := Option.some.inj (tWords.symm.trans ht6)
  obtain rfl := Option.some.inj (gTab.symm.trans hg2)
  obtain rfl := Option.some.inj (tTab.symm.trans ht2)
  obtain rfl := Option.some.inj (gRange.symm.trans hg4)
  obtain rfl := Option.some.inj (tRange.symm.trans ht4)
  obtain rfl := Option.some.inj (gSyn.symm.trans hg5)
  obtain rfl := Option.some.inj (tSyn.symm.trans ht5)
  exact ⟨gv_of hv6 hd6 hv2 hd2, maxLen_of hS, sent_of gSyn hv5 hd5, sent_of gRange hv4 hd4, err_of hh⟩
set_option maxRecDepth 100000 in
theorem lifted (os : Os) (started : os.Started) (H : Type) (enc : TypeId × Value → H) :
    ReturnsInHanded {} Tryz.checked os 4 .any (fun w args => (Rows.fnScriptParseSpec.pre enc Tryz.prog Tryz.f4 [] false w args ∧ laidMetH Tryz.prog Rows.fnScriptParseRow.laid w) ∧ sizedMet enc Tryz.prog Tryz.f4 (OpenSpec.ofChange Rows.fnScriptParseSpec) false w args) (Rows.fnScriptParseSpec.post enc Tryz.prog Tryz.f4 false true false false) := by
  refine returnsIn_laid_shaped (C := Tryz.checked) (X := fun w _ => laidMetH Tryz.prog Rows.fnScriptParseRow.laid w) (fun _ _ _ hh h => h.of_heap hh) own started (by kernel_rfl) Tryz.func4
    (ChangeSpec.witness_shaped (enc := enc) (C := Tryz.checked) (os := os) (X := fun w _ => laidMetH Tryz.prog Rows.fnScriptParseRow.laid w) false (greatW os) #[.slice none 0 0] 8 (greatW_os os) (World.shaped_of_ZipB (by kernel_rfl) (by kernel_rfl)) (by kernel_rfl) (by kernel_rfl) (by kernel_rfl) (great_met os _ laid_plain laid_hand)) ?_
  intro W base args ds gs before hval0 hW hS hL _
  have hval : ∀ (j : Nat) t v, Tryz.f4.params[j]? = some t → args[j]? = some v → Value.okWide Tryz.prog W .any base t v := hval0
  have hW' := hW
  obtain ⟨p, q, hA0, hV, rfl, hfz, hnd⟩ := hW
  have hA : DataW.TrodAll enc Tryz.prog W 0 (fun _ => true) true Tryz.f4.params.toList args.toList ds p := hA0
  rw [Tryz.params4] at hA hval
  obtain ⟨v0, vs0, d0, ds0, p0, q0, hargs, rfl, rfl, h0, r0⟩ := trodAll_cons hA
  obtain ⟨rfl, rfl, rfl⟩ := trodAll_nil r0
  obtain rfl : args = #[v0] := by cases args; simp_all
  have hV2 := hV
  obtain ⟨_, _, _, _, g1, _, rfl, _⟩ := trodVars_one hV2
  have hgv := gvL hL hS
  obtain ⟨a0, len0, cap0, rfl⟩ := okWide_slice Tryz.underlying22 (hval 0 22 v0 rfl rfl)
  have k0 := h0
  have lt0 : ∀ x ∈ p0, x.block < W.heap.size := by obtain ⟨m, hm⟩ := k0; exact DataW.trod_lt m _ _ _ hm
  obtain ⟨z0, w0⟩ : ∃ zs, IsRow .u8 W a0 len0 cap0 zs := by
    obtain ⟨fuel, hf⟩ := h0
    rcases open_ints Tryz.underlying22 Tryz.underlying5 (by kernel_rfl) hf with ⟨hcs, _⟩ | ⟨x, l, c, zs, hcs, _, hl, hm, hz, _, hcell, hwz⟩
    · simp [Value.cells] at hcs
      obtain ⟨rfl, rfl, rfl⟩ := hcs
      exact ⟨[], .inl ⟨rfl, rfl, rfl, rfl⟩⟩
    · simp [Value.cells] at hcs
      obtain ⟨rfl, rfl, rfl⟩ := hcs
      exact ⟨zs, .inr ⟨_, rfl, hl, hm, by simpa using hz, hcell, hwz⟩⟩
  clear hA0 hval0
  refine (walk a0 len0 cap0 z0 W w0 hgv).mono fun e W' ⟨he, bel⟩ => ?_
  subst he
  exact ⟨_, rfl, _, _, _, [], _, q, hW', trodAll_mk1 (shut_bool Tryz.underlying4 _), (trodAll_cons_mk (Below.trod laidOut (by kernel_rfl) (of_decide_eq_true (by kernel_rfl)) k0 bel lt0) trodAll_mk0), Below.trodVars laidOut bel (by kernel_rfl) hV, bel.frame _, fun h => by cases h⟩
theorem over : Rows.fnScriptParseRow.holds Tryz.pinned (OpenSpec.ofChange Rows.fnScriptParseSpec) :=
  OpenClaim.holds_of_wide 4 Tryz.f4 rfl rfl rfl rfl rfl rfl rfl ⟨rfl, rfl, rfl, rfl, rfl⟩ rfl rfl rfl rfl rfl (by kernel_rfl) Tryz.func4 (by kernel_rfl)
    (of_decide_eq_true (by kernel_rfl)) (by unfold Func.isWrapper; first | (rw [if_pos (by decide +kernel)]; kernel_rfl) | (rw [if_neg (by decide +kernel)]; exact ⟨rfl, rfl⟩))
    (fun os started H enc _ => lifted os started H enc)
theorem proved : Rows.FnScriptParseCardSaid :=
  Claim7.holds_tied_plain_at .later [] [.data, .data, .data, .data, .handle, .sentinel, .sentinel, .data, .pinned] true (true, "cef5abec48b48d3866f68588d7ad242c83ac680f4f0fb79e411b0e9bd7440722") true
    over (fun _ h => by cases h) (by kernel_rfl) (fun _ h => by cases h) fnScriptParse_row_tie rfl ⟨rfl, rfl⟩ (by kernel_rfl) rfl
    (fun f fn hf hfn => by
      obtain rfl : f = 4 := Option.some.inj ((show Tryz.prog.funcNamed "loop.example/workchain/laws.FnScriptParse" = some 4 by kernel_rfl).symm.trans hf) |>.symm
      obtain rfl : fn = Tryz.f4 := (Option.some.inj (Tryz.func4.symm.trans hfn)).symm
      exact ⟨by kernel_rfl, fun j t ht => by
        rw [Tryz.params4] at ht
        have hm : t ∈ [22] := by simpa using Array.mem_of_getElem? ht
        have hall : ([22].all fun u => !Tryz.prog.wantsStandIn u) = true := by kernel_rfl
        exact (show Tryz.prog.wantsStandIn t = false by simpa using List.all_eq_true.1 hall t hm)⟩)
    (by kernel_rfl)
#print axioms proved
end Go.Proofs.YtpldoffjclmacaaGreatDoor.fnScriptParse
