/- For every two codes of at most 1<<20 bytes each (longer ones are let pass by the law itself): TxCore answers as the model's TxCore; valid transactions with the same core have the same inputs but for the witnesses, the same outputs, the same After and the same Note. -/
import Derived.Test.YtcbpdibkindnfaaRows
import Derived.Test.YtcbpdibkindnfaaUz
import Derived.Test.YtcbpdibkindnfaaVa
import Derived.Test.YtcbpdibkindnfaaTu
import Derived.WalkKit
import Derived.WalkSpells
import Derived.ProofKit
import Derived.OpenShut
import Derived.ShutString
import Derived.Below
import Derived.SliceStrings
namespace Go.Proofs.Ytcbpdibkindnfaa.fnCoreBinds
open Go.ChangeShapes Go.WideShapes Go.ChangeAt Go.RowKit
open Go.ChangeMaps (open_string shut_string)
theorem Tr.bareV {a b : Tr} (h : a.ins.map Tr.In.bare = b.ins.map Tr.In.bare) : a.ins.length = b.ins.length ∧ ∀ k, k < a.ins.length → (Tr.inAt b.ins k).tx = (Tr.inAt a.ins k).tx ∧ (Tr.inAt b.ins k).out = (Tr.inAt a.ins k).out := by
  have hl : a.ins.length = b.ins.length := by simpa using congrArg List.length h
  refine ⟨hl, fun k hk => ?_⟩
  have h1 : (a.ins.map Tr.In.bare)[k]? = (b.ins.map Tr.In.bare)[k]? := by rw [h]
  rw [List.getElem?_map, List.getElem?_map, Tr.inAt_get hk, Tr.inAt_get (by omega)] at h1
  simp only [Option.map_some, Option.some.injEq, Tr.In.bare, Tr.In.mk.injEq] at h1
  exact ⟨h1.1.symm, h1.2.1.symm⟩
set_option maxRecDepth 100000 in
set_option maxHeartbeats 6400000 in
theorem walk (a0 : Option Addr) (len0 cap0 : Nat) (z0 : List Int) (a1 : Option Addr) (len1 cap1 : Nat) (z1 : List Int) (w : World) (w0 : IsRow .u8 w a0 len0 cap0 z0) (w1 : IsRow .u8 w a1 len1 cap1 z1) :
    Calls Try.prog 8 #[.slice a0 len0 cap0, .slice a1 len1 cap1] w fun e w' => e = .returned (.bool true) ∧ Below w.heap.size w w' := by
  have hcm := w0.len
  have hcm1 := w1.len
  by_cases h : (1048576 : Int) < (len0 : Int)
  · go_enter Try.func8, Try.ntmps8
    go_wp2
    go_ret
    exact ⟨rfl, Below.refl _ _⟩
  by_cases h1 : (1048576 : Int) < (len1 : Int)
  · go_enter Try.func8, Try.ntmps8
    go_wp2
    go_ret
    exact ⟨rfl, Below.refl _ _⟩
  go_enter Try.func8, Try.ntmps8
  go_wp2_with fail
  refine (drawTxOk_any a0 len0 cap0 z0 _ w0 (by omega)).mono ?_
  rintro e W1 ⟨a, n, c, b, m, d, t, rfl, HT, HC, HS, hb1⟩
  have w2 := w1.below hb1
  clear w0 w1 hcm
  go_wp2_with fail
  refine (drawTxOk_any a1 len1 cap1 z1 _ w2 (by omega)).mono ?_
  rintro e W2 ⟨a', n', c', b', m', d', t', rfl, HT', HC', HS', hx⟩
  have hb2 := hb1.trans (hx.mono hb1.size)
  have HT2 := Lib.hid (HT.out.below hx)
  clear HT hx hb1 w2 h h1 hcm1
  obtain ⟨X, hX⟩ : ∃ x, (if t.ok = true then Tr.enc false t else ⟨#[]⟩) = x := ⟨_, rfl⟩
  obtain ⟨Y, hY⟩ : ∃ x, (if t'.ok = true then Tr.enc false t' else ⟨#[]⟩) = x := ⟨_, rfl⟩
  obtain ⟨ok, hok⟩ : ∃ x, t.ok = x := ⟨_, rfl⟩
  obtain ⟨ok', hok'⟩ : ∃ x, t'.ok = x := ⟨_, rfl⟩
  have H1 := Lib.hid (fun W h => implTxCore_any w.heap.size a n c b m d t W h HC.out HS.out)
  have H2 := Lib.hid (fun W h => TxCore_any w.heap.size a n c b m d t W h HS.out)
  have H3 := Lib.hid (fun W h => implTxCore_any W1.heap.size a' n' c' b' m' d' t' W h HC'.out HS'.out)
  have HN : Hid (t.ins.length = n ∧ t.outs.length = m ∧ t'.ins.length = n' ∧ t'.outs.length = m') := Lib.hid ⟨HT2.out.ins.1, HT2.out.outs.1, HT'.out.ins.1, HT'.out.outs.1⟩
  have HBI : Hid (ok = true → ok' = true → X = Y → n' = n ∧ m' = m ∧ t'.after = t.after ∧ t'.note = t.note ∧ t'.outs = t.outs ∧ ∀ k, k < n → (Tr.inAt t'.ins k).tx = (Tr.inAt t.ins k).tx ∧ (Tr.inAt t'.ins k).out = (Tr.inAt t.ins k).out) := Lib.hid fun h1 h2 h3 => by
    rw [← hok] at h1
    rw [← hok'] at h2
    rw [← hX, ← hY, if_pos h1, if_pos h2] at h3
    obtain ⟨g1, g2, g3, g4⟩ := Tr.core_binds (Tr.ok_fit h1) (Tr.ok_fit h2) h3
    obtain ⟨g5, g6⟩ := Tr.bareV g1
    have hh := HN.out
    refine ⟨by omega, by rw [← hh.2.1, ← hh.2.2.2, g2], g3.symm, g4.symm, g2.symm, fun k hk => g6 k (by omega)⟩
  have HMX : Hid (m ≤ 1048576 ∧ n ≤ 1048576) := Lib.hid ⟨by rw [← HN.out.2.1]; exact HS.out.nout, by rw [← HN.out.1]; exact HS.out.nin⟩
  simp only [hX] at H1 H2
  simp only [hY] at H3
  simp only [hok] at H1 H2
  simp only [hok'] at H3
  obtain ⟨AF, hAF⟩ : ∃ x, t.after = x := ⟨_, rfl⟩
  obtain ⟨NT, hNT⟩ : ∃ x, t.note = x := ⟨_, rfl⟩
  obtain ⟨AG, hAG⟩ : ∃ x, t'.after = x := ⟨_, rfl⟩
  obtain ⟨NU, hNU⟩ : ∃ x, t'.note = x := ⟨_, rfl⟩
  simp only [hAF, hNT] at H1 H2 HBI
  simp only [hAG, hNU] at H3 HBI
  rw [hAF, hNT, hAG, hNU]
  clear hX hY hok hok' HC HC' HS HS' HN hAF hNT hAG hNU
  have hB2 := (hb2.alloc hb2.size (.cells #[.slice a n c, .slice b m d, .int .i64 AF, .string NT] 26 (0, 0))).alloc (by have := hb2.size; simp; omega) (.cells #[.slice a' n' c', .slice b' m' d', .int .i64 AG, .string NU] 26 (0, 0))
  have v2 : Bk W2.heap.size 26 #[.slice a n c, .slice b m d, .int .i64 AF, .string NT] ((W2.alloc (.cells #[.slice a n c, .slice b m d, .int .i64 AF, .string NT] 26 (0, 0))).alloc (.cells #[.slice a' n' c', .slice b' m' d', .int .i64 AG, .string NU] 26 (0, 0))) := (Bk.new _ _ _).alloc _
  have u2 : Bk (W2.heap.size + 1) 26 #[.slice a' n' c', .slice b' m' d', .int .i64 AG, .string NU] ((W2.alloc (.cells #[.slice a n c, .slice b m d, .int .i64 AF, .string NT] 26 (0, 0))).alloc (.cells #[.slice a' n' c', .slice b' m' d', .int .i64 AG, .string NU] 26 (0, 0))) := Bk.new' _ _ _ _ (by simp)
  have HP2 := Lib.hid ((HT2.out.alloc (.cells #[.slice a n c, .slice b m d, .int .i64 AF, .string NT] 26 (0, 0))).alloc (.cells #[.slice a' n' c', .slice b' m' d', .int .i64 AG, .string NU] 26 (0, 0)))
  have HQ2 := Lib.hid ((HT'.out.alloc (.cells #[.slice a n c, .slice b m d, .int .i64 AF, .string NT] 26 (0, 0))).alloc (.cells #[.slice a' n' c', .slice b' m' d', .int .i64 AG, .string NU] 26 (0, 0)))
  have hcs := H1.out _ HP2.out
  obtain ⟨c0, c1, c2, c3⟩ := Bk.c4 v2
  clear HT2 HT' hb2
  go_wp2_with fail
  refine hcs.mono ?_
  rintro e W3 ⟨rfl, hx⟩
  have hB3 := hB2.trans (hx.mono hB2.size)
  have v3 := v2.below hx
  have u3 := u2.below hx
  have HP3 := Lib.hid (HP2.out.below hx)
  have HQ3 := Lib.hid (HQ2.out.below hx)
  have hcs := H2.out _ HP3.out
  clear c0 c1 c2 c3 hx hB2 v2 u2 HP2 HQ2 H1
  obtain ⟨c0, c1, c2, c3⟩ := Bk.c4 v3
  go_wp2_with fail
  refine hcs.mono ?_
  rintro e W4 ⟨rfl, hx⟩
  have hB4 := hB3.trans (hx.mono hB3.size)
  have v4 := v3.below hx
  have u4 := u3.below hx
  have HP4 := Lib.hid (HP3.out.below hx)
  have HQ4 := Lib.hid (HQ3.out.below hx)
  have hcs := H3.out _ HQ4.out
  clear c0 c1 c2 c3 hx hB3 v3 u3 HP3 HQ3 H2
  obtain ⟨c0, c1, c2, c3⟩ := Bk.c4 u4
  go_wp2_with fail
  refine hcs.mono ?_
  rintro e W5 ⟨rfl, hx⟩
  have hB5 := hB4.trans (hx.mono hB4.size)
  have v5 := v4.below hx
  have u5 := u4.below hx
  have HP5 := Lib.hid (HP4.out.below hx)
  have HQ5 := Lib.hid (HQ4.out.below hx)
  clear c0 c1 c2 c3 hx hB4 v4 u4 HP4 HQ4 H3 hcs
  have hXX : (X.toList == X.toList) = true := by simp
  cases ok
  · go_wp2
    go_ret
    exact ⟨rfl, hB5⟩
  cases ok'
  · go_wp2
    go_ret
    exact ⟨rfl, hB5⟩
  by_cases hXY : ¬ X = Y
  · have hne : ¬ X.toList = Y.toList := fun e => hXY (by rw [ByteArray.toList_eq, ByteArray.toList_eq] at e; exact ByteArray.ext (Array.toList_inj.1 e))
    have hne2 : (X.toList == Y.toList) = false := by simpa using hne
    clear hXY
    go_wp2
    go_ret
    exact ⟨rfl, hB5⟩
  have hXY := Classical.not_not.1 hXY
  obtain ⟨q1, q2, q3, q4, q5, q6⟩ := HBI.out rfl rfl hXY
  have HE := Lib.hid q6
  have HQ6 : Hid (InL W1.heap.size W5 a' n' t'.ins ∧ OuL W1.heap.size W5 b' m' t.outs) := Lib.hid ⟨HQ5.out.ins, by rw [← q5]; exact HQ5.out.outs⟩
  subst hXY
  subst q1 q2 q3 q4
  have hYY : (NU.toList == NU.toList) = true := by simp
  have HO : Hid (∀ W, Below W5.heap.size W5 W → Calls Try.prog 28 #[.slice b m' d, .slice b' m' d'] W fun e w' => e = .returned (.bool true) ∧ Below W.heap.size W w') := Lib.hid fun W h => wcOuts_any w.heap.size W1.heap.size b b' m' d d' t.outs W (HP5.out.below h).outs (HQ6.out.2.below h) HMX.out.1
  clear HQ5 HBI q5 q6
  obtain ⟨c0, c1, c2, c3⟩ := Bk.c4 v5
  obtain ⟨d0, d1, d2, d3⟩ := Bk.c4 u5
  go_wp2
  clear c0 c1 c2 c3 d0 d1 d2 d3
  go_loopw [13] (fun i wr => ∃ k : Nat, k ≤ n' ∧ i = .int .i64 (k : Int) ∧ Below W5.heap.size W5 wr)
    (fun i _ => n' - (intOf i).toNat)
  case atStart => exact ⟨0, by omega, rfl, Below.refl _ _⟩
  case round =>
    obtain ⟨k, hk, rfl, hbel⟩ := hrel
    have v6 := v5.below hbel
    have u6 := u5.below hbel
    have hmx := HMX.out
    by_cases hlt : k < n'
    · obtain ⟨g, off, rfl, _, _, hc⟩ := (HP5.out.ins.below hbel).2 (by omega)
      obtain ⟨wa, wc, e0, e1, _, _, _⟩ := hc k hlt
      obtain ⟨g2, off2, rfl, _, _, hd⟩ := (HQ6.out.1.below hbel).2 (by omega)
      obtain ⟨va, vc, f0, f1, _, _, _⟩ := hd k hlt
      obtain ⟨r0, r1⟩ := HE.out k hlt
      rw [r0] at f0
      rw [r1] at f1
      obtain ⟨tx, htx⟩ : ∃ x, (Tr.inAt t.ins k).tx = x := ⟨_, rfl⟩
      obtain ⟨ou, hou⟩ : ∃ x, (Tr.inAt t.ins k).out = x := ⟨_, rfl⟩
      rw [htx] at e0 f0
      rw [hou] at e1 f1
      obtain ⟨c0, c1, c2, c3⟩ := Bk.c4 v6
      obtain ⟨d0, d1, d2, d3⟩ := Bk.c4 u6
      clear hc hd r0 r1 htx hou v5 u5 v6 u6 HE HP5 HQ6 HO HMX c1 c2 c3 d1 d2 d3
      go_wp2
      go_quiet (fail)
      go_wp2
      go_roundw
      case rel => exact ⟨k + 1, by omega, by simp, below_drewNV hbel _⟩
      case measure => simp [intOf]; omega
    · have hcs := HO.out _ hbel
      obtain ⟨c0, c1, c2, c3⟩ := Bk.c4 v6
      obtain ⟨d0, d1, d2, d3⟩ := Bk.c4 u6
      go_wp2_with fail
      refine hcs.mono ?_
      rintro e W7 ⟨rfl, hx⟩
      have hB7 := (hB5.trans (hbel.mono hB5.size)).trans (hx.mono (Nat.le_trans hB5.size hbel.size))
      obtain ⟨e0, e1, e2, e3⟩ := Bk.c4 (v6.below hx)
      obtain ⟨f0, f1, f2, f3⟩ := Bk.c4 (u6.below hx)
      clear hx hcs c0 c1 c2 c3 d0 d1 d2 d3 v6 u6 hbel hB5
      go_wp2
      go_ret
      exact ⟨rfl, hB7⟩
/-! ### The row's step. -/
theorem own : ownKnob Try.prog.godebug = none := by kernel_rfl
theorem laidOut : laidOutB Try.prog = true := by kernel_rfl
set_option maxRecDepth 100000 in
theorem lifted (os : Os) (started : os.Started) (H : Type) (enc : TypeId × Value → H) :
    ReturnsInHanded {} Try.checked os 8 .any (Rows.fnCoreBindsSpec.pre6 enc Try.prog Try.f8 Rows.fnCoreBindsRow.domain false) (Rows.fnCoreBindsSpec.post enc Try.prog Try.f8 false true false false) := by
  refine returnsInHanded_of_change (C := Try.checked) own started (by kernel_rfl) Try.func8
    (ChangeSpec.witness6 (enc := enc) (C := Try.checked) false ⟨#[], #[.slice none 0 0, .slice none 0 0], []⟩ 8 (by kernel_rfl) (by kernel_rfl) (by kernel_rfl) (by kernel_rfl)) ?_
  intro W base args ds gs before hval0 hW hcnd _
  have hval : ∀ (j : Nat) t v, Try.f8.params[j]? = some t → args[j]? = some v → Value.okWide Try.prog W .any base t v := hval0
  have hW' := hW
  obtain ⟨p, q, hA0, hV, rfl, hfz, hnd⟩ := hW
  have hA : DataW.TrodAll enc Try.prog W 0 (fun _ => true) true Try.f8.params.toList args.toList ds p := hA0
  rw [Try.params8] at hA hval
  obtain ⟨v0, vs0, d0, ds0, p0, q0, hargs, rfl, rfl, h0, r0⟩ := trodAll_cons hA
  obtain ⟨v1, vs1, d1, ds1, p1, q1, rfl, rfl, rfl, h1, r1⟩ := trodAll_cons r0
  obtain ⟨rfl, rfl, rfl⟩ := trodAll_nil r1
  obtain rfl : args = #[v0, v1] := by cases args; simp_all
  obtain ⟨rfl, rfl⟩ := trodVars_none hV
  obtain ⟨a0, len0, cap0, rfl⟩ := okWide_slice Try.underlying22 (hval 0 22 v0 rfl rfl)
  have k0 := h0
  have lt0 : ∀ x ∈ p0, x.block < W.heap.size := by obtain ⟨m, hm⟩ := k0; exact DataW.trod_lt m _ _ _ hm
  obtain ⟨z0, w0⟩ : ∃ zs, IsRow .u8 W a0 len0 cap0 zs := by
    obtain ⟨fuel, hf⟩ := h0
    rcases open_ints Try.underlying22 Try.underlying5 (by kernel_rfl) hf with ⟨hcs, _⟩ | ⟨x, l, c, zs, hcs, _, hl, hm, hz, _, hcell, hwz⟩
    · simp [Value.cells] at hcs
      obtain ⟨rfl, rfl, rfl⟩ := hcs
      exact ⟨[], .inl ⟨rfl, rfl, rfl, rfl⟩⟩
    · simp [Value.cells] at hcs
      obtain ⟨rfl, rfl, rfl⟩ := hcs
      exact ⟨zs, .inr ⟨_, rfl, hl, hm, by simpa using hz, hcell, hwz⟩⟩
  obtain ⟨a1, len1, cap1, rfl⟩ := okWide_slice Try.underlying22 (hval 1 22 v1 rfl rfl)
  have k1 := h1
  have lt1 : ∀ x ∈ p1, x.block < W.heap.size := by obtain ⟨m, hm⟩ := k1; exact DataW.trod_lt m _ _ _ hm
  obtain ⟨z1, w1⟩ : ∃ zs, IsRow .u8 W a1 len1 cap1 zs := by
    obtain ⟨fuel, hf⟩ := h1
    rcases open_ints Try.underlying22 Try.underlying5 (by kernel_rfl) hf with ⟨hcs, _⟩ | ⟨x, l, c, zs, hcs, _, hl, hm, hz, _, hcell, hwz⟩
    · simp [Value.cells] at hcs
      obtain ⟨rfl, rfl, rfl⟩ := hcs
      exact ⟨[], .inl ⟨rfl, rfl, rfl, rfl⟩⟩
    · simp [Value.cells] at hcs
      obtain ⟨rfl, rfl, rfl⟩ := hcs
      exact ⟨zs, .inr ⟨_, rfl, hl, hm, by simpa using hz, hcell, hwz⟩⟩
  clear hA0 hval0
  refine (walk a0 len0 cap0 z0 a1 len1 cap1 z1 W w0 w1).mono fun e W' ⟨he, bel⟩ => ?_
  subst he
  exact ⟨_, rfl, _, _, _, [], _, [], hW', trodAll_mk1 (shut_bool Try.underlying4 _), (trodAll_cons_mk (Below.trod laidOut (by kernel_rfl) (of_decide_eq_true (by kernel_rfl)) k0 bel lt0) (trodAll_cons_mk (Below.trod laidOut (by kernel_rfl) (of_decide_eq_true (by kernel_rfl)) k1 bel lt1) trodAll_mk0)), rfl, bel.frame _, fun h => by cases h⟩
theorem over : Rows.fnCoreBindsRow.holds Try.pinned (OpenSpec.ofChange Rows.fnCoreBindsSpec) :=
  OpenClaim.holds_of_wide 8 Try.f8 rfl rfl rfl rfl rfl rfl rfl ⟨rfl, rfl, rfl, rfl, rfl⟩ rfl rfl rfl rfl rfl (by kernel_rfl) Try.func8 (by kernel_rfl)
    (of_decide_eq_true (by kernel_rfl)) (by unfold Func.isWrapper; first | (rw [if_pos (by decide +kernel)]; kernel_rfl) | (rw [if_neg (by decide +kernel)]; exact ⟨rfl, rfl⟩))
    (fun os started H enc _ => lifted os started H enc)
theorem proved : Rows.FnCoreBindsSaid := over
#print axioms proved
end Go.Proofs.Ytcbpdibkindnfaa.fnCoreBinds
