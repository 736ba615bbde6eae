/- For every code of at most 1<<20 bytes (longer ones are let pass by the law itself): WithWitness answers as the model's WithWitness; the core stays, and the witness is the given one. -/
import Derived.Test.YtcbpdibkindnfaaRows
import Derived.Test.YtcbpdibkindnfaaVd
import Derived.Test.YtcbpdibkindnfaaVe
import Derived.WalkKit
import Derived.WalkSpells
import Derived.ProofKit
import Derived.OpenShut
import Derived.ShutString
import Derived.Below
import Derived.SliceStrings
namespace Go.Proofs.Ytcbpdibkindnfaa.fnWithWitness
open Go.ChangeShapes Go.WideShapes Go.ChangeAt Go.RowKit
open Go.ChangeMaps (open_string shut_string)
set_option maxRecDepth 100000 in
set_option maxHeartbeats 6400000 in
theorem walk (a0 : Option Addr) (len0 cap0 : Nat) (z0 : List Int) (w : World) (w0 : IsRow .u8 w a0 len0 cap0 z0) :
    Calls Try.prog 7 #[.slice a0 len0 cap0] w fun e w' => e = .returned (.bool true) ∧ Below w.heap.size w w' := by
  have hcm := w0.len
  by_cases h : (1048576 : Int) < (len0 : Int)
  · go_enter Try.func7, Try.ntmps7
    go_wp2
    go_ret
    exact ⟨rfl, Below.refl _ _⟩
  go_enter Try.func7, Try.ntmps7
  go_wp2_with fail
  refine (drawWithWitness_any a0 len0 cap0 z0 _ w0 (by omega)).mono ?_
  rintro e w1 ⟨a, n, c, b, m, d, t, i, g, ss, cp, rfl, HT, HC, HS, HR, HZ, hb1⟩
  clear w0 h hcm
  obtain ⟨U, hU⟩ : ∃ x, Tr.getO (t.withOk i ss) = x := ⟨_, rfl⟩
  obtain ⟨IS, hIS⟩ : ∃ x, (t.withOk i ss).isSome = x := ⟨_, rfl⟩
  obtain ⟨N, hN⟩ : ∃ x, U.ins.length = x := ⟨_, rfl⟩
  obtain ⟨M, hM⟩ : ∃ x, U.outs.length = x := ⟨_, rfl⟩
  obtain ⟨AG, hAG⟩ : ∃ x, U.after = x := ⟨_, rfl⟩
  obtain ⟨NU, hNU⟩ : ∃ x, U.note = x := ⟨_, rfl⟩
  obtain ⟨AF, hAF⟩ : ∃ x, Hid (t.after = x) := ⟨_, Lib.hid rfl⟩
  obtain ⟨NT, hNT⟩ : ∃ x, Hid (t.note = x) := ⟨_, Lib.hid rfl⟩
  have HUS : Hid U.small := Lib.hid (by rw [← hU]; exact (Tr.getO_fitV (Tr.with_okV t i ss)).small)
  have H1 : Hid (∀ W, TrR w.heap.size W a n b m t → SR W (some ⟨g, 0, none⟩) ss.length ss → Calls Try.prog 17 #[.agg #[.slice a n c, .slice b m d, .int .i64 AF, .string NT], .int .i64 i, .slice (some ⟨g, 0, none⟩) ss.length cp] W fun e w' => ∃ Xa Xc Xb Xd, e = .returned (.tuple #[.agg #[.slice Xa N Xc, .slice Xb M Xd, .int .i64 AG, .string NU], .bool IS]) ∧ Hid (TrR W.heap.size w' Xa N Xb M U) ∧ Hid (N ≤ Xc) ∧ Below W.heap.size W w') := Lib.hid fun W h hr => by
    have hq := implWithWitness_any w.heap.size a n c b m d t i (some ⟨g, 0, none⟩) cp ss W h HC.out HS.out hr HZ.out.1 HZ.out.2
    rw [hAF.out, hNT.out] at hq
    exact hq.mono fun e w' q => q.ans.trN hU hN hM hAG hNU hIS
  have H2 : Hid (∀ W, TrR w.heap.size W a n b m t → SR W (some ⟨g, 0, none⟩) ss.length ss → Calls Try.prog 25 #[.agg #[.slice a n c, .slice b m d, .int .i64 AF, .string NT], .int .i64 i, .slice (some ⟨g, 0, none⟩) ss.length cp] W fun e w' => ∃ Xa Xc Xb Xd, e = .returned (.tuple #[.agg #[.slice Xa N Xc, .slice Xb M Xd, .int .i64 AG, .string NU], .bool IS]) ∧ Hid (TrR W.heap.size w' Xa N Xb M U) ∧ Hid (N ≤ Xc) ∧ Below W.heap.size W w') := Lib.hid fun W h hr => by
    have hq := specWithWitness_any w.heap.size a n c b m d t i (some ⟨g, 0, none⟩) cp ss W h HS.out hr HZ.out.1 HZ.out.2
    rw [hAF.out, hNT.out] at hq
    exact hq.mono fun e w' q => q.trN hU hN hM hAG hNU hIS
  have HQ := Lib.hid (fun lo lo' a c b d a' c' b' d' W (h1 : TrR lo W a N b M U) (h2 : TrR lo' W a' N b' M U) => wcTx_any lo lo' a N c b M d a' c' b' d' U W h1 h2 HUS.out)
  obtain ⟨Y, hY⟩ : ∃ x, Tr.enc false t = x := ⟨_, rfl⟩
  have HA : Hid (IS = true → ∀ W, TrR w.heap.size W a n b m t → Calls Try.prog 13 #[.agg #[.slice a n c, .slice b m d, .int .i64 AF, .string NT]] W fun e w' => e = .returned (.tuple #[.string Y, .bool true]) ∧ Below W.heap.size W w') := Lib.hid fun hi W h => by
    rw [← hIS] at hi
    obtain ⟨r1, r2, r3, r4, r5, r6, r7⟩ := Tr.with_core hi
    have hq := implTxCore_any w.heap.size a n c b m d t W h HC.out HS.out
    rw [hAF.out, hNT.out, r5, if_pos rfl, hY] at hq
    exact hq
  have HB : Hid (IS = true → ∀ lo Xa Xc Xb Xd W, TrR lo W Xa N Xb M U → N ≤ Xc → Calls Try.prog 13 #[.agg #[.slice Xa N Xc, .slice Xb M Xd, .int .i64 AG, .string NU]] W fun e w' => e = .returned (.tuple #[.string Y, .bool true]) ∧ Below W.heap.size W w') := Lib.hid fun hi lo Xa Xc Xb Xd W h hc => by
    rw [← hIS] at hi
    obtain ⟨r1, r2, r3, r4, r5, r6, r7⟩ := Tr.with_core hi
    rw [hU] at r1 r2
    have hq := implTxCore_any lo Xa N Xc Xb M Xd U W h hc HUS.out
    rw [hAG, hNU, r1, if_pos rfl, r2, hY] at hq
    exact hq
  have HI : Hid (IS = true → ∃ k : Nat, i = (k : Int) ∧ k < N ∧ (Tr.inAt U.ins k).wit = ss) := Lib.hid fun hi => by
    rw [← hIS] at hi
    obtain ⟨r1, r2, r3, r4, r5, r6, r7⟩ := Tr.with_core hi
    rw [hU] at r4 r7
    refine ⟨i.toNat, by omega, by omega, ?_⟩
    rw [r7]
  have HL := Lib.hid HZ.out.1
  simp only [hAG, hNU] at HQ
  obtain ⟨L, HLL⟩ : ∃ x, Hid (ss.length = x) := ⟨_, Lib.hid rfl⟩
  simp only [HLL.out] at H1 H2 HR HL
  rw [hAF.out, hNT.out, HLL.out]
  clear hU hIS hN hM hAG hNU HUS hAF hNT hY HC HS HZ
  have hB1 := hb1.alloc hb1.size (.cells #[.slice a n c, .slice b m d, .int .i64 AF, .string NT] 26 (0, 0))
  have v1 : Bk w1.heap.size 26 #[.slice a n c, .slice b m d, .int .i64 AF, .string NT] (w1.alloc (.cells #[.slice a n c, .slice b m d, .int .i64 AF, .string NT] 26 (0, 0))) := Bk.new _ _ _
  have HT1 := Lib.hid (HT.out.alloc (.cells #[.slice a n c, .slice b m d, .int .i64 AF, .string NT] 26 (0, 0)))
  have HR1 := Lib.hid (HR.out.alloc (.cells #[.slice a n c, .slice b m d, .int .i64 AF, .string NT] 26 (0, 0)))
  have hcs := H1.out _ HT1.out HR1.out
  obtain ⟨c0, c1, c2, c3⟩ := Bk.c4 v1
  clear HT hb1 HR
  go_wp2_with fail
  refine hcs.mono ?_
  rintro e w2 ⟨Aa, Ac, Ab, Ad, rfl, HP, HC2, hx⟩
  have hB2 := (hB1.trans (hx.mono hB1.size)).alloc (Nat.le_trans hB1.size hx.size) (.cells #[.slice Aa N Ac, .slice Ab M Ad, .int .i64 AG, .string NU] 26 (0, 0))
  have v2 := (v1.below hx).alloc (.cells #[.slice Aa N Ac, .slice Ab M Ad, .int .i64 AG, .string NU] 26 (0, 0))
  have u2 : Bk w2.heap.size 26 #[.slice Aa N Ac, .slice Ab M Ad, .int .i64 AG, .string NU] (w2.alloc (.cells #[.slice Aa N Ac, .slice Ab M Ad, .int .i64 AG, .string NU] 26 (0, 0))) := Bk.new _ _ _
  have HT2 := Lib.hid ((HT1.out.below hx).alloc (.cells #[.slice Aa N Ac, .slice Ab M Ad, .int .i64 AG, .string NU] 26 (0, 0)))
  have HR2 := Lib.hid ((HR1.out.below hx).alloc (.cells #[.slice Aa N Ac, .slice Ab M Ad, .int .i64 AG, .string NU] 26 (0, 0)))
  have HP2 := Lib.hid (HP.out.alloc (.cells #[.slice Aa N Ac, .slice Ab M Ad, .int .i64 AG, .string NU] 26 (0, 0)))
  have hcs := H2.out _ HT2.out HR2.out
  clear c0 c1 c2 c3 hx hB1 v1 HT1 HR1 HP H1
  obtain ⟨c0, c1, c2, c3⟩ := Bk.c4 v2
  go_wp2_with fail
  refine hcs.mono ?_
  rintro e w3 ⟨Ba, Bc, Bb, Bd, rfl, HT3', _, hx⟩
  have hB3 := (hB2.trans (hx.mono hB2.size)).alloc (Nat.le_trans hB2.size hx.size) (.cells #[.slice Ba N Bc, .slice Bb M Bd, .int .i64 AG, .string NU] 26 (0, 0))
  have v3 := (v2.below hx).alloc (.cells #[.slice Ba N Bc, .slice Bb M Bd, .int .i64 AG, .string NU] 26 (0, 0))
  have u3 := (u2.below hx).alloc (.cells #[.slice Ba N Bc, .slice Bb M Bd, .int .i64 AG, .string NU] 26 (0, 0))
  have x3 : Bk w3.heap.size 26 #[.slice Ba N Bc, .slice Bb M Bd, .int .i64 AG, .string NU] (w3.alloc (.cells #[.slice Ba N Bc, .slice Bb M Bd, .int .i64 AG, .string NU] 26 (0, 0))) := Bk.new _ _ _
  have HT3 := Lib.hid ((HT2.out.below hx).alloc (.cells #[.slice Ba N Bc, .slice Bb M Bd, .int .i64 AG, .string NU] 26 (0, 0)))
  have HR3 := Lib.hid ((HR2.out.below hx).alloc (.cells #[.slice Ba N Bc, .slice Bb M Bd, .int .i64 AG, .string NU] 26 (0, 0)))
  have HP3 := Lib.hid ((HP2.out.below hx).alloc (.cells #[.slice Ba N Bc, .slice Bb M Bd, .int .i64 AG, .string NU] 26 (0, 0)))
  have hcs := HQ.out _ _ Aa Ac Ab Ad Ba Bc Bb Bd _ HP3.out (HT3'.out.alloc (.cells #[.slice Ba N Bc, .slice Bb M Bd, .int .i64 AG, .string NU] 26 (0, 0)))
  clear c0 c1 c2 c3 hx hB2 v2 u2 HT2 HR2 HP2 HT3' H2
  obtain ⟨c0, c1, c2, c3⟩ := Bk.c4 u3
  obtain ⟨d0, d1, d2, d3⟩ := Bk.c4 x3
  go_wp2_with fail
  refine hcs.mono ?_
  rintro e w4 ⟨rfl, hx⟩
  have hB4 := hB3.trans (hx.mono hB3.size)
  have v4 := v3.below hx
  have u4 := u3.below hx
  have HT4 := Lib.hid (HT3.out.below hx)
  have HR4 := Lib.hid (HR3.out.below hx)
  have HP4 := Lib.hid (HP3.out.below hx)
  clear hx hB3 v3 u3 x3 c0 c1 c2 c3 d0 d1 d2 d3 HT3 HR3 HP3 HQ hcs
  cases IS
  · go_wp2
    go_ret
    exact ⟨rfl, hB4⟩
  have hcs := HA.out (by first | trivial | rfl) w4 HT4.out
  obtain ⟨c0, c1, c2, c3⟩ := Bk.c4 v4
  go_wp2_with fail
  refine hcs.mono ?_
  rintro e w5 ⟨rfl, hx⟩
  have hB5 := hB4.trans (hx.mono hB4.size)
  have u5 := u4.below hx
  have HR5 := Lib.hid (HR4.out.below hx)
  have HP5 := Lib.hid (HP4.out.below hx)
  have hcs := HB.out (by first | trivial | rfl) _ Aa Ac Ab Ad w5 HP5.out HC2.out
  clear hx hB4 v4 u4 HT4 HR4 HP4 c0 c1 c2 c3 HA
  obtain ⟨c0, c1, c2, c3⟩ := Bk.c4 u5
  go_wp2_with fail
  refine hcs.mono ?_
  rintro e w6 ⟨rfl, hx⟩
  have hB6 := hB5.trans (hx.mono hB5.size)
  have u6 := u5.below hx
  have HR6 := Lib.hid (HR5.out.below hx)
  have HP6 := Lib.hid (HP5.out.below hx)
  clear hx hB5 u5 HR5 HP5 c0 c1 c2 c3 HB hcs
  obtain ⟨k, rfl, hk, hw⟩ := HI.out (by first | trivial | rfl)
  obtain ⟨g2, off, rfl, _, _, hc⟩ := HP6.out.ins.2 (by omega)
  obtain ⟨wa, wc, e0, e1, e2, e3, _⟩ := hc k hk
  rw [hw, HLL.out] at e2 e3
  have hcs := wcTexts_any wa (some ⟨g, 0, none⟩) L wc cp ss w6 e3 HR6.out (by have := HL.out; omega)
  obtain ⟨c0, c1, c2, c3⟩ := Bk.c4 u6
  have hYY : (Y.toList == Y.toList) = true := by simp
  clear hc HI hw HP6 HR6 e3 HL HLL u6 HC2
  go_wp2_with fail
  refine hcs.mono ?_
  rintro e w7 ⟨rfl, hx⟩
  have hB7 := hB6.trans (hx.mono hB6.size)
  clear hx hB6 hcs c0 c1 c2 c3 e0 e1 e2
  go_wp2
  go_ret
  exact ⟨rfl, hB7⟩
/-! ### The row's step. -/
theorem own : ownKnob Try.prog.godebug = none := by kernel_rfl
theorem laidOut : laidOutB Try.prog = true := by kernel_rfl
set_option maxRecDepth 100000 in
theorem lifted (os : Os) (started : os.Started) (H : Type) (enc : TypeId × Value → H) :
    ReturnsInHanded {} Try.checked os 7 .any (Rows.fnWithWitnessSpec.pre6 enc Try.prog Try.f7 Rows.fnWithWitnessRow.domain false) (Rows.fnWithWitnessSpec.post enc Try.prog Try.f7 false true false false) := by
  refine returnsInHanded_of_change (C := Try.checked) own started (by kernel_rfl) Try.func7
    (ChangeSpec.witness6 (enc := enc) (C := Try.checked) false ⟨#[], #[.slice none 0 0], []⟩ 8 (by kernel_rfl) (by kernel_rfl) (by kernel_rfl) (by kernel_rfl)) ?_
  intro W base args ds gs before hval0 hW hcnd _
  have hval : ∀ (j : Nat) t v, Try.f7.params[j]? = some t → args[j]? = some v → Value.okWide Try.prog W .any base t v := hval0
  have hW' := hW
  obtain ⟨p, q, hA0, hV, rfl, hfz, hnd⟩ := hW
  have hA : DataW.TrodAll enc Try.prog W 0 (fun _ => true) true Try.f7.params.toList args.toList ds p := hA0
  rw [Try.params7] at hA hval
  obtain ⟨v0, vs0, d0, ds0, p0, q0, hargs, rfl, rfl, h0, r0⟩ := trodAll_cons hA
  obtain ⟨rfl, rfl, rfl⟩ := trodAll_nil r0
  obtain rfl : args = #[v0] := by cases args; simp_all
  obtain ⟨rfl, rfl⟩ := trodVars_none hV
  obtain ⟨a0, len0, cap0, rfl⟩ := okWide_slice Try.underlying22 (hval 0 22 v0 rfl rfl)
  have k0 := h0
  have lt0 : ∀ x ∈ p0, x.block < W.heap.size := by obtain ⟨m, hm⟩ := k0; exact DataW.trod_lt m _ _ _ hm
  obtain ⟨z0, w0⟩ : ∃ zs, IsRow .u8 W a0 len0 cap0 zs := by
    obtain ⟨fuel, hf⟩ := h0
    rcases open_ints Try.underlying22 Try.underlying5 (by kernel_rfl) hf with ⟨hcs, _⟩ | ⟨x, l, c, zs, hcs, _, hl, hm, hz, _, hcell, hwz⟩
    · simp [Value.cells] at hcs
      obtain ⟨rfl, rfl, rfl⟩ := hcs
      exact ⟨[], .inl ⟨rfl, rfl, rfl, rfl⟩⟩
    · simp [Value.cells] at hcs
      obtain ⟨rfl, rfl, rfl⟩ := hcs
      exact ⟨zs, .inr ⟨_, rfl, hl, hm, by simpa using hz, hcell, hwz⟩⟩
  clear hA0 hval0
  refine (walk a0 len0 cap0 z0 W w0).mono fun e W' ⟨he, bel⟩ => ?_
  subst he
  exact ⟨_, rfl, _, _, _, [], _, [], hW', trodAll_mk1 (shut_bool Try.underlying4 _), (trodAll_cons_mk (Below.trod laidOut (by kernel_rfl) (of_decide_eq_true (by kernel_rfl)) k0 bel lt0) trodAll_mk0), rfl, bel.frame _, fun h => by cases h⟩
theorem over : Rows.fnWithWitnessRow.holds Try.pinned (OpenSpec.ofChange Rows.fnWithWitnessSpec) :=
  OpenClaim.holds_of_wide 7 Try.f7 rfl rfl rfl rfl rfl rfl rfl ⟨rfl, rfl, rfl, rfl, rfl⟩ rfl rfl rfl rfl rfl (by kernel_rfl) Try.func7 (by kernel_rfl)
    (of_decide_eq_true (by kernel_rfl)) (by unfold Func.isWrapper; first | (rw [if_pos (by decide +kernel)]; kernel_rfl) | (rw [if_neg (by decide +kernel)]; exact ⟨rfl, rfl⟩))
    (fun os started H enc _ => lifted os started H enc)
theorem proved : Rows.FnWithWitnessSaid := over
#print axioms proved
end Go.Proofs.Ytcbpdibkindnfaa.fnWithWitness
