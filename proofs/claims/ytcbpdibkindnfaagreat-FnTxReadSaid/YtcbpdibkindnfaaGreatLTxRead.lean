/- For every code of at most 1<<20 bytes (longer ones are let pass by the law itself): TxRead answers as the model's TxRead; what was read is written as the same string. -/
import Derived.Test.YtcbpdibkindnfaaGreatRows
import Derived.Test.YtcbpdibkindnfaaGreatVf
import Derived.Test.YtcbpdibkindnfaaGreatTn
import Derived.Test.YtcbpdibkindnfaaGreatTu
import Derived.Test.YtcbpdibkindnfaaGreatUq
import Derived.WalkKit
import Derived.WalkSpells
import Derived.ProofKit
import Derived.OpenShut
import Derived.ShutString
import Derived.Below
import Derived.SliceStrings
namespace Go.Proofs.YtcbpdibkindnfaaGreat.fnTxRead
open Go.ChangeShapes Go.WideShapes Go.ChangeAt Go.RowKit
open Go.ChangeMaps (open_string shut_string)
set_option maxRecDepth 100000 in
set_option maxHeartbeats 6400000 in
theorem walk (a0 : Option Addr) (len0 cap0 : Nat) (z0 : List Int) (w : World) (w0 : IsRow .u8 w a0 len0 cap0 z0) :
    Calls Tryz.prog 4 #[.slice a0 len0 cap0] w fun e w' => e = .returned (.bool true) ∧ Below w.heap.size w w' := by
  have hcm := w0.len
  by_cases h : (1048576 : Int) < (len0 : Int)
  · go_enter Tryz.func4, Tryz.ntmps4
    go_wp2
    go_ret
    exact ⟨rfl, Below.refl _ _⟩
  go_enter Tryz.func4, Tryz.ntmps4
  go_wp2_with fail
  refine (drawTxRead_any a0 len0 cap0 z0 _ w0 (by omega)).mono ?_
  rintro e w1 ⟨s, rfl, hs, hb1⟩
  clear w0 h hcm
  obtain ⟨U, hU⟩ : ∃ x, Tr.getO (Tr.read s) = x := ⟨_, rfl⟩
  obtain ⟨IS, hIS⟩ : ∃ x, (Tr.read s).isSome = x := ⟨_, rfl⟩
  obtain ⟨N, hN⟩ : ∃ x, U.ins.length = x := ⟨_, rfl⟩
  obtain ⟨M, hM⟩ : ∃ x, U.outs.length = x := ⟨_, rfl⟩
  obtain ⟨AG, hAG⟩ : ∃ x, U.after = x := ⟨_, rfl⟩
  obtain ⟨NU, hNU⟩ : ∃ x, U.note = x := ⟨_, rfl⟩
  have HUS : Hid U.small := Lib.hid (by rw [← hU]; exact (Tr.getO_fitV (Tr.read_okV s)).small)
  have H1 : Hid (∀ W, Calls Tryz.prog 8 #[.string s] W fun e w' => ∃ Xa Xc Xb Xd, e = .returned (.tuple #[.agg #[.slice Xa N Xc, .slice Xb M Xd, .int .i64 AG, .string NU], .bool IS]) ∧ Hid (TrR W.heap.size w' Xa N Xb M U) ∧ Hid (N ≤ Xc) ∧ Below W.heap.size W w') := Lib.hid fun W =>
    (implTxRead_any s W).mono fun e w' q => q.ans.trN hU hN hM hAG hNU hIS
  have H2 : Hid (∀ W, Calls Tryz.prog 11 #[.string s] W fun e w' => ∃ Xa Xc Xb Xd, e = .returned (.tuple #[.agg #[.slice Xa N Xc, .slice Xb M Xd, .int .i64 AG, .string NU], .bool IS]) ∧ Hid (TrR W.heap.size w' Xa N Xb M U) ∧ Hid (N ≤ Xc) ∧ Below W.heap.size W w') := Lib.hid fun W =>
    (TxRead_over tx_any s W).mono fun e w' q => q.ans.trN hU hN hM hAG hNU hIS
  have HQ := Lib.hid (fun lo lo' a c b d a' c' b' d' W (h1 : TrR lo W a N b M U) (h2 : TrR lo' W a' N b' M U) => wcTx_any lo lo' a N c b M d a' c' b' d' U W h1 h2 HUS.out)
  have HB : Hid (IS = true → ∀ lo a c b d W, TrR lo W a N b M U → N ≤ c → Calls Tryz.prog 6 #[.agg #[.slice a N c, .slice b M d, .int .i64 AG, .string NU]] W fun e w' => e = .returned (.tuple #[.string s, .bool true]) ∧ Below W.heap.size W w') := Lib.hid fun hi lo a c b d W h hc => by
    have hr : Tr.read s = some U := by
      rw [← hU]
      rw [← hIS] at hi
      cases hrr : Tr.read s with
      | none => rw [hrr] at hi; cases hi
      | some u => rfl
    obtain ⟨h1, h2⟩ := Tr.enc_read hr
    have hq := implTxBytes_any lo a N c b M d U W h hc HUS.out
    rw [hAG, hNU, h2, if_pos rfl, h1] at hq
    exact hq
  simp only [hAG, hNU] at HQ
  clear hU hIS hN hM hAG hNU HUS hs
  have hcs := H1.out w1
  go_wp2_with fail
  refine hcs.mono ?_
  rintro e w2 ⟨Aa, Ac, Ab, Ad, rfl, HT2, HC2, hx⟩
  have hB2 := (hb1.trans (hx.mono hb1.size)).alloc (Nat.le_trans hb1.size hx.size) (.cells #[.slice Aa N Ac, .slice Ab M Ad, .int .i64 AG, .string NU] 26 (0, 0))
  have v2 : Bk w2.heap.size 26 #[.slice Aa N Ac, .slice Ab M Ad, .int .i64 AG, .string NU] (w2.alloc (.cells #[.slice Aa N Ac, .slice Ab M Ad, .int .i64 AG, .string NU] 26 (0, 0))) := Bk.new _ _ _
  have HP2 := Lib.hid (HT2.out.alloc (.cells #[.slice Aa N Ac, .slice Ab M Ad, .int .i64 AG, .string NU] 26 (0, 0)))
  have hcs := H2.out (w2.alloc (.cells #[.slice Aa N Ac, .slice Ab M Ad, .int .i64 AG, .string NU] 26 (0, 0)))
  clear hx hb1 HT2
  go_wp2_with fail
  refine hcs.mono ?_
  rintro e w3 ⟨Ba, Bc, Bb, Bd, rfl, HT3, _, hx⟩
  have hB3 := (hB2.trans (hx.mono hB2.size)).alloc (Nat.le_trans hB2.size hx.size) (.cells #[.slice Ba N Bc, .slice Bb M Bd, .int .i64 AG, .string NU] 26 (0, 0))
  have v3 := (v2.below hx).alloc (.cells #[.slice Ba N Bc, .slice Bb M Bd, .int .i64 AG, .string NU] 26 (0, 0))
  have u3 : Bk w3.heap.size 26 #[.slice Ba N Bc, .slice Bb M Bd, .int .i64 AG, .string NU] (w3.alloc (.cells #[.slice Ba N Bc, .slice Bb M Bd, .int .i64 AG, .string NU] 26 (0, 0))) := Bk.new _ _ _
  have HP3 := Lib.hid ((HP2.out.below hx).alloc (.cells #[.slice Ba N Bc, .slice Bb M Bd, .int .i64 AG, .string NU] 26 (0, 0)))
  have hcs := HQ.out _ _ Aa Ac Ab Ad Ba Bc Bb Bd _ HP3.out (HT3.out.alloc (.cells #[.slice Ba N Bc, .slice Bb M Bd, .int .i64 AG, .string NU] 26 (0, 0)))
  clear hx hB2 v2 HP2 HT3 H1 H2
  obtain ⟨c0, c1, c2, c3⟩ := Bk.c4 v3
  obtain ⟨d0, d1, d2, d3⟩ := Bk.c4 u3
  go_wp2_with fail
  refine hcs.mono ?_
  rintro e w4 ⟨rfl, hx⟩
  have hB4 := hB3.trans (hx.mono hB3.size)
  have v4 := v3.below hx
  have HP4 := Lib.hid (HP3.out.below hx)
  clear hx hB3 v3 u3 c0 c1 c2 c3 d0 d1 d2 d3 HP3 HQ hcs
  cases IS
  · go_wp2
    go_ret
    exact ⟨rfl, hB4⟩
  have hcs := HB.out (by first | trivial | rfl) _ Aa Ac Ab Ad w4 HP4.out HC2.out
  obtain ⟨c0, c1, c2, c3⟩ := Bk.c4 v4
  have hss : (s.toList == s.toList) = true := by simp
  clear HB v4 HP4 HC2
  go_wp2_with fail
  refine hcs.mono ?_
  rintro e w5 ⟨rfl, hx⟩
  have hB5 := hB4.trans (hx.mono hB4.size)
  clear hx hB4 hcs c0 c1 c2 c3
  go_wp2
  go_ret
  exact ⟨rfl, hB5⟩
/-! ### The row's step. -/
theorem own : ownKnob Tryz.prog.godebug = none := by kernel_rfl
theorem laidOut : laidOutB Tryz.prog = true := by kernel_rfl
set_option maxRecDepth 100000 in
theorem lifted (os : Os) (started : os.Started) (H : Type) (enc : TypeId × Value → H) :
    ReturnsInHanded {} Tryz.checked os 4 .any (Rows.fnTxReadSpec.pre6 enc Tryz.prog Tryz.f4 Rows.fnTxReadRow.domain false) (Rows.fnTxReadSpec.post enc Tryz.prog Tryz.f4 false true false false) := by
  refine returnsInHanded_of_change (C := Tryz.checked) own started (by kernel_rfl) Tryz.func4
    (ChangeSpec.witness6 (enc := enc) (C := Tryz.checked) false ⟨#[], #[.slice none 0 0], []⟩ 8 (by kernel_rfl) (by kernel_rfl) (by kernel_rfl) (by kernel_rfl)) ?_
  intro W base args ds gs before hval0 hW hcnd _
  have hval : ∀ (j : Nat) t v, Tryz.f4.params[j]? = some t → args[j]? = some v → Value.okWide Tryz.prog W .any base t v := hval0
  have hW' := hW
  obtain ⟨p, q, hA0, hV, rfl, hfz, hnd⟩ := hW
  have hA : DataW.TrodAll enc Tryz.prog W 0 (fun _ => true) true Tryz.f4.params.toList args.toList ds p := hA0
  rw [Tryz.params4] at hA hval
  obtain ⟨v0, vs0, d0, ds0, p0, q0, hargs, rfl, rfl, h0, r0⟩ := trodAll_cons hA
  obtain ⟨rfl, rfl, rfl⟩ := trodAll_nil r0
  obtain rfl : args = #[v0] := by cases args; simp_all
  obtain ⟨rfl, rfl⟩ := trodVars_none hV
  obtain ⟨a0, len0, cap0, rfl⟩ := okWide_slice Tryz.underlying22 (hval 0 22 v0 rfl rfl)
  have k0 := h0
  have lt0 : ∀ x ∈ p0, x.block < W.heap.size := by obtain ⟨m, hm⟩ := k0; exact DataW.trod_lt m _ _ _ hm
  obtain ⟨z0, w0⟩ : ∃ zs, IsRow .u8 W a0 len0 cap0 zs := by
    obtain ⟨fuel, hf⟩ := h0
    rcases open_ints Tryz.underlying22 Tryz.underlying5 (by kernel_rfl) hf with ⟨hcs, _⟩ | ⟨x, l, c, zs, hcs, _, hl, hm, hz, _, hcell, hwz⟩
    · simp [Value.cells] at hcs
      obtain ⟨rfl, rfl, rfl⟩ := hcs
      exact ⟨[], .inl ⟨rfl, rfl, rfl, rfl⟩⟩
    · simp [Value.cells] at hcs
      obtain ⟨rfl, rfl, rfl⟩ := hcs
      exact ⟨zs, .inr ⟨_, rfl, hl, hm, by simpa using hz, hcell, hwz⟩⟩
  clear hA0 hval0
  refine (walk a0 len0 cap0 z0 W w0).mono fun e W' ⟨he, bel⟩ => ?_
  subst he
  exact ⟨_, rfl, _, _, _, [], _, [], hW', trodAll_mk1 (shut_bool Tryz.underlying4 _), (trodAll_cons_mk (Below.trod laidOut (by kernel_rfl) (of_decide_eq_true (by kernel_rfl)) k0 bel lt0) trodAll_mk0), rfl, bel.frame _, fun h => by cases h⟩
theorem over : Rows.fnTxReadRow.holds Tryz.pinned (OpenSpec.ofChange Rows.fnTxReadSpec) :=
  OpenClaim.holds_of_wide 4 Tryz.f4 rfl rfl rfl rfl rfl rfl rfl ⟨rfl, rfl, rfl, rfl, rfl⟩ rfl rfl rfl rfl rfl (by kernel_rfl) Tryz.func4 (by kernel_rfl)
    (of_decide_eq_true (by kernel_rfl)) (by unfold Func.isWrapper; first | (rw [if_pos (by decide +kernel)]; kernel_rfl) | (rw [if_neg (by decide +kernel)]; exact ⟨rfl, rfl⟩))
    (fun os started H enc _ => lifted os started H enc)
theorem proved : Rows.FnTxReadSaid := over
#print axioms proved
end Go.Proofs.YtcbpdibkindnfaaGreat.fnTxRead
