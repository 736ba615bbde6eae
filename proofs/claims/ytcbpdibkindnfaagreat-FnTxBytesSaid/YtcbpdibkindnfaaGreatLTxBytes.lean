/- For every code of at most 1<<20 bytes (longer ones are let pass by the law itself): TxBytes answers as the model's TxBytes; what it wrote is read as the same transaction. -/
import Derived.Test.YtcbpdibkindnfaaGreatRows
import Derived.Test.YtcbpdibkindnfaaGreatUz
import Derived.Test.YtcbpdibkindnfaaGreatVa
import Derived.Test.YtcbpdibkindnfaaGreatTu
import Derived.Test.YtcbpdibkindnfaaGreatUq
import Derived.WalkKit
import Derived.WalkSpells
import Derived.ProofKit
import Derived.OpenShut
import Derived.ShutString
import Derived.Below
import Derived.SliceStrings
namespace Go.Proofs.YtcbpdibkindnfaaGreat.fnTxBytes
open Go.ChangeShapes Go.WideShapes Go.ChangeAt Go.RowKit
open Go.ChangeMaps (open_string shut_string)
set_option maxRecDepth 100000 in
set_option maxHeartbeats 6400000 in
theorem walk (a0 : Option Addr) (len0 cap0 : Nat) (z0 : List Int) (w : World) (w0 : IsRow .u8 w a0 len0 cap0 z0) :
    Calls Tryz.prog 3 #[.slice a0 len0 cap0] w fun e w' => e = .returned (.bool true) ∧ Below w.heap.size w w' := by
  have hcm := w0.len
  by_cases h : (1048576 : Int) < (len0 : Int)
  · go_enter Tryz.func3, Tryz.ntmps3
    go_wp2
    go_ret
    exact ⟨rfl, Below.refl _ _⟩
  go_enter Tryz.func3, Tryz.ntmps3
  go_wp2_with fail
  refine (drawTxBytes_any a0 len0 cap0 z0 _ w0 (by omega)).mono ?_
  rintro e w1 ⟨a, n, c, b, m, d, t, rfl, HT, HC, HS, hb1⟩
  clear w0 h hcm
  obtain ⟨AF, hAF⟩ : ∃ x, Hid (t.after = x) := ⟨_, Lib.hid rfl⟩
  obtain ⟨NT, hNT⟩ : ∃ x, Hid (t.note = x) := ⟨_, Lib.hid rfl⟩
  have HN := Lib.hid HT.out.ins.1
  have HM := Lib.hid HT.out.outs.1
  obtain ⟨X, hX⟩ : ∃ x, (if t.ok = true then Tr.enc true t else ⟨#[]⟩) = x := ⟨_, rfl⟩
  have HR : Hid (t.ok = true → ∀ W, Calls Tryz.prog 8 #[.string X] W fun e w' => ∃ a' c' b' d', e = .returned (.tuple #[.agg #[.slice a' n c', .slice b' m d', .int .i64 AF, .string NT], .bool true]) ∧ Hid (TrR W.heap.size w' a' n b' m t) ∧ Hid (n ≤ c') ∧ Below W.heap.size W w') := Lib.hid fun hk W => by
    have hr : Tr.read X = some t := by rw [← hX, if_pos hk]; exact Tr.read_enc hk
    exact (implTxRead_any X W).mono fun e w' q => q.ans.trN (by rw [hr]; rfl) HN.out HM.out hAF.out hNT.out (by rw [hr]; rfl)
  obtain ⟨ok, hok⟩ : ∃ x, t.ok = x := ⟨_, rfl⟩
  have H1 := Lib.hid (fun W h => implTxBytes_any w.heap.size a n c b m d t W h HC.out HS.out)
  have H2 := Lib.hid (fun W h => TxBytes_any w.heap.size a n c b m d t W h HS.out)
  have HQ := Lib.hid (fun lo' a' c' b' d' W (h1 : TrR lo' W a' n b' m t) h2 => wcTx_any lo' w.heap.size a' n c' b' m d' a c b d t W h1 h2 HS.out)
  simp only [hX] at H1 H2
  simp only [hok] at H1 H2 HR
  simp only [hAF.out, hNT.out] at H1 H2 HQ
  rw [hAF.out, hNT.out]
  clear hAF hNT hX hok HN HM HS HC
  have hB1 := hb1.alloc hb1.size (.cells #[.slice a n c, .slice b m d, .int .i64 AF, .string NT] 26 (0, 0))
  have v1 : Bk w1.heap.size 26 #[.slice a n c, .slice b m d, .int .i64 AF, .string NT] (w1.alloc (.cells #[.slice a n c, .slice b m d, .int .i64 AF, .string NT] 26 (0, 0))) := Bk.new _ _ _
  have HT1 := Lib.hid (HT.out.alloc (.cells #[.slice a n c, .slice b m d, .int .i64 AF, .string NT] 26 (0, 0)))
  have hcs := H1.out _ HT1.out
  obtain ⟨c0, c1, c2, c3⟩ := Bk.c4 v1
  clear HT hb1
  go_wp2_with fail
  refine hcs.mono ?_
  rintro e w2 ⟨rfl, hx⟩
  have hB2 := hB1.trans (hx.mono hB1.size)
  have v2 := v1.below hx
  have HT2 := Lib.hid (HT1.out.below hx)
  have hcs := H2.out _ HT2.out
  clear c0 c1 c2 c3 hx hB1 v1 HT1
  obtain ⟨c0, c1, c2, c3⟩ := Bk.c4 v2
  go_wp2_with fail
  refine hcs.mono ?_
  rintro e w3 ⟨rfl, hx⟩
  have hB3 := hB2.trans (hx.mono hB2.size)
  have v3 := v2.below hx
  have HT3 := Lib.hid (HT2.out.below hx)
  clear c0 c1 c2 c3 hx hB2 v2 HT2 hcs
  cases ok
  · go_wp2
    go_ret
    exact ⟨rfl, hB3⟩
  have hcs := HR.out (by first | trivial | rfl) w3
  go_wp2_with fail
  refine hcs.mono ?_
  rintro e w4 ⟨a4, c4, b4, d4, rfl, HT4, _, hx⟩
  have hB4 := (hB3.trans (hx.mono hB3.size)).alloc (Nat.le_trans hB3.size hx.size) (.cells #[.slice a4 n c4, .slice b4 m d4, .int .i64 AF, .string NT] 26 (0, 0))
  have v4 := (v3.below hx).alloc (.cells #[.slice a4 n c4, .slice b4 m d4, .int .i64 AF, .string NT] 26 (0, 0))
  have u4 : Bk w4.heap.size 26 #[.slice a4 n c4, .slice b4 m d4, .int .i64 AF, .string NT] (w4.alloc (.cells #[.slice a4 n c4, .slice b4 m d4, .int .i64 AF, .string NT] 26 (0, 0))) := Bk.new _ _ _
  have hcs := HQ.out _ a4 c4 b4 d4 _ (HT4.out.alloc (.cells #[.slice a4 n c4, .slice b4 m d4, .int .i64 AF, .string NT] 26 (0, 0))) ((HT3.out.below hx).alloc (.cells #[.slice a4 n c4, .slice b4 m d4, .int .i64 AF, .string NT] 26 (0, 0)))
  clear hx hB3 v3 HT3 HT4 HR H1 H2
  obtain ⟨c0, c1, c2, c3⟩ := Bk.c4 v4
  obtain ⟨d0, d1, d2, d3⟩ := Bk.c4 u4
  go_wp2_with fail
  refine hcs.mono ?_
  rintro e w5 ⟨rfl, hx⟩
  have hB5 := hB4.trans (hx.mono hB4.size)
  clear hx hcs hB4 v4 u4 c0 c1 c2 c3 d0 d1 d2 d3 HQ
  go_wp2
  go_ret
  exact ⟨rfl, hB5⟩
/-! ### The row's step. -/
theorem own : ownKnob Tryz.prog.godebug = none := by kernel_rfl
theorem laidOut : laidOutB Tryz.prog = true := by kernel_rfl
set_option maxRecDepth 100000 in
theorem lifted (os : Os) (started : os.Started) (H : Type) (enc : TypeId × Value → H) :
    ReturnsInHanded {} Tryz.checked os 3 .any (Rows.fnTxBytesSpec.pre6 enc Tryz.prog Tryz.f3 Rows.fnTxBytesRow.domain false) (Rows.fnTxBytesSpec.post enc Tryz.prog Tryz.f3 false true false false) := by
  refine returnsInHanded_of_change (C := Tryz.checked) own started (by kernel_rfl) Tryz.func3
    (ChangeSpec.witness6 (enc := enc) (C := Tryz.checked) false ⟨#[], #[.slice none 0 0], []⟩ 8 (by kernel_rfl) (by kernel_rfl) (by kernel_rfl) (by kernel_rfl)) ?_
  intro W base args ds gs before hval0 hW hcnd _
  have hval : ∀ (j : Nat) t v, Tryz.f3.params[j]? = some t → args[j]? = some v → Value.okWide Tryz.prog W .any base t v := hval0
  have hW' := hW
  obtain ⟨p, q, hA0, hV, rfl, hfz, hnd⟩ := hW
  have hA : DataW.TrodAll enc Tryz.prog W 0 (fun _ => true) true Tryz.f3.params.toList args.toList ds p := hA0
  rw [Tryz.params3] at hA hval
  obtain ⟨v0, vs0, d0, ds0, p0, q0, hargs, rfl, rfl, h0, r0⟩ := trodAll_cons hA
  obtain ⟨rfl, rfl, rfl⟩ := trodAll_nil r0
  obtain rfl : args = #[v0] := by cases args; simp_all
  obtain ⟨rfl, rfl⟩ := trodVars_none hV
  obtain ⟨a0, len0, cap0, rfl⟩ := okWide_slice Tryz.underlying22 (hval 0 22 v0 rfl rfl)
  have k0 := h0
  have lt0 : ∀ x ∈ p0, x.block < W.heap.size := by obtain ⟨m, hm⟩ := k0; exact DataW.trod_lt m _ _ _ hm
  obtain ⟨z0, w0⟩ : ∃ zs, IsRow .u8 W a0 len0 cap0 zs := by
    obtain ⟨fuel, hf⟩ := h0
    rcases open_ints Tryz.underlying22 Tryz.underlying5 (by kernel_rfl) hf with ⟨hcs, _⟩ | ⟨x, l, c, zs, hcs, _, hl, hm, hz, _, hcell, hwz⟩
    · simp [Value.cells] at hcs
      obtain ⟨rfl, rfl, rfl⟩ := hcs
      exact ⟨[], .inl ⟨rfl, rfl, rfl, rfl⟩⟩
    · simp [Value.cells] at hcs
      obtain ⟨rfl, rfl, rfl⟩ := hcs
      exact ⟨zs, .inr ⟨_, rfl, hl, hm, by simpa using hz, hcell, hwz⟩⟩
  clear hA0 hval0
  refine (walk a0 len0 cap0 z0 W w0).mono fun e W' ⟨he, bel⟩ => ?_
  subst he
  exact ⟨_, rfl, _, _, _, [], _, [], hW', trodAll_mk1 (shut_bool Tryz.underlying4 _), (trodAll_cons_mk (Below.trod laidOut (by kernel_rfl) (of_decide_eq_true (by kernel_rfl)) k0 bel lt0) trodAll_mk0), rfl, bel.frame _, fun h => by cases h⟩
theorem over : Rows.fnTxBytesRow.holds Tryz.pinned (OpenSpec.ofChange Rows.fnTxBytesSpec) :=
  OpenClaim.holds_of_wide 3 Tryz.f3 rfl rfl rfl rfl rfl rfl rfl ⟨rfl, rfl, rfl, rfl, rfl⟩ rfl rfl rfl rfl rfl (by kernel_rfl) Tryz.func3 (by kernel_rfl)
    (of_decide_eq_true (by kernel_rfl)) (by unfold Func.isWrapper; first | (rw [if_pos (by decide +kernel)]; kernel_rfl) | (rw [if_neg (by decide +kernel)]; exact ⟨rfl, rfl⟩))
    (fun os started H enc _ => lifted os started H enc)
theorem proved : Rows.FnTxBytesSaid := over
#print axioms proved
end Go.Proofs.YtcbpdibkindnfaaGreat.fnTxBytes
