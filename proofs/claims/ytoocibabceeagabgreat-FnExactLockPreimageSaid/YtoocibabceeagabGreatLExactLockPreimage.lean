/- For every lock of at most 1<<20 bytes and every list of strings and surroundings of at most 1<<20 in all as the law counts them (others are let pass by the law itself), LockPreimage of the program answers as the model's LockPreimage, and leaves the list as it was. -/
import Derived.Test.YtoocibabceeagabGreatRows
import Derived.Test.YtoocibabceeagabGreatWs
import Derived.Test.YtoocibabceeagabGreatUi
import Derived.WalkKit
import Derived.WalkSpells
import Derived.ProofKit
import Derived.OpenShut
import Derived.ShutString
import Derived.Below
import Derived.SliceStrings
namespace Go.Proofs.YtoocibabceeagabGreat.fnExactLockPreimage
open Go.ChangeShapes Go.WideShapes Go.ChangeAt Go.RowKit
open Go.ChangeMaps (open_string shut_string)
set_option maxRecDepth 100000 in
set_option maxHeartbeats 6400000 in
theorem walk (s0 : ByteArray) (_ : s0.size ≤ maxLen) (a1 : Option Addr) (len1 cap1 : Nat) (z1 : List ByteArray) (T : ByteArray) (hE aE : Int) (wT : T.size ≤ maxLen) (_ : (Lit.int .i64 hE).wf = true) (_ : (Lit.int .i64 aE).wf = true) (w : World) (w1 : IsStrs w a1 len1 cap1 z1) :
    Calls Tryz.prog 10 #[.string s0, .slice a1 len1 cap1, .agg #[.string T, .int .i64 hE, .int .i64 aE]] w fun e w' => e = .returned (.bool true) ∧ Below w.heap.size w w' := by
  have hwT : T.size ≤ 9223372036854775807 := by unfold maxLen at wT; exact wT
  obtain ⟨hm0, hm1, hm2⟩ := w1.len
  have HT := Lib.hid (w1.sr.alloc (.cells #[.string T, .int .i64 hE, .int .i64 aE] 61 (0, 0)))
  have HZ := Lib.hid w1.sizes
  have HA : Hid (Bk w.heap.size 61 #[.string T, .int .i64 hE, .int .i64 aE] (w.alloc (.cells #[.string T, .int .i64 hE, .int .i64 aE] 61 (0, 0)))) := Lib.hid (Bk.new _ _ _)
  have hbA : Below w.heap.size w (w.alloc (.cells #[.string T, .int .i64 hE, .int .i64 aE] 61 (0, 0))) := below_alloc (Below.refl _ _) _
  have hb0 := Below.refl (w.alloc (.cells #[.string T, .int .i64 hE, .int .i64 aE] 61 (0, 0))).heap.size (w.alloc (.cells #[.string T, .int .i64 hE, .int .i64 aE] 61 (0, 0)))
  clear w1 wT
  generalize z1.take len1 = ss at HT HZ
  by_cases hbig : (1048576 : Int) < (s0.size : Int)
  · go_enter Tryz.func10, Tryz.ntmps10
    go_wp2
    go_ret
    exact ⟨rfl, hbA⟩
  go_enter Tryz.func10, Tryz.ntmps10
  have hSof : ∀ W, Bk w.heap.size 61 #[.string T, .int .i64 hE, .int .i64 aE] W → W.cell? ⟨w.heap.size, 0, none⟩ = some (.string T) ∧ W.cell? ⟨w.heap.size, 1, none⟩ = some (.int .i64 hE) ∧ W.cell? ⟨w.heap.size, 2, none⟩ = some (.int .i64 aE) := fun W h => ⟨h.cell 0, h.cell 1, h.cell 2⟩
  go_wp2_with fail
  refine (szStringS_top a1 len1 cap1 ss 1048576 _ HT.out (by omega) (by omega) (by omega) HZ.out).mono ?_
  rintro e W1 ⟨u, rfl, hv, hx⟩
  have hb1 := hb0.trans (hx.mono hb0.size)
  clear hx
  by_cases hneg2 : u < 0
  · clear hv
    go_wp2
    go_ret
    exact ⟨rfl, hbA.trans (hb1.mono hbA.size)⟩
  obtain ⟨hu0, hu1, hst0, _⟩ := hv.resolve_left hneg2
  have hst : len1 ≤ 1048576 := by omega
  have hu2 : u ≤ 1048576 := by omega
  have hlk : s0.size ≤ 1048576 := by omega
  clear hv hst0 hu1 hbig
  obtain ⟨c0, c1, c2⟩ := Bk.c3w (HA.out.below hb1)
  go_wp2_with fail
  refine (szEnv_any T hE aE u _ hu0 hu2 hwT).mono ?_
  rintro e W2 ⟨t, rfl, hv, hx⟩
  have hb2 := hb1.trans (hx.mono hb1.size)
  clear hb1
  clear hx
  clear c0 c1 c2
  by_cases hneg3 : t < 0
  · clear hv
    go_wp2
    go_ret
    exact ⟨rfl, hbA.trans (hb2.mono hbA.size)⟩
  have hTs : T.size ≤ 1048576 := by have := (hv.resolve_left hneg3).2; omega
  clear hv
  obtain ⟨ok, HL⟩ : ∃ L, Hid (Lk.seen ⟨T, hE, aE⟩ s0 ss = L) := ⟨_, Lib.hid rfl⟩
  obtain ⟨X, HXX⟩ : ∃ L, Hid (Lk.shown ⟨T, hE, aE⟩ s0 ss = L) := ⟨_, Lib.hid rfl⟩
  have hqX : (X.toList == X.toList) = true := by simp
  have HSP : Hid (∀ W b1, SR W (some ⟨b1, 0, none⟩) len1 ss → Calls Tryz.prog 38 #[.string s0, .slice (some ⟨b1, 0, none⟩) len1 len1, .agg #[.string T, .int .i64 hE, .int .i64 aE]] W (fun e W' => e = .returned (.tuple #[.string X, .bool ok]) ∧ Below W.heap.size W W')) := Lib.hid fun W b1 h1 => by
    have := specLockPreimage_any s0 (some ⟨b1, 0, none⟩) len1 len1 ss ⟨T, hE, aE⟩ W hlk h1 (by omega) HZ.out hTs
    unfold PreQ at this
    rw [HL.out, HXX.out] at this
    exact this
  have HIP : Hid (∀ W b1, SR W (some ⟨b1, 0, none⟩) len1 ss → Calls Tryz.prog 29 #[.string s0, .slice (some ⟨b1, 0, none⟩) len1 len1, .agg #[.string T, .int .i64 hE, .int .i64 aE]] W (fun e W' => e = .returned (.tuple #[.string X, .bool ok]) ∧ Below W.heap.size W W')) := Lib.hid fun W b1 h1 => by
    have := implLockPreimage_any s0 (some ⟨b1, 0, none⟩) len1 len1 ss ⟨T, hE, aE⟩ W hlk h1 (by omega) HZ.out (fun h => by cases h) hTs
    unfold PreQ at this
    rw [HL.out, HXX.out] at this
    exact this
  clear HXX
  clear HL HZ hneg2 hu0 hu2 hTs hwT hm0 hm1 hm2 hlk
  go_wp2_with fail
  clear hneg3
  have hd := (Below.refl W2.heap.size W2).drew
  have hbd := hb2.drew
  have hS2 := hSof _ (HA.out.below hbd)
  clear hd
  go_wp2_with fail
  go_region_held3 (fun W => W.cell? ⟨w.heap.size, 0, none⟩ = some (.string T) ∧ W.cell? ⟨w.heap.size, 1, none⟩ = some (.int .i64 hE) ∧ W.cell? ⟨w.heap.size, 2, none⟩ = some (.int .i64 aE)) (first | with_reducible exact hS2 | with_reducible exact hS3 | with_reducible exact hS4 | with_reducible exact hS5)
    (first
        | (go_at_call 47; refine (toStringS_any a1 len1 cap1 ss _ (HT.out.below hbd) hst).mono ?_; rintro e W3 ⟨d8, rfl, _, hs, hx⟩; have hb3 := hbd.trans (hx.mono hbd.size); have hS3 := hSof _ (HA.out.below hb3); have HT8 := Lib.hid hs; clear hs; clear hx)
        | (go_at_call 48; refine (toEnv_any T hE aE _).mono ?_; rintro e W4 ⟨rfl, hx⟩; replace HT8 := Lib.hid (HT8.out.below hx); have hb4 := hb3.trans (hx.mono hb3.size); have hS4 := hSof _ (HA.out.below hb4); clear hx)
        | (go_at_call 38; refine (HSP.out _ _ HT8.out).mono ?_; rintro e W5 ⟨rfl, hx⟩; replace HT8 := Lib.hid (HT8.out.below hx); have hb5 := hb4.trans (hx.mono hb4.size); have hS5 := hSof _ (HA.out.below hb5); clear hx))
  clear hbd hb2 hS2 hS3 hS4 hS5 hb3 hb4
  clear HT8
  go_wp2_with fail
  refine (toStringS_any a1 len1 cap1 ss _ (HT.out.below hb5) hst).mono ?_
  rintro e W6 ⟨b11, rfl, _, hs, hx⟩
  have hb6 := hb5.trans (hx.mono hb5.size)
  have HT11 := Lib.hid hs
  clear hs
  clear hb5
  clear hx
  obtain ⟨c0, c1, c2⟩ := Bk.c3w (HA.out.below hb6)
  go_wp2_with fail
  refine (toEnv_any T hE aE _).mono ?_
  rintro e W7 ⟨rfl, hx⟩
  replace HT11 := Lib.hid (HT11.out.below hx)
  have hb7 := hb6.trans (hx.mono hb6.size)
  have ze := hx.size
  clear hb6
  clear hx
  clear c0 c1 c2
  go_wp2_with fail
  refine (HIP.out _ _ HT11.out).mono ?_
  rintro e W8 ⟨rfl, hx⟩
  replace HT11 := Lib.hid (HT11.out.below hx)
  have hb8 := hb7.trans (hx.mono hb7.size)
  clear hb7
  clear hx
  cases ok
  all_goals
    go_wp2_with fail
    refine (toStringS_any a1 len1 cap1 ss _ (HT.out.below hb8) hst).mono ?_
    rintro e W9 ⟨b21, rfl, _, hs, hx⟩
    replace HT11 := Lib.hid (HT11.out.below hx)
    have hb9 := hb8.trans (hx.mono hb8.size)
    have HT21 := Lib.hid hs
    clear hs
    clear hb8
    clear hx
    go_wp2_with fail
    refine (eqStringS_any (some ⟨b11, 0, none⟩) (some ⟨b21, 0, none⟩) len1 len1 len1 ss _ HT11.out HT21.out (by omega)).mono ?_
    rintro e W10 ⟨rfl, hx⟩
    replace HT11 := Lib.hid (HT11.out.below hx)
    replace HT21 := Lib.hid (HT21.out.below hx)
    have hb10 := hb9.trans (hx.mono hb9.size)
    clear hb9
    clear hx
    go_wp2
    go_ret
    exact ⟨rfl, hbA.trans (hb10.mono hbA.size)⟩
/-! ### The row's step. -/
theorem own : ownKnob Tryz.prog.godebug = none := by kernel_rfl
theorem laidOut : laidOutB Tryz.prog = true := by kernel_rfl
set_option maxRecDepth 100000 in
theorem lifted (os : Os) (started : os.Started) (H : Type) (enc : TypeId × Value → H) :
    ReturnsInHanded {} Tryz.checked os 10 .any (Rows.fnExactLockPreimageSpec.pre6 enc Tryz.prog Tryz.f10 Rows.fnExactLockPreimageRow.domain false) (Rows.fnExactLockPreimageSpec.post enc Tryz.prog Tryz.f10 false true false false) := by
  refine returnsInHanded_of_change (C := Tryz.checked) own started (by kernel_rfl) Tryz.func10
    (ChangeSpec.witness6 (enc := enc) (C := Tryz.checked) false ⟨#[], #[.string ByteArray.empty, .slice none 0 0, .agg #[.string ByteArray.empty, .int .i64 0, .int .i64 0]], []⟩ 8 (by kernel_rfl) (by kernel_rfl) (by kernel_rfl) (by kernel_rfl)) ?_
  intro W base args ds gs before hval0 hW hcnd _
  have hval : ∀ (j : Nat) t v, Tryz.f10.params[j]? = some t → args[j]? = some v → Value.okWide Tryz.prog W .any base t v := hval0
  have hW' := hW
  obtain ⟨p, q, hA0, hV, rfl, hfz, hnd⟩ := hW
  have hA : DataW.TrodAll enc Tryz.prog W 0 (fun _ => true) true Tryz.f10.params.toList args.toList ds p := hA0
  rw [Tryz.params10] at hA hval
  obtain ⟨v0, vs0, d0, ds0, p0, q0, hargs, rfl, rfl, h0, r0⟩ := trodAll_cons hA
  obtain ⟨v1, vs1, d1, ds1, p1, q1, rfl, rfl, rfl, h1, r1⟩ := trodAll_cons r0
  obtain ⟨v2, vs2, d2, ds2, p2, q2, rfl, rfl, rfl, h2, r2⟩ := trodAll_cons r1
  obtain ⟨rfl, rfl, rfl⟩ := trodAll_nil r2
  obtain rfl : args = #[v0, v1, v2] := by cases args; simp_all
  obtain ⟨rfl, rfl⟩ := trodVars_none hV
  obtain ⟨a0, rfl, rfl, rfl, w0⟩ := open_string Tryz.underlying9 (hval 0 9 v0 rfl rfl) h0
  obtain ⟨a1, len1, cap1, rfl⟩ := okWide_slice Tryz.underlying25 (hval 1 25 v1 rfl rfl)
  have k1 := h1
  have lt1 : ∀ x ∈ p1, x.block < W.heap.size := by obtain ⟨m, hm⟩ := k1; exact DataW.trod_lt m _ _ _ hm
  obtain ⟨z1, w1⟩ : ∃ zs, IsStrs W a1 len1 cap1 zs := by
    obtain ⟨fuel, hf⟩ := h1
    rcases open_strings Tryz.underlying25 Tryz.underlying9 (by kernel_rfl) hf with ⟨hcs, _⟩ | ⟨x, l, c, zs, hcs, _, hl, hm, hz, _, hcell, hwz⟩
    · simp [Value.cells] at hcs
      obtain ⟨rfl, rfl, rfl⟩ := hcs
      exact ⟨[], .inl ⟨rfl, rfl, rfl, rfl⟩⟩
    · simp [Value.cells] at hcs
      obtain ⟨rfl, rfl, rfl⟩ := hcs
      exact ⟨zs, .inr ⟨_, rfl, hl, hm, by simpa using hz, hcell, hwz⟩⟩
  obtain ⟨eT2, eH2, eA2, rfl, rfl, rfl, wt2, wh2, wa2⟩ := open_env (hval 2 61 v2 rfl rfl) h2
  clear hA0 hval0
  refine (walk a0 w0 a1 len1 cap1 z1 eT2 eH2 eA2 wt2 wh2 wa2 W w1).mono fun e W' ⟨he, bel⟩ => ?_
  subst he
  exact ⟨_, rfl, _, _, _, [], _, [], hW', trodAll_mk1 (shut_bool Tryz.underlying4 _), (trodAll_cons_mk (shut_string Tryz.underlying9 w0) (trodAll_cons_mk (Below.trod laidOut (by kernel_rfl) (of_decide_eq_true (by kernel_rfl)) k1 bel lt1) (trodAll_cons_mk (shut_env _ _ _ wt2 wh2 wa2) trodAll_mk0))), rfl, bel.frame _, fun h => by cases h⟩
theorem over : Rows.fnExactLockPreimageRow.holds Tryz.pinned (OpenSpec.ofChange Rows.fnExactLockPreimageSpec) :=
  OpenClaim.holds_of_wide 10 Tryz.f10 rfl rfl rfl rfl rfl rfl rfl ⟨rfl, rfl, rfl, rfl, rfl⟩ rfl rfl rfl rfl rfl (by kernel_rfl) Tryz.func10 (by kernel_rfl)
    (of_decide_eq_true (by kernel_rfl)) (by unfold Func.isWrapper; first | (rw [if_pos (by decide +kernel)]; kernel_rfl) | (rw [if_neg (by decide +kernel)]; exact ⟨rfl, rfl⟩))
    (fun os started H enc _ => lifted os started H enc)
theorem proved : Rows.FnExactLockPreimageSaid := over
#print axioms proved
end Go.Proofs.YtoocibabceeagabGreat.fnExactLockPreimage
