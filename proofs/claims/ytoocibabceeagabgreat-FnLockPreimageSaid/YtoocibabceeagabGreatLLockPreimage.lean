/- For every code of at most 1<<20 bytes (longer ones are let pass by the law itself): LockPreimage answers as the model's LockPreimage; what is told is told of a timed lock that the witness opens, and its digest's bytes stand in the lock. -/
import Derived.Test.YtoocibabceeagabGreatRows
import Derived.Test.YtoocibabceeagabGreatUm
import Derived.Test.YtoocibabceeagabGreatUi
import Derived.WalkKit
import Derived.WalkSpells
import Derived.ProofKit
import Derived.OpenShut
import Derived.ShutString
import Derived.Below
import Derived.SliceStrings
namespace Go.Proofs.YtoocibabceeagabGreat.fnLockPreimage
open Go.ChangeShapes Go.WideShapes Go.ChangeAt Go.RowKit
open Go.ChangeMaps (open_string shut_string)
theorem sl_midU (s : ByteArray) (i k : Nat) (j j2 : Int) (hj : j = (i : Int)) (hj2 : j2 = (k : Int)) (h : i ≤ k) (h2 : k ≤ s.size) (W : World) : (Instr.slice 9 (.string s) (some (.int .i64 j)) (some (.int .i64 j2)) none).run Tryz.prog W = .ok (.string (s.extract i k)) W := by
  subst hj
  subst hj2
  simp [Instr.slice, Instr.sliceBounds, Instr.sliceBound, asIntOf, run_underlying Tryz.underlying9, h, h2]
set_option maxRecDepth 100000 in
set_option maxHeartbeats 6400000 in
theorem walk (a0 : Option Addr) (len0 cap0 : Nat) (z0 : List Int) (w : World) (w0 : IsRow .u8 w a0 len0 cap0 z0) :
    Calls Tryz.prog 8 #[.slice a0 len0 cap0] w fun e w' => e = .returned (.bool true) ∧ Below w.heap.size w w' := by
  have hcm := w0.len
  by_cases h : (1048576 : Int) < (len0 : Int)
  · go_enter Tryz.func8, Tryz.ntmps8
    go_wp2
    go_ret
    exact ⟨rfl, Below.refl _ _⟩
  go_enter Tryz.func8, Tryz.ntmps8
  go_wp2_with fail
  refine (drawLockPreimage_any a0 len0 cap0 z0 _ w0 (by omega)).mono ?_
  rintro e W1 ⟨s, ss, g, cp, T, hE, aE, rfl, hs, hl6, hsz, t0, t1, t2, t3, t4, hsr, hb0⟩
  have hA1 : Bk W1.heap.size 35 #[.string T, .int .i64 hE, .int .i64 aE] (W1.alloc (.cells #[.string T, .int .i64 hE, .int .i64 aE] 35 (0, 0))) := Bk.new _ _ _
  have HA := Lib.hid hA1
  have HS := Lib.hid (hsr.alloc (.cells #[.string T, .int .i64 hE, .int .i64 aE] 35 (0, 0)))
  have hb1 := below_alloc hb0 (.cells #[.string T, .int .i64 hE, .int .i64 aE] 35 (0, 0))
  have HZ2 : Hid (∀ s ∈ ss, s.size ≤ 9223372036854775807) := Lib.hid fun s h => by have := hsz s h; omega
  have hT : T.size ≤ 1048576 := by omega
  have hslk : s.size ≤ 1048576 := by omega
  have HIP := Lib.hid (fun W h => implLockPreimage_any s (some ⟨g, 0, none⟩) ss.length cp ss ⟨T, hE, aE⟩ W hslk h (by omega) HZ2.out (fun h => by cases h) hT)
  have HSP := Lib.hid (fun W h => specLockPreimage_any s (some ⟨g, 0, none⟩) ss.length cp ss ⟨T, hE, aE⟩ W hslk h (by omega) HZ2.out hT)
  unfold PreQ at HIP HSP
  have HUN := Lib.hid (fun W h => implUnlock_any s (some ⟨g, 0, none⟩) ss.length cp ss ⟨T, hE, aE⟩ W hslk h (by omega) HZ2.out (fun h => by cases h) hT)
  unfold UnP at HUN
  have HNA := Lib.hid (fun W => implLockName_any s W hslk)
  obtain ⟨n, HN⟩ : ∃ n, Hid (ss.length = n) := ⟨_, Lib.hid rfl⟩
  rw [HN.out] at HIP HSP HUN HS hl6
  rw [HN.out]
  clear w0 hcm h hsr hsz hb0 t0 t1 t2 t3 t4 hA1
  cases hsn : Lk.seen ⟨T, hE, aE⟩ s ss
  · have he := Lk.seen_no hsn
    rw [hsn, he] at HIP HSP
    clear hsn he HUN HNA
    obtain ⟨c0, c1, c2⟩ := Bk.c3w HA.out
    go_wp2_with fail
    refine (HIP.out _ HS.out).mono ?_
    rintro e W2 ⟨rfl, hx⟩
    have hb2 := hb1.trans (hx.mono hb1.size)
    replace HS := Lib.hid (HS.out.below hx)
    clear c0 c1 c2
    obtain ⟨c0, c1, c2⟩ := Bk.c3w (HA.out.below hx)
    clear hx
    go_wp2_with fail
    refine (HSP.out _ HS.out).mono ?_
    rintro e W3 ⟨rfl, hx⟩
    have hb3 := hb2.trans (hx.mono hb2.size)
    go_wp2
    go_ret
    exact ⟨rfl, hb3⟩
  obtain ⟨hnm, hop, d, p, y, q, htm, hsb, hdg⟩ := Lk.seen_yes hsn
  rw [hsn] at HIP HSP
  rw [hnm] at HNA
  rw [hop] at HUN
  have hnm3 : Lk.nm 3 = ⟨#[116, 105, 109, 101, 100]⟩ := rfl
  rw [hnm3] at HNA
  obtain ⟨X, HX⟩ : ∃ y, Hid (Lk.shown ⟨T, hE, aE⟩ s ss = y) := ⟨_, Lib.hid rfl⟩
  rw [HX.out] at HIP HSP hdg
  have hq : (X.toList == X.toList) = true := by simp
  have hXz : X.size ≤ 9223372036854775807 := by
    rw [← HX.out]
    have hgd : (ss.getD (ss.length - 2) ByteArray.empty).size ≤ 9223372036854775807 := by
      rw [List.getD_eq_getElem?_getD]
      rcases Nat.lt_or_ge (ss.length - 2) ss.length with hlt | hge
      · rw [List.getElem?_eq_getElem hlt]
        exact HZ2.out _ (List.getElem_mem hlt)
      · rw [List.getElem?_eq_none hge]
        decide
    unfold Lk.shown
    split <;> (first | exact hgd | (simp only [ByteArray.size_empty]; omega) | decide | (split <;> first | exact hgd | decide))
  have hdi := fun W => implDigest_any X W hXz
  have hdbd := Dg.of_bd X
  have hdb := fun W => implDigestBytes_ok (Dg.of X) W hdbd.1 hdbd.2
  rw [hdg] at hdi hdb
  have hcut := Lk.timed_cut d p y q
  rw [← hsb] at hcut
  obtain ⟨D, HD⟩ : ∃ z, Hid (Dg.bytes d = z) := ⟨_, Lib.hid rfl⟩
  rw [HD.out] at hdb hcut
  have hqD : (D.toList == D.toList) = true := by simp
  have HCUT := Lib.hid hcut.1
  have h8 := hcut.2
  clear hsn hnm hop htm hsb hdg HX hXz hdbd hnm3 hcut HD HN
  obtain ⟨c0, c1, c2⟩ := Bk.c3w HA.out
  go_wp2_with fail
  refine (HIP.out _ HS.out).mono ?_
  rintro e W2 ⟨rfl, hx⟩
  have hb2 := hb1.trans (hx.mono hb1.size)
  replace HS := Lib.hid (HS.out.below hx)
  replace HA := Lib.hid (HA.out.below hx)
  clear c0 c1 c2 hx
  obtain ⟨c0, c1, c2⟩ := Bk.c3w HA.out
  go_wp2_with fail
  refine (HSP.out _ HS.out).mono ?_
  rintro e W3 ⟨rfl, hx⟩
  have hb3 := hb2.trans (hx.mono hb2.size)
  replace HS := Lib.hid (HS.out.below hx)
  replace HA := Lib.hid (HA.out.below hx)
  clear c0 c1 c2 hx hb2
  go_wp2_with fail
  refine (hdi _).mono ?_
  rintro e W4 ⟨rfl, hx⟩
  have hb4 := hb3.trans (hx.mono hb3.size)
  replace HS := Lib.hid (HS.out.below hx)
  replace HA := Lib.hid (HA.out.below hx)
  clear hx hb3
  go_wp2_with fail
  refine (hdb _).mono ?_
  rintro e W5 ⟨rfl, hx⟩
  have hb5 := hb4.trans (hx.mono hb4.size)
  replace HS := Lib.hid (HS.out.below hx)
  replace HA := Lib.hid (HA.out.below hx)
  clear hx hb4 hdi hdb HIP HSP
  go_wp2
  go_loopw [12] (fun i wr => ∃ (k : Nat), k ≤ 4 ∧ i = .int .i64 (k : Int) ∧ Below W5.heap.size W5 wr)
    (fun i _ => 5 - (intOf i).toNat)
  case atStart => exact ⟨0, by omega, rfl, Below.refl _ _⟩
  case round =>
    obtain ⟨k, hk, rfl, hbel⟩ := hrel
    have HSr := Lib.hid (HS.out.below hbel)
    have HAr := Lib.hid (HA.out.below hbel)
    have hbr := hb5.trans (hbel.mono hb5.size)
    have hle : decide ((k : Int) + 4 ≤ (s.size : Int)) = true := by simp; omega
    have hw : IntKind.i64.wrap ((k : Int) + 4) = (k : Int) + 4 := IntWalk.i64_in _ (by omega)
    have hsl : ∀ W, (Instr.slice 9 (.string s) (some (.int .i64 (k : Int))) (some (.int .i64 ((k : Int) + 4))) none).run Tryz.prog W = .ok (.string (s.extract k (k + 4))) W := sl_midU s k (k + 4) _ _ rfl (by omega) (by omega) (by omega)
    obtain ⟨Z, HZ⟩ : ∃ z, Hid (s.extract k (k + 4) = z) := ⟨_, Lib.hid rfl⟩
    simp only [HZ.out] at hsl
    by_cases hZ : Z = D
    · subst hZ
      clear HZ
      go_wp2_with fail
      refine (HNA.out _).mono ?_
      rintro e W6 ⟨rfl, hx⟩
      have hb6 := hbr.trans (hx.mono hbr.size)
      obtain ⟨c0, c1, c2⟩ := Bk.c3w (HAr.out.below hx)
      have HS6 := Lib.hid (HSr.out.below hx)
      clear hx
      go_wp2_with fail
      refine (HUN.out _ HS6.out).mono ?_
      rintro e W7 ⟨rfl, hx⟩
      have hb7 := hb6.trans (hx.mono hb6.size)
      go_wp2
      go_ret
      exact ⟨rfl, hb7⟩
    · have hqn : (Z.toList == D.toList) = false := str_ne hZ
      have hk4 : k < 4 := by
        rcases Nat.lt_or_ge k 4 with h4 | h4
        · exact h4
        · have : k = 4 := by omega
          subst this
          exact absurd (HZ.out.symm.trans HCUT.out) hZ
      clear hZ HZ
      go_wp2
      go_roundw
      case rel => exact ⟨k + 1, by omega, by simp, hbel⟩
      case measure => simp [intOf]; omega
/-! ### The row's step. -/
theorem own : ownKnob Tryz.prog.godebug = none := by kernel_rfl
theorem laidOut : laidOutB Tryz.prog = true := by kernel_rfl
set_option maxRecDepth 100000 in
theorem lifted (os : Os) (started : os.Started) (H : Type) (enc : TypeId × Value → H) :
    ReturnsInHanded {} Tryz.checked os 8 .any (Rows.fnLockPreimageSpec.pre6 enc Tryz.prog Tryz.f8 Rows.fnLockPreimageRow.domain false) (Rows.fnLockPreimageSpec.post enc Tryz.prog Tryz.f8 false true false false) := by
  refine returnsInHanded_of_change (C := Tryz.checked) own started (by kernel_rfl) Tryz.func8
    (ChangeSpec.witness6 (enc := enc) (C := Tryz.checked) false ⟨#[], #[.slice none 0 0], []⟩ 8 (by kernel_rfl) (by kernel_rfl) (by kernel_rfl) (by kernel_rfl)) ?_
  intro W base args ds gs before hval0 hW hcnd _
  have hval : ∀ (j : Nat) t v, Tryz.f8.params[j]? = some t → args[j]? = some v → Value.okWide Tryz.prog W .any base t v := hval0
  have hW' := hW
  obtain ⟨p, q, hA0, hV, rfl, hfz, hnd⟩ := hW
  have hA : DataW.TrodAll enc Tryz.prog W 0 (fun _ => true) true Tryz.f8.params.toList args.toList ds p := hA0
  rw [Tryz.params8] at hA hval
  obtain ⟨v0, vs0, d0, ds0, p0, q0, hargs, rfl, rfl, h0, r0⟩ := trodAll_cons hA
  obtain ⟨rfl, rfl, rfl⟩ := trodAll_nil r0
  obtain rfl : args = #[v0] := by cases args; simp_all
  obtain ⟨rfl, rfl⟩ := trodVars_none hV
  obtain ⟨a0, len0, cap0, rfl⟩ := okWide_slice Tryz.underlying22 (hval 0 22 v0 rfl rfl)
  have k0 := h0
  have lt0 : ∀ x ∈ p0, x.block < W.heap.size := by obtain ⟨m, hm⟩ := k0; exact DataW.trod_lt m _ _ _ hm
  obtain ⟨z0, w0⟩ : ∃ zs, IsRow .u8 W a0 len0 cap0 zs := by
    obtain ⟨fuel, hf⟩ := h0
    rcases open_ints Tryz.underlying22 Tryz.underlying5 (by kernel_rfl) hf with ⟨hcs, _⟩ | ⟨x, l, c, zs, hcs, _, hl, hm, hz, _, hcell, hwz⟩
    · simp [Value.cells] at hcs
      obtain ⟨rfl, rfl, rfl⟩ := hcs
      exact ⟨[], .inl ⟨rfl, rfl, rfl, rfl⟩⟩
    · simp [Value.cells] at hcs
      obtain ⟨rfl, rfl, rfl⟩ := hcs
      exact ⟨zs, .inr ⟨_, rfl, hl, hm, by simpa using hz, hcell, hwz⟩⟩
  clear hA0 hval0
  refine (walk a0 len0 cap0 z0 W w0).mono fun e W' ⟨he, bel⟩ => ?_
  subst he
  exact ⟨_, rfl, _, _, _, [], _, [], hW', trodAll_mk1 (shut_bool Tryz.underlying4 _), (trodAll_cons_mk (Below.trod laidOut (by kernel_rfl) (of_decide_eq_true (by kernel_rfl)) k0 bel lt0) trodAll_mk0), rfl, bel.frame _, fun h => by cases h⟩
theorem over : Rows.fnLockPreimageRow.holds Tryz.pinned (OpenSpec.ofChange Rows.fnLockPreimageSpec) :=
  OpenClaim.holds_of_wide 8 Tryz.f8 rfl rfl rfl rfl rfl rfl rfl ⟨rfl, rfl, rfl, rfl, rfl⟩ rfl rfl rfl rfl rfl (by kernel_rfl) Tryz.func8 (by kernel_rfl)
    (of_decide_eq_true (by kernel_rfl)) (by unfold Func.isWrapper; first | (rw [if_pos (by decide +kernel)]; kernel_rfl) | (rw [if_neg (by decide +kernel)]; exact ⟨rfl, rfl⟩))
    (fun os started H enc _ => lifted os started H enc)
theorem proved : Rows.FnLockPreimageSaid := over
#print axioms proved
end Go.Proofs.YtoocibabceeagabGreat.fnLockPreimage
