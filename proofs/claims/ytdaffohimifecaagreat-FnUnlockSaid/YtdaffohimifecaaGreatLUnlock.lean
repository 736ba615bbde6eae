/- For every code of at most 1<<20 bytes (longer ones are let pass by the law itself): Unlock answers as the model's Unlock; what is unlocked is the bytes of a script whose run ends well and leaves one true item. -/
import Derived.Test.YtdaffohimifecaaGreatRows
import Derived.Test.YtdaffohimifecaaGreatZh
import Derived.Test.YtdaffohimifecaaGreatZe
import Derived.Test.YtdaffohimifecaaGreatWj
import Derived.Test.YtdaffohimifecaaGreatWp
import Derived.WalkKit
import Derived.WalkSpells
import Derived.ProofKit
import Derived.OpenShut
import Derived.ShutString
import Derived.Below
import Derived.SliceStrings
namespace Go.Proofs.YtdaffohimifecaaGreat.fnUnlock
open Go.ChangeShapes Go.WideShapes Go.ChangeAt Go.RowKit
open Go.ChangeMaps (open_string shut_string)
set_option maxRecDepth 100000 in
set_option maxHeartbeats 6400000 in
theorem walk (a0 : Option Addr) (len0 cap0 : Nat) (z0 : List Int) (w : World) (w0 : IsRow .u8 w a0 len0 cap0 z0) :
    Calls Tryz.prog 4 #[.slice a0 len0 cap0] w fun e w' => e = .returned (.bool true) ∧ Below w.heap.size w w' := by
  have hcm := w0.len
  by_cases h0 : (1048576 : Int) < (len0 : Int)
  · go_enter Tryz.func4, Tryz.ntmps4
    go_wp2
    go_ret
    exact ⟨rfl, Below.refl _ _⟩
  go_enter Tryz.func4, Tryz.ntmps4
  go_wp2_with fail
  refine (drawUnlock_any a0 len0 cap0 z0 _ w0 (by omega)).mono ?_
  rintro e W1 ⟨s, ss, g, cp, T, hE, aE, rfl, hs, hl3, hsz, t0, t1, t2, t3, t4, hsr, hb0⟩
  have HA : Hid (Bk W1.heap.size 26 #[.string T, .int .i64 hE, .int .i64 aE] (W1.alloc (.cells #[.string T, .int .i64 hE, .int .i64 aE] 26 (0, 0)))) := Lib.hid (Bk.new _ _ _)
  have HS := Lib.hid (hsr.alloc (.cells #[.string T, .int .i64 hE, .int .i64 aE] 26 (0, 0)))
  have hb1 := below_alloc hb0 (.cells #[.string T, .int .i64 hE, .int .i64 aE] 26 (0, 0))
  have HZ : Hid (∀ s ∈ ss, s.size ≤ 1048576) := Lib.hid fun s h => by have := hsz s h; omega
  have HZ2 : Hid (∀ s ∈ ss, s.size ≤ 9223372036854775807) := Lib.hid fun s h => by have := hsz s h; omega
  have hT : T.size ≤ 1048576 := by omega
  have hslk : s.size ≤ 1048576 := by omega
  clear w0 hcm h0 hsr hsz hb0 t0 t1 t2 t3 t4 hs
  obtain ⟨ok, HK⟩ : ∃ x, Hid (Vm.opens ⟨T, hE, aE⟩ (Jo.read s) ss = x) := ⟨_, Lib.hid rfl⟩
  have HI : Hid (∀ W, SR W (some ⟨g, 0, none⟩) ss.length ss → Calls Tryz.prog 14 #[.string s, .slice (some ⟨g, 0, none⟩) ss.length cp, .agg #[.string T, .int .i64 hE, .int .i64 aE]] W fun e w' => e = .returned (.bool ok) ∧ Below W.heap.size W w') := Lib.hid fun W h => by
    have := implUnlock_any s (some ⟨g, 0, none⟩) ss.length cp ss ⟨T, hE, aE⟩ W hslk h (by omega) HZ2.out (fun h => by cases h) hT
    unfold UnP at this
    rw [HK.out] at this
    exact this
  have HP : Hid (∀ W, SR W (some ⟨g, 0, none⟩) ss.length ss → Calls Tryz.prog 15 #[.string s, .slice (some ⟨g, 0, none⟩) ss.length cp, .agg #[.string T, .int .i64 hE, .int .i64 aE]] W fun e w' => e = .returned (.bool ok) ∧ Below W.heap.size W w') := Lib.hid fun W h => by
    have := specUnlock_any s (some ⟨g, 0, none⟩) ss.length cp ss ⟨T, hE, aE⟩ W hslk h (by omega) HZ2.out hT
    unfold UnP at this
    rw [HK.out] at this
    exact this
  have hrd := fun W => implScriptRead_any s W hslk
  clear HZ2 hslk
  cases hr : Jo.read s with
  | none =>
    rw [hr] at HK
    have hok : ok = false := by rw [← HK.out]; rfl
    subst hok
    have HRD : Hid (∀ W, Calls Tryz.prog 16 #[.string s] W fun e w' => e = .returned (.tuple #[.slice none 0 0, .bool false]) ∧ Below W.heap.size W w') := Lib.hid fun W => (hrd W).mono fun e w' h => by
      rcases h with ⟨_, h1, h2⟩ | ⟨l, _, _, h1, _⟩
      · exact ⟨h1, h2⟩
      · rw [hr] at h1; cases h1
    obtain ⟨L, HL⟩ : ∃ L, Hid ((Vm.run ⟨T, hE, aE⟩ [] ss).1 = L) := ⟨_, Lib.hid rfl⟩
    obtain ⟨cd, HC⟩ : ∃ c, Hid ((Vm.run ⟨T, hE, aE⟩ [] ss).2 = c) := ⟨_, Lib.hid rfl⟩
    obtain ⟨m, hm⟩ : ∃ n, L.length = n := ⟨_, rfl⟩
    have HR : Hid (∀ W, OL W none 0 [] → SR W (some ⟨g, 0, none⟩) ss.length ss → Calls Tryz.prog 10 #[.slice none 0 0, .slice (some ⟨g, 0, none⟩) ss.length cp, .agg #[.string T, .int .i64 hE, .int .i64 aE]] W (RunP m L cd W)) := implRun (E := ⟨T, hE, aE⟩) HL.out HC.out hm (by omega) (by omega) HZ.out (fun h => by cases h) (by simp only; omega)
    clear hrd hr HK HL HC hm HZ hT
    obtain ⟨c0, c1, c2⟩ := Bk.c3w HA.out
    go_wp2_with fail
    refine (HI.out _ HS.out).mono ?_
    rintro e W2 ⟨rfl, hx⟩
    replace HA := Lib.hid (HA.out.below hx)
    replace HS := Lib.hid (HS.out.below hx)
    have hb2 := hb1.trans (hx.mono hb1.size)
    clear hb1 hx
    clear c0 c1 c2
    obtain ⟨c0, c1, c2⟩ := Bk.c3w HA.out
    go_wp2_with fail
    refine (HP.out _ HS.out).mono ?_
    rintro e W3 ⟨rfl, hx⟩
    replace HA := Lib.hid (HA.out.below hx)
    replace HS := Lib.hid (HS.out.below hx)
    have hb3 := hb2.trans (hx.mono hb2.size)
    clear hb2 hx
    clear c0 c1 c2
    go_wp2_with fail
    refine (HRD.out _).mono ?_
    rintro e W4 ⟨rfl, hx⟩
    replace HA := Lib.hid (HA.out.below hx)
    replace HS := Lib.hid (HS.out.below hx)
    have hb4 := hb3.trans (hx.mono hb3.size)
    have HO : Hid (OL W4 none 0 []) := Lib.hid ⟨rfl, fun h => absurd h (by omega)⟩
    clear hb3 hx
    obtain ⟨c0, c1, c2⟩ := Bk.c3w HA.out
    go_wp2_with fail
    refine (HR.out _ HO.out HS.out).mono ?_
    rintro e W5 ⟨x, cx, rfl, hs1, hx, _⟩
    replace HA := Lib.hid (HA.out.below hx)
    replace HS := Lib.hid (HS.out.below hx)
    have hb5 := hb4.trans (hx.mono hb4.size)
    have HX := Lib.hid hs1
    clear hs1
    clear hb4 hx
    clear c0 c1 c2
    go_wp2
    go_ret
    exact ⟨rfl, hb5⟩
  | some l =>
    rw [hr] at HK
    have hll : l.length ≤ 40 := ((Jo.ok_iff l).1 (Jo.read_ok hr)).1
    obtain ⟨ll, HLL⟩ : ∃ k, Hid (l.length = k) := ⟨_, Lib.hid rfl⟩
    have HRD : Hid (∀ W, Calls Tryz.prog 16 #[.string s] W fun e w' => ∃ a cap, e = .returned (.tuple #[.slice a ll cap, .bool true]) ∧ OL w' a ll l ∧ Below W.heap.size W w') := Lib.hid fun W => (hrd W).mono fun e w' h => by
      rcases h with ⟨h1, _⟩ | ⟨l', a, cap, h1, h2, h3, h4⟩
      · rw [hr] at h1; cases h1
      · rw [hr] at h1; cases h1
        rw [HLL.out] at h2 h3
        exact ⟨a, cap, h2, (OL.own h3).2, h4⟩
    rw [HLL.out] at hll
    clear HLL
    obtain ⟨L, HL⟩ : ∃ L, Hid ((Vm.run ⟨T, hE, aE⟩ l ss).1 = L) := ⟨_, Lib.hid rfl⟩
    obtain ⟨cd, HC⟩ : ∃ c, Hid ((Vm.run ⟨T, hE, aE⟩ l ss).2 = c) := ⟨_, Lib.hid rfl⟩
    obtain ⟨m, hm⟩ : ∃ n, L.length = n := ⟨_, rfl⟩
    have HR : ∀ a ca, Hid (∀ W, OL W a ll l → SR W (some ⟨g, 0, none⟩) ss.length ss → Calls Tryz.prog 10 #[.slice a ll ca, .slice (some ⟨g, 0, none⟩) ss.length cp, .agg #[.string T, .int .i64 hE, .int .i64 aE]] W (RunP m L cd W)) := fun a ca => implRun (E := ⟨T, hE, aE⟩) HL.out HC.out hm (by omega) (by omega) HZ.out (fun h => by cases h) (by simp only; omega)
    have HRR := Lib.hid HR
    clear hrd hr HR HZ hT
    by_cases hc : cd = 0
    · by_cases hm1 : m = 1
      · obtain ⟨v, rfl⟩ : ∃ v, L = [v] := by
          rcases L with _ | ⟨v, _ | ⟨b, r⟩⟩
          · simp at hm; omega
          · exact ⟨v, rfl⟩
          · simp at hm; omega
        subst hc hm1
        have hyes := Vm.opens_yes HL.out HC.out
        rw [HK.out] at hyes
        clear HK HL HC hm
        by_cases hv : v.size = 0
        · have hok : ok = false := by rw [hyes]; simp [hv]
          subst hok
          have hve : v = ⟨#[]⟩ := by
            apply ByteArray.ext; exact Array.eq_empty_of_size_eq_zero hv
          subst hve
          clear hyes hv
          obtain ⟨c0, c1, c2⟩ := Bk.c3w HA.out
          go_wp2_with fail
          refine (HI.out _ HS.out).mono ?_
          rintro e W2 ⟨rfl, hx⟩
          replace HA := Lib.hid (HA.out.below hx)
          replace HS := Lib.hid (HS.out.below hx)
          have hb2 := hb1.trans (hx.mono hb1.size)
          clear hb1 hx
          clear c0 c1 c2
          obtain ⟨c0, c1, c2⟩ := Bk.c3w HA.out
          go_wp2_with fail
          refine (HP.out _ HS.out).mono ?_
          rintro e W3 ⟨rfl, hx⟩
          replace HA := Lib.hid (HA.out.below hx)
          replace HS := Lib.hid (HS.out.below hx)
          have hb3 := hb2.trans (hx.mono hb2.size)
          clear hb2 hx
          clear c0 c1 c2
          go_wp2_with fail
          refine (HRD.out _).mono ?_
          rintro e W4 ⟨a, ca, rfl, hol, hx⟩
          replace HA := Lib.hid (HA.out.below hx)
          replace HS := Lib.hid (HS.out.below hx)
          have hb4 := hb3.trans (hx.mono hb3.size)
          have HO := Lib.hid hol
          clear hol
          clear hb3 hx
          obtain ⟨c0, c1, c2⟩ := Bk.c3w HA.out
          go_wp2_with fail
          refine ((HRR.out _ _).out _ HO.out HS.out).mono ?_
          rintro e W5 ⟨x, cx, rfl, hs1, hx, _⟩
          replace HA := Lib.hid (HA.out.below hx)
          replace HS := Lib.hid (HS.out.below hx)
          have hb5 := hb4.trans (hx.mono hb4.size)
          have HX := Lib.hid hs1
          clear hs1
          clear hb4 hx
          clear c0 c1 c2
          obtain ⟨b, off, rfl, _, hcc⟩ := HX.out.2 (by omega)
          have hck := hcc 0 (by omega)
          rw [Nat.add_zero, List.getD_cons_zero] at hck
          clear hcc HX
          go_wp2
          go_ret
          exact ⟨by simp, hb5⟩
        · have hok : ok = true := by rw [hyes]; simp [hv]
          subst hok
          have hvne : v.toList.isEmpty = false := by rw [str_empty_iff]; simpa using hv
          clear hyes
          obtain ⟨c0, c1, c2⟩ := Bk.c3w HA.out
          go_wp2_with fail
          refine (HI.out _ HS.out).mono ?_
          rintro e W2 ⟨rfl, hx⟩
          replace HA := Lib.hid (HA.out.below hx)
          replace HS := Lib.hid (HS.out.below hx)
          have hb2 := hb1.trans (hx.mono hb1.size)
          clear hb1 hx
          clear c0 c1 c2
          obtain ⟨c0, c1, c2⟩ := Bk.c3w HA.out
          go_wp2_with fail
          refine (HP.out _ HS.out).mono ?_
          rintro e W3 ⟨rfl, hx⟩
          replace HA := Lib.hid (HA.out.below hx)
          replace HS := Lib.hid (HS.out.below hx)
          have hb3 := hb2.trans (hx.mono hb2.size)
          clear hb2 hx
          clear c0 c1 c2
          go_wp2_with fail
          refine (HRD.out _).mono ?_
          rintro e W4 ⟨a, ca, rfl, hol, hx⟩
          replace HA := Lib.hid (HA.out.below hx)
          replace HS := Lib.hid (HS.out.below hx)
          have hb4 := hb3.trans (hx.mono hb3.size)
          have HO := Lib.hid hol
          clear hol
          clear hb3 hx
          obtain ⟨c0, c1, c2⟩ := Bk.c3w HA.out
          go_wp2_with fail
          refine ((HRR.out _ _).out _ HO.out HS.out).mono ?_
          rintro e W5 ⟨x, cx, rfl, hs1, hx, _⟩
          replace HA := Lib.hid (HA.out.below hx)
          replace HS := Lib.hid (HS.out.below hx)
          have hb5 := hb4.trans (hx.mono hb4.size)
          have HX := Lib.hid hs1
          clear hs1
          clear hb4 hx
          clear c0 c1 c2
          obtain ⟨b, off, rfl, _, hcc⟩ := HX.out.2 (by omega)
          have hck := hcc 0 (by omega)
          rw [Nat.add_zero, List.getD_cons_zero] at hck
          clear hcc HX
          go_wp2
          go_ret
          exact ⟨by simp, hb5⟩
      · have hno := Vm.opens_len (E := ⟨T, hE, aE⟩) (l := l) (ss := ss) (by rw [HL.out, hm]; exact hm1)
        rw [HK.out] at hno
        subst hno hc
        have hmq : ((m : Int) == 1) = false := by simpa using fun h : (m : Int) = 1 => hm1 (by omega)
        clear HK HL HC hm hm1
        obtain ⟨c0, c1, c2⟩ := Bk.c3w HA.out
        go_wp2_with fail
        refine (HI.out _ HS.out).mono ?_
        rintro e W2 ⟨rfl, hx⟩
        replace HA := Lib.hid (HA.out.below hx)
        replace HS := Lib.hid (HS.out.below hx)
        have hb2 := hb1.trans (hx.mono hb1.size)
        clear hb1 hx
        clear c0 c1 c2
        obtain ⟨c0, c1, c2⟩ := Bk.c3w HA.out
        go_wp2_with fail
        refine (HP.out _ HS.out).mono ?_
        rintro e W3 ⟨rfl, hx⟩
        replace HA := Lib.hid (HA.out.below hx)
        replace HS := Lib.hid (HS.out.below hx)
        have hb3 := hb2.trans (hx.mono hb2.size)
        clear hb2 hx
        clear c0 c1 c2
        go_wp2_with fail
        refine (HRD.out _).mono ?_
        rintro e W4 ⟨a, ca, rfl, hol, hx⟩
        replace HA := Lib.hid (HA.out.below hx)
        replace HS := Lib.hid (HS.out.below hx)
        have hb4 := hb3.trans (hx.mono hb3.size)
        have HO := Lib.hid hol
        clear hol
        clear hb3 hx
        obtain ⟨c0, c1, c2⟩ := Bk.c3w HA.out
        go_wp2_with fail
        refine ((HRR.out _ _).out _ HO.out HS.out).mono ?_
        rintro e W5 ⟨x, cx, rfl, hs1, hx, _⟩
        replace HA := Lib.hid (HA.out.below hx)
        replace HS := Lib.hid (HS.out.below hx)
        have hb5 := hb4.trans (hx.mono hb4.size)
        have HX := Lib.hid hs1
        clear hs1
        clear hb4 hx
        clear c0 c1 c2
        go_wp2
        go_ret
        exact ⟨rfl, hb5⟩
    · have hno := Vm.opens_code (E := ⟨T, hE, aE⟩) (l := l) (ss := ss) (by rw [HC.out]; exact hc)
      rw [HK.out] at hno
      subst hno
      have hcq : (cd == 0) = false := by simpa using hc
      clear HK HL HC hm hc
      obtain ⟨c0, c1, c2⟩ := Bk.c3w HA.out
      go_wp2_with fail
      refine (HI.out _ HS.out).mono ?_
      rintro e W2 ⟨rfl, hx⟩
      replace HA := Lib.hid (HA.out.below hx)
      replace HS := Lib.hid (HS.out.below hx)
      have hb2 := hb1.trans (hx.mono hb1.size)
      clear hb1 hx
      clear c0 c1 c2
      obtain ⟨c0, c1, c2⟩ := Bk.c3w HA.out
      go_wp2_with fail
      refine (HP.out _ HS.out).mono ?_
      rintro e W3 ⟨rfl, hx⟩
      replace HA := Lib.hid (HA.out.below hx)
      replace HS := Lib.hid (HS.out.below hx)
      have hb3 := hb2.trans (hx.mono hb2.size)
      clear hb2 hx
      clear c0 c1 c2
      go_wp2_with fail
      refine (HRD.out _).mono ?_
      rintro e W4 ⟨a, ca, rfl, hol, hx⟩
      replace HA := Lib.hid (HA.out.below hx)
      replace HS := Lib.hid (HS.out.below hx)
      have hb4 := hb3.trans (hx.mono hb3.size)
      have HO := Lib.hid hol
      clear hol
      clear hb3 hx
      obtain ⟨c0, c1, c2⟩ := Bk.c3w HA.out
      go_wp2_with fail
      refine ((HRR.out _ _).out _ HO.out HS.out).mono ?_
      rintro e W5 ⟨x, cx, rfl, hs1, hx, _⟩
      replace HA := Lib.hid (HA.out.below hx)
      replace HS := Lib.hid (HS.out.below hx)
      have hb5 := hb4.trans (hx.mono hb4.size)
      have HX := Lib.hid hs1
      clear hs1
      clear hb4 hx
      clear c0 c1 c2
      go_wp2
      go_ret
      exact ⟨rfl, hb5⟩
/-! ### The row's step. -/
theorem own : ownKnob Tryz.prog.godebug = none := by kernel_rfl
theorem laidOut : laidOutB Tryz.prog = true := by kernel_rfl
set_option maxRecDepth 100000 in
theorem lifted (os : Os) (started : os.Started) (H : Type) (enc : TypeId × Value → H) :
    ReturnsInHanded {} Tryz.checked os 4 .any (Rows.fnUnlockSpec.pre6 enc Tryz.prog Tryz.f4 Rows.fnUnlockRow.domain false) (Rows.fnUnlockSpec.post enc Tryz.prog Tryz.f4 false true false false) := by
  refine returnsInHanded_of_change (C := Tryz.checked) own started (by kernel_rfl) Tryz.func4
    (ChangeSpec.witness6 (enc := enc) (C := Tryz.checked) false ⟨#[], #[.slice none 0 0], []⟩ 8 (by kernel_rfl) (by kernel_rfl) (by kernel_rfl) (by kernel_rfl)) ?_
  intro W base args ds gs before hval0 hW hcnd _
  have hval : ∀ (j : Nat) t v, Tryz.f4.params[j]? = some t → args[j]? = some v → Value.okWide Tryz.prog W .any base t v := hval0
  have hW' := hW
  obtain ⟨p, q, hA0, hV, rfl, hfz, hnd⟩ := hW
  have hA : DataW.TrodAll enc Tryz.prog W 0 (fun _ => true) true Tryz.f4.params.toList args.toList ds p := hA0
  rw [Tryz.params4] at hA hval
  obtain ⟨v0, vs0, d0, ds0, p0, q0, hargs, rfl, rfl, h0, r0⟩ := trodAll_cons hA
  obtain ⟨rfl, rfl, rfl⟩ := trodAll_nil r0
  obtain rfl : args = #[v0] := by cases args; simp_all
  obtain ⟨rfl, rfl⟩ := trodVars_none hV
  obtain ⟨a0, len0, cap0, rfl⟩ := okWide_slice Tryz.underlying22 (hval 0 22 v0 rfl rfl)
  have k0 := h0
  have lt0 : ∀ x ∈ p0, x.block < W.heap.size := by obtain ⟨m, hm⟩ := k0; exact DataW.trod_lt m _ _ _ hm
  obtain ⟨z0, w0⟩ : ∃ zs, IsRow .u8 W a0 len0 cap0 zs := by
    obtain ⟨fuel, hf⟩ := h0
    rcases open_ints Tryz.underlying22 Tryz.underlying5 (by kernel_rfl) hf with ⟨hcs, _⟩ | ⟨x, l, c, zs, hcs, _, hl, hm, hz, _, hcell, hwz⟩
    · simp [Value.cells] at hcs
      obtain ⟨rfl, rfl, rfl⟩ := hcs
      exact ⟨[], .inl ⟨rfl, rfl, rfl, rfl⟩⟩
    · simp [Value.cells] at hcs
      obtain ⟨rfl, rfl, rfl⟩ := hcs
      exact ⟨zs, .inr ⟨_, rfl, hl, hm, by simpa using hz, hcell, hwz⟩⟩
  clear hA0 hval0
  refine (walk a0 len0 cap0 z0 W w0).mono fun e W' ⟨he, bel⟩ => ?_
  subst he
  exact ⟨_, rfl, _, _, _, [], _, [], hW', trodAll_mk1 (shut_bool Tryz.underlying4 _), (trodAll_cons_mk (Below.trod laidOut (by kernel_rfl) (of_decide_eq_true (by kernel_rfl)) k0 bel lt0) trodAll_mk0), rfl, bel.frame _, fun h => by cases h⟩
theorem over : Rows.fnUnlockRow.holds Tryz.pinned (OpenSpec.ofChange Rows.fnUnlockSpec) :=
  OpenClaim.holds_of_wide 4 Tryz.f4 rfl rfl rfl rfl rfl rfl rfl ⟨rfl, rfl, rfl, rfl, rfl⟩ rfl rfl rfl rfl rfl (by kernel_rfl) Tryz.func4 (by kernel_rfl)
    (of_decide_eq_true (by kernel_rfl)) (by unfold Func.isWrapper; first | (rw [if_pos (by decide +kernel)]; kernel_rfl) | (rw [if_neg (by decide +kernel)]; exact ⟨rfl, rfl⟩))
    (fun os started H enc _ => lifted os started H enc)
theorem proved : Rows.FnUnlockSaid := over
#print axioms proved
end Go.Proofs.YtdaffohimifecaaGreat.fnUnlock
