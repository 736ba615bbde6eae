/- For every two codes of at most 1<<20 bytes each (longer ones are let pass by the law itself): a key lock, made as the model makes it, is opened by a witness just if that is one item, a signature that is valid for the key and the message. -/
import Derived.Test.YtoocibabceeagabGreatRows
import Derived.Test.YtoocibabceeagabGreatUl
import Derived.Test.YtoocibabceeagabGreatUg
import Derived.Test.YtoocibabceeagabGreatZh
import Derived.WalkKit
import Derived.WalkSpells
import Derived.ProofKit
import Derived.OpenShut
import Derived.ShutString
import Derived.Below
import Derived.SliceStrings
namespace Go.Proofs.YtoocibabceeagabGreat.fnKeyAlone
open Go.ChangeShapes Go.WideShapes Go.ChangeAt Go.RowKit
open Go.ChangeMaps (open_string shut_string)
theorem sg_sig {t g : ByteArray} {k : Int} (hk : 0 ≤ k ∧ k ≤ 4294967295) : Vm.sg t g (Dg.bytes k) = (decide (g.size = 8) && Sg.ver k t (Jo.sr g) (Jo.ss g)) := by
  unfold Vm.sg Jo.sr Jo.ss
  rw [decide_eq_true (Dg.bytes_size k), Bool.true_and, Dg.num_bytes k hk.1 hk.2]
  by_cases h : g.size = 8
  · rw [if_pos h, if_pos h]
  · rw [decide_eq_false h, Bool.false_and, Bool.false_and]
set_option maxRecDepth 100000 in
set_option maxHeartbeats 6400000 in
theorem walk (a0 : Option Addr) (len0 cap0 : Nat) (z0 : List Int) (a1 : Option Addr) (len1 cap1 : Nat) (z1 : List Int) (w : World) (w0 : IsRow .u8 w a0 len0 cap0 z0) (w1 : IsRow .u8 w a1 len1 cap1 z1) :
    Calls Tryz.prog 9 #[.slice a0 len0 cap0, .slice a1 len1 cap1] w fun e w' => e = .returned (.bool true) ∧ Below w.heap.size w w' := by
  have hcm := w0.len
  have hcm1 := w1.len
  by_cases h : (1048576 : Int) < (len0 : Int)
  · go_enter Tryz.func9, Tryz.ntmps9
    go_wp2
    go_ret
    exact ⟨rfl, Below.refl _ _⟩
  by_cases h1 : (1048576 : Int) < (len1 : Int)
  · go_enter Tryz.func9, Tryz.ntmps9
    go_wp2
    go_ret
    exact ⟨rfl, Below.refl _ _⟩
  go_enter Tryz.func9, Tryz.ntmps9
  go_wp2_with fail
  refine (drawLockKeyU_any a0 len0 cap0 z0 _ w0 (by omega)).mono ?_
  rintro e W1 ⟨key, rfl, _, _, hb1⟩
  clear w0 h hcm
  have HS := Lib.hid (fun W => specLockKey_any key W)
  have HI := Lib.hid (fun W => implLockKey_any key W)
  unfold LkQ at HS HI
  have HBD : Hid (Gr.kok key = true → 0 ≤ key ∧ key ≤ 4294967295) := Lib.hid Gr.kok_bd
  have HUL := Lib.hid (fun L T h k v hv hz hT g n c hn W hs => unlock_lock (Lk.ok_key key) L T h k v hv hz hT g n c hn W hs)
  have HX0 : Hid (Lk.s true (Lk.key key) = Jo.bs (Lk.key key)) := Lib.hid rfl
  obtain ⟨ok, HOK⟩ : ∃ x, Hid (Gr.kok key = x) := ⟨_, Lib.hid rfl⟩
  rw [HOK.out] at HS HI HBD
  go_wp2_with fail
  refine (HI.out _).mono ?_
  rintro e W2 ⟨rfl, hx⟩
  have hb2 := hb1.trans (hx.mono hb1.size)
  clear hx
  go_wp2_with fail
  refine (HS.out _).mono ?_
  rintro e W3 ⟨rfl, hx⟩
  have hb3 := hb2.trans (hx.mono hb2.size)
  clear hx hb2 HS HI
  have w13 := w1.below hb3
  go_wp2_with fail
  refine (drawUnlock_any a1 len1 cap1 z1 _ w13 (by omega)).mono ?_
  rintro e W4 ⟨s, ss, g, cp, T, hE, aE, rfl, hs, hl6, hsz, t0, t1, t2, t3, t4, hsr, hx⟩
  have hb4' := hb3.trans (hx.mono hb3.size)
  have hb4 := below_alloc hb4' (.cells #[.string T, .int .i64 hE, .int .i64 aE] 35 (0, 0))
  have HA : Hid (Bk W4.heap.size 35 #[.string T, .int .i64 hE, .int .i64 aE] (W4.alloc (.cells #[.string T, .int .i64 hE, .int .i64 aE] 35 (0, 0)))) := Lib.hid (Bk.new _ _ _)
  have HSR := Lib.hid (hsr.alloc (.cells #[.string T, .int .i64 hE, .int .i64 aE] 35 (0, 0)))
  have HZ2 : Hid (∀ s ∈ ss, s.size ≤ 9223372036854775807) := Lib.hid fun s h => by have := hsz s h; omega
  have hT : T.size ≤ 1048576 := by omega
  clear w1 w13 h1 hcm1 hsr hsz hx hb3 hb4' t1 t2 t3 t4 hs
  cases ok
  · have hq : ((Lk.s false (Lk.key key)).toList == (Lk.s false (Lk.key key)).toList) = true := by simp
    obtain ⟨Y, HY⟩ : ∃ y, Hid (Lk.s false (Lk.key key) = y) := ⟨_, Lib.hid rfl⟩
    simp only [HY.out] at hq ⊢
    clear HUL HX0 HOK HBD
    go_wp2
    go_ret
    exact ⟨by simp, hb4⟩
  obtain ⟨k0, k1⟩ := HBD.out (by first | rfl | trivial)
  have HOP : Hid (∀ L, Vm.opens ⟨T, hE, aE⟩ (some (Lk.key key)) L = (match L with
    | [x] => (decide (x.size = 8) && Sg.ver key T (Jo.sr x) (Jo.ss x))
    | _ => false)) := Lib.hid fun L => by
    rw [Vm.opens_key]
    rcases L with _ | ⟨x, _ | ⟨y, r⟩⟩
    · rfl
    · exact sg_sig ⟨k0, k1⟩
    · rfl
  have HUK := Lib.hid (fun v hv n hn W hs => HUL.out ss T hE aE v hv HZ2.out hT g n cp hn W hs)
  rw [← HX0.out] at HUK
  have HVE := Lib.hid (fun r s W => implVerify_any key r s T W hT)
  obtain ⟨X, HX⟩ : ∃ y, Hid (Lk.s true (Lk.key key) = y) := ⟨_, Lib.hid rfl⟩
  rw [HX.out] at HUK
  simp only [HX.out]
  have hq : (X.toList == X.toList) = true := by simp
  clear HUL HX0 HOK HBD k0 k1 HX
  by_cases h1 : ss.length = 1
  case neg =>
    have hno : Vm.opens ⟨T, hE, aE⟩ (some (Lk.key key)) ss = false := by
      rw [HOP.out]
      rcases ss with _ | ⟨x, _ | ⟨y, r⟩⟩
      · rfl
      · exact absurd rfl h1
      · rfl
    have HU := Lib.hid (HUK.out false hno)
    obtain ⟨n, HN⟩ : ∃ n, Hid (ss.length = n) := ⟨_, Lib.hid rfl⟩
    rw [HN.out] at h1 HSR hl6
    simp only [HN.out]
    have hn1 : ((n : Int) == 1) = false := by simpa using fun e : (n : Int) = 1 => h1 (by omega)
    obtain ⟨c0, c1, c2⟩ := Bk.c3w HA.out
    clear hno HOP HUK HN h1
    go_wp2_with fail
    refine (HU.out n (by omega) _ HSR.out).mono ?_
    rintro e W5 ⟨rfl, hx⟩
    have hb5 := hb4.trans (hx.mono hb4.size)
    go_wp2
    go_ret
    exact ⟨by simp, hb5⟩
  obtain ⟨x, rfl⟩ : ∃ x, ss = [x] := by
    rcases ss with _ | ⟨x, _ | ⟨y, r⟩⟩
    · cases h1
    · exact ⟨x, rfl⟩
    · simp at h1
  have HOP1 := Lib.hid (HOP.out [x])
  simp only at HOP1
  have HSR1 : Hid (SR (W4.alloc (.cells #[.string T, .int .i64 hE, .int .i64 aE] 35 (0, 0))) (some ⟨g, 0, none⟩) 1 [x]) := Lib.hid HSR.out
  have hcell : (W4.alloc (.cells #[.string T, .int .i64 hE, .int .i64 aE] 35 (0, 0))).cell? ⟨g, 0, none⟩ = some (.string x) := by
    obtain ⟨b, off, he, _, hc⟩ := HSR1.out.2 (by omega)
    cases he
    exact hc 0 (by omega)
  have hit := fun W => implItemSig_any x W
  have hvf := fun W => HVE.out (Jo.sr x) (Jo.ss x) W
  have HU := Lib.hid (fun v hv W hs => HUK.out v hv 1 (by omega) W hs)
  obtain ⟨vv, HVV⟩ : ∃ y, Hid (Sg.ver key T (Jo.sr x) (Jo.ss x) = y) := ⟨_, Lib.hid rfl⟩
  obtain ⟨R, HR⟩ : ∃ y, Hid (Jo.sr x = y) := ⟨_, Lib.hid rfl⟩
  obtain ⟨S, HSS⟩ : ∃ y, Hid (Jo.ss x = y) := ⟨_, Lib.hid rfl⟩
  rw [HVV.out] at HOP1
  rw [HVV.out, HR.out, HSS.out] at hvf
  rw [HR.out, HSS.out] at hit
  clear HOP HUK HVE HSR HVV HR HSS h1 hl6
  by_cases h8 : x.size = 8
  · rw [decide_eq_true h8] at hit HOP1
    rw [Bool.true_and] at HOP1
    have HUV := Lib.hid (HU.out vv HOP1.out)
    clear h8 HU HOP1
    simp only [List.length_singleton]
    go_wp2_with fail
    refine (hit _).mono ?_
    rintro e W5 ⟨rfl, hx⟩
    have hb5' := hb4.trans (hx.mono hb4.size)
    have hb5 := below_alloc hb5' (.cells #[.int .i64 R, .int .i64 S] 38 (0, 0))
    have hA5 := (HA.out.below hx).alloc (.cells #[.int .i64 R, .int .i64 S] 38 (0, 0))
    have hX5 := Bk.new W5 38 #[.int .i64 R, .int .i64 S]
    have HS5 := Lib.hid ((HSR1.out.below hx).alloc (.cells #[.int .i64 R, .int .i64 S] 38 (0, 0)))
    obtain ⟨c0, c1, c2⟩ := Bk.c3w hA5
    obtain ⟨x0, x1⟩ := Bk.c2 hX5
    have HA5 := Lib.hid hA5
    clear hx hb5' hcell hA5 hX5 hit HSR1
    go_wp2_with fail
    refine (hvf _).mono ?_
    rintro e W6 ⟨rfl, hx⟩
    have hb6 := hb5.trans (hx.mono hb5.size)
    have HS6 := Lib.hid (HS5.out.below hx)
    obtain ⟨y0, y1, y2⟩ := Bk.c3w (HA5.out.below hx)
    clear hx c0 c1 c2 x0 x1 hb5 hvf HS5
    have hvv : (vv == vv) = true := by simp
    cases vv
    all_goals
      go_wp2_with fail
      refine (HUV.out _ HS6.out).mono ?_
      rintro e W7 ⟨rfl, hx⟩
      have hb7 := hb6.trans (hx.mono hb6.size)
      go_wp2
      go_ret
      exact ⟨by simp, hb7⟩
  · rw [decide_eq_false h8] at hit HOP1
    rw [Bool.false_and] at HOP1
    have HUV := Lib.hid (HU.out false HOP1.out)
    clear h8 HU HOP1 hvf
    simp only [List.length_singleton]
    go_wp2_with fail
    refine (hit _).mono ?_
    rintro e W5 ⟨rfl, hx⟩
    have hb5' := hb4.trans (hx.mono hb4.size)
    have hb5 := below_alloc hb5' (.cells #[.int .i64 R, .int .i64 S] 38 (0, 0))
    have hA5 := (HA.out.below hx).alloc (.cells #[.int .i64 R, .int .i64 S] 38 (0, 0))
    have HS5 := Lib.hid ((HSR1.out.below hx).alloc (.cells #[.int .i64 R, .int .i64 S] 38 (0, 0)))
    obtain ⟨c0, c1, c2⟩ := Bk.c3w hA5
    clear hx hb5' hcell hA5 hit HSR1
    go_wp2_with fail
    refine (HUV.out _ HS5.out).mono ?_
    rintro e W7 ⟨rfl, hx⟩
    have hb7 := hb5.trans (hx.mono hb5.size)
    go_wp2
    go_ret
    exact ⟨by simp, hb7⟩
/-! ### The row's step. -/
theorem own : ownKnob Tryz.prog.godebug = none := by kernel_rfl
theorem laidOut : laidOutB Tryz.prog = true := by kernel_rfl
set_option maxRecDepth 100000 in
theorem lifted (os : Os) (started : os.Started) (H : Type) (enc : TypeId × Value → H) :
    ReturnsInHanded {} Tryz.checked os 9 .any (Rows.fnKeyAloneSpec.pre6 enc Tryz.prog Tryz.f9 Rows.fnKeyAloneRow.domain false) (Rows.fnKeyAloneSpec.post enc Tryz.prog Tryz.f9 false true false false) := by
  refine returnsInHanded_of_change (C := Tryz.checked) own started (by kernel_rfl) Tryz.func9
    (ChangeSpec.witness6 (enc := enc) (C := Tryz.checked) false ⟨#[], #[.slice none 0 0, .slice none 0 0], []⟩ 8 (by kernel_rfl) (by kernel_rfl) (by kernel_rfl) (by kernel_rfl)) ?_
  intro W base args ds gs before hval0 hW hcnd _
  have hval : ∀ (j : Nat) t v, Tryz.f9.params[j]? = some t → args[j]? = some v → Value.okWide Tryz.prog W .any base t v := hval0
  have hW' := hW
  obtain ⟨p, q, hA0, hV, rfl, hfz, hnd⟩ := hW
  have hA : DataW.TrodAll enc Tryz.prog W 0 (fun _ => true) true Tryz.f9.params.toList args.toList ds p := hA0
  rw [Tryz.params9] at hA hval
  obtain ⟨v0, vs0, d0, ds0, p0, q0, hargs, rfl, rfl, h0, r0⟩ := trodAll_cons hA
  obtain ⟨v1, vs1, d1, ds1, p1, q1, rfl, rfl, rfl, h1, r1⟩ := trodAll_cons r0
  obtain ⟨rfl, rfl, rfl⟩ := trodAll_nil r1
  obtain rfl : args = #[v0, v1] := by cases args; simp_all
  obtain ⟨rfl, rfl⟩ := trodVars_none hV
  obtain ⟨a0, len0, cap0, rfl⟩ := okWide_slice Tryz.underlying22 (hval 0 22 v0 rfl rfl)
  have k0 := h0
  have lt0 : ∀ x ∈ p0, x.block < W.heap.size := by obtain ⟨m, hm⟩ := k0; exact DataW.trod_lt m _ _ _ hm
  obtain ⟨z0, w0⟩ : ∃ zs, IsRow .u8 W a0 len0 cap0 zs := by
    obtain ⟨fuel, hf⟩ := h0
    rcases open_ints Tryz.underlying22 Tryz.underlying5 (by kernel_rfl) hf with ⟨hcs, _⟩ | ⟨x, l, c, zs, hcs, _, hl, hm, hz, _, hcell, hwz⟩
    · simp [Value.cells] at hcs
      obtain ⟨rfl, rfl, rfl⟩ := hcs
      exact ⟨[], .inl ⟨rfl, rfl, rfl, rfl⟩⟩
    · simp [Value.cells] at hcs
      obtain ⟨rfl, rfl, rfl⟩ := hcs
      exact ⟨zs, .inr ⟨_, rfl, hl, hm, by simpa using hz, hcell, hwz⟩⟩
  obtain ⟨a1, len1, cap1, rfl⟩ := okWide_slice Tryz.underlying22 (hval 1 22 v1 rfl rfl)
  have k1 := h1
  have lt1 : ∀ x ∈ p1, x.block < W.heap.size := by obtain ⟨m, hm⟩ := k1; exact DataW.trod_lt m _ _ _ hm
  obtain ⟨z1, w1⟩ : ∃ zs, IsRow .u8 W a1 len1 cap1 zs := by
    obtain ⟨fuel, hf⟩ := h1
    rcases open_ints Tryz.underlying22 Tryz.underlying5 (by kernel_rfl) hf with ⟨hcs, _⟩ | ⟨x, l, c, zs, hcs, _, hl, hm, hz, _, hcell, hwz⟩
    · simp [Value.cells] at hcs
      obtain ⟨rfl, rfl, rfl⟩ := hcs
      exact ⟨[], .inl ⟨rfl, rfl, rfl, rfl⟩⟩
    · simp [Value.cells] at hcs
      obtain ⟨rfl, rfl, rfl⟩ := hcs
      exact ⟨zs, .inr ⟨_, rfl, hl, hm, by simpa using hz, hcell, hwz⟩⟩
  clear hA0 hval0
  refine (walk a0 len0 cap0 z0 a1 len1 cap1 z1 W w0 w1).mono fun e W' ⟨he, bel⟩ => ?_
  subst he
  exact ⟨_, rfl, _, _, _, [], _, [], hW', trodAll_mk1 (shut_bool Tryz.underlying4 _), (trodAll_cons_mk (Below.trod laidOut (by kernel_rfl) (of_decide_eq_true (by kernel_rfl)) k0 bel lt0) (trodAll_cons_mk (Below.trod laidOut (by kernel_rfl) (of_decide_eq_true (by kernel_rfl)) k1 bel lt1) trodAll_mk0)), rfl, bel.frame _, fun h => by cases h⟩
theorem over : Rows.fnKeyAloneRow.holds Tryz.pinned (OpenSpec.ofChange Rows.fnKeyAloneSpec) :=
  OpenClaim.holds_of_wide 9 Tryz.f9 rfl rfl rfl rfl rfl rfl rfl ⟨rfl, rfl, rfl, rfl, rfl⟩ rfl rfl rfl rfl rfl (by kernel_rfl) Tryz.func9 (by kernel_rfl)
    (of_decide_eq_true (by kernel_rfl)) (by unfold Func.isWrapper; first | (rw [if_pos (by decide +kernel)]; kernel_rfl) | (rw [if_neg (by decide +kernel)]; exact ⟨rfl, rfl⟩))
    (fun os started H enc _ => lifted os started H enc)
theorem proved : Rows.FnKeyAloneSaid := over
#print axioms proved
end Go.Proofs.YtoocibabceeagabGreat.fnKeyAlone
