/- For every code of at most 1<<20 bytes (longer ones are let pass by the law itself): OpenKey answers as the model's OpenKey; the witness opens the key lock of the secret's key for its message, and for the message with one more letter just if the signature is valid for that, too. -/
import Derived.Test.YtoocibabceeagabGreatRows
import Derived.Test.YtoocibabceeagabGreatUl
import Derived.WalkKit
import Derived.WalkSpells
import Derived.ProofKit
import Derived.OpenShut
import Derived.ShutString
import Derived.Below
import Derived.SliceStrings
namespace Go.Proofs.YtoocibabceeagabGreat.fnOpenKey
open Go.ChangeShapes Go.WideShapes Go.ChangeAt Go.RowKit
open Go.ChangeMaps (open_string shut_string)
theorem opk_getD (s : ByteArray) : [s].getD 0 ByteArray.empty = s := rfl
theorem opk_sz (t : ByteArray) (h : t.size ≤ 1000) : (t ++ (⟨#[120]⟩ : ByteArray)).size ≤ 1048576 := by
  rw [ByteArray.size_append]
  have : (⟨#[120]⟩ : ByteArray).size = 1 := rfl
  omega
theorem opk_add (t : ByteArray) (h : t.size ≤ 1000) (W : World) : (Op.stringOp .add t ⟨#[120]⟩).run Tryz.prog W = .ok (.string (t ++ ⟨#[120]⟩)) W := ba_add W t ⟨#[120]⟩ (by have : (⟨#[120]⟩ : ByteArray).size = 1 := rfl; omega)
theorem opk_o1 (x : Int) (t : ByteArray) (hx : Wt.sec x = true) : Vm.opens ⟨t, 0, 0⟩ (some (Lk.key (Sg.gp x))) [Wt.sig x t] = true := by
  rw [Wt.opens_key]
  exact Sg.sign_ver x t (Wt.sec_sok hx)
theorem opk_o2 (x : Int) (t u : ByteArray) (v : Bool) (hv : Sg.ver (Sg.gp x) u (Sg.sr x t) (Sg.ss x t) = v) : Vm.opens ⟨u, 0, 0⟩ (some (Lk.key (Sg.gp x))) [Wt.sig x t] = v := by
  rw [Wt.opens_key]
  exact hv
theorem opk_u1 (x : Int) (t : ByteArray) (hx : Wt.sec x = true) (ht : t.size ≤ 1048576) (g c : Nat) (W : World) (h : SR W (some ⟨g, 0, none⟩) 1 [Wt.sig x t]) :
    Calls Tryz.prog 17 #[.string (Jo.bs (Lk.key (Sg.gp x))), .slice (some ⟨g, 0, none⟩) 1 c, .agg #[.string t, .int .i64 0, .int .i64 0]] W fun e w' => e = .returned (.bool true) ∧ Below W.heap.size W w' :=
  unlock_lock (Lk.ok_key (Sg.gp x)) [Wt.sig x t] t 0 0 true (opk_o1 x t hx) (Wt.sizes1 x t) ht g 1 c (by omega) W h
theorem opk_u2 (x : Int) (t u : ByteArray) (v : Bool) (hv : Sg.ver (Sg.gp x) u (Sg.sr x t) (Sg.ss x t) = v) (hu : u.size ≤ 1048576) (g c : Nat) (W : World) (h : SR W (some ⟨g, 0, none⟩) 1 [Wt.sig x t]) :
    Calls Tryz.prog 17 #[.string (Jo.bs (Lk.key (Sg.gp x))), .slice (some ⟨g, 0, none⟩) 1 c, .agg #[.string u, .int .i64 0, .int .i64 0]] W fun e w' => e = .returned (.bool v) ∧ Below W.heap.size W w' :=
  unlock_lock (Lk.ok_key (Sg.gp x)) [Wt.sig x t] u 0 0 v (opk_o2 x t u v hv) (Wt.sizes1 x t) hu g 1 c (by omega) W h
theorem opk_ws (x : Int) (t : ByteArray) (W : World) : Calls Tryz.prog 19 #[.string (Wt.sig x t)] W fun e w' => e = .returned (.agg #[.int .i64 (Sg.sr x t), .int .i64 (Sg.ss x t)]) ∧ Below W.heap.size W w' := by
  have h := wcSig_any (Wt.sig x t) W
  have hri := Jo.read_item (Wt.sig_isd x t)
  have he : Wt.sig x t = Jo.item (Sg.sr x t) (Sg.ss x t) := rfl
  rw [he, hri.1, hri.2] at h
  rw [he]
  exact h
set_option maxRecDepth 100000 in
set_option maxHeartbeats 6400000 in
theorem walk (a0 : Option Addr) (len0 cap0 : Nat) (z0 : List Int) (w : World) (w0 : IsRow .u8 w a0 len0 cap0 z0) :
    Calls Tryz.prog 3 #[.slice a0 len0 cap0] w fun e w' => e = .returned (.bool true) ∧ Below w.heap.size w w' := by
  have hcm := w0.len
  by_cases h : (1048576 : Int) < (len0 : Int)
  · go_enter Tryz.func3, Tryz.ntmps3
    go_wp2
    go_ret
    exact ⟨rfl, Below.refl _ _⟩
  go_enter Tryz.func3, Tryz.ntmps3
  go_wp2_with fail
  refine (drawOpenKey_any a0 len0 cap0 z0 _ w0 (by omega)).mono ?_
  rintro e w1 ⟨x, t, rfl, x0, x1, htz, hb1⟩
  clear w0 h hcm
  have ht : t.size ≤ 1048576 := by omega
  cases hx : Wt.sec x
  · have HIP := Lib.hid (show ∀ W, Calls Tryz.prog 12 #[.int .i64 x, .string t] W (WtR [] false W) from fun W => (implOpenKey_any x t W ht).mono fun e w' h => h.2 hx)
    have HSP := Lib.hid (show ∀ W, Calls Tryz.prog 13 #[.int .i64 x, .string t] W (WtR [] false W) from fun W => OpenKey_no x t W hx)
    unfold WtR at HIP HSP
    simp only [List.length_nil] at HIP HSP
    clear hx
    go_wp2_with fail
    refine (HIP.out _).mono ?_
    rintro e w2 ⟨a2, c2, rfl, hx, hown2⟩
    have hb2 := hb1.trans (hx.mono hb1.size)
    have HS2 := Lib.hid (SR.own hown2).2
    clear hx hown2
    go_wp2_with fail
    refine (HSP.out _).mono ?_
    rintro e w3 ⟨a3, c3, rfl, hx, hown3⟩
    have hb3 := hb2.trans (hx.mono hb2.size)
    have HS3 := Lib.hid (SR.own hown3).2
    replace HS2 := Lib.hid (HS2.out.below hx)
    clear hx hown3 hb2
    go_wp2_with fail
    refine (wcTexts_any a2 a3 0 c2 c3 [] _ HS2.out HS3.out (by omega)).mono ?_
    rintro e w4 ⟨rfl, hx⟩
    have hb4 := hb3.trans (hx.mono hb3.size)
    clear hx hb3
    go_wp2
    go_ret
    exact ⟨rfl, hb4⟩
  have HIP := Lib.hid (show ∀ W, Calls Tryz.prog 12 #[.int .i64 x, .string t] W (WtR ([Wt.sig x t]) true W) from fun W => (implOpenKey_any x t W ht).mono fun e w' h => h.1 hx)
  have HSP := Lib.hid (show ∀ W, Calls Tryz.prog 13 #[.int .i64 x, .string t] W (WtR ([Wt.sig x t]) true W) from fun W => OpenKey_yes x t W hx ht)
  unfold WtR at HIP HSP
  have HKE := Lib.hid (fun W => keyOf_sec x hx W)
  have HLK := Lib.hid (fun W => lockKey_sec x hx W)
  unfold LkY at HLK
  have htx := opk_sz t (by omega)
  have hadd := fun W => opk_add t (by omega) W
  have HU1 := Lib.hid (fun W g c h => opk_u1 x t hx ht g c W h)
  obtain ⟨tx, HTX⟩ : ∃ y, Hid (t ++ (⟨#[120]⟩ : ByteArray) = y) := ⟨_, Lib.hid rfl⟩
  rw [HTX.out] at htx hadd
  obtain ⟨v, HV⟩ : ∃ y, Hid (Sg.ver (Sg.gp x) tx (Sg.sr x t) (Sg.ss x t) = y) := ⟨_, Lib.hid rfl⟩
  have HU2 := Lib.hid (fun W g c h => opk_u2 x t tx v HV.out htx g c W h)
  have HWS := Lib.hid (fun W => opk_ws x t W)
  have HVE := Lib.hid (fun W => implVerify_any (Sg.gp x) (Sg.sr x t) (Sg.ss x t) tx W htx)
  rw [HV.out] at HVE
  obtain ⟨R, HR⟩ : ∃ y, Hid (Sg.sr x t = y) := ⟨_, Lib.hid rfl⟩
  obtain ⟨S, HSS⟩ : ∃ y, Hid (Sg.ss x t = y) := ⟨_, Lib.hid rfl⟩
  rw [HR.out, HSS.out] at HWS HVE
  obtain ⟨K, HK⟩ : ∃ y, Hid (Sg.gp x = y) := ⟨_, Lib.hid rfl⟩
  rw [HK.out] at HKE HLK HU1 HU2 HVE
  obtain ⟨X, HX⟩ : ∃ y, Hid (Jo.bs (Lk.key K) = y) := ⟨_, Lib.hid rfl⟩
  rw [HX.out] at HLK HU1 HU2
  obtain ⟨L, HL⟩ : ∃ L, Hid ([Wt.sig x t] = L) := ⟨_, Lib.hid rfl⟩
  have hnL : L.length = 1 := by rw [← HL.out]; rfl
  rw [HL.out, hnL] at HIP HSP
  clear hnL
  rw [HL.out] at HU1 HU2
  obtain ⟨sg, HSG⟩ : ∃ y, Hid (Wt.sig x t = y) := ⟨_, Lib.hid rfl⟩
  have HL0 : Hid (L.getD 0 ByteArray.empty = sg) := Lib.hid (by rw [← HL.out, ← HSG.out]; exact opk_getD _)
  rw [HSG.out] at HWS
  have hvv : (v == v) = true := by simp
  clear hx HV HR HSS HK HX HSG HL x0 x1 htz HTX
  go_wp2_with fail
  refine (HIP.out _).mono ?_
  rintro e w2 ⟨a2, c2, rfl, hx, hown2⟩
  have hb2 := hb1.trans (hx.mono hb1.size)
  have HS2 := Lib.hid (SR.own hown2).2
  obtain ⟨g, rfl, _, _⟩ := own_someU hown2 (by decide)
  clear hx hown2
  go_wp2_with fail
  refine (HSP.out _).mono ?_
  rintro e w3 ⟨a3, c3, rfl, hx, hown3⟩
  have hb3 := hb2.trans (hx.mono hb2.size)
  have HS3 := Lib.hid (SR.own hown3).2
  replace HS2 := Lib.hid (HS2.out.below hx)
  clear hx hown3 hb2
  go_wp2_with fail
  refine (wcTexts_any (some ⟨g, 0, none⟩) a3 1 c2 c3 L _ HS2.out HS3.out (by omega)).mono ?_
  rintro e w4 ⟨rfl, hx⟩
  have hb4 := hb3.trans (hx.mono hb3.size)
  have HS4 := Lib.hid (HS2.out.below hx)
  clear hx hb3 HS2 HS3
  go_wp2_with fail
  refine (HKE.out _).mono ?_
  rintro e w5 ⟨rfl, hx⟩
  have hb5 := hb4.trans (hx.mono hb4.size)
  have HS5 := Lib.hid (HS4.out.below hx)
  clear hx hb4
  go_wp2_with fail
  refine (HLK.out _).mono ?_
  rintro e w6 ⟨rfl, hx⟩
  have hb6 := hb5.trans (hx.mono hb5.size)
  have HS6 := Lib.hid (HS5.out.below hx)
  clear hx hb5
  have hSof : ∀ W, SR W (some ⟨g, 0, none⟩) 1 L → W.cell? ⟨g, 0, none⟩ = some (.string sg) := fun W h => by
    obtain ⟨b, off, he, _, hc⟩ := h.2 (by omega)
    cases he
    have := hc 0 (by omega)
    rw [HL0.out] at this
    exact this
  have hbd := hb6.drew
  have HSd := Lib.hid (HS6.out.below (Below.refl _ _).drew)
  have hS0 := hSof _ HSd.out
  go_wp2_with fail
  cases v
  all_goals go_region_held3 (fun W => W.cell? ⟨g, 0, none⟩ = some (.string sg)) (first | with_reducible exact hS0 | with_reducible exact hS1 | with_reducible exact hS2 | with_reducible exact hS3 | with_reducible exact hS4)
    (first
      | (go_at_call_of 17 (Value.agg #[Value.string t, Value.int .i64 0, Value.int .i64 0]); refine (HU1.out _ _ _ HSd.out).mono ?_; rintro e V1 ⟨rfl, hx⟩; have hv1 := hbd.trans (hx.mono hbd.size); have HV1 := Lib.hid (HSd.out.below hx); have hS1 := hSof _ HV1.out; clear hx)
      | (go_at_call_of 17 (Value.agg #[Value.string tx, Value.int .i64 0, Value.int .i64 0]); refine (HU2.out _ _ _ HV1.out).mono ?_; rintro e V2 ⟨rfl, hx⟩; have hv2 := hv1.trans (hx.mono hv1.size); have HV2 := Lib.hid (HV1.out.below hx); have hS2 := hSof _ HV2.out; clear hx)
      | (go_at_call 19; refine (HWS.out _).mono ?_; rintro e V3 ⟨rfl, hx⟩; have hv3 := hv2.trans (hx.mono hv2.size); have HV3 := Lib.hid (HV2.out.below hx); have hS3 := hSof _ HV3.out; clear hx)
      | (go_at_call 18; refine (HVE.out _).mono ?_; rintro e V4 ⟨rfl, hx⟩; have hv4 := hv3.trans (hx.mono hv3.size); have HV4 := Lib.hid (HV3.out.below hx); have hS4 := hSof _ HV4.out; clear hx))
  all_goals go_wp2
  all_goals go_ret
  all_goals exact ⟨rfl, hv4⟩
/-! ### The row's step. -/
theorem own : ownKnob Tryz.prog.godebug = none := by kernel_rfl
theorem laidOut : laidOutB Tryz.prog = true := by kernel_rfl
set_option maxRecDepth 100000 in
theorem lifted (os : Os) (started : os.Started) (H : Type) (enc : TypeId × Value → H) :
    ReturnsInHanded {} Tryz.checked os 3 .any (Rows.fnOpenKeySpec.pre6 enc Tryz.prog Tryz.f3 Rows.fnOpenKeyRow.domain false) (Rows.fnOpenKeySpec.post enc Tryz.prog Tryz.f3 false true false false) := by
  refine returnsInHanded_of_change (C := Tryz.checked) own started (by kernel_rfl) Tryz.func3
    (ChangeSpec.witness6 (enc := enc) (C := Tryz.checked) false ⟨#[], #[.slice none 0 0], []⟩ 8 (by kernel_rfl) (by kernel_rfl) (by kernel_rfl) (by kernel_rfl)) ?_
  intro W base args ds gs before hval0 hW hcnd _
  have hval : ∀ (j : Nat) t v, Tryz.f3.params[j]? = some t → args[j]? = some v → Value.okWide Tryz.prog W .any base t v := hval0
  have hW' := hW
  obtain ⟨p, q, hA0, hV, rfl, hfz, hnd⟩ := hW
  have hA : DataW.TrodAll enc Tryz.prog W 0 (fun _ => true) true Tryz.f3.params.toList args.toList ds p := hA0
  rw [Tryz.params3] at hA hval
  obtain ⟨v0, vs0, d0, ds0, p0, q0, hargs, rfl, rfl, h0, r0⟩ := trodAll_cons hA
  obtain ⟨rfl, rfl, rfl⟩ := trodAll_nil r0
  obtain rfl : args = #[v0] := by cases args; simp_all
  obtain ⟨rfl, rfl⟩ := trodVars_none hV
  obtain ⟨a0, len0, cap0, rfl⟩ := okWide_slice Tryz.underlying22 (hval 0 22 v0 rfl rfl)
  have k0 := h0
  have lt0 : ∀ x ∈ p0, x.block < W.heap.size := by obtain ⟨m, hm⟩ := k0; exact DataW.trod_lt m _ _ _ hm
  obtain ⟨z0, w0⟩ : ∃ zs, IsRow .u8 W a0 len0 cap0 zs := by
    obtain ⟨fuel, hf⟩ := h0
    rcases open_ints Tryz.underlying22 Tryz.underlying5 (by kernel_rfl) hf with ⟨hcs, _⟩ | ⟨x, l, c, zs, hcs, _, hl, hm, hz, _, hcell, hwz⟩
    · simp [Value.cells] at hcs
      obtain ⟨rfl, rfl, rfl⟩ := hcs
      exact ⟨[], .inl ⟨rfl, rfl, rfl, rfl⟩⟩
    · simp [Value.cells] at hcs
      obtain ⟨rfl, rfl, rfl⟩ := hcs
      exact ⟨zs, .inr ⟨_, rfl, hl, hm, by simpa using hz, hcell, hwz⟩⟩
  clear hA0 hval0
  refine (walk a0 len0 cap0 z0 W w0).mono fun e W' ⟨he, bel⟩ => ?_
  subst he
  exact ⟨_, rfl, _, _, _, [], _, [], hW', trodAll_mk1 (shut_bool Tryz.underlying4 _), (trodAll_cons_mk (Below.trod laidOut (by kernel_rfl) (of_decide_eq_true (by kernel_rfl)) k0 bel lt0) trodAll_mk0), rfl, bel.frame _, fun h => by cases h⟩
theorem over : Rows.fnOpenKeyRow.holds Tryz.pinned (OpenSpec.ofChange Rows.fnOpenKeySpec) :=
  OpenClaim.holds_of_wide 3 Tryz.f3 rfl rfl rfl rfl rfl rfl rfl ⟨rfl, rfl, rfl, rfl, rfl⟩ rfl rfl rfl rfl rfl (by kernel_rfl) Tryz.func3 (by kernel_rfl)
    (of_decide_eq_true (by kernel_rfl)) (by unfold Func.isWrapper; first | (rw [if_pos (by decide +kernel)]; kernel_rfl) | (rw [if_neg (by decide +kernel)]; exact ⟨rfl, rfl⟩))
    (fun os started H enc _ => lifted os started H enc)
theorem proved : Rows.FnOpenKeySaid := over
#print axioms proved
end Go.Proofs.YtoocibabceeagabGreat.fnOpenKey
