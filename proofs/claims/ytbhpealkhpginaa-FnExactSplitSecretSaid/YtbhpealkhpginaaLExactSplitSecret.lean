/- For every secret, every list of at most 1<<20 coefficients (longer ones are let pass by the law itself) and every number of shares, SplitSecret of the program answers as the model's SplitSecret, leaves the coefficients as they were, and hands back shares that share no memory with the coefficients or with what another call hands back. -/
import Derived.Test.YtbhpealkhpginaaRows
import Derived.Test.YtbhpealkhpginaaQy
import Derived.Test.YtbhpealkhpginaaSm
import Derived.WalkKit
import Derived.WalkSpells
import Derived.ProofKit
import Derived.OpenShut
import Derived.ShutString
import Derived.Below
import Derived.SliceStrings
namespace Go.Proofs.Ytbhpealkhpginaa.fnExactSplitSecret
open Go.ChangeShapes Go.WideShapes Go.ChangeAt Go.RowKit
open Go.ChangeMaps (open_string shut_string)
set_option maxRecDepth 100000 in
set_option maxHeartbeats 3200000 in
theorem walk (s : Int) (_ : (Lit.int .i64 s).wf = true) (a1 : Option Addr) (len1 cap1 : Nat) (z1 : List Int) (n : Int) (_ : (Lit.int .i64 n).wf = true) (w : World) (w1 : IsInts w a1 len1 cap1 z1) :
    Calls Try.prog 8 #[.int .i64 s, .slice a1 len1 cap1, .int .i64 n] w fun e w' => e = .returned (.bool true) ∧ Below w.heap.size w w' := by
  obtain ⟨hl0, hl1, hl2⟩ := w1.len
  have HS := Lib.hid w1.ir
  clear w1
  generalize z1.take len1 = ss at HS
  by_cases hbig : (1048576 : Int) < (len1 : Int)
  · go_enter Try.func8, Try.ntmps8
    go_wp2
    go_ret
    exact ⟨rfl, Below.refl _ _⟩
  have HSP : Hid (∀ W b, IR W (some ⟨b, 0, none⟩) len1 ss → Calls Try.prog 14 #[.int .i64 s, .slice (some ⟨b, 0, none⟩) len1 len1, .int .i64 n] W (SP s ss n W)) := Lib.hid fun W b h => specSplitSecret_any s _ len1 len1 ss n W h (by omega)
  have HIP : Hid (∀ W b, IR W (some ⟨b, 0, none⟩) len1 ss → Calls Try.prog 13 #[.int .i64 s, .slice (some ⟨b, 0, none⟩) len1 len1, .int .i64 n] W (SP s ss n W)) := Lib.hid fun W b h => implSplitSecret_any s _ len1 len1 ss n W h (by omega)
  cases hok : Po.spOk s ss n
  · have HOK := Lib.hid hok
    clear hok
    go_enter Try.func8, Try.ntmps8
    go_wp2_with fail
    refine (toIntS_any a1 len1 cap1 ss _ HS.out (by omega)).mono ?_
    rintro e w2 ⟨b2, rfl, hn2, hs2, hb2⟩
    have HS2 := Lib.hid hs2
    clear hs2 hn2
    go_wp2_with fail
    refine (HSP.out _ _ HS2.out).mono ?_
    rintro e w3 hq3
    obtain ⟨hb3, rfl⟩ := hq3.nope HOK.out
    have hc3 := below_after hb2 hb3
    clear hq3 hb2 hb3 HS2 HSP
    go_wp2_with fail
    refine (toIntS_own a1 len1 cap1 ss _ (HS.out.below hc3) (by omega)).mono ?_
    rintro e w4 ⟨b4, rfl, hn4, hs4, hb4, hl4, hw4⟩
    have HS4 := Lib.hid hs4
    have HW4 : Hid (Wr w4 b4 len1) := Lib.hid ⟨fun _ => hl4, hw4⟩
    have hwb4 : w.heap.size ≤ b4 := Nat.le_trans hc3.size hn4
    have hc4 := below_after hc3 hb4
    clear hs4 hw4 hb4 hc3
    go_wp2_with fail
    refine (HIP.out _ _ HS4.out).mono ?_
    rintro e w5 hq5
    obtain ⟨hb5, rfl⟩ := hq5.nope HOK.out
    have HS5 := Lib.hid (HS4.out.below hb5)
    have HW5 := Lib.hid (HW4.out.below hb5)
    have hc5 := below_after hc4 hb5
    clear hq5 hb5 HS4 HW4 hc4 hl4 hn4
    go_wp2_with fail
    refine (eqPartS_nil _).mono ?_
    rintro e w6 ⟨rfl, hb6⟩
    have HS6 := Lib.hid (HS5.out.below hb6)
    have HW6 := Lib.hid (HW5.out.below hb6)
    have hc6 := below_after hc5 hb6
    clear hb6 HS5 HW5 hc5
    go_wp2_with fail
    refine (toIntS_any a1 len1 cap1 ss _ (HS.out.below hc6) (by omega)).mono ?_
    rintro e w7 ⟨b7, rfl, hn7, hs7, hb7⟩
    have HS7 := Lib.hid hs7
    have HS67 := Lib.hid (HS6.out.below hb7)
    have HW7 := Lib.hid (HW6.out.below hb7)
    have hc7 := below_after hc6 hb7
    clear hb7 hs7 hn7 HS6 HW6 hc6
    go_wp2_with fail
    refine (eqIntS_any _ _ len1 len1 len1 ss _ HS67.out HS7.out hl0).mono ?_
    rintro e w8 ⟨rfl, hb8⟩
    have HW8 := Lib.hid (HW7.out.below hb8)
    have hc8 := below_after hc7 hb8
    clear hb8 HS67 HS7 HW7 hc7
    go_wp2_with fail
    refine (markIntS_any _ b4 len1 len1 1 _ (fun _ => rfl) HW8.out.1 HW8.out.2 (by omega) (by omega) (by omega)).mono ?_
    rintro e w9 ⟨rfl, hgr9, _⟩
    have hc9 := Below.grown hc8 hgr9 hc8.size (fun j hj => by cases hj; exact hwb4)
    clear hgr9 HW8 hc8
    go_wp2_with fail
    refine (eqPartS_nil _).mono ?_
    rintro e w10 ⟨rfl, hb10⟩
    have hc10 := below_after hc9 hb10
    clear hb10 hc9
    go_wp2_with fail
    refine (markPartS_nil _).mono ?_
    rintro e w11 ⟨rfl, hb11⟩
    have hc11 := below_after hc10 hb11
    clear hb11 hc10
    go_wp2_with fail
    refine (heldPartS_nil _).mono ?_
    rintro e w12 ⟨rfl, hb12⟩
    have hc12 := below_after hc11 hb12
    clear hb12 hc11
    go_wp2_with fail
    refine (toIntS_any a1 len1 cap1 ss _ (HS.out.below hc12) (by omega)).mono ?_
    rintro e w13 ⟨b13, rfl, hn13, hs13, hb13⟩
    have HS13 := Lib.hid hs13
    have hc13 := below_after hc12 hb13
    clear hb13 hs13 hn13 hc12
    go_wp2_with fail
    refine (HIP.out _ _ HS13.out).mono ?_
    rintro e w14 hq14
    obtain ⟨hb14, rfl⟩ := hq14.nope HOK.out
    have hc14 := below_after hc13 hb14
    clear hq14 hb14 HS13 hc13 HIP
    go_wp2_with fail
    refine (eqPartS_nil _).mono ?_
    rintro e w15 ⟨rfl, hb15⟩
    have hc15 := below_after hc14 hb15
    clear hb15 hc14
    go_wp2_with fail
    refine (heldPartS_nil _).mono ?_
    rintro e w16 ⟨rfl, hb16⟩
    have hc16 := below_after hc15 hb16
    clear hb16 hc15
    go_wp2
    go_ret
    exact ⟨rfl, hc16⟩
  · have HOK := Lib.hid hok
    obtain ⟨m, rfl⟩ := Int.eq_ofNat_of_zero_le (show 0 ≤ n by have := (Po.spOk_iff s ss n).mp hok; omega)
    have hm8 : m ≤ 8 := by have := (Po.spOk_iff s ss (m : Int)).mp hok; omega
    clear hok
    obtain ⟨L, HL⟩ : ∃ L, Hid (Po.sh (s :: ss) (Po.to m) = L) := ⟨_, Lib.hid rfl⟩
    go_enter Try.func8, Try.ntmps8
    go_wp2_with fail
    refine (toIntS_any a1 len1 cap1 ss _ HS.out (by omega)).mono ?_
    rintro e w2 ⟨b2, rfl, hn2, hs2, hb2⟩
    have HS2 := Lib.hid hs2
    clear hs2 hn2
    go_wp2_with fail
    refine (HSP.out _ _ HS2.out).mono ?_
    rintro e w3 hq3
    obtain ⟨hb3, g3, cp3, rfl, own3⟩ := hq3.yes HOK.out
    rw [HL.out] at own3
    have HQ3 := Lib.hid (QR.own own3).2
    have hg3 : g3 < w3.heap.size := (own3.lt _ rfl).2
    clear own3
    have hc3 := below_after hb2 hb3
    clear hq3 hb2 hb3 HS2 HSP
    go_wp2_with fail
    refine (toIntS_own a1 len1 cap1 ss _ (HS.out.below hc3) (by omega)).mono ?_
    rintro e w4 ⟨b4, rfl, hn4, hs4, hb4, hl4, hw4⟩
    have HS4 := Lib.hid hs4
    have HW4 : Hid (Wr w4 b4 len1) := Lib.hid ⟨fun _ => hl4, hw4⟩
    have hwb4 : w.heap.size ≤ b4 := Nat.le_trans hc3.size hn4
    have HQ34 := Lib.hid (HQ3.out.below hb4)
    have hg34 : g3 ≠ b4 := by omega
    clear HQ3
    have hc4 := below_after hc3 hb4
    clear hs4 hw4 hb4 hc3
    go_wp2_with fail
    refine (HIP.out _ _ HS4.out).mono ?_
    rintro e w5 hq5
    obtain ⟨hb5, g5, cp5, rfl, own5⟩ := hq5.yes HOK.out
    rw [HL.out] at own5
    have HQ5 := Lib.hid (QR.own own5).2
    have HM5 := Lib.hid (MB.of_own (marksP m) own5)
    have hg5 : w4.heap.size ≤ g5 := (own5.lt _ rfl).1
    have hg54 : g5 ≠ b4 := by omega
    have hg53 : g3 ≠ g5 := by have := hc4.size; omega
    have hwg : w.heap.size ≤ g5 := Nat.le_trans hc4.size hg5
    have HQ35 := Lib.hid (HQ34.out.below hb5)
    clear own5 HQ34
    have HS5 := Lib.hid (HS4.out.below hb5)
    have HW5 := Lib.hid (HW4.out.below hb5)
    have hc5 := below_after hc4 hb5
    clear hq5 hb5 HS4 HW4 hc4 hl4 hn4
    go_wp2_with fail
    refine (eqPartS_any g5 g3 m cp5 cp3 L _ HQ5.out HQ35.out (by omega)).mono ?_
    rintro e w6 ⟨rfl, hb6⟩
    have HS6 := Lib.hid (HS5.out.below hb6)
    have HW6 := Lib.hid (HW5.out.below hb6)
    have HQ6 := Lib.hid (HQ5.out.below hb6)
    have HM6 := Lib.hid (HM5.out.below hb6)
    have HQ36 := Lib.hid (HQ35.out.below hb6)
    clear HQ5 HM5 HQ35
    have hc6 := below_after hc5 hb6
    clear hb6 HS5 HW5 hc5
    go_wp2_with fail
    refine (toIntS_any a1 len1 cap1 ss _ (HS.out.below hc6) (by omega)).mono ?_
    rintro e w7 ⟨b7, rfl, hn7, hs7, hb7⟩
    have HS7 := Lib.hid hs7
    have HS67 := Lib.hid (HS6.out.below hb7)
    have HW7 := Lib.hid (HW6.out.below hb7)
    have HQ7 := Lib.hid (HQ6.out.below hb7)
    have HM7 := Lib.hid (HM6.out.below hb7)
    have HQ37 := Lib.hid (HQ36.out.below hb7)
    clear HQ6 HM6 HQ36
    have hc7 := below_after hc6 hb7
    clear hb7 hs7 hn7 HS6 HW6 hc6
    go_wp2_with fail
    refine (eqIntS_any _ _ len1 len1 len1 ss _ HS67.out HS7.out hl0).mono ?_
    rintro e w8 ⟨rfl, hb8⟩
    have HW8 := Lib.hid (HW7.out.below hb8)
    have HQ8 := Lib.hid (HQ7.out.below hb8)
    have HM8 := Lib.hid (HM7.out.below hb8)
    have HQ38 := Lib.hid (HQ37.out.below hb8)
    clear HQ7 HM7 HQ37
    have hc8 := below_after hc7 hb8
    clear hb8 HS67 HS7 HW7 hc7
    go_wp2_with fail
    refine (markIntS_any _ b4 len1 len1 1 _ (fun _ => rfl) HW8.out.1 HW8.out.2 (by omega) (by omega) (by omega)).mono ?_
    rintro e w9 ⟨rfl, hgr9, _⟩
    have HQ9 := Lib.hid (HQ8.out.grown hgr9 (fun _ b off he => by cases he; intro h; cases h; exact hg54 rfl))
    have HM9 := Lib.hid (HM8.out.grown hgr9 (by intro h; cases h; exact hg54 rfl))
    have HQ39 := Lib.hid (HQ38.out.grown hgr9 (fun _ b off he => by cases he; intro h; cases h; exact hg34 rfl))
    clear HQ8 HM8 HQ38
    have hc9 := Below.grown hc8 hgr9 hc8.size (fun j hj => by cases hj; exact hwb4)
    clear hgr9 HW8 hc8
    go_wp2_with fail
    refine (eqPartS_any g5 g3 m cp5 cp3 L _ HQ9.out HQ39.out (by omega)).mono ?_
    rintro e w10 ⟨rfl, hb10⟩
    have HM10 := Lib.hid (HM9.out.below hb10)
    have HQ310 := Lib.hid (HQ39.out.below hb10)
    clear HM9 HQ39 HQ9
    have hc10 := below_after hc9 hb10
    clear hb10 hc9
    go_wp2_with fail
    refine (markPartS_any g5 m cp5 _ HM10.out (by omega)).mono ?_
    rintro e w11 ⟨rfl, hgr11, hq11⟩
    have HQ11 := Lib.hid hq11
    have HQ311 := Lib.hid (HQ310.out.grown hgr11 (fun _ b off he => by cases he; intro h; cases h; exact hg53 rfl))
    have hc11 := Below.grown hc10 hgr11 hc10.size (fun j hj => by cases hj; exact hwg)
    clear hgr11 hq11 hc10 HM10 HQ310
    go_wp2_with fail
    refine (heldPartS_any _ m cp5 _ HQ11.out (by omega)).mono ?_
    rintro e w12 ⟨rfl, hb12⟩
    have HQ12 := Lib.hid (HQ11.out.below hb12)
    have HQ312 := Lib.hid (HQ311.out.below hb12)
    clear HQ11 HQ311
    have hc12 := below_after hc11 hb12
    clear hb12 hc11
    go_wp2_with fail
    refine (toIntS_any a1 len1 cap1 ss _ (HS.out.below hc12) (by omega)).mono ?_
    rintro e w13 ⟨b13, rfl, hn13, hs13, hb13⟩
    have HS13 := Lib.hid hs13
    have HQ13 := Lib.hid (HQ12.out.below hb13)
    have HQ313 := Lib.hid (HQ312.out.below hb13)
    clear HQ12 HQ312
    have hc13 := below_after hc12 hb13
    clear hb13 hs13 hn13 hc12
    go_wp2_with fail
    refine (HIP.out _ _ HS13.out).mono ?_
    rintro e w14 hq14
    obtain ⟨hb14, g14, cp14, rfl, own14⟩ := hq14.yes HOK.out
    rw [HL.out] at own14
    have HQ14 := Lib.hid (QR.own own14).2
    have HQ514 := Lib.hid (HQ13.out.below hb14)
    have HQ314 := Lib.hid (HQ313.out.below hb14)
    clear own14 HQ13 HQ313
    have hc14 := below_after hc13 hb14
    clear hq14 hb14 HS13 hc13 HIP
    go_wp2_with fail
    refine (eqPartS_any g14 g3 m cp14 cp3 L _ HQ14.out HQ314.out (by omega)).mono ?_
    rintro e w15 ⟨rfl, hb15⟩
    have HQ515 := Lib.hid (HQ514.out.below hb15)
    clear HQ514 HQ14 HQ314
    have hc15 := below_after hc14 hb15
    clear hb15 hc14
    go_wp2_with fail
    refine (heldPartS_any _ m cp5 _ HQ515.out (by omega)).mono ?_
    rintro e w16 ⟨rfl, hb16⟩
    have hc16 := below_after hc15 hb16
    clear hb16 hc15
    go_wp2
    go_ret
    exact ⟨rfl, hc16⟩
/-! ### The row's step. -/
theorem own : ownKnob Try.prog.godebug = none := by kernel_rfl
theorem laidOut : laidOutB Try.prog = true := by kernel_rfl
set_option maxRecDepth 100000 in
theorem lifted (os : Os) (started : os.Started) (H : Type) (enc : TypeId × Value → H) :
    ReturnsInHanded {} Try.checked os 8 .any (Rows.fnExactSplitSecretSpec.pre6 enc Try.prog Try.f8 Rows.fnExactSplitSecretRow.domain false) (Rows.fnExactSplitSecretSpec.post enc Try.prog Try.f8 false true false false) := by
  refine returnsInHanded_of_change (C := Try.checked) own started (by kernel_rfl) Try.func8
    (ChangeSpec.witness6 (enc := enc) (C := Try.checked) false ⟨#[], #[.int .i64 0, .slice none 0 0, .int .i64 0], []⟩ 8 (by kernel_rfl) (by kernel_rfl) (by kernel_rfl) (by kernel_rfl)) ?_
  intro W base args ds gs before hval0 hW hcnd _
  have hval : ∀ (j : Nat) t v, Try.f8.params[j]? = some t → args[j]? = some v → Value.okWide Try.prog W .any base t v := hval0
  have hW' := hW
  obtain ⟨p, q, hA0, hV, rfl, hfz, hnd⟩ := hW
  have hA : DataW.TrodAll enc Try.prog W 0 (fun _ => true) true Try.f8.params.toList args.toList ds p := hA0
  rw [Try.params8] at hA hval
  obtain ⟨v0, vs0, d0, ds0, p0, q0, hargs, rfl, rfl, h0, r0⟩ := trodAll_cons hA
  obtain ⟨v1, vs1, d1, ds1, p1, q1, rfl, rfl, rfl, h1, r1⟩ := trodAll_cons r0
  obtain ⟨v2, vs2, d2, ds2, p2, q2, rfl, rfl, rfl, h2, r2⟩ := trodAll_cons r1
  obtain ⟨rfl, rfl, rfl⟩ := trodAll_nil r2
  obtain rfl : args = #[v0, v1, v2] := by cases args; simp_all
  obtain ⟨rfl, rfl⟩ := trodVars_none hV
  obtain ⟨a0, rfl, rfl, rfl, w0⟩ := open_int Try.underlying3 (hval 0 3 v0 rfl rfl) h0
  obtain ⟨a1, len1, cap1, rfl⟩ := okWide_slice Try.underlying23 (hval 1 23 v1 rfl rfl)
  have k1 := h1
  have lt1 : ∀ x ∈ p1, x.block < W.heap.size := by obtain ⟨m, hm⟩ := k1; exact DataW.trod_lt m _ _ _ hm
  obtain ⟨z1, w1⟩ : ∃ zs, IsInts W a1 len1 cap1 zs := by
    obtain ⟨fuel, hf⟩ := h1
    rcases open_ints Try.underlying23 Try.underlying3 (by kernel_rfl) hf with ⟨hcs, _⟩ | ⟨x, l, c, zs, hcs, _, hl, hm, hz, _, hcell, hwz⟩
    · simp [Value.cells] at hcs
      obtain ⟨rfl, rfl, rfl⟩ := hcs
      exact ⟨[], .inl ⟨rfl, rfl, rfl, rfl⟩⟩
    · simp [Value.cells] at hcs
      obtain ⟨rfl, rfl, rfl⟩ := hcs
      exact ⟨zs, .inr ⟨_, rfl, hl, hm, by simpa using hz, hcell, hwz⟩⟩
  obtain ⟨a2, rfl, rfl, rfl, w2⟩ := open_int Try.underlying3 (hval 2 3 v2 rfl rfl) h2
  clear hA0 hval0
  refine (walk a0 w0 a1 len1 cap1 z1 a2 w2 W w1).mono fun e W' ⟨he, bel⟩ => ?_
  subst he
  exact ⟨_, rfl, _, _, _, [], _, [], hW', trodAll_mk1 (shut_bool Try.underlying4 _), (trodAll_cons_mk (shut_int Try.underlying3 w0) (trodAll_cons_mk (Below.trod laidOut (by kernel_rfl) (of_decide_eq_true (by kernel_rfl)) k1 bel lt1) (trodAll_cons_mk (shut_int Try.underlying3 w2) trodAll_mk0))), rfl, bel.frame _, fun h => by cases h⟩
theorem over : Rows.fnExactSplitSecretRow.holds Try.pinned (OpenSpec.ofChange Rows.fnExactSplitSecretSpec) :=
  OpenClaim.holds_of_wide 8 Try.f8 rfl rfl rfl rfl rfl rfl rfl ⟨rfl, rfl, rfl, rfl, rfl⟩ rfl rfl rfl rfl rfl (by kernel_rfl) Try.func8 (by kernel_rfl)
    (of_decide_eq_true (by kernel_rfl)) (by unfold Func.isWrapper; first | (rw [if_pos (by decide +kernel)]; kernel_rfl) | (rw [if_neg (by decide +kernel)]; exact ⟨rfl, rfl⟩))
    (fun os started H enc _ => lifted os started H enc)
theorem proved : Rows.FnExactSplitSecretSaid := over
#print axioms proved
end Go.Proofs.Ytbhpealkhpginaa.fnExactSplitSecret
