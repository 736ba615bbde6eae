/- For every number, every list of at most 1<<20 numbers and every leaf of at most 1<<20 bytes (longer ones are let pass by the law itself), PeaksAdd of the program answers as the model's PeaksAdd, leaves the list as it was, and hands back numbers that share no memory with the list or with what another call hands back. -/
import Derived.Test.YtdgepneaeieogaaRows
import Derived.Test.YtdgepneaeieogaaMh
import Derived.Test.YtdgepneaeieogaaSm
import Derived.WalkKit
import Derived.WalkSpells
import Derived.ProofKit
import Derived.OpenShut
import Derived.ShutString
import Derived.Below
import Derived.SliceStrings
namespace Go.Proofs.Ytdgepneaeieogaa.fnExactPeaksAdd
open Go.ChangeShapes Go.WideShapes Go.ChangeAt Go.RowKit
open Go.ChangeMaps (open_string shut_string)
set_option maxRecDepth 100000 in
set_option maxHeartbeats 1600000 in
theorem walk (nn : Int) (_ : (Lit.int .i64 nn).wf = true) (a0 : Option Addr) (len0 cap0 : Nat) (z0 : List Int) (s : ByteArray) (_ : s.size ≤ maxLen) (w : World) (w0 : IsInts w a0 len0 cap0 z0) :
    Calls Try.prog 8 #[.int .i64 nn, .slice a0 len0 cap0, .string s] w fun e w' => e = .returned (.bool true) ∧ Below w.heap.size w w' := by
  obtain ⟨hl0, hl1, hl2⟩ := w0.len
  have HS := Lib.hid w0.ir
  clear w0
  generalize z0.take len0 = ss at HS
  by_cases hbig : (1048576 : Int) < (len0 : Int)
  · go_enter Try.func8, Try.ntmps8
    go_wp2
    go_ret
    exact ⟨rfl, Below.refl _ _⟩
  by_cases hsz : (1048576 : Int) < (s.size : Int)
  · go_enter Try.func8, Try.ntmps8
    go_wp2
    go_ret
    exact ⟨rfl, Below.refl _ _⟩
  obtain ⟨L, HL⟩ : ∃ L, Hid (Me.paL nn ss s = L) := ⟨_, Lib.hid rfl⟩
  obtain ⟨ok, HO⟩ : ∃ ok, Hid (Me.paB nn ss = ok) := ⟨_, Lib.hid rfl⟩
  have hlen : L.length ≤ 64 := by
    rw [← HL.out]
    exact Me.paL_len nn ss s
  have HSP : Hid (∀ W a, IR W a len0 ss → Calls Try.prog 27 #[.int .i64 nn, .slice a len0 len0, .string s] W (OwnIB W.heap.size L ok W)) := Lib.hid fun W a h => by
    have := specPeaksAdd_any nn a len0 len0 ss s W h (by omega) (by omega)
    rw [HL.out, HO.out] at this
    exact this
  have HIP : Hid (∀ W g, IR W (some g) len0 ss → Calls Try.prog 28 #[.int .i64 nn, .slice (some g) len0 len0, .string s] W (OwnIB W.heap.size L ok W)) := Lib.hid fun W g h => by
    have := implPeaksAdd_any nn (some g) len0 len0 ss s W h (fun h => by cases h) (Nat.le_refl _) (by omega) (by omega)
    rw [HL.out, HO.out] at this
    exact this
  obtain ⟨n, hn⟩ : ∃ n, L.length = n := ⟨_, rfl⟩
  unfold OwnIB at HSP HIP
  rw [hn] at HSP HIP hlen
  clear hn
  go_enter Try.func8, Try.ntmps8
  go_wp2_with fail
  refine (toIntS_any a0 len0 cap0 ss _ HS.out (by omega)).mono ?_
  rintro e w2 ⟨b2, rfl, hn2, hs2, hb2⟩
  have HS2 := Lib.hid hs2
  have hb12 := hb2
  clear hs2 hb2
  go_wp2_with fail
  refine (HSP.out _ _ HS2.out).mono ?_
  rintro e w3 ⟨a3, cp3, rfl, hb3, hown3⟩
  have HR3 := Lib.hid (IR.own hown3).2
  have hb13 := hb12.trans (hb3.mono hb12.size)
  clear hown3 hb3
  go_wp2_with fail
  refine (toIntS_own a0 len0 cap0 ss _ (HS.out.below hb13) (by omega)).mono ?_
  rintro e w4 ⟨b4, rfl, hn4, hs4, hb4, hl4, hc4⟩
  have HS4 := Lib.hid hs4
  have HR4 := Lib.hid (HR3.out.below hb4)
  have HNE34 := Lib.hid (HR3.out.ne hn4)
  have HW4 : Hid (Wr w4 b4 len0) := Lib.hid ⟨fun _ => hl4, hc4⟩
  have hb14 := hb13.trans (hb4.mono hb13.size)
  have hwb4 : w.heap.size ≤ b4 := Nat.le_trans hb13.size hn4
  clear hs4 hb4 hc4 HR3 hn4
  go_wp2_with fail
  refine (HIP.out _ _ HS4.out).mono ?_
  rintro e w5 ⟨a5, cp5, rfl, hb5, hown5⟩
  have HR5 := Lib.hid (IR.own hown5).2
  obtain ⟨g, hg1, hg2, hg3, hg4⟩ := own_cellsN hown5 hb5.size
  have hgb : g ≠ b4 := by omega
  have hwg : w.heap.size ≤ g := Nat.le_trans hb14.size hg3
  have HNE54 := Lib.hid (addr_ne hg1 hgb)
  have HG := Lib.hid hg1
  have HW5 : Hid (Wr w5 g n) := Lib.hid ⟨hg2, hg4⟩
  have HW45 := Lib.hid (HW4.out.below hb5)
  have HS5 := Lib.hid (HS4.out.below hb5)
  have HR35 := Lib.hid (HR4.out.below hb5)
  have HNE3g : Hid (0 < n → ∀ b off, a3 = some ⟨b, off, none⟩ → some b ≠ some g) := Lib.hid (HR4.out.ne hg3)
  have hb15 := hb14.trans (hb5.mono hb14.size)
  clear hown5 hb5 hg1 hg2 hg3 hg4 hb14 hl4
  cases ok
  all_goals
    go_wp2_with fail
    refine (eqIntS_any a5 a3 n cp5 cp3 L _ HR5.out HR35.out (by omega)).mono ?_
    rintro e w6 ⟨rfl, hb6⟩
    have HR6 := Lib.hid (HR5.out.below hb6)
    have HR36 := Lib.hid (HR35.out.below hb6)
    have HW46 := Lib.hid (HW45.out.below hb6)
    have HW6 := Lib.hid (HW5.out.below hb6)
    have HS6 := Lib.hid (HS5.out.below hb6)
    have hb16 := hb15.trans (hb6.mono hb15.size)
    clear hb6
    go_wp2_with fail
    refine (toIntS_any a0 len0 cap0 ss _ (HS.out.below hb16) (by omega)).mono ?_
    rintro e w7 ⟨b7, rfl, hn7, hs7, hb7⟩
    have HS7 := Lib.hid hs7
    have HS67 := Lib.hid (HS6.out.below hb7)
    have HR7 := Lib.hid (HR6.out.below hb7)
    have HR37 := Lib.hid (HR36.out.below hb7)
    have HW47 := Lib.hid (HW46.out.below hb7)
    have HW7 := Lib.hid (HW6.out.below hb7)
    have hb17 := hb16.trans (hb7.mono hb16.size)
    clear hb7 hs7
    go_wp2_with fail
    refine (eqIntS_any _ _ len0 len0 len0 ss _ HS67.out HS7.out hl0).mono ?_
    rintro e w8 ⟨rfl, hb8⟩
    have HR8 := Lib.hid (HR7.out.below hb8)
    have HR38 := Lib.hid (HR37.out.below hb8)
    have HW48 := Lib.hid (HW47.out.below hb8)
    have HW8 := Lib.hid (HW7.out.below hb8)
    have hb18 := hb17.trans (hb8.mono hb17.size)
    clear hb8
    go_wp2_with fail
    refine (markIntS_any _ b4 len0 len0 1 _ (fun _ => rfl) HW48.out.1 HW48.out.2 (by omega) (by omega) (by omega)).mono ?_
    rintro e w9 ⟨rfl, hgr9, _⟩
    have HR9 := Lib.hid (HR8.out.grown hgr9 HNE54.out)
    have HR39 := Lib.hid (HR38.out.grown hgr9 HNE34.out)
    have HW9 := Lib.hid (HW8.out.grown hgr9 (by intro h; cases h; exact hgb rfl))
    have hb19 := Below.grown hb18 hgr9 hb18.size (fun j hj => by cases hj; exact hwb4)
    clear hgr9 hb18
    go_wp2_with fail
    refine (eqIntS_any a5 a3 n cp5 cp3 L _ HR9.out HR39.out (by omega)).mono ?_
    rintro e w10 ⟨rfl, hb10⟩
    have HR310 := Lib.hid (HR39.out.below hb10)
    have HW10 := Lib.hid (HW9.out.below hb10)
    have hb20 := hb19.trans (hb10.mono hb19.size)
    clear hb10
    go_wp2_with fail
    refine (markIntS_any a5 g n cp5 1 _ HG.out HW10.out.1 HW10.out.2 (by omega) (by omega) (by omega)).mono ?_
    rintro e w11 ⟨rfl, hgr11, hm11⟩
    have HR311 := Lib.hid (HR310.out.grown hgr11 HNE3g.out)
    have HM11 : Hid (IR w11 a5 n (marksN n)) := Lib.hid ⟨by simp [marksN], fun h0 => ⟨g, 0, HG.out h0, Nat.lt_of_lt_of_le (HW10.out.1 h0) hgr11.size, fun j hj => by rw [Nat.zero_add, marksN_getD _ _ hj]; exact hm11 j hj⟩⟩
    have hb21 := Below.grown hb20 hgr11 hb20.size (fun j hj => by cases hj; exact hwg)
    clear hgr11 hm11 hb20
    go_wp2_with fail
    refine (heldIntS_any a5 n cp5 (marksN n) 1 _ HM11.out (marksN_getD n) (by omega) (by omega) (by omega)).mono ?_
    rintro e w12 ⟨rfl, hb12'⟩
    have HR312 := Lib.hid (HR311.out.below hb12')
    have HM12 := Lib.hid (HM11.out.below hb12')
    have hb22 := hb21.trans (hb12'.mono hb21.size)
    clear hb12' hb21
    go_wp2_with fail
    refine (toIntS_any a0 len0 cap0 ss _ (HS.out.below hb22) (by omega)).mono ?_
    rintro e w13 ⟨b13, rfl, hn13, hs13, hb13'⟩
    have HS13 := Lib.hid hs13
    have HR313 := Lib.hid (HR312.out.below hb13')
    have HM13 := Lib.hid (HM12.out.below hb13')
    have hb23 := hb22.trans (hb13'.mono hb22.size)
    clear hb13' hb22 hs13
    go_wp2_with fail
    refine (HIP.out _ _ HS13.out).mono ?_
    rintro e w14 ⟨a14, cp14, rfl, hb14', hown14⟩
    have HR14 := Lib.hid (IR.own hown14).2
    have HR314 := Lib.hid (HR313.out.below hb14')
    have HM14 := Lib.hid (HM13.out.below hb14')
    have hb24 := hb23.trans (hb14'.mono hb23.size)
    clear hb14' hb23 hown14
    go_wp2_with fail
    refine (eqIntS_any a14 a3 n cp14 cp3 L _ HR14.out HR314.out (by omega)).mono ?_
    rintro e w15 ⟨rfl, hb15'⟩
    have HM15 := Lib.hid (HM14.out.below hb15')
    have hb25 := hb24.trans (hb15'.mono hb24.size)
    clear hb15' hb24
    go_wp2_with fail
    refine (heldIntS_any a5 n cp5 (marksN n) 1 _ HM15.out (marksN_getD n) (by omega) (by omega) (by omega)).mono ?_
    rintro e w16 ⟨rfl, hb16'⟩
    have hb26 := hb25.trans (hb16'.mono hb25.size)
    clear hb16' hb25
    go_wp2
    go_ret
    exact ⟨rfl, hb26⟩
/-! ### The row's step. -/
theorem own : ownKnob Try.prog.godebug = none := by kernel_rfl
theorem laidOut : laidOutB Try.prog = true := by kernel_rfl
set_option maxRecDepth 100000 in
theorem lifted (os : Os) (started : os.Started) (H : Type) (enc : TypeId × Value → H) :
    ReturnsInHanded {} Try.checked os 8 .any (Rows.fnExactPeaksAddSpec.pre6 enc Try.prog Try.f8 Rows.fnExactPeaksAddRow.domain false) (Rows.fnExactPeaksAddSpec.post enc Try.prog Try.f8 false true false false) := by
  refine returnsInHanded_of_change (C := Try.checked) own started (by kernel_rfl) Try.func8
    (ChangeSpec.witness6 (enc := enc) (C := Try.checked) false ⟨#[], #[.int .i64 0, .slice none 0 0, .string ByteArray.empty], []⟩ 8 (by kernel_rfl) (by kernel_rfl) (by kernel_rfl) (by kernel_rfl)) ?_
  intro W base args ds gs before hval0 hW hcnd _
  have hval : ∀ (j : Nat) t v, Try.f8.params[j]? = some t → args[j]? = some v → Value.okWide Try.prog W .any base t v := hval0
  have hW' := hW
  obtain ⟨p, q, hA0, hV, rfl, hfz, hnd⟩ := hW
  have hA : DataW.TrodAll enc Try.prog W 0 (fun _ => true) true Try.f8.params.toList args.toList ds p := hA0
  rw [Try.params8] at hA hval
  obtain ⟨v0, vs0, d0, ds0, p0, q0, hargs, rfl, rfl, h0, r0⟩ := trodAll_cons hA
  obtain ⟨v1, vs1, d1, ds1, p1, q1, rfl, rfl, rfl, h1, r1⟩ := trodAll_cons r0
  obtain ⟨v2, vs2, d2, ds2, p2, q2, rfl, rfl, rfl, h2, r2⟩ := trodAll_cons r1
  obtain ⟨rfl, rfl, rfl⟩ := trodAll_nil r2
  obtain rfl : args = #[v0, v1, v2] := by cases args; simp_all
  obtain ⟨rfl, rfl⟩ := trodVars_none hV
  obtain ⟨a0, rfl, rfl, rfl, w0⟩ := open_int Try.underlying3 (hval 0 3 v0 rfl rfl) h0
  obtain ⟨a1, len1, cap1, rfl⟩ := okWide_slice Try.underlying29 (hval 1 29 v1 rfl rfl)
  have k1 := h1
  have lt1 : ∀ x ∈ p1, x.block < W.heap.size := by obtain ⟨m, hm⟩ := k1; exact DataW.trod_lt m _ _ _ hm
  obtain ⟨z1, w1⟩ : ∃ zs, IsInts W a1 len1 cap1 zs := by
    obtain ⟨fuel, hf⟩ := h1
    rcases open_ints Try.underlying29 Try.underlying3 (by kernel_rfl) hf with ⟨hcs, _⟩ | ⟨x, l, c, zs, hcs, _, hl, hm, hz, _, hcell, hwz⟩
    · simp [Value.cells] at hcs
      obtain ⟨rfl, rfl, rfl⟩ := hcs
      exact ⟨[], .inl ⟨rfl, rfl, rfl, rfl⟩⟩
    · simp [Value.cells] at hcs
      obtain ⟨rfl, rfl, rfl⟩ := hcs
      exact ⟨zs, .inr ⟨_, rfl, hl, hm, by simpa using hz, hcell, hwz⟩⟩
  obtain ⟨a2, rfl, rfl, rfl, w2⟩ := open_string Try.underlying9 (hval 2 9 v2 rfl rfl) h2
  clear hA0 hval0
  refine (walk a0 w0 a1 len1 cap1 z1 a2 w2 W w1).mono fun e W' ⟨he, bel⟩ => ?_
  subst he
  exact ⟨_, rfl, _, _, _, [], _, [], hW', trodAll_mk1 (shut_bool Try.underlying4 _), (trodAll_cons_mk (shut_int Try.underlying3 w0) (trodAll_cons_mk (Below.trod laidOut (by kernel_rfl) (of_decide_eq_true (by kernel_rfl)) k1 bel lt1) (trodAll_cons_mk (shut_string Try.underlying9 w2) trodAll_mk0))), rfl, bel.frame _, fun h => by cases h⟩
theorem over : Rows.fnExactPeaksAddRow.holds Try.pinned (OpenSpec.ofChange Rows.fnExactPeaksAddSpec) :=
  OpenClaim.holds_of_wide 8 Try.f8 rfl rfl rfl rfl rfl rfl rfl ⟨rfl, rfl, rfl, rfl, rfl⟩ rfl rfl rfl rfl rfl (by kernel_rfl) Try.func8 (by kernel_rfl)
    (of_decide_eq_true (by kernel_rfl)) (by unfold Func.isWrapper; first | (rw [if_pos (by decide +kernel)]; kernel_rfl) | (rw [if_neg (by decide +kernel)]; exact ⟨rfl, rfl⟩))
    (fun os started H enc _ => lifted os started H enc)
theorem proved : Rows.FnExactPeaksAddSaid := over
#print axioms proved
end Go.Proofs.Ytdgepneaeieogaa.fnExactPeaksAdd
