/- For every two codes of at most 1<<20 bytes each (longer ones are let pass by the law itself): MerklePeaks answers as the model's MerklePeaks, and PeaksAdd of a list's peaks and a leaf are the peaks of the list with that leaf behind it. -/
import Derived.Test.YtdgepneaeieogacRows
import Derived.Test.YtdgepneaeieogacDw
import Derived.Test.YtdgepneaeieogacMh
import Derived.Test.YtdgepneaeieogacMk
import Derived.WalkKit
import Derived.WalkSpells
import Derived.ProofKit
import Derived.OpenShut
import Derived.ShutString
import Derived.Below
import Derived.SliceStrings
namespace Go.Proofs.Ytdgepneaeieogac.fnPeaksGrow
open Go.ChangeShapes Go.WideShapes Go.ChangeAt Go.RowKit
open Go.ChangeMaps (open_string shut_string)
theorem ir_keep {w6 w b : World} {a : Option Addr} {n : Nat} {zs : List Int} {row : Option Nat} (h6 : IR w6 a n zs) (h : IR w a n zs) (o : Obj) (hg : (w.alloc o).grownBy b row) (hr : ∀ j, row = some j → w6.heap.size ≤ j) : IR b a n zs :=
  (h.alloc o).grown hg (fun h0 b off he hbg => by
    obtain ⟨b', off', he', hb', _⟩ := h6.2 h0
    rw [he] at he'
    cases he'
    have := hr _ hbg.symm
    omega)
set_option maxRecDepth 100000 in
set_option maxHeartbeats 3200000 in
theorem walk (a0 : Option Addr) (len0 cap0 : Nat) (z0 : List Int) (a1 : Option Addr) (len1 cap1 : Nat) (z1 : List Int) (w : World) (w0 : IsRow .u8 w a0 len0 cap0 z0) (w1 : IsRow .u8 w a1 len1 cap1 z1) :
    Calls Try.prog 5 #[.slice a0 len0 cap0, .slice a1 len1 cap1] w fun e w' => e = .returned (.bool true) ∧ Below w.heap.size w w' := by
  have hcm := w0.len
  have hcm1 := w1.len
  by_cases h : (1048576 : Int) < (len0 : Int)
  · go_enter Try.func5, Try.ntmps5
    go_wp2
    go_ret
    exact ⟨rfl, Below.refl _ _⟩
  by_cases h' : (1048576 : Int) < (len1 : Int)
  · go_enter Try.func5, Try.ntmps5
    go_wp2
    go_ret
    exact ⟨rfl, Below.refl _ _⟩
  obtain ⟨i0, hi, hz0, hz1, hz2⟩ := info_parts info_str
  go_enter Try.func5, Try.ntmps5
  go_wp2_with fail
  refine (drawMerklePeaks_any a0 len0 cap0 z0 _ w0 (by omega)).mono ?_
  rintro e W1 ⟨ss, g, cp, rfl, hm, hz, hb1, hown1⟩
  clear w0
  obtain ⟨hcp1, hcp2⟩ := own_capV hown1
  have HS := Lib.hid (SR.own hown1).2
  have HZ : Hid (∀ s ∈ ss, s.size ≤ 4611686018427387904) := Lib.hid fun s hs => by have := hz s hs; omega
  obtain ⟨n, hn⟩ : ∃ n, ss.length = n := ⟨_, rfl⟩
  have HN := Lib.hid hn
  rw [hn] at hcp1 HS hm
  rw [hn]
  clear hown1 hn
  go_wp2_with fail
  refine (drawDigest_any a1 len1 cap1 z1 _ (w1.below hb1) (by omega)).mono ?_
  rintro e W2 ⟨s, rfl, hsz, hb2⟩
  have HS2 := Lib.hid (HS.out.below hb2)
  have hb12 := hb1.trans (hb2.mono hb1.size)
  clear hb1 hb2 w1
  by_cases hok : n ≤ 32
  · have HPL : Hid (Me.peaksL ss = Me.peaks ss) := Lib.hid (if_pos (by rw [HN.out]; exact hok))
    have HPB : Hid (Me.peaksB ss = true) := Lib.hid (decide_eq_true (by rw [HN.out]; exact hok))
    have HON : Hid ((Me.peaks ss).length = Me.ones n) := Lib.hid (Me.peaks_ones n ss HN.out (by omega))
    have hplen := Me.peaks_len n ss HN.out
    have HPD := Lib.hid (Me.peaks_digests n ss HN.out)
    obtain ⟨p, HPP⟩ : ∃ p, Hid (Me.peaks ss = p) := ⟨_, Lib.hid rfl⟩
    rw [HPP.out] at HPL HON hplen HPD
    obtain ⟨T, HT⟩ : ∃ T, p.length = T := ⟨_, rfl⟩
    have HTT := Lib.hid HT
    go_wp2_with fail
    refine (implMerklePeaks_any _ n cp ss _ HS2.out hcp1 hcp2 HZ.out).mono ?_
    rw [HPL.out, HPB.out]
    rintro e W3 ⟨a3, cp3, rfl, hb3, hown3⟩
    have HI3 := Lib.hid (IR.own hown3).2
    have hcc3 := own_capV hown3
    have HA3 : Hid (a3 = none → cp3 = 0) := Lib.hid fun hb => by
      rcases hown3.2 with ⟨h, _⟩ | ⟨g, cap', cur, h, _⟩
      · simp at h; exact h.2.2
      · rw [hb] at h; simp at h
    have HS3 := Lib.hid (HS2.out.below hb3)
    have hb13 := hb12.trans (hb3.mono hb12.size)
    clear hb12 hb3 hown3
    go_wp2_with fail
    refine (specMerklePeaks_any _ n cp ss _ HS3.out hcp1 hcp2 HZ.out).mono ?_
    rw [HPL.out, HPB.out]
    rintro e W4 ⟨a4, cp4, rfl, hb4, hown4⟩
    have HI4 := Lib.hid (IR.own hown4).2
    have HI34 := Lib.hid (HI3.out.below hb4)
    have HS4 := Lib.hid (HS3.out.below hb4)
    have hb14 := hb13.trans (hb4.mono hb13.size)
    rw [HT] at HI4 HI34 hcc3 hplen
    rw [HT]
    clear hb13 hb4 hown4 HT
    go_wp2_with fail
    refine (wcInts_any a3 a4 T cp3 cp4 p _ HI34.out HI4.out (by omega)).mono ?_
    rintro e W5 ⟨rfl, hb5⟩
    have HI35 := Lib.hid (HI34.out.below hb5)
    have HI45 := Lib.hid (HI4.out.below hb5)
    have HS5 := Lib.hid (HS4.out.below hb5)
    have hb15 := hb14.trans (hb5.mono hb14.size)
    clear hb14 hb5
    by_cases h32 : n = 32
    · subst h32
      clear hok hm
      go_wp2_with fail
      refine (wcInts_any a3 a4 T cp3 cp4 p _ HI35.out HI45.out (by omega)).mono ?_
      rintro e W6 ⟨rfl, hb6⟩
      have hb16 := hb15.trans (hb6.mono hb15.size)
      clear hb15 hb6
      go_wp2
      go_ret
      exact ⟨rfl, hb16⟩
    · have hn31 : n ≤ 31 := by omega
      have hne : ((n : Int) == 32) = false := by simp; omega
      have HPO : Me.paOk (n : Int) p := ⟨by omega, by rw [Int.toNat_natCast]; exact HON.out, HPD.out⟩
      have HAL : Hid (Me.paL (n : Int) p s = Me.peaks (ss ++ [s])) := Lib.hid (by
        rw [Me.paL_yes HPO, Int.toNat_natCast, ← HPP.out]
        exact Me.peaks_grow s n ss HN.out hn31)
      have HAB := Lib.hid (Me.paB_yes HPO)
      have hl2 : (ss ++ [s]).length = n + 1 := by rw [List.length_append, HN.out]; rfl
      have HPL2 : Hid (Me.peaksL (ss ++ [s]) = Me.peaks (ss ++ [s])) := Lib.hid (if_pos (by omega))
      have HPB2 : Hid (Me.peaksB (ss ++ [s]) = true) := Lib.hid (decide_eq_true (by omega))
      have hqlen := Me.peaks_len (n + 1) (ss ++ [s]) hl2
      obtain ⟨q, HQ⟩ : ∃ q, Hid (Me.peaks (ss ++ [s]) = q) := ⟨_, Lib.hid rfl⟩
      rw [HQ.out] at HAL HPL2 hqlen
      have HZ2 : Hid (∀ t ∈ ss ++ [s], t.size ≤ 4611686018427387904) := Lib.hid fun t ht => by
        rcases List.mem_append.1 ht with h | h
        · exact HZ.out t h
        · simp at h; subst h; omega
      have HL2 := Lib.hid hl2
      obtain ⟨sl, HSL⟩ : ∃ l, Hid (ss ++ [s] = l) := ⟨_, Lib.hid rfl⟩
      rw [HSL.out] at HPL2 HPB2 HZ2 HL2
      clear HPO hl2 h32
      go_wp2_with fail
      refine (implPeaksAdd_any (n : Int) a3 T cp3 p s _ HI35.out HA3.out hcc3.1 hcc3.2 (by omega)).mono ?_
      rw [HAL.out, HAB.out]
      rintro e W6 ⟨a6, cp6, rfl, hb6, hown6⟩
      have HI6 := Lib.hid (IR.own hown6).2
      have HS6 := Lib.hid (HS5.out.below hb6)
      have hb16 := hb15.trans (hb6.mono hb15.size)
      clear hb15 hb6 hown6
      have hle := hb16.size
      have hown0 := World.ownsRow_made (e := 9) (size := 1) (base := W6.heap.size) W6 #[] 0 (Nat.le_refl _) (by decide) rfl
      have HNW : Hid (∀ j u, (ss.map Value.string)[j]? = some u → (W6.alloc (.cells #[] 9)).cell? ((⟨g, 0, none⟩ : Addr).add j) = some u) := Lib.hid (HS6.out.alloc _).news
      have HST : Hid (∀ u ∈ ss.map Value.string, u.oneCell' = true) := Lib.hid (by
        intro u hu
        obtain ⟨t, _, rfl⟩ := List.mem_map.1 hu
        rfl)
      have hsl : (ss.map Value.string).length = n * 1 := by rw [List.length_map, HN.out]; omega
      go_wp2_with (at_builtin; refine wpList_append_own _ rfl _ _ 33 rfl W6.heap.size 9 i0 (.string ByteArray.empty) 1 16 Try.underlying33 hi hz0 hz1 hz2 rfl (by decide) _ _ _ rfl hown0 ⟨g, 0, none⟩ n cp (ss.map Value.string) rfl hsl HNW.out HST.out ?c3 ?c4 ?c5 ?_)
      case c3 => unfold maxLen; omega
      case c4 => omega
      case c5 => simp
      intro v7 W7 hown7 hgrow7 _
      have hb17 := (hb16.alloc hle (.cells #[] 9)).grown hgrow7 (by simp; omega) (fun j hj => Nat.le_trans hle (hown0.lt _ hj).1)
      have hle7 := hb17.size
      have hI7 := ir_keep HI6.out HI6.out _ hgrow7 (fun j hj => (hown0.lt _ hj).1)
      have hle67 : W6.heap.size ≤ W7.heap.size := Nat.le_trans (by simp) hgrow7.size
      clear hown0 hgrow7 hb16 hsl
      go_wp2_with (at_builtin; refine wpList_append_own _ rfl _ _ 33 rfl W6.heap.size 9 i0 (.string ByteArray.empty) 1 16 Try.underlying33 hi hz0 hz1 hz2 rfl (by decide) _ _ _ rfl (hown7.alloc _) ⟨W7.heap.size, 0, none⟩ 1 1 [.string s] rfl rfl ?d1 ?d2 ?d3 ?d4 ?d5 ?_)
      case d1 => exact one_new _ _ _
      case d2 => intro u hu; simp at hu; subst hu; rfl
      case d3 => unfold maxLen; omega
      case d4 => omega
      case d5 => simp; omega
      intro v8 W8 hown8 hgrow8 _
      have hI8 := ir_keep HI6.out hI7 _ hgrow8 (fun j hj => (hown7.lt _ hj).1)
      have hb18 := (hb17.alloc hle7 (.cells #[.string s] 9)).grown hgrow8 (by simp; omega) (fun j hj => Nat.le_trans hle (hown7.lt _ hj).1)
      have hown9 : W8.ownsRow W6.heap.size 9 1 v8 (n + 1) (sl.map Value.string) := by
        rw [← HSL.out, List.map_append]
        exact hown8
      obtain ⟨g8, cp8, rfl⟩ : ∃ g cp, v8 = .slice (some ⟨g, 0, none⟩) (n + 1) cp := by
        rcases hown9.2 with ⟨h, h0⟩ | ⟨g, cap, cur, h, _⟩
        · omega
        · exact ⟨_, _, h⟩
      have HS8 := Lib.hid (SR.own hown9).2
      have hcc8 := own_capV hown9
      have HI8 := Lib.hid hI8
      clear hown7 hown8 hown9 hgrow8 hb17 hI7 hI8
      go_wp2_with fail
      refine (implMerklePeaks_any _ (n + 1) cp8 sl _ HS8.out hcc8.1 hcc8.2 HZ2.out).mono ?_
      rw [HPL2.out, HPB2.out]
      rintro e W9 ⟨a9, cp9, rfl, hb9, hown9⟩
      have HI9 := Lib.hid (IR.own hown9).2
      have HI89 := Lib.hid (HI8.out.below hb9)
      have hb19 := hb18.trans (hb9.mono hb18.size)
      clear hb18 hb9 hown9
      go_wp2_with fail
      refine (wcInts_any a6 a9 q.length cp6 cp9 q _ HI89.out HI9.out (by omega)).mono ?_
      rintro e W10 ⟨rfl, hb10⟩
      have hb20 := hb19.trans (hb10.mono hb19.size)
      clear hb19 hb10
      go_wp2
      go_ret
      exact ⟨rfl, hb20⟩
  · have HPL : Hid (Me.peaksL ss = []) := Lib.hid (if_neg (by rw [HN.out]; exact hok))
    have HPB : Hid (Me.peaksB ss = false) := Lib.hid (decide_eq_false (by rw [HN.out]; exact hok))
    clear hok
    go_wp2_with fail
    refine (implMerklePeaks_any _ n cp ss _ HS2.out hcp1 hcp2 HZ.out).mono ?_
    rw [HPL.out, HPB.out]
    rintro e W3 ⟨a3, cp3, rfl, hb3, hown3⟩
    have HI3 := Lib.hid (IR.own hown3).2
    have HS3 := Lib.hid (HS2.out.below hb3)
    have hb13 := hb12.trans (hb3.mono hb12.size)
    clear hb12 hb3 hown3
    go_wp2_with fail
    refine (specMerklePeaks_any _ n cp ss _ HS3.out hcp1 hcp2 HZ.out).mono ?_
    rw [HPL.out, HPB.out]
    rintro e W4 ⟨a4, cp4, rfl, hb4, hown4⟩
    have HI4 := Lib.hid (IR.own hown4).2
    have HI34 := Lib.hid (HI3.out.below hb4)
    have hb14 := hb13.trans (hb4.mono hb13.size)
    clear hb13 hb4 hown4
    go_wp2_with fail
    refine (wcInts_any a3 a4 0 cp3 cp4 [] _ HI34.out HI4.out (by omega)).mono ?_
    rintro e W5 ⟨rfl, hb5⟩
    have HI35 := Lib.hid (HI34.out.below hb5)
    have HI45 := Lib.hid (HI4.out.below hb5)
    have hb15 := hb14.trans (hb5.mono hb14.size)
    clear hb14 hb5
    go_wp2_with fail
    refine (wcInts_any a3 a4 0 cp3 cp4 [] _ HI35.out HI45.out (by omega)).mono ?_
    rintro e W6 ⟨rfl, hb6⟩
    have hb16 := hb15.trans (hb6.mono hb15.size)
    clear hb15 hb6
    go_wp2
    go_ret
    exact ⟨rfl, hb16⟩
/-! ### The row's step. -/
theorem own : ownKnob Try.prog.godebug = none := by kernel_rfl
theorem laidOut : laidOutB Try.prog = true := by kernel_rfl
set_option maxRecDepth 100000 in
theorem lifted (os : Os) (started : os.Started) (H : Type) (enc : TypeId × Value → H) :
    ReturnsInHanded {} Try.checked os 5 .any (Rows.fnPeaksGrowSpec.pre6 enc Try.prog Try.f5 Rows.fnPeaksGrowRow.domain false) (Rows.fnPeaksGrowSpec.post enc Try.prog Try.f5 false true false false) := by
  refine returnsInHanded_of_change (C := Try.checked) own started (by kernel_rfl) Try.func5
    (ChangeSpec.witness6 (enc := enc) (C := Try.checked) false ⟨#[], #[.slice none 0 0, .slice none 0 0], []⟩ 8 (by kernel_rfl) (by kernel_rfl) (by kernel_rfl) (by kernel_rfl)) ?_
  intro W base args ds gs before hval0 hW hcnd _
  have hval : ∀ (j : Nat) t v, Try.f5.params[j]? = some t → args[j]? = some v → Value.okWide Try.prog W .any base t v := hval0
  have hW' := hW
  obtain ⟨p, q, hA0, hV, rfl, hfz, hnd⟩ := hW
  have hA : DataW.TrodAll enc Try.prog W 0 (fun _ => true) true Try.f5.params.toList args.toList ds p := hA0
  rw [Try.params5] at hA hval
  obtain ⟨v0, vs0, d0, ds0, p0, q0, hargs, rfl, rfl, h0, r0⟩ := trodAll_cons hA
  obtain ⟨v1, vs1, d1, ds1, p1, q1, rfl, rfl, rfl, h1, r1⟩ := trodAll_cons r0
  obtain ⟨rfl, rfl, rfl⟩ := trodAll_nil r1
  obtain rfl : args = #[v0, v1] := by cases args; simp_all
  obtain ⟨rfl, rfl⟩ := trodVars_none hV
  obtain ⟨a0, len0, cap0, rfl⟩ := okWide_slice Try.underlying22 (hval 0 22 v0 rfl rfl)
  have k0 := h0
  have lt0 : ∀ x ∈ p0, x.block < W.heap.size := by obtain ⟨m, hm⟩ := k0; exact DataW.trod_lt m _ _ _ hm
  obtain ⟨z0, w0⟩ : ∃ zs, IsRow .u8 W a0 len0 cap0 zs := by
    obtain ⟨fuel, hf⟩ := h0
    rcases open_ints Try.underlying22 Try.underlying5 (by kernel_rfl) hf with ⟨hcs, _⟩ | ⟨x, l, c, zs, hcs, _, hl, hm, hz, _, hcell, hwz⟩
    · simp [Value.cells] at hcs
      obtain ⟨rfl, rfl, rfl⟩ := hcs
      exact ⟨[], .inl ⟨rfl, rfl, rfl, rfl⟩⟩
    · simp [Value.cells] at hcs
      obtain ⟨rfl, rfl, rfl⟩ := hcs
      exact ⟨zs, .inr ⟨_, rfl, hl, hm, by simpa using hz, hcell, hwz⟩⟩
  obtain ⟨a1, len1, cap1, rfl⟩ := okWide_slice Try.underlying22 (hval 1 22 v1 rfl rfl)
  have k1 := h1
  have lt1 : ∀ x ∈ p1, x.block < W.heap.size := by obtain ⟨m, hm⟩ := k1; exact DataW.trod_lt m _ _ _ hm
  obtain ⟨z1, w1⟩ : ∃ zs, IsRow .u8 W a1 len1 cap1 zs := by
    obtain ⟨fuel, hf⟩ := h1
    rcases open_ints Try.underlying22 Try.underlying5 (by kernel_rfl) hf with ⟨hcs, _⟩ | ⟨x, l, c, zs, hcs, _, hl, hm, hz, _, hcell, hwz⟩
    · simp [Value.cells] at hcs
      obtain ⟨rfl, rfl, rfl⟩ := hcs
      exact ⟨[], .inl ⟨rfl, rfl, rfl, rfl⟩⟩
    · simp [Value.cells] at hcs
      obtain ⟨rfl, rfl, rfl⟩ := hcs
      exact ⟨zs, .inr ⟨_, rfl, hl, hm, by simpa using hz, hcell, hwz⟩⟩
  clear hA0 hval0
  refine (walk a0 len0 cap0 z0 a1 len1 cap1 z1 W w0 w1).mono fun e W' ⟨he, bel⟩ => ?_
  subst he
  exact ⟨_, rfl, _, _, _, [], _, [], hW', trodAll_mk1 (shut_bool Try.underlying4 _), (trodAll_cons_mk (Below.trod laidOut (by kernel_rfl) (of_decide_eq_true (by kernel_rfl)) k0 bel lt0) (trodAll_cons_mk (Below.trod laidOut (by kernel_rfl) (of_decide_eq_true (by kernel_rfl)) k1 bel lt1) trodAll_mk0)), rfl, bel.frame _, fun h => by cases h⟩
theorem over : Rows.fnPeaksGrowRow.holds Try.pinned (OpenSpec.ofChange Rows.fnPeaksGrowSpec) :=
  OpenClaim.holds_of_wide 5 Try.f5 rfl rfl rfl rfl rfl rfl rfl ⟨rfl, rfl, rfl, rfl, rfl⟩ rfl rfl rfl rfl rfl (by kernel_rfl) Try.func5 (by kernel_rfl)
    (of_decide_eq_true (by kernel_rfl)) (by unfold Func.isWrapper; first | (rw [if_pos (by decide +kernel)]; kernel_rfl) | (rw [if_neg (by decide +kernel)]; exact ⟨rfl, rfl⟩))
    (fun os started H enc _ => lifted os started H enc)
theorem proved : Rows.FnPeaksGrowSaid := over
#print axioms proved
end Go.Proofs.Ytdgepneaeieogac.fnPeaksGrow
