/-
  Contracts of the program: written, bytes, core.
-/
import Derived.Test.YtcbpdibkindnfaaTo
import Derived.Test.YtcbpdibkindnfaaTr
import Derived.Test.YtcbpdibkindnfaaTg
namespace Go.Proofs.Ytcbpdibkindnfaa
open Go.RowKit

theorem TrR.below2 {lo : Nat} {w W : World} {a : Option Addr} {n : Nat} {b : Option Addr} {m : Nat} {t : Tr} (h : TrR lo w a n b m t) (hb : Below w.heap.size w W) : TrR lo W a n b m t := h.below hb
theorem tw_fresh (w : World) (B : Nat) (hB : B = w.heap.size) : IsTw B B (Lib.strCells ByteArray.empty) (w.alloc (.cells #[.pointer none, .slice none 0 0] 72)) := by
  subst hB
  exact Lib.fresh_isBuilder _ _ _
theorem En.size_num_pos13 (n : Int) : 1 ≤ (En.num n).size := by
  unfold En.num
  rw [strOfNums_size]
  unfold En.bytes
  split
  · simp
  · split <;> simp

set_option maxRecDepth 100000 in
set_option maxHeartbeats 3200000 in
theorem written_true (lo : Nat) (a : Option Addr) (n c : Nat) (b : Option Addr) (m d : Nat) (t : Tr) (w : World) (h : TrR lo w a n b m t) (hm : t.mid) :
    Calls Try.prog 64 #[.agg #[.slice a n c, .slice b m d, .int .i64 t.after, .string t.note], .bool true] w fun e w' => e = .returned (.string (Tr.enc true t)) ∧ Below w.heap.size w w' := by
  have HN := Lib.hid h.ins.1
  have HM := Lib.hid h.outs.1
  have HH := Lib.hid h
  have HMID := Lib.hid hm
  have hn6 : n ≤ 6 := by have := hm.nin; have := h.ins.1; omega
  have hm6 : m ≤ 6 := by have := hm.nout; have := h.outs.1; omega
  have HZ1 := Lib.hid (Tr.s1_size true hm)
  have HZ2 := Lib.hid (Tr.s2_size true hm)
  have vB0 : Bk w.heap.size 26 #[.slice a n c, .slice b m d, .int .i64 t.after, .string t.note] ((w.alloc (.cells #[.slice a n c, .slice b m d, .int .i64 t.after, .string t.note] 26 (0, 0))).alloc (.cells #[.pointer none, .slice none 0 0] 72)) := (Bk.new _ _ _).alloc _
  have hb0 : Below w.heap.size w ((w.alloc (.cells #[.slice a n c, .slice b m d, .int .i64 t.after, .string t.note] 26 (0, 0))).alloc (.cells #[.pointer none, .slice none 0 0] 72)) := ((Below.refl _ _).alloc (Nat.le_refl _) _).alloc (by simp) _
  have hT0 : IsTw (w.heap.size + 1) (w.heap.size + 1) (Lib.strCells ByteArray.empty) ((w.alloc (.cells #[.slice a n c, .slice b m d, .int .i64 t.after, .string t.note] 26 (0, 0))).alloc (.cells #[.pointer none, .slice none 0 0] 72)) := tw_fresh _ _ (by simp)
  have hDB : w.heap.size ≠ w.heap.size + 1 := by omega
  obtain ⟨d0, d1, d2, d3⟩ := Bk.c4 vB0
  have hcn := tw_number (w.heap.size + 1) ByteArray.empty n _ hT0 (by decide) (by omega) (by omega)
  unfold TwQ at hcn
  rw [Tr.nilL] at hcn
  clear h hm hT0
  go_enter Try.func64, Try.ntmps64
  go_wp2_with fail
  refine hcn.mono ?_
  rintro e w1 ⟨rfl, hT1, hx1, hk1⟩
  have vB1 := vB0.keepT hk1 hDB (by decide)
  have hb1 := hb0.trans (hx1.mono (Nat.le_succ _))
  obtain ⟨c0, c1, c2, c3⟩ := Bk.c4 vB1
  have HT1 : Hid (IsTw (w.heap.size + 1) (w.heap.size + 1) (Lib.strCells (Tr.s1 true t 0)) w1) := Lib.hid (by rw [Tr.s1_zero, HN.out]; exact hT1)
  clear vB0 hb0 hx1 hk1 hT1 d0 d1 d2 d3 hcn
  go_wp2
  go_loopw [17] (fun i wr => ∃ k : Nat, k ≤ n ∧ i = .int .i64 (k : Int) ∧ Hid (IsTw (w.heap.size + 1) (w.heap.size + 1) (Lib.strCells (Tr.s1 true t k)) wr) ∧ Below w.heap.size w wr ∧ Bk w.heap.size 26 #[.slice a n c, .slice b m d, .int .i64 t.after, .string t.note] wr)
    (fun i _ => n - (intOf i).toNat)
  case atStart => exact ⟨0, by omega, rfl, HT1, hb1, vB1⟩
  case round =>
    obtain ⟨k, hk, rfl, hTr, hbel, vB⟩ := hrel
    clear vB1 hb1 c0 c1 c2 c3
    by_cases hlt : k < n
    · obtain ⟨g, off, rfl, _, _, hc⟩ := HH.out.ins.2 (by omega)
      obtain ⟨wa, wc, q0, q1, q2, q3, _⟩ := hc k hlt
      have e0 := cell_bel hbel q0
      have e1 := cell_bel hbel q1
      have e2 := cell_bel hbel q2
      have hkl : k < t.ins.length := by have := HN.out; omega
      have hin := HMID.out.ins _ (Tr.inAt_mem hkl)
      have HS := Lib.hid (Tr.s1_succ true t k hkl)
      have hz := HZ1.out k
      obtain ⟨x, HX⟩ : ∃ x, Hid (Tr.inAt t.ins k = x) := ⟨_, Lib.hid rfl⟩
      rw [HX.out] at e0 e1 e2 q2 q3 hin HS
      obtain ⟨tx, out, wit⟩ := x
      simp only at e0 e1 e2 q2 q3 hin
      obtain ⟨S, HSS⟩ : ∃ S, Hid (Tr.s1 true t k = S) := ⟨_, Lib.hid rfl⟩
      rw [HSS.out] at hz HS hTr
      have HS2 : Hid (Tr.s1 true t (k + 1) = S ++ Dg.bytes tx ++ En.num out ++ En.texts wit) := Lib.hid (by
        rw [HS.out]
        unfold Tr.In.enc
        rw [if_pos rfl]
        simp only [Tr.assoc])
      have hzA := Dg.bytes_size tx
      have hzB := En.size_num out
      obtain ⟨XA, HXA⟩ : ∃ X, Hid (Dg.bytes tx = X) := ⟨_, Lib.hid rfl⟩
      obtain ⟨XB, HXB⟩ : ∃ X, Hid (En.num out = X) := ⟨_, Lib.hid rfl⟩
      rw [HXA.out] at hzA
      rw [HXB.out] at hzB
      rw [HXA.out, HXB.out] at HS2
      obtain ⟨R, HR⟩ : ∃ R, Hid (S ++ XA = R) := ⟨_, Lib.hid rfl⟩
      have hzr : R.size ≤ 13010 := by rw [← HR.out, ByteArray.size_append]; omega
      obtain ⟨R2, HR2⟩ : ∃ Y, Hid (R ++ XB = Y) := ⟨_, Lib.hid rfl⟩
      have hzr2 : R2.size ≤ 13020 := by rw [← HR2.out, ByteArray.size_append]; omega
      rw [HR.out, HR2.out] at HS2
      have hbA : Below wr.heap.size wr (wr.alloc (.cells #[.int .i64 tx, .int .i64 out, .slice wa wit.length wc] 45 (0, 0))) := (Below.refl _ _).alloc (Nat.le_refl _) _
      have vI : Bk wr.heap.size 45 #[.int .i64 tx, .int .i64 out, .slice wa wit.length wc] (wr.alloc (.cells #[.int .i64 tx, .int .i64 out, .slice wa wit.length wc] 45 (0, 0))) := Bk.new _ _ _
      have hIB : wr.heap.size ≠ w.heap.size + 1 := by have := tw_lt hTr.out; omega
      have vB0 := vB.alloc (.cells #[.int .i64 tx, .int .i64 out, .slice wa wit.length wc] 45 (0, 0))
      have hb0 := hbel.alloc hbel.size (.cells #[.int .i64 tx, .int .i64 out, .slice wa wit.length wc] 45 (0, 0))
      have hc1 := tw_digest (w.heap.size + 1) S tx _ (tw_below hTr.out hbA) (by omega) hin.1.1 hin.1.2
      unfold TwQ at hc1
      rw [HXA.out, HR.out] at hc1
      obtain ⟨i0, i1, i2⟩ := Bk.c3t vI
      clear hc q0 q1 q2 hTr hbA hbel vB HS HSS
      go_wp2_with fail
      refine hc1.mono ?_
      rintro e w2 ⟨rfl, hT2, hx, hkx⟩
      have vI2 := vI.keepT hkx hIB (by decide)
      have vB2 := vB0.keepT hkx hDB (by decide)
      have hb2 := hb0.trans (hx.mono (Nat.le_succ _))
      have hc2 := tw_number (w.heap.size + 1) R out w2 hT2 (by omega) hin.2.1.1 (by omega)
      unfold TwQ at hc2
      rw [HXB.out, HR2.out] at hc2
      obtain ⟨j0, j1, j2⟩ := Bk.c3t vI2
      clear hx hkx i0 i1 i2 vB0 hb0 vI hT2 hc1 e0 e1 e2
      go_wp2_with fail
      refine hc2.mono ?_
      rintro e w3 ⟨rfl, hT3, hx, hkx⟩
      have vI3 := vI2.keepT hkx hIB (by decide)
      have vB3 := vB2.keepT hkx hDB (by decide)
      have hb3 := hb2.trans (hx.mono (Nat.le_succ _))
      obtain ⟨k0, k1, k2⟩ := Bk.c3t vI3
      clear hx hkx j0 j1 j2 vB2 hb2 vI2 hc2
      have hc3 := tw_texts (w.heap.size + 1) R2 wa wit.length wc wit w3 hT3 (by omega) (q3.below hb3) hin.2.2.1 hin.2.2.2
      obtain ⟨XT, HXT⟩ : ∃ X, Hid (En.texts wit = X) := ⟨_, Lib.hid rfl⟩
      unfold TwQ at hc3
      rw [HXT.out] at hc3
      rw [HXT.out] at HS2
      clear q3
      go_wp2_with fail
      refine hc3.mono ?_
      rintro e w4 ⟨rfl, hT4, hx, hkx⟩
      have vB4 := vB3.keepT hkx hDB (by decide)
      have hb4 := hb3.trans (hx.mono (Nat.le_succ _))
      have HT4 : Hid (IsTw (w.heap.size + 1) (w.heap.size + 1) (Lib.strCells (Tr.s1 true t (k + 1))) w4) := Lib.hid (by rw [HS2.out]; exact hT4)
      clear hx hkx hT3 hT4 k0 k1 k2 vB3 hb3 vI3 hc3
      go_wp2
      go_roundw
      case rel => exact ⟨k + 1, by omega, by simp, HT4, hb4, vB4⟩
      case measure => simp [intOf]; omega
    · have hk2 : k = n := by omega
      have hs1 : Tr.s1 true t k = Tr.s1 true t t.ins.length := by rw [hk2, HN.out]
      have hz := HZ1.out t.ins.length
      have HS0 := Lib.hid (Tr.s2_zero true t)
      rw [HM.out] at HS0
      obtain ⟨S, HSS⟩ : ∃ S, Hid (Tr.s1 true t t.ins.length = S) := ⟨_, Lib.hid rfl⟩
      rw [HSS.out] at hs1 hz HS0
      rw [hs1] at hTr
      have hcm := tw_number (w.heap.size + 1) S m wr hTr.out (by omega) (by omega) (by omega)
      unfold TwQ at hcm
      rw [← HS0.out] at hcm
      obtain ⟨d0, d1, d2, d3⟩ := Bk.c4 vB
      clear hs1 hTr HSS
      go_wp2_with fail
      refine hcm.mono ?_
      rintro e w1 ⟨rfl, hT1, hx, hkx⟩
      have vB1 := vB.keepT hkx hDB (by decide)
      have hb1 := hbel.trans (hx.mono (Nat.le_succ _))
      obtain ⟨c0, c1, c2, c3⟩ := Bk.c4 vB1
      have HT1 := Lib.hid hT1
      clear vB hbel hx hkx hT1 d0 d1 d2 d3 hcm HS0 hz
      go_wp2
      go_loopw [39] (fun i wr => ∃ j : Nat, j ≤ m ∧ i = .int .i64 (j : Int) ∧ Hid (IsTw (w.heap.size + 1) (w.heap.size + 1) (Lib.strCells (Tr.s2 true t j)) wr) ∧ Below w.heap.size w wr ∧ Bk w.heap.size 26 #[.slice a n c, .slice b m d, .int .i64 t.after, .string t.note] wr)
        (fun i _ => m - (intOf i).toNat)
      case atStart => exact ⟨0, by omega, rfl, HT1, hb1, vB1⟩
      case round =>
        obtain ⟨j, hj, rfl, hTr, hbel, vB⟩ := hrel
        clear vB1 hb1 c0 c1 c2 c3
        by_cases hlj : j < m
        · obtain ⟨g, off, rfl, _, _, hc⟩ := HH.out.outs.2 (by omega)
          obtain ⟨q0, q1⟩ := hc j hlj
          have e0 := cell_bel hbel q0
          have e1 := cell_bel hbel q1
          have hjl : j < t.outs.length := by have := HM.out; omega
          have hin := HMID.out.outs _ (Tr.outAt_mem hjl)
          have HS := Lib.hid (Tr.s2_succ true t j hjl)
          have hz := HZ2.out j
          obtain ⟨x, HX⟩ : ∃ x, Hid (Tr.outAt t.outs j = x) := ⟨_, Lib.hid rfl⟩
          rw [HX.out] at e0 e1 hin HS
          obtain ⟨am, lk⟩ := x
          simp only at e0 e1 hin
          obtain ⟨S2, HSS2⟩ : ∃ S, Hid (Tr.s2 true t j = S) := ⟨_, Lib.hid rfl⟩
          rw [HSS2.out] at hz HS hTr
          have HS2 : Hid (Tr.s2 true t (j + 1) = S2 ++ En.num am ++ En.text lk) := Lib.hid (by
            rw [HS.out]
            unfold Tr.Out.enc
            simp only [Tr.assoc])
          have hzA := En.size_num am
          obtain ⟨XA, HXA⟩ : ∃ X, Hid (En.num am = X) := ⟨_, Lib.hid rfl⟩
          rw [HXA.out] at hzA HS2
          obtain ⟨R, HR⟩ : ∃ R, Hid (S2 ++ XA = R) := ⟨_, Lib.hid rfl⟩
          have hzr : R.size ≤ 15010 := by rw [← HR.out, ByteArray.size_append]; omega
          rw [HR.out] at HS2
          have hbA : Below wr.heap.size wr (wr.alloc (.cells #[.int .i64 am, .string lk] 66 (0, 0))) := (Below.refl _ _).alloc (Nat.le_refl _) _
          have vI : Bk wr.heap.size 66 #[.int .i64 am, .string lk] (wr.alloc (.cells #[.int .i64 am, .string lk] 66 (0, 0))) := Bk.new _ _ _
          have hIB : wr.heap.size ≠ w.heap.size + 1 := by have := tw_lt hTr.out; omega
          have vB0 := vB.alloc (.cells #[.int .i64 am, .string lk] 66 (0, 0))
          have hb0 := hbel.alloc hbel.size (.cells #[.int .i64 am, .string lk] 66 (0, 0))
          have hc1 := tw_number (w.heap.size + 1) S2 am _ (tw_below hTr.out hbA) (by omega) (by omega) (by omega)
          unfold TwQ at hc1
          rw [HXA.out, HR.out] at hc1
          obtain ⟨i0, i1⟩ := Bk.c2 vI
          clear hc q0 q1 hTr hbA hbel vB HS HSS2
          go_wp2_with fail
          refine hc1.mono ?_
          rintro e w2 ⟨rfl, hT2, hx, hkx⟩
          have vI2 := vI.keepT hkx hIB (by decide)
          have vB2 := vB0.keepT hkx hDB (by decide)
          have hb2 := hb0.trans (hx.mono (Nat.le_succ _))
          have hc2 := tw_text (w.heap.size + 1) R lk w2 hT2 (by omega) (by omega)
          unfold TwQ at hc2
          rw [← HS2.out] at hc2
          obtain ⟨j0, j1⟩ := Bk.c2 vI2
          clear hx hkx i0 i1 vB0 hb0 vI hT2 hc1 e0 e1
          go_wp2_with fail
          refine hc2.mono ?_
          rintro e w3 ⟨rfl, hT3, hx, hkx⟩
          have vB3 := vB2.keepT hkx hDB (by decide)
          have hb3 := hb2.trans (hx.mono (Nat.le_succ _))
          have HT3 := Lib.hid hT3
          clear hx hkx hT3 j0 j1 vB2 hb2 vI2 hc2
          go_wp2
          go_roundw
          case rel => exact ⟨j + 1, by omega, by simp, HT3, hb3, vB3⟩
          case measure => simp [intOf]; omega
        · have hj2 : j = m := by omega
          have hs2 : Tr.s2 true t j = Tr.s2 true t t.outs.length := by rw [hj2, HM.out]
          have hz := HZ2.out t.outs.length
          have HE := Lib.hid (Tr.s2_end true t)
          have hin := HMID.out.after
          have hnt := HMID.out.note
          have hze := Tr.enc_size true HMID.out
          obtain ⟨S2, HSS2⟩ : ∃ S, Hid (Tr.s2 true t t.outs.length = S) := ⟨_, Lib.hid rfl⟩
          rw [HSS2.out] at hs2 hz HE
          rw [hs2] at hTr
          have hzA := En.size_num t.after
          obtain ⟨XA, HXA⟩ : ∃ X, Hid (En.num t.after = X) := ⟨_, Lib.hid rfl⟩
          rw [HXA.out] at hzA HE
          obtain ⟨R, HR⟩ : ∃ R, Hid (S2 ++ XA = R) := ⟨_, Lib.hid rfl⟩
          have hzr : R.size ≤ 15010 := by rw [← HR.out, ByteArray.size_append]; omega
          rw [HR.out] at HE
          have hne : (Tr.enc true t).size ≠ 0 := by
            rw [← HE.out, ByteArray.size_append]
            unfold En.text
            rw [ByteArray.size_append]
            have := En.size_num_pos13 t.note.size
            omega
          have hc1 := tw_number (w.heap.size + 1) S2 t.after wr hTr.out (by omega) (by omega) (by omega)
          unfold TwQ at hc1
          rw [HXA.out, HR.out] at hc1
          obtain ⟨d0, d1, d2, d3⟩ := Bk.c4 vB
          clear hs2 hTr HSS2
          go_wp2_with fail
          refine hc1.mono ?_
          rintro e w2 ⟨rfl, hT2, hx, hkx⟩
          have vB2 := vB.keepT hkx hDB (by decide)
          have hb2 := hbel.trans (hx.mono (Nat.le_succ _))
          have hc2 := tw_text (w.heap.size + 1) R t.note w2 hT2 (by omega) (by omega)
          unfold TwQ at hc2
          rw [HE.out] at hc2
          obtain ⟨c0, c1, c2, c3⟩ := Bk.c4 vB2
          clear hx hkx d0 d1 d2 d3 vB hbel hT2 hc1
          obtain ⟨X, HX⟩ : ∃ X, Hid (Tr.enc true t = X) := ⟨_, Lib.hid rfl⟩
          rw [HX.out] at hc2 hze hne
          clear HE HXA HR
          go_wp2_with fail
          refine hc2.mono ?_
          rintro e w3 ⟨rfl, hT3, hx, hkx⟩
          have hb3 := hb2.trans (hx.mono (Nat.le_succ _))
          have hc3 := tw_String (w.heap.size + 1) X w3 hT3 hne (by omega)
          clear hx hkx c0 c1 c2 c3 vB2 hb2 hT3 hc2
          go_wp2_with fail
          refine hc3.mono ?_
          rintro e w4 ⟨rfl, hx⟩
          have hb4 := hb3.trans (hx.mono (Nat.le_succ _))
          clear hx hc3
          go_wp2
          go_ret
          exact ⟨by rw [HX.out]; rfl, hb4⟩

set_option maxRecDepth 100000 in
set_option maxHeartbeats 3200000 in
theorem written_false (lo : Nat) (a : Option Addr) (n c : Nat) (b : Option Addr) (m d : Nat) (t : Tr) (w : World) (h : TrR lo w a n b m t) (hm : t.mid) :
    Calls Try.prog 64 #[.agg #[.slice a n c, .slice b m d, .int .i64 t.after, .string t.note], .bool false] w fun e w' => e = .returned (.string (Tr.enc false t)) ∧ Below w.heap.size w w' := by
  have HN := Lib.hid h.ins.1
  have HM := Lib.hid h.outs.1
  have HH := Lib.hid h
  have HMID := Lib.hid hm
  have hn6 : n ≤ 6 := by have := hm.nin; have := h.ins.1; omega
  have hm6 : m ≤ 6 := by have := hm.nout; have := h.outs.1; omega
  have HZ1 := Lib.hid (Tr.s1_size false hm)
  have HZ2 := Lib.hid (Tr.s2_size false hm)
  have vB0 : Bk w.heap.size 26 #[.slice a n c, .slice b m d, .int .i64 t.after, .string t.note] ((w.alloc (.cells #[.slice a n c, .slice b m d, .int .i64 t.after, .string t.note] 26 (0, 0))).alloc (.cells #[.pointer none, .slice none 0 0] 72)) := (Bk.new _ _ _).alloc _
  have hb0 : Below w.heap.size w ((w.alloc (.cells #[.slice a n c, .slice b m d, .int .i64 t.after, .string t.note] 26 (0, 0))).alloc (.cells #[.pointer none, .slice none 0 0] 72)) := ((Below.refl _ _).alloc (Nat.le_refl _) _).alloc (by simp) _
  have hT0 : IsTw (w.heap.size + 1) (w.heap.size + 1) (Lib.strCells ByteArray.empty) ((w.alloc (.cells #[.slice a n c, .slice b m d, .int .i64 t.after, .string t.note] 26 (0, 0))).alloc (.cells #[.pointer none, .slice none 0 0] 72)) := tw_fresh _ _ (by simp)
  have hDB : w.heap.size ≠ w.heap.size + 1 := by omega
  obtain ⟨d0, d1, d2, d3⟩ := Bk.c4 vB0
  have hcn := tw_number (w.heap.size + 1) ByteArray.empty n _ hT0 (by decide) (by omega) (by omega)
  unfold TwQ at hcn
  rw [Tr.nilL] at hcn
  clear h hm hT0
  go_enter Try.func64, Try.ntmps64
  go_wp2_with fail
  refine hcn.mono ?_
  rintro e w1 ⟨rfl, hT1, hx1, hk1⟩
  have vB1 := vB0.keepT hk1 hDB (by decide)
  have hb1 := hb0.trans (hx1.mono (Nat.le_succ _))
  obtain ⟨c0, c1, c2, c3⟩ := Bk.c4 vB1
  have HT1 : Hid (IsTw (w.heap.size + 1) (w.heap.size + 1) (Lib.strCells (Tr.s1 false t 0)) w1) := Lib.hid (by rw [Tr.s1_zero, HN.out]; exact hT1)
  clear vB0 hb0 hx1 hk1 hT1 d0 d1 d2 d3 hcn
  go_wp2
  go_loopw [17] (fun i wr => ∃ k : Nat, k ≤ n ∧ i = .int .i64 (k : Int) ∧ Hid (IsTw (w.heap.size + 1) (w.heap.size + 1) (Lib.strCells (Tr.s1 false t k)) wr) ∧ Below w.heap.size w wr ∧ Bk w.heap.size 26 #[.slice a n c, .slice b m d, .int .i64 t.after, .string t.note] wr)
    (fun i _ => n - (intOf i).toNat)
  case atStart => exact ⟨0, by omega, rfl, HT1, hb1, vB1⟩
  case round =>
    obtain ⟨k, hk, rfl, hTr, hbel, vB⟩ := hrel
    clear vB1 hb1 c0 c1 c2 c3
    by_cases hlt : k < n
    · obtain ⟨g, off, rfl, _, _, hc⟩ := HH.out.ins.2 (by omega)
      obtain ⟨wa, wc, q0, q1, q2, q3, _⟩ := hc k hlt
      have e0 := cell_bel hbel q0
      have e1 := cell_bel hbel q1
      have e2 := cell_bel hbel q2
      have hkl : k < t.ins.length := by have := HN.out; omega
      have hin := HMID.out.ins _ (Tr.inAt_mem hkl)
      have HS := Lib.hid (Tr.s1_succ false t k hkl)
      have hz := HZ1.out k
      obtain ⟨x, HX⟩ : ∃ x, Hid (Tr.inAt t.ins k = x) := ⟨_, Lib.hid rfl⟩
      rw [HX.out] at e0 e1 e2 q2 q3 hin HS
      obtain ⟨tx, out, wit⟩ := x
      simp only at e0 e1 e2 q2 q3 hin
      obtain ⟨S, HSS⟩ : ∃ S, Hid (Tr.s1 false t k = S) := ⟨_, Lib.hid rfl⟩
      rw [HSS.out] at hz HS hTr
      have HS2 : Hid (Tr.s1 false t (k + 1) = S ++ Dg.bytes tx ++ En.num out) := Lib.hid (by
        rw [HS.out]
        unfold Tr.In.enc
        rw [if_neg (by decide), Tr.nilR]
        simp only [Tr.assoc])
      have hzA := Dg.bytes_size tx
      have hzB := En.size_num out
      obtain ⟨XA, HXA⟩ : ∃ X, Hid (Dg.bytes tx = X) := ⟨_, Lib.hid rfl⟩
      obtain ⟨XB, HXB⟩ : ∃ X, Hid (En.num out = X) := ⟨_, Lib.hid rfl⟩
      rw [HXA.out] at hzA
      rw [HXB.out] at hzB
      rw [HXA.out, HXB.out] at HS2
      obtain ⟨R, HR⟩ : ∃ R, Hid (S ++ XA = R) := ⟨_, Lib.hid rfl⟩
      have hzr : R.size ≤ 13010 := by rw [← HR.out, ByteArray.size_append]; omega
      obtain ⟨R2, HR2⟩ : ∃ Y, Hid (R ++ XB = Y) := ⟨_, Lib.hid rfl⟩
      have hzr2 : R2.size ≤ 13020 := by rw [← HR2.out, ByteArray.size_append]; omega
      rw [HR.out, HR2.out] at HS2
      have hbA : Below wr.heap.size wr (wr.alloc (.cells #[.int .i64 tx, .int .i64 out, .slice wa wit.length wc] 45 (0, 0))) := (Below.refl _ _).alloc (Nat.le_refl _) _
      have vI : Bk wr.heap.size 45 #[.int .i64 tx, .int .i64 out, .slice wa wit.length wc] (wr.alloc (.cells #[.int .i64 tx, .int .i64 out, .slice wa wit.length wc] 45 (0, 0))) := Bk.new _ _ _
      have hIB : wr.heap.size ≠ w.heap.size + 1 := by have := tw_lt hTr.out; omega
      have vB0 := vB.alloc (.cells #[.int .i64 tx, .int .i64 out, .slice wa wit.length wc] 45 (0, 0))
      have hb0 := hbel.alloc hbel.size (.cells #[.int .i64 tx, .int .i64 out, .slice wa wit.length wc] 45 (0, 0))
      have hc1 := tw_digest (w.heap.size + 1) S tx _ (tw_below hTr.out hbA) (by omega) hin.1.1 hin.1.2
      unfold TwQ at hc1
      rw [HXA.out, HR.out] at hc1
      obtain ⟨i0, i1, i2⟩ := Bk.c3t vI
      clear hc q0 q1 q2 hTr hbA hbel vB HS HSS
      go_wp2_with fail
      refine hc1.mono ?_
      rintro e w2 ⟨rfl, hT2, hx, hkx⟩
      have vI2 := vI.keepT hkx hIB (by decide)
      have vB2 := vB0.keepT hkx hDB (by decide)
      have hb2 := hb0.trans (hx.mono (Nat.le_succ _))
      have hc2 := tw_number (w.heap.size + 1) R out w2 hT2 (by omega) hin.2.1.1 (by omega)
      unfold TwQ at hc2
      rw [HXB.out, HR2.out] at hc2
      obtain ⟨j0, j1, j2⟩ := Bk.c3t vI2
      clear hx hkx i0 i1 i2 vB0 hb0 vI hT2 hc1 e0 e1 e2
      go_wp2_with fail
      refine hc2.mono ?_
      rintro e w3 ⟨rfl, hT3, hx, hkx⟩
      have vI3 := vI2.keepT hkx hIB (by decide)
      have vB3 := vB2.keepT hkx hDB (by decide)
      have hb3 := hb2.trans (hx.mono (Nat.le_succ _))
      obtain ⟨k0, k1, k2⟩ := Bk.c3t vI3
      clear hx hkx j0 j1 j2 vB2 hb2 vI2 hc2
      have HT3 : Hid (IsTw (w.heap.size + 1) (w.heap.size + 1) (Lib.strCells (Tr.s1 false t (k + 1))) w3) := Lib.hid (by rw [HS2.out]; exact hT3)
      clear hT3 q3
      go_wp2
      go_roundw
      case rel => exact ⟨k + 1, by omega, by simp, HT3, hb3, vB3⟩
      case measure => simp [intOf]; omega
    · have hk2 : k = n := by omega
      have hs1 : Tr.s1 false t k = Tr.s1 false t t.ins.length := by rw [hk2, HN.out]
      have hz := HZ1.out t.ins.length
      have HS0 := Lib.hid (Tr.s2_zero false t)
      rw [HM.out] at HS0
      obtain ⟨S, HSS⟩ : ∃ S, Hid (Tr.s1 false t t.ins.length = S) := ⟨_, Lib.hid rfl⟩
      rw [HSS.out] at hs1 hz HS0
      rw [hs1] at hTr
      have hcm := tw_number (w.heap.size + 1) S m wr hTr.out (by omega) (by omega) (by omega)
      unfold TwQ at hcm
      rw [← HS0.out] at hcm
      obtain ⟨d0, d1, d2, d3⟩ := Bk.c4 vB
      clear hs1 hTr HSS
      go_wp2_with fail
      refine hcm.mono ?_
      rintro e w1 ⟨rfl, hT1, hx, hkx⟩
      have vB1 := vB.keepT hkx hDB (by decide)
      have hb1 := hbel.trans (hx.mono (Nat.le_succ _))
      obtain ⟨c0, c1, c2, c3⟩ := Bk.c4 vB1
      have HT1 := Lib.hid hT1
      clear vB hbel hx hkx hT1 d0 d1 d2 d3 hcm HS0 hz
      go_wp2
      go_loopw [39] (fun i wr => ∃ j : Nat, j ≤ m ∧ i = .int .i64 (j : Int) ∧ Hid (IsTw (w.heap.size + 1) (w.heap.size + 1) (Lib.strCells (Tr.s2 false t j)) wr) ∧ Below w.heap.size w wr ∧ Bk w.heap.size 26 #[.slice a n c, .slice b m d, .int .i64 t.after, .string t.note] wr)
        (fun i _ => m - (intOf i).toNat)
      case atStart => exact ⟨0, by omega, rfl, HT1, hb1, vB1⟩
      case round =>
        obtain ⟨j, hj, rfl, hTr, hbel, vB⟩ := hrel
        clear vB1 hb1 c0 c1 c2 c3
        by_cases hlj : j < m
        · obtain ⟨g, off, rfl, _, _, hc⟩ := HH.out.outs.2 (by omega)
          obtain ⟨q0, q1⟩ := hc j hlj
          have e0 := cell_bel hbel q0
          have e1 := cell_bel hbel q1
          have hjl : j < t.outs.length := by have := HM.out; omega
          have hin := HMID.out.outs _ (Tr.outAt_mem hjl)
          have HS := Lib.hid (Tr.s2_succ false t j hjl)
          have hz := HZ2.out j
          obtain ⟨x, HX⟩ : ∃ x, Hid (Tr.outAt t.outs j = x) := ⟨_, Lib.hid rfl⟩
          rw [HX.out] at e0 e1 hin HS
          obtain ⟨am, lk⟩ := x
          simp only at e0 e1 hin
          obtain ⟨S2, HSS2⟩ : ∃ S, Hid (Tr.s2 false t j = S) := ⟨_, Lib.hid rfl⟩
          rw [HSS2.out] at hz HS hTr
          have HS2 : Hid (Tr.s2 false t (j + 1) = S2 ++ En.num am ++ En.text lk) := Lib.hid (by
            rw [HS.out]
            unfold Tr.Out.enc
            simp only [Tr.assoc])
          have hzA := En.size_num am
          obtain ⟨XA, HXA⟩ : ∃ X, Hid (En.num am = X) := ⟨_, Lib.hid rfl⟩
          rw [HXA.out] at hzA HS2
          obtain ⟨R, HR⟩ : ∃ R, Hid (S2 ++ XA = R) := ⟨_, Lib.hid rfl⟩
          have hzr : R.size ≤ 15010 := by rw [← HR.out, ByteArray.size_append]; omega
          rw [HR.out] at HS2
          have hbA : Below wr.heap.size wr (wr.alloc (.cells #[.int .i64 am, .string lk] 66 (0, 0))) := (Below.refl _ _).alloc (Nat.le_refl _) _
          have vI : Bk wr.heap.size 66 #[.int .i64 am, .string lk] (wr.alloc (.cells #[.int .i64 am, .string lk] 66 (0, 0))) := Bk.new _ _ _
          have hIB : wr.heap.size ≠ w.heap.size + 1 := by have := tw_lt hTr.out; omega
          have vB0 := vB.alloc (.cells #[.int .i64 am, .string lk] 66 (0, 0))
          have hb0 := hbel.alloc hbel.size (.cells #[.int .i64 am, .string lk] 66 (0, 0))
          have hc1 := tw_number (w.heap.size + 1) S2 am _ (tw_below hTr.out hbA) (by omega) (by omega) (by omega)
          unfold TwQ at hc1
          rw [HXA.out, HR.out] at hc1
          obtain ⟨i0, i1⟩ := Bk.c2 vI
          clear hc q0 q1 hTr hbA hbel vB HS HSS2
          go_wp2_with fail
          refine hc1.mono ?_
          rintro e w2 ⟨rfl, hT2, hx, hkx⟩
          have vI2 := vI.keepT hkx hIB (by decide)
          have vB2 := vB0.keepT hkx hDB (by decide)
          have hb2 := hb0.trans (hx.mono (Nat.le_succ _))
          have hc2 := tw_text (w.heap.size + 1) R lk w2 hT2 (by omega) (by omega)
          unfold TwQ at hc2
          rw [← HS2.out] at hc2
          obtain ⟨j0, j1⟩ := Bk.c2 vI2
          clear hx hkx i0 i1 vB0 hb0 vI hT2 hc1 e0 e1
          go_wp2_with fail
          refine hc2.mono ?_
          rintro e w3 ⟨rfl, hT3, hx, hkx⟩
          have vB3 := vB2.keepT hkx hDB (by decide)
          have hb3 := hb2.trans (hx.mono (Nat.le_succ _))
          have HT3 := Lib.hid hT3
          clear hx hkx hT3 j0 j1 vB2 hb2 vI2 hc2
          go_wp2
          go_roundw
          case rel => exact ⟨j + 1, by omega, by simp, HT3, hb3, vB3⟩
          case measure => simp [intOf]; omega
        · have hj2 : j = m := by omega
          have hs2 : Tr.s2 false t j = Tr.s2 false t t.outs.length := by rw [hj2, HM.out]
          have hz := HZ2.out t.outs.length
          have HE := Lib.hid (Tr.s2_end false t)
          have hin := HMID.out.after
          have hnt := HMID.out.note
          have hze := Tr.enc_size false HMID.out
          obtain ⟨S2, HSS2⟩ : ∃ S, Hid (Tr.s2 false t t.outs.length = S) := ⟨_, Lib.hid rfl⟩
          rw [HSS2.out] at hs2 hz HE
          rw [hs2] at hTr
          have hzA := En.size_num t.after
          obtain ⟨XA, HXA⟩ : ∃ X, Hid (En.num t.after = X) := ⟨_, Lib.hid rfl⟩
          rw [HXA.out] at hzA HE
          obtain ⟨R, HR⟩ : ∃ R, Hid (S2 ++ XA = R) := ⟨_, Lib.hid rfl⟩
          have hzr : R.size ≤ 15010 := by rw [← HR.out, ByteArray.size_append]; omega
          rw [HR.out] at HE
          have hne : (Tr.enc false t).size ≠ 0 := by
            rw [← HE.out, ByteArray.size_append]
            unfold En.text
            rw [ByteArray.size_append]
            have := En.size_num_pos13 t.note.size
            omega
          have hc1 := tw_number (w.heap.size + 1) S2 t.after wr hTr.out (by omega) (by omega) (by omega)
          unfold TwQ at hc1
          rw [HXA.out, HR.out] at hc1
          obtain ⟨d0, d1, d2, d3⟩ := Bk.c4 vB
          clear hs2 hTr HSS2
          go_wp2_with fail
          refine hc1.mono ?_
          rintro e w2 ⟨rfl, hT2, hx, hkx⟩
          have vB2 := vB.keepT hkx hDB (by decide)
          have hb2 := hbel.trans (hx.mono (Nat.le_succ _))
          have hc2 := tw_text (w.heap.size + 1) R t.note w2 hT2 (by omega) (by omega)
          unfold TwQ at hc2
          rw [HE.out] at hc2
          obtain ⟨c0, c1, c2, c3⟩ := Bk.c4 vB2
          clear hx hkx d0 d1 d2 d3 vB hbel hT2 hc1
          obtain ⟨X, HX⟩ : ∃ X, Hid (Tr.enc false t = X) := ⟨_, Lib.hid rfl⟩
          rw [HX.out] at hc2 hze hne
          clear HE HXA HR
          go_wp2_with fail
          refine hc2.mono ?_
          rintro e w3 ⟨rfl, hT3, hx, hkx⟩
          have hb3 := hb2.trans (hx.mono (Nat.le_succ _))
          have hc3 := tw_String (w.heap.size + 1) X w3 hT3 hne (by omega)
          clear hx hkx c0 c1 c2 c3 vB2 hb2 hT3 hc2
          go_wp2_with fail
          refine hc3.mono ?_
          rintro e w4 ⟨rfl, hx⟩
          have hb4 := hb3.trans (hx.mono (Nat.le_succ _))
          clear hx hc3
          go_wp2
          go_ret
          exact ⟨by rw [HX.out]; rfl, hb4⟩

set_option maxRecDepth 100000 in
set_option maxHeartbeats 1600000 in
theorem txbytes_any (lo : Nat) (a : Option Addr) (n c : Nat) (b : Option Addr) (m d : Nat) (t : Tr) (w : World) (h : TrR lo w a n b m t) (hm : t.mid) :
    Calls Try.prog 33 #[.agg #[.slice a n c, .slice b m d, .int .i64 t.after, .string t.note]] w fun e w' => e = .returned (.string (Tr.enc true t)) ∧ Below w.heap.size w w' := by
  have vB0 : Bk w.heap.size 26 #[.slice a n c, .slice b m d, .int .i64 t.after, .string t.note] (w.alloc (.cells #[.slice a n c, .slice b m d, .int .i64 t.after, .string t.note] 26 (0, 0))) := Bk.new _ _ _
  have hb0 : Below w.heap.size w (w.alloc (.cells #[.slice a n c, .slice b m d, .int .i64 t.after, .string t.note] 26 (0, 0))) := (Below.refl _ _).alloc (Nat.le_refl _) _
  have hc := written_true lo a n c b m d t _ (h.below hb0) hm
  obtain ⟨X, HX⟩ : ∃ X, Hid (Tr.enc true t = X) := ⟨_, Lib.hid rfl⟩
  rw [HX.out] at hc
  rw [HX.out]
  obtain ⟨d0, d1, d2, d3⟩ := Bk.c4 vB0
  clear h hm HX vB0
  go_enter Try.func33, Try.ntmps33
  go_wp2_with fail
  refine hc.mono ?_
  rintro e w1 ⟨rfl, hx⟩
  have hb1 := below_aftR hb0 hx
  go_wp2
  go_ret
  exact ⟨rfl, hb1⟩

set_option maxRecDepth 100000 in
set_option maxHeartbeats 1600000 in
theorem txcore_any (lo : Nat) (a : Option Addr) (n c : Nat) (b : Option Addr) (m d : Nat) (t : Tr) (w : World) (h : TrR lo w a n b m t) (hm : t.mid) :
    Calls Try.prog 38 #[.agg #[.slice a n c, .slice b m d, .int .i64 t.after, .string t.note]] w fun e w' => e = .returned (.string (Tr.enc false t)) ∧ Below w.heap.size w w' := by
  have vB0 : Bk w.heap.size 26 #[.slice a n c, .slice b m d, .int .i64 t.after, .string t.note] (w.alloc (.cells #[.slice a n c, .slice b m d, .int .i64 t.after, .string t.note] 26 (0, 0))) := Bk.new _ _ _
  have hb0 : Below w.heap.size w (w.alloc (.cells #[.slice a n c, .slice b m d, .int .i64 t.after, .string t.note] 26 (0, 0))) := (Below.refl _ _).alloc (Nat.le_refl _) _
  have hc := written_false lo a n c b m d t _ (h.below hb0) hm
  obtain ⟨X, HX⟩ : ∃ X, Hid (Tr.enc false t = X) := ⟨_, Lib.hid rfl⟩
  rw [HX.out] at hc
  rw [HX.out]
  obtain ⟨d0, d1, d2, d3⟩ := Bk.c4 vB0
  clear h hm HX vB0
  go_enter Try.func38, Try.ntmps38
  go_wp2_with fail
  refine hc.mono ?_
  rintro e w1 ⟨rfl, hx⟩
  have hb1 := below_aftR hb0 hx
  go_wp2
  go_ret
  exact ⟨rfl, hb1⟩

end Go.Proofs.Ytcbpdibkindnfaa
