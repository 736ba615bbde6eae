/-
  Contracts of the model: l13Bytes, TxOk, TxBytes, TxCore.
-/
import Derived.Test.YtedjbikphdflhabTf
import Derived.Test.YtedjbikphdflhabTe
import Derived.Test.YtedjbikphdflhabDg
import Derived.Deep.RegionHeld3
import Derived.Deep.RegionWith
namespace Go.Proofs.Ytedjbikphdflhab
open Go.RowKit

theorem ba_add13 (W : World) (a b : ByteArray) (h : a.size + b.size ≤ 1000000) : (Op.stringOp .add a b).run Try.prog W = .ok (.string (a ++ b)) W :=
  run_string_add_sum (P := Try.prog) W _ _ (by omega)
theorem below_aft13 {w w1 w2 : World} (h : Below w.heap.size w w1) (k : Below w1.heap.size w1 w2) : Below w.heap.size w w2 := h.trans (k.mono h.size)
theorem cell_bel {W W' : World} {g o : Nat} {v : Value} (h : Below W.heap.size W W') (hc : W.cell? ⟨g, o, none⟩ = some v) : W'.cell? ⟨g, o, none⟩ = some v :=
  (⟨h.os, h.tape, h.output, h.size, fun k hk _ => h.block k hk⟩ : W.grownBy W' none).cell hc (by simp)
theorem and3_bel {W W' : World} {g0 o0 g1 o1 g2 o2 : Nat} {v0 v1 v2 : Value} (h : Below W.heap.size W W') (hc : W.cell? ⟨g0, o0, none⟩ = some v0 ∧ W.cell? ⟨g1, o1, none⟩ = some v1 ∧ W.cell? ⟨g2, o2, none⟩ = some v2) :
    W'.cell? ⟨g0, o0, none⟩ = some v0 ∧ W'.cell? ⟨g1, o1, none⟩ = some v1 ∧ W'.cell? ⟨g2, o2, none⟩ = some v2 := ⟨cell_bel h hc.1, cell_bel h hc.2.1, cell_bel h hc.2.2⟩
theorem and2_bel {W W' : World} {g0 o0 g1 o1 : Nat} {v0 v1 : Value} (h : Below W.heap.size W W') (hc : W.cell? ⟨g0, o0, none⟩ = some v0 ∧ W.cell? ⟨g1, o1, none⟩ = some v1) :
    W'.cell? ⟨g0, o0, none⟩ = some v0 ∧ W'.cell? ⟨g1, o1, none⟩ = some v1 := ⟨cell_bel h hc.1, cell_bel h hc.2⟩

set_option maxRecDepth 100000 in
set_option maxHeartbeats 3200000 in
theorem l13Bytes_true (lo : Nat) (a : Option Addr) (n c : Nat) (b : Option Addr) (m d : Nat) (t : Tr) (w : World) (h : TrR lo w a n b m t) (hm : t.mid) :
    Calls Try.prog 38 #[.agg #[.slice a n c, .slice b m d, .int .i64 t.after, .string t.note], .bool true] w fun e w' => e = .returned (.string (Tr.enc true t)) ∧ Below w.heap.size w w' := by
  have HN := Lib.hid h.ins.1
  have HM := Lib.hid h.outs.1
  have HH := Lib.hid h
  have HMID := Lib.hid hm
  have hn6 : n ≤ 6 := by have := hm.nin; have := h.ins.1; omega
  have hm6 : m ≤ 6 := by have := hm.nout; have := h.outs.1; omega
  have HZ1 := Lib.hid (Tr.s1_size true hm)
  have HZ2 := Lib.hid (Tr.s2_size true hm)
  have vB0 : Bk w.heap.size 31 #[.slice a n c, .slice b m d, .int .i64 t.after, .string t.note] (w.alloc (.cells #[.slice a n c, .slice b m d, .int .i64 t.after, .string t.note] 31 (0, 0))) := Bk.new _ _ _
  have hb0 : Below w.heap.size w (w.alloc (.cells #[.slice a n c, .slice b m d, .int .i64 t.after, .string t.note] 31 (0, 0))) := (Below.refl _ _).alloc (Nat.le_refl _) _
  clear h hm
  go_enter Try.func38, Try.ntmps38
  go_wp2_with fail
  refine (l1Num_any n _ (by omega) (by omega)).mono ?_
  rintro e w1 ⟨rfl, hx1⟩
  have vB1 := vB0.below hx1
  have hb1 := hb0.trans (hx1.mono hb0.size)
  clear vB0 hb0 hx1
  go_wp2
  go_loopw [5, 6] (fun s i wr => ∃ k : Nat, k ≤ n ∧ i = .int .i64 (k : Int) ∧ s = .string (Tr.s1 true t k) ∧ Below w.heap.size w wr ∧ Bk w.heap.size 31 #[.slice a n c, .slice b m d, .int .i64 t.after, .string t.note] wr)
    (fun _ i _ => n - (intOf i).toNat)
  case atStart => exact ⟨0, by omega, rfl, by rw [Tr.s1_zero, HN.out], hb1, vB1⟩
  case round =>
    obtain ⟨k, hk, rfl, rfl, hbel, vB⟩ := hrel
    obtain ⟨d0, d1, d2, d3⟩ := Bk.c4 vB
    clear vB1 hb1
    by_cases hlt : k < n
    · obtain ⟨g, off, rfl, _, _, hc⟩ := (HH.out.ins.below hbel).2 (by omega)
      obtain ⟨wa, wc, e0, e1, _, _, _⟩ := hc k hlt
      have hkl : k < t.ins.length := by have := HN.out; omega
      have hin := HMID.out.ins _ (Tr.inAt_mem hkl)
      have HS := Lib.hid (Tr.s1_succ true t k hkl)
      have hz := HZ1.out k
      obtain ⟨x, HX⟩ : ∃ x, Hid (Tr.inAt t.ins k = x) := ⟨_, Lib.hid rfl⟩
      rw [HX.out] at e0 e1 hin HS
      obtain ⟨tx, out, wit⟩ := x
      simp only at e0 e1 hin
      obtain ⟨S, HSS⟩ : ∃ S, Hid (Tr.s1 true t k = S) := ⟨_, Lib.hid rfl⟩
      rw [HSS.out] at hz HS
      rw [HSS.out]
      clear hc
      have HS2 : Hid (Tr.s1 true t (k + 1) = S ++ Dg.bytes tx ++ En.num out ++ En.texts wit) := Lib.hid (by
        rw [HS.out]
        unfold Tr.In.enc
        rw [if_pos rfl]
        simp only [Tr.assoc])
      have hzT := Tr.texts_size hin.2.2.1 hin.2.2.2
      have hconA := fun W => l2Bytes_any tx W hin.1.1 hin.1.2
      have hconB := fun W => l1Num_any out W hin.2.1.1 (by omega)
      have hzA := Dg.bytes_size tx
      have hzB := En.size_num out
      obtain ⟨XA, HXA⟩ : ∃ X, Hid (Dg.bytes tx = X) := ⟨_, Lib.hid rfl⟩
      obtain ⟨XB, HXB⟩ : ∃ X, Hid (En.num out = X) := ⟨_, Lib.hid rfl⟩
      rw [HXA.out] at hzA
      rw [HXB.out] at hzB
      rw [HXA.out, HXB.out] at HS2
      simp only [HXA.out] at hconA
      simp only [HXB.out] at hconB
      have hadd1 := fun W => ba_add13 W S XA (by omega)
      obtain ⟨R, HR⟩ : ∃ R, Hid (S ++ XA = R) := ⟨_, Lib.hid rfl⟩
      simp only [HR.out] at hadd1
      have hzr : R.size ≤ 13010 := by rw [← HR.out, ByteArray.size_append]; omega
      have hadd2 := fun W => ba_add13 W R XB (by omega)
      obtain ⟨R2, HR2⟩ : ∃ Y, Hid (R ++ XB = Y) := ⟨_, Lib.hid rfl⟩
      simp only [HR2.out] at hadd2
      have hzr2 : R2.size ≤ 13020 := by rw [← HR2.out, ByteArray.size_append]; omega
      rw [HR.out, HR2.out] at HS2
      have hS0 : wr.drew.cell? ⟨w.heap.size, 0, none⟩ = some (.slice (some ⟨g, off, none⟩) n c) ∧ wr.drew.cell? ⟨g, off + k * 3, none⟩ = some (.int .i64 tx) ∧ wr.drew.cell? ⟨g, off + k * 3 + 1, none⟩ = some (.int .i64 out) := ⟨d0, e0, e1⟩
      clear HS HXA HXB HR HR2 hzA hzB e0 e1
      go_wp2
      clear d0 d1 d2 d3
      apply wp_meet13 (fun w' => Below w.heap.size w w' ∧ Bk w.heap.size 31 #[.slice (some ⟨g, off, none⟩) n c, .slice b m d, .int .i64 t.after, .string t.note] w')
      case h1 =>
        go_region_held3 (fun W => W.cell? ⟨w.heap.size, 0, none⟩ = some (.slice (some ⟨g, off, none⟩) n c) ∧ W.cell? ⟨g, off + k * 3, none⟩ = some (.int .i64 tx) ∧ W.cell? ⟨g, off + k * 3 + 1, none⟩ = some (.int .i64 out)) (first | with_reducible exact hS0 | with_reducible exact hSA | with_reducible exact hSB)
          (first
            | (go_at_call 77; refine (hconA _).mono ?_; rintro e wA ⟨rfl, hbA⟩; have hvA : Bk w.heap.size 31 #[.slice (some ⟨g, off, none⟩) n c, .slice b m d, .int .i64 t.after, .string t.note] wA := (by first | exact hvB.below hbA | exact vB.drew.below hbA); have hblA : Below w.heap.size w wA := (by first | exact below_aft13 hblB hbA | exact below_aft13 hbel.drew hbA); have hSA : wA.cell? ⟨w.heap.size, 0, none⟩ = some (.slice (some ⟨g, off, none⟩) n c) ∧ wA.cell? ⟨g, off + k * 3, none⟩ = some (.int .i64 tx) ∧ wA.cell? ⟨g, off + k * 3 + 1, none⟩ = some (.int .i64 out) := (by first | exact and3_bel hbA hSB | exact and3_bel hbA hS0))
            | (go_at_call 76; refine (hconB _).mono ?_; rintro e wB ⟨rfl, hbB⟩; have hvB : Bk w.heap.size 31 #[.slice (some ⟨g, off, none⟩) n c, .slice b m d, .int .i64 t.after, .string t.note] wB := (by first | exact hvA.below hbB | exact vB.drew.below hbB); have hblB : Below w.heap.size w wB := (by first | exact below_aft13 hblA hbB | exact below_aft13 hbel.drew hbB); have hSB : wB.cell? ⟨w.heap.size, 0, none⟩ = some (.slice (some ⟨g, off, none⟩) n c) ∧ wB.cell? ⟨g, off + k * 3, none⟩ = some (.int .i64 tx) ∧ wB.cell? ⟨g, off + k * 3 + 1, none⟩ = some (.int .i64 out) := (by first | exact and3_bel hbB hSA | exact and3_bel hbB hS0)))
        all_goals (refine ⟨rfl, ?_, ?_⟩ <;> first | with_reducible exact hblB | with_reducible exact hblA | with_reducible exact hvB | with_reducible exact hvA)
      case h2 =>
        rintro w2 ⟨hbel2, vB2⟩
        obtain ⟨d0, d1, d2, d3⟩ := Bk.c4 vB2
        obtain ⟨g2, off2, hge, _, _, hc⟩ := (HH.out.ins.below hbel2).2 (by omega)
        cases hge
        obtain ⟨wa2, wc2, _, _, e2, e3, _⟩ := hc k hlt
        rw [HX.out] at e2 e3
        simp only at e2 e3
        clear hc
        have htx := l1Texts_any wa2 wit.length wc2 wit w2 e3 (fun s hs => by have := hin.2.2.2 s hs; omega) (by have := hin.2.2.1; omega)
        obtain ⟨XT, HXT⟩ : ∃ X, Hid (En.texts wit = X) := ⟨_, Lib.hid rfl⟩
        rw [HXT.out] at htx HS2 hzT
        have hadd3 := fun W => ba_add13 W R2 XT (by omega)
        go_wp2_with fail
        refine htx.mono ?_
        rintro e w3 ⟨rfl, hx3⟩
        have hbel3 := below_aft13 hbel2 hx3
        have vB3 := vB2.below hx3
        clear hx3 d0 d1 d2 d3 e2 e3 htx
        go_wp2
        go_roundw
        case rel => exact ⟨k + 1, by omega, by simp, by rw [HS2.out], hbel3, vB3⟩
        case measure => simp [intOf]; omega
    · have hk2 : k = n := by omega
      have hs1 : Tr.s1 true t k = Tr.s1 true t t.ins.length := by rw [hk2, HN.out]
      have hz := HZ1.out t.ins.length
      have HS0 := Lib.hid (Tr.s2_zero true t)
      rw [HM.out] at HS0
      obtain ⟨S, HSS⟩ : ∃ S, Hid (Tr.s1 true t t.ins.length = S) := ⟨_, Lib.hid rfl⟩
      rw [HSS.out] at hs1 hz HS0
      rw [hs1]
      have hzn := En.size_num m
      have hadd0 := fun W => ba_add13 W S (En.num m) (by omega)
      clear hs1
      go_wp2_with fail
      refine (l1Num_any m _ (by omega) (by omega)).mono ?_
      rintro e w1 ⟨rfl, hx1⟩
      have vB1 := vB.below hx1
      have hb1 := below_aft13 hbel hx1
      clear vB hbel hx1 d0 d1 d2 d3
      go_wp2
      go_loopw [5, 7] (fun s i wr => ∃ j : Nat, j ≤ m ∧ i = .int .i64 (j : Int) ∧ s = .string (Tr.s2 true t j) ∧ Below w.heap.size w wr ∧ Bk w.heap.size 31 #[.slice a n c, .slice b m d, .int .i64 t.after, .string t.note] wr)
        (fun _ i _ => m - (intOf i).toNat)
      case atStart => exact ⟨0, by omega, rfl, by rw [HS0.out], hb1, vB1⟩
      case round =>
        obtain ⟨j, hj, rfl, rfl, hbel, vB⟩ := hrel
        obtain ⟨d0, d1, d2, d3⟩ := Bk.c4 vB
        clear vB1 hb1 hadd0 hz hzn HS0
        by_cases hlj : j < m
        · obtain ⟨g, off, rfl, _, _, hc⟩ := (HH.out.outs.below hbel).2 (by omega)
          obtain ⟨e0, e1⟩ := hc j hlj
          have hjl : j < t.outs.length := by have := HM.out; omega
          have hin := HMID.out.outs _ (Tr.outAt_mem hjl)
          have HS := Lib.hid (Tr.s2_succ true t j hjl)
          have hz := HZ2.out j
          obtain ⟨x, HX⟩ : ∃ x, Hid (Tr.outAt t.outs j = x) := ⟨_, Lib.hid rfl⟩
          rw [HX.out] at e0 e1 hin HS
          obtain ⟨am, lk⟩ := x
          simp only at e0 e1 hin
          obtain ⟨S2, HSS2⟩ : ∃ S, Hid (Tr.s2 true t j = S) := ⟨_, Lib.hid rfl⟩
          rw [HSS2.out] at hz HS
          rw [HSS2.out]
          have HS2 : Hid (Tr.s2 true t (j + 1) = S2 ++ En.num am ++ En.text lk) := Lib.hid (by
            rw [HS.out]
            unfold Tr.Out.enc
            simp only [Tr.assoc])
          have hconA := fun W => l1Num_any am W (by omega) (by omega)
          have hconB := fun W => l1Text_any lk W (by omega)
          have hzA := En.size_num am
          have hzB := Tr.text_size hin.2
          obtain ⟨XA, HXA⟩ : ∃ X, Hid (En.num am = X) := ⟨_, Lib.hid rfl⟩
          obtain ⟨XB, HXB⟩ : ∃ X, Hid (En.text lk = X) := ⟨_, Lib.hid rfl⟩
          rw [HXA.out] at hzA
          rw [HXB.out] at hzB
          rw [HXA.out, HXB.out] at HS2
          simp only [HXA.out] at hconA
          simp only [HXB.out] at hconB
          have hadd1 := fun W => ba_add13 W S2 XA (by omega)
          obtain ⟨R, HR⟩ : ∃ R, Hid (S2 ++ XA = R) := ⟨_, Lib.hid rfl⟩
          simp only [HR.out] at hadd1
          have hzr : R.size ≤ 15010 := by rw [← HR.out, ByteArray.size_append]; omega
          have hadd2 := fun W => ba_add13 W R XB (by omega)
          rw [HR.out] at HS2
          have hS0 : wr.drew.cell? ⟨w.heap.size, 1, none⟩ = some (.slice (some ⟨g, off, none⟩) m d) ∧ wr.drew.cell? ⟨g, off + j * 2, none⟩ = some (.int .i64 am) ∧ wr.drew.cell? ⟨g, off + j * 2 + 1, none⟩ = some (.string lk) := ⟨d1, e0, e1⟩
          clear HS HXA HXB HR hzA hzB e0 e1 hc
          go_wp2
          clear d0 d1 d2 d3
          apply wp_meet13 (fun w' => Below w.heap.size w w' ∧ Bk w.heap.size 31 #[.slice a n c, .slice (some ⟨g, off, none⟩) m d, .int .i64 t.after, .string t.note] w')
          case h1 =>
            go_region_held3 (fun W => W.cell? ⟨w.heap.size, 1, none⟩ = some (.slice (some ⟨g, off, none⟩) m d) ∧ W.cell? ⟨g, off + j * 2, none⟩ = some (.int .i64 am) ∧ W.cell? ⟨g, off + j * 2 + 1, none⟩ = some (.string lk)) (first | with_reducible exact hS0 | with_reducible exact hSA | with_reducible exact hSB)
              (first
                | (go_at_call 76; refine (hconA _).mono ?_; rintro e wA ⟨rfl, hbA⟩; have hvA : Bk w.heap.size 31 #[.slice a n c, .slice (some ⟨g, off, none⟩) m d, .int .i64 t.after, .string t.note] wA := (by first | exact hvB.below hbA | exact vB.drew.below hbA); have hblA : Below w.heap.size w wA := (by first | exact below_aft13 hblB hbA | exact below_aft13 hbel.drew hbA); have hSA : wA.cell? ⟨w.heap.size, 1, none⟩ = some (.slice (some ⟨g, off, none⟩) m d) ∧ wA.cell? ⟨g, off + j * 2, none⟩ = some (.int .i64 am) ∧ wA.cell? ⟨g, off + j * 2 + 1, none⟩ = some (.string lk) := (by first | exact and3_bel hbA hSB | exact and3_bel hbA hS0))
                | (go_at_call 79; refine (hconB _).mono ?_; rintro e wB ⟨rfl, hbB⟩; have hvB : Bk w.heap.size 31 #[.slice a n c, .slice (some ⟨g, off, none⟩) m d, .int .i64 t.after, .string t.note] wB := (by first | exact hvA.below hbB | exact vB.drew.below hbB); have hblB : Below w.heap.size w wB := (by first | exact below_aft13 hblA hbB | exact below_aft13 hbel.drew hbB); have hSB : wB.cell? ⟨w.heap.size, 1, none⟩ = some (.slice (some ⟨g, off, none⟩) m d) ∧ wB.cell? ⟨g, off + j * 2, none⟩ = some (.int .i64 am) ∧ wB.cell? ⟨g, off + j * 2 + 1, none⟩ = some (.string lk) := (by first | exact and3_bel hbB hSA | exact and3_bel hbB hS0)))
            all_goals (refine ⟨rfl, ?_, ?_⟩ <;> first | with_reducible exact hblB | with_reducible exact hblA | with_reducible exact hvB | with_reducible exact hvA)
          case h2 =>
            rintro w2 ⟨hbel2, vB2⟩
            go_wp2
            go_roundw
            case rel => exact ⟨j + 1, by omega, by simp, by rw [HS2.out], hbel2, vB2⟩
            case measure => simp [intOf]; omega
        · have hj2 : j = m := by omega
          have hs2 : Tr.s2 true t j = Tr.s2 true t t.outs.length := by rw [hj2, HM.out]
          have hz := HZ2.out t.outs.length
          have HE := Lib.hid (Tr.s2_end true t)
          have hin := HMID.out.after
          have hnt := HMID.out.note
          obtain ⟨S2, HSS2⟩ : ∃ S, Hid (Tr.s2 true t t.outs.length = S) := ⟨_, Lib.hid rfl⟩
          rw [HSS2.out] at hs2 hz HE
          rw [hs2]
          have hconA := fun W => l1Num_any t.after W (by omega) (by omega)
          have hconB := fun W => l1Text_any t.note W (by omega)
          have hzA := En.size_num t.after
          have hzB := Tr.text_size hnt
          obtain ⟨XA, HXA⟩ : ∃ X, Hid (En.num t.after = X) := ⟨_, Lib.hid rfl⟩
          obtain ⟨XB, HXB⟩ : ∃ X, Hid (En.text t.note = X) := ⟨_, Lib.hid rfl⟩
          rw [HXA.out] at hzA
          rw [HXB.out] at hzB
          rw [HXA.out, HXB.out] at HE
          simp only [HXA.out] at hconA
          simp only [HXB.out] at hconB
          have hadd1 := fun W => ba_add13 W S2 XA (by omega)
          obtain ⟨R, HR⟩ : ∃ R, Hid (S2 ++ XA = R) := ⟨_, Lib.hid rfl⟩
          simp only [HR.out] at hadd1
          have hzr : R.size ≤ 15010 := by rw [← HR.out, ByteArray.size_append]; omega
          have hadd2 := fun W => ba_add13 W R XB (by omega)
          rw [HR.out] at HE
          have hS0 : wr.drew.cell? ⟨w.heap.size, 2, none⟩ = some (.int .i64 t.after) ∧ wr.drew.cell? ⟨w.heap.size, 3, none⟩ = some (.string t.note) := ⟨d2, d3⟩
          clear HXA HXB HR hzA hzB hs2
          go_wp2
          clear d0 d1 d2 d3
          go_region_held3 (fun W => W.cell? ⟨w.heap.size, 2, none⟩ = some (.int .i64 t.after) ∧ W.cell? ⟨w.heap.size, 3, none⟩ = some (.string t.note)) (first | with_reducible exact hS0 | with_reducible exact hSA | with_reducible exact hSB)
            (first
              | (go_at_call 76; refine (hconA _).mono ?_; rintro e wA ⟨rfl, hbA⟩; have hvA : Bk w.heap.size 31 #[.slice a n c, .slice b m d, .int .i64 t.after, .string t.note] wA := (by first | exact hvB.below hbA | exact vB.drew.below hbA); have hblA : Below w.heap.size w wA := (by first | exact below_aft13 hblB hbA | exact below_aft13 hbel.drew hbA); have hSA : wA.cell? ⟨w.heap.size, 2, none⟩ = some (.int .i64 t.after) ∧ wA.cell? ⟨w.heap.size, 3, none⟩ = some (.string t.note) := (by first | exact and2_bel hbA hSB | exact and2_bel hbA hS0))
              | (go_at_call 79; refine (hconB _).mono ?_; rintro e wB ⟨rfl, hbB⟩; have hvB : Bk w.heap.size 31 #[.slice a n c, .slice b m d, .int .i64 t.after, .string t.note] wB := (by first | exact hvA.below hbB | exact vB.drew.below hbB); have hblB : Below w.heap.size w wB := (by first | exact below_aft13 hblA hbB | exact below_aft13 hbel.drew hbB); have hSB : wB.cell? ⟨w.heap.size, 2, none⟩ = some (.int .i64 t.after) ∧ wB.cell? ⟨w.heap.size, 3, none⟩ = some (.string t.note) := (by first | exact and2_bel hbB hSA | exact and2_bel hbB hS0)))
          all_goals go_wp2
          all_goals go_ret
          all_goals exact ⟨by rw [← HE.out]; rfl, by first | with_reducible exact hblB | with_reducible exact hblA⟩

set_option maxRecDepth 100000 in
set_option maxHeartbeats 3200000 in
theorem l13Bytes_false (lo : Nat) (a : Option Addr) (n c : Nat) (b : Option Addr) (m d : Nat) (t : Tr) (w : World) (h : TrR lo w a n b m t) (hm : t.mid) :
    Calls Try.prog 38 #[.agg #[.slice a n c, .slice b m d, .int .i64 t.after, .string t.note], .bool false] w fun e w' => e = .returned (.string (Tr.enc false t)) ∧ Below w.heap.size w w' := by
  have HN := Lib.hid h.ins.1
  have HM := Lib.hid h.outs.1
  have HH := Lib.hid h
  have HMID := Lib.hid hm
  have hn6 : n ≤ 6 := by have := hm.nin; have := h.ins.1; omega
  have hm6 : m ≤ 6 := by have := hm.nout; have := h.outs.1; omega
  have HZ1 := Lib.hid (Tr.s1_size false hm)
  have HZ2 := Lib.hid (Tr.s2_size false hm)
  have vB0 : Bk w.heap.size 31 #[.slice a n c, .slice b m d, .int .i64 t.after, .string t.note] (w.alloc (.cells #[.slice a n c, .slice b m d, .int .i64 t.after, .string t.note] 31 (0, 0))) := Bk.new _ _ _
  have hb0 : Below w.heap.size w (w.alloc (.cells #[.slice a n c, .slice b m d, .int .i64 t.after, .string t.note] 31 (0, 0))) := (Below.refl _ _).alloc (Nat.le_refl _) _
  clear h hm
  go_enter Try.func38, Try.ntmps38
  go_wp2_with fail
  refine (l1Num_any n _ (by omega) (by omega)).mono ?_
  rintro e w1 ⟨rfl, hx1⟩
  have vB1 := vB0.below hx1
  have hb1 := hb0.trans (hx1.mono hb0.size)
  clear vB0 hb0 hx1
  go_wp2
  go_loopw [5, 6] (fun s i wr => ∃ k : Nat, k ≤ n ∧ i = .int .i64 (k : Int) ∧ s = .string (Tr.s1 false t k) ∧ Below w.heap.size w wr ∧ Bk w.heap.size 31 #[.slice a n c, .slice b m d, .int .i64 t.after, .string t.note] wr)
    (fun _ i _ => n - (intOf i).toNat)
  case atStart => exact ⟨0, by omega, rfl, by rw [Tr.s1_zero, HN.out], hb1, vB1⟩
  case round =>
    obtain ⟨k, hk, rfl, rfl, hbel, vB⟩ := hrel
    obtain ⟨d0, d1, d2, d3⟩ := Bk.c4 vB
    clear vB1 hb1
    by_cases hlt : k < n
    · obtain ⟨g, off, rfl, _, _, hc⟩ := (HH.out.ins.below hbel).2 (by omega)
      obtain ⟨wa, wc, e0, e1, _, _, _⟩ := hc k hlt
      have hkl : k < t.ins.length := by have := HN.out; omega
      have hin := HMID.out.ins _ (Tr.inAt_mem hkl)
      have HS := Lib.hid (Tr.s1_succ false t k hkl)
      have hz := HZ1.out k
      obtain ⟨x, HX⟩ : ∃ x, Hid (Tr.inAt t.ins k = x) := ⟨_, Lib.hid rfl⟩
      rw [HX.out] at e0 e1 hin HS
      obtain ⟨tx, out, wit⟩ := x
      simp only at e0 e1 hin
      obtain ⟨S, HSS⟩ : ∃ S, Hid (Tr.s1 false t k = S) := ⟨_, Lib.hid rfl⟩
      rw [HSS.out] at hz HS
      rw [HSS.out]
      clear hc
      have HS2 : Hid (Tr.s1 false t (k + 1) = S ++ Dg.bytes tx ++ En.num out) := Lib.hid (by
        rw [HS.out]
        unfold Tr.In.enc
        rw [if_neg (by decide), Tr.nilR]
        simp only [Tr.assoc])
      have hconA := fun W => l2Bytes_any tx W hin.1.1 hin.1.2
      have hconB := fun W => l1Num_any out W hin.2.1.1 (by omega)
      have hzA := Dg.bytes_size tx
      have hzB := En.size_num out
      obtain ⟨XA, HXA⟩ : ∃ X, Hid (Dg.bytes tx = X) := ⟨_, Lib.hid rfl⟩
      obtain ⟨XB, HXB⟩ : ∃ X, Hid (En.num out = X) := ⟨_, Lib.hid rfl⟩
      rw [HXA.out] at hzA
      rw [HXB.out] at hzB
      rw [HXA.out, HXB.out] at HS2
      simp only [HXA.out] at hconA
      simp only [HXB.out] at hconB
      have hadd1 := fun W => ba_add13 W S XA (by omega)
      obtain ⟨R, HR⟩ : ∃ R, Hid (S ++ XA = R) := ⟨_, Lib.hid rfl⟩
      simp only [HR.out] at hadd1
      have hzr : R.size ≤ 13010 := by rw [← HR.out, ByteArray.size_append]; omega
      have hadd2 := fun W => ba_add13 W R XB (by omega)
      obtain ⟨R2, HR2⟩ : ∃ Y, Hid (R ++ XB = Y) := ⟨_, Lib.hid rfl⟩
      simp only [HR2.out] at hadd2
      have hzr2 : R2.size ≤ 13020 := by rw [← HR2.out, ByteArray.size_append]; omega
      rw [HR.out, HR2.out] at HS2
      have hS0 : wr.drew.cell? ⟨w.heap.size, 0, none⟩ = some (.slice (some ⟨g, off, none⟩) n c) ∧ wr.drew.cell? ⟨g, off + k * 3, none⟩ = some (.int .i64 tx) ∧ wr.drew.cell? ⟨g, off + k * 3 + 1, none⟩ = some (.int .i64 out) := ⟨d0, e0, e1⟩
      clear HS HXA HXB HR HR2 hzA hzB e0 e1
      go_wp2
      clear d0 d1 d2 d3
      apply wp_meet13 (fun w' => Below w.heap.size w w' ∧ Bk w.heap.size 31 #[.slice (some ⟨g, off, none⟩) n c, .slice b m d, .int .i64 t.after, .string t.note] w')
      case h1 =>
        go_region_held3 (fun W => W.cell? ⟨w.heap.size, 0, none⟩ = some (.slice (some ⟨g, off, none⟩) n c) ∧ W.cell? ⟨g, off + k * 3, none⟩ = some (.int .i64 tx) ∧ W.cell? ⟨g, off + k * 3 + 1, none⟩ = some (.int .i64 out)) (first | with_reducible exact hS0 | with_reducible exact hSA | with_reducible exact hSB)
          (first
            | (go_at_call 77; refine (hconA _).mono ?_; rintro e wA ⟨rfl, hbA⟩; have hvA : Bk w.heap.size 31 #[.slice (some ⟨g, off, none⟩) n c, .slice b m d, .int .i64 t.after, .string t.note] wA := (by first | exact hvB.below hbA | exact vB.drew.below hbA); have hblA : Below w.heap.size w wA := (by first | exact below_aft13 hblB hbA | exact below_aft13 hbel.drew hbA); have hSA : wA.cell? ⟨w.heap.size, 0, none⟩ = some (.slice (some ⟨g, off, none⟩) n c) ∧ wA.cell? ⟨g, off + k * 3, none⟩ = some (.int .i64 tx) ∧ wA.cell? ⟨g, off + k * 3 + 1, none⟩ = some (.int .i64 out) := (by first | exact and3_bel hbA hSB | exact and3_bel hbA hS0))
            | (go_at_call 76; refine (hconB _).mono ?_; rintro e wB ⟨rfl, hbB⟩; have hvB : Bk w.heap.size 31 #[.slice (some ⟨g, off, none⟩) n c, .slice b m d, .int .i64 t.after, .string t.note] wB := (by first | exact hvA.below hbB | exact vB.drew.below hbB); have hblB : Below w.heap.size w wB := (by first | exact below_aft13 hblA hbB | exact below_aft13 hbel.drew hbB); have hSB : wB.cell? ⟨w.heap.size, 0, none⟩ = some (.slice (some ⟨g, off, none⟩) n c) ∧ wB.cell? ⟨g, off + k * 3, none⟩ = some (.int .i64 tx) ∧ wB.cell? ⟨g, off + k * 3 + 1, none⟩ = some (.int .i64 out) := (by first | exact and3_bel hbB hSA | exact and3_bel hbB hS0)))
        all_goals (refine ⟨rfl, ?_, ?_⟩ <;> first | with_reducible exact hblB | with_reducible exact hblA | with_reducible exact hvB | with_reducible exact hvA)
      case h2 =>
        rintro w2 ⟨hbel2, vB2⟩
        obtain ⟨d0, d1, d2, d3⟩ := Bk.c4 vB2
        obtain ⟨g2, off2, hge, _, _, hc⟩ := (HH.out.ins.below hbel2).2 (by omega)
        cases hge
        obtain ⟨wa2, wc2, _, _, e2, e3, _⟩ := hc k hlt
        rw [HX.out] at e2 e3
        simp only at e2 e3
        clear hc
        go_wp2
        go_roundw
        case rel => exact ⟨k + 1, by omega, by simp, by rw [HS2.out], hbel2, vB2⟩
        case measure => simp [intOf]; omega
    · have hk2 : k = n := by omega
      have hs1 : Tr.s1 false t k = Tr.s1 false t t.ins.length := by rw [hk2, HN.out]
      have hz := HZ1.out t.ins.length
      have HS0 := Lib.hid (Tr.s2_zero false t)
      rw [HM.out] at HS0
      obtain ⟨S, HSS⟩ : ∃ S, Hid (Tr.s1 false t t.ins.length = S) := ⟨_, Lib.hid rfl⟩
      rw [HSS.out] at hs1 hz HS0
      rw [hs1]
      have hzn := En.size_num m
      have hadd0 := fun W => ba_add13 W S (En.num m) (by omega)
      clear hs1
      go_wp2_with fail
      refine (l1Num_any m _ (by omega) (by omega)).mono ?_
      rintro e w1 ⟨rfl, hx1⟩
      have vB1 := vB.below hx1
      have hb1 := below_aft13 hbel hx1
      clear vB hbel hx1 d0 d1 d2 d3
      go_wp2
      go_loopw [5, 7] (fun s i wr => ∃ j : Nat, j ≤ m ∧ i = .int .i64 (j : Int) ∧ s = .string (Tr.s2 false t j) ∧ Below w.heap.size w wr ∧ Bk w.heap.size 31 #[.slice a n c, .slice b m d, .int .i64 t.after, .string t.note] wr)
        (fun _ i _ => m - (intOf i).toNat)
      case atStart => exact ⟨0, by omega, rfl, by rw [HS0.out], hb1, vB1⟩
      case round =>
        obtain ⟨j, hj, rfl, rfl, hbel, vB⟩ := hrel
        obtain ⟨d0, d1, d2, d3⟩ := Bk.c4 vB
        clear vB1 hb1 hadd0 hz hzn HS0
        by_cases hlj : j < m
        · obtain ⟨g, off, rfl, _, _, hc⟩ := (HH.out.outs.below hbel).2 (by omega)
          obtain ⟨e0, e1⟩ := hc j hlj
          have hjl : j < t.outs.length := by have := HM.out; omega
          have hin := HMID.out.outs _ (Tr.outAt_mem hjl)
          have HS := Lib.hid (Tr.s2_succ false t j hjl)
          have hz := HZ2.out j
          obtain ⟨x, HX⟩ : ∃ x, Hid (Tr.outAt t.outs j = x) := ⟨_, Lib.hid rfl⟩
          rw [HX.out] at e0 e1 hin HS
          obtain ⟨am, lk⟩ := x
          simp only at e0 e1 hin
          obtain ⟨S2, HSS2⟩ : ∃ S, Hid (Tr.s2 false t j = S) := ⟨_, Lib.hid rfl⟩
          rw [HSS2.out] at hz HS
          rw [HSS2.out]
          have HS2 : Hid (Tr.s2 false t (j + 1) = S2 ++ En.num am ++ En.text lk) := Lib.hid (by
            rw [HS.out]
            unfold Tr.Out.enc
            simp only [Tr.assoc])
          have hconA := fun W => l1Num_any am W (by omega) (by omega)
          have hconB := fun W => l1Text_any lk W (by omega)
          have hzA := En.size_num am
          have hzB := Tr.text_size hin.2
          obtain ⟨XA, HXA⟩ : ∃ X, Hid (En.num am = X) := ⟨_, Lib.hid rfl⟩
          obtain ⟨XB, HXB⟩ : ∃ X, Hid (En.text lk = X) := ⟨_, Lib.hid rfl⟩
          rw [HXA.out] at hzA
          rw [HXB.out] at hzB
          rw [HXA.out, HXB.out] at HS2
          simp only [HXA.out] at hconA
          simp only [HXB.out] at hconB
          have hadd1 := fun W => ba_add13 W S2 XA (by omega)
          obtain ⟨R, HR⟩ : ∃ R, Hid (S2 ++ XA = R) := ⟨_, Lib.hid rfl⟩
          simp only [HR.out] at hadd1
          have hzr : R.size ≤ 15010 := by rw [← HR.out, ByteArray.size_append]; omega
          have hadd2 := fun W => ba_add13 W R XB (by omega)
          rw [HR.out] at HS2
          have hS0 : wr.drew.cell? ⟨w.heap.size, 1, none⟩ = some (.slice (some ⟨g, off, none⟩) m d) ∧ wr.drew.cell? ⟨g, off + j * 2, none⟩ = some (.int .i64 am) ∧ wr.drew.cell? ⟨g, off + j * 2 + 1, none⟩ = some (.string lk) := ⟨d1, e0, e1⟩
          clear HS HXA HXB HR hzA hzB e0 e1 hc
          go_wp2
          clear d0 d1 d2 d3
          apply wp_meet13 (fun w' => Below w.heap.size w w' ∧ Bk w.heap.size 31 #[.slice a n c, .slice (some ⟨g, off, none⟩) m d, .int .i64 t.after, .string t.note] w')
          case h1 =>
            go_region_held3 (fun W => W.cell? ⟨w.heap.size, 1, none⟩ = some (.slice (some ⟨g, off, none⟩) m d) ∧ W.cell? ⟨g, off + j * 2, none⟩ = some (.int .i64 am) ∧ W.cell? ⟨g, off + j * 2 + 1, none⟩ = some (.string lk)) (first | with_reducible exact hS0 | with_reducible exact hSA | with_reducible exact hSB)
              (first
                | (go_at_call 76; refine (hconA _).mono ?_; rintro e wA ⟨rfl, hbA⟩; have hvA : Bk w.heap.size 31 #[.slice a n c, .slice (some ⟨g, off, none⟩) m d, .int .i64 t.after, .string t.note] wA := (by first | exact hvB.below hbA | exact vB.drew.below hbA); have hblA : Below w.heap.size w wA := (by first | exact below_aft13 hblB hbA | exact below_aft13 hbel.drew hbA); have hSA : wA.cell? ⟨w.heap.size, 1, none⟩ = some (.slice (some ⟨g, off, none⟩) m d) ∧ wA.cell? ⟨g, off + j * 2, none⟩ = some (.int .i64 am) ∧ wA.cell? ⟨g, off + j * 2 + 1, none⟩ = some (.string lk) := (by first | exact and3_bel hbA hSB | exact and3_bel hbA hS0))
                | (go_at_call 79; refine (hconB _).mono ?_; rintro e wB ⟨rfl, hbB⟩; have hvB : Bk w.heap.size 31 #[.slice a n c, .slice (some ⟨g, off, none⟩) m d, .int .i64 t.after, .string t.note] wB := (by first | exact hvA.below hbB | exact vB.drew.below hbB); have hblB : Below w.heap.size w wB := (by first | exact below_aft13 hblA hbB | exact below_aft13 hbel.drew hbB); have hSB : wB.cell? ⟨w.heap.size, 1, none⟩ = some (.slice (some ⟨g, off, none⟩) m d) ∧ wB.cell? ⟨g, off + j * 2, none⟩ = some (.int .i64 am) ∧ wB.cell? ⟨g, off + j * 2 + 1, none⟩ = some (.string lk) := (by first | exact and3_bel hbB hSA | exact and3_bel hbB hS0)))
            all_goals (refine ⟨rfl, ?_, ?_⟩ <;> first | with_reducible exact hblB | with_reducible exact hblA | with_reducible exact hvB | with_reducible exact hvA)
          case h2 =>
            rintro w2 ⟨hbel2, vB2⟩
            go_wp2
            go_roundw
            case rel => exact ⟨j + 1, by omega, by simp, by rw [HS2.out], hbel2, vB2⟩
            case measure => simp [intOf]; omega
        · have hj2 : j = m := by omega
          have hs2 : Tr.s2 false t j = Tr.s2 false t t.outs.length := by rw [hj2, HM.out]
          have hz := HZ2.out t.outs.length
          have HE := Lib.hid (Tr.s2_end false t)
          have hin := HMID.out.after
          have hnt := HMID.out.note
          obtain ⟨S2, HSS2⟩ : ∃ S, Hid (Tr.s2 false t t.outs.length = S) := ⟨_, Lib.hid rfl⟩
          rw [HSS2.out] at hs2 hz HE
          rw [hs2]
          have hconA := fun W => l1Num_any t.after W (by omega) (by omega)
          have hconB := fun W => l1Text_any t.note W (by omega)
          have hzA := En.size_num t.after
          have hzB := Tr.text_size hnt
          obtain ⟨XA, HXA⟩ : ∃ X, Hid (En.num t.after = X) := ⟨_, Lib.hid rfl⟩
          obtain ⟨XB, HXB⟩ : ∃ X, Hid (En.text t.note = X) := ⟨_, Lib.hid rfl⟩
          rw [HXA.out] at hzA
          rw [HXB.out] at hzB
          rw [HXA.out, HXB.out] at HE
          simp only [HXA.out] at hconA
          simp only [HXB.out] at hconB
          have hadd1 := fun W => ba_add13 W S2 XA (by omega)
          obtain ⟨R, HR⟩ : ∃ R, Hid (S2 ++ XA = R) := ⟨_, Lib.hid rfl⟩
          simp only [HR.out] at hadd1
          have hzr : R.size ≤ 15010 := by rw [← HR.out, ByteArray.size_append]; omega
          have hadd2 := fun W => ba_add13 W R XB (by omega)
          rw [HR.out] at HE
          have hS0 : wr.drew.cell? ⟨w.heap.size, 2, none⟩ = some (.int .i64 t.after) ∧ wr.drew.cell? ⟨w.heap.size, 3, none⟩ = some (.string t.note) := ⟨d2, d3⟩
          clear HXA HXB HR hzA hzB hs2
          go_wp2
          clear d0 d1 d2 d3
          go_region_held3 (fun W => W.cell? ⟨w.heap.size, 2, none⟩ = some (.int .i64 t.after) ∧ W.cell? ⟨w.heap.size, 3, none⟩ = some (.string t.note)) (first | with_reducible exact hS0 | with_reducible exact hSA | with_reducible exact hSB)
            (first
              | (go_at_call 76; refine (hconA _).mono ?_; rintro e wA ⟨rfl, hbA⟩; have hvA : Bk w.heap.size 31 #[.slice a n c, .slice b m d, .int .i64 t.after, .string t.note] wA := (by first | exact hvB.below hbA | exact vB.drew.below hbA); have hblA : Below w.heap.size w wA := (by first | exact below_aft13 hblB hbA | exact below_aft13 hbel.drew hbA); have hSA : wA.cell? ⟨w.heap.size, 2, none⟩ = some (.int .i64 t.after) ∧ wA.cell? ⟨w.heap.size, 3, none⟩ = some (.string t.note) := (by first | exact and2_bel hbA hSB | exact and2_bel hbA hS0))
              | (go_at_call 79; refine (hconB _).mono ?_; rintro e wB ⟨rfl, hbB⟩; have hvB : Bk w.heap.size 31 #[.slice a n c, .slice b m d, .int .i64 t.after, .string t.note] wB := (by first | exact hvA.below hbB | exact vB.drew.below hbB); have hblB : Below w.heap.size w wB := (by first | exact below_aft13 hblA hbB | exact below_aft13 hbel.drew hbB); have hSB : wB.cell? ⟨w.heap.size, 2, none⟩ = some (.int .i64 t.after) ∧ wB.cell? ⟨w.heap.size, 3, none⟩ = some (.string t.note) := (by first | exact and2_bel hbB hSA | exact and2_bel hbB hS0)))
          all_goals go_wp2
          all_goals go_ret
          all_goals exact ⟨by rw [← HE.out]; rfl, by first | with_reducible exact hblB | with_reducible exact hblA⟩

end Go.Proofs.Ytedjbikphdflhab
