/-
  Contracts of the program: TxOk, TxBytes, TxCore, TxId, SignText; of the model: TxId.
-/
import Derived.Test.YtcbpdibkindnfaaGreatTt
import Derived.Test.YtcbpdibkindnfaaGreatTh
namespace Go.Proofs.YtcbpdibkindnfaaGreat
open Go.RowKit

set_option maxRecDepth 100000 in
set_option maxHeartbeats 1600000 in
theorem implTxOk_any (lo : Nat) (a : Option Addr) (n c : Nat) (b : Option Addr) (m d : Nat) (t : Tr) (w : World) (h : TrR lo w a n b m t) (hcap : n ≤ c) (hs : t.small) :
    Calls Tryz.prog 14 #[.agg #[.slice a n c, .slice b m d, .int .i64 t.after, .string t.note]] w fun e w' => e = .returned (.bool t.ok) ∧ Below w.heap.size w w' := by
  have hn6 : n ≤ 1048576 := by have := hs.nin; have := h.ins.1; omega
  have hm6 : m ≤ 1048576 := by have := hs.nout; have := h.outs.1; omega
  have hnt := hs.note
  have HSM := Lib.hid hs
  have vB0 : Bk w.heap.size 26 #[.slice a n c, .slice b m d, .int .i64 t.after, .string t.note] (w.alloc (.cells #[.slice a n c, .slice b m d, .int .i64 t.after, .string t.note] 26 (0, 0))) := Bk.new _ _ _
  have hb0 : Below w.heap.size w (w.alloc (.cells #[.slice a n c, .slice b m d, .int .i64 t.after, .string t.note] 26 (0, 0))) := (Below.refl _ _).alloc (Nat.le_refl _) _
  have hcI := areIns_any lo a n c t.ins _ (h.below hb0).ins hcap hn6 hs.wit
  have hok := Tr.ok_eq t
  have HH := Lib.hid h
  obtain ⟨e0, e1, e2, e3⟩ := Bk.c4 vB0
  clear h hs
  cases hI : Tr.insOk t.ins
  · rw [hI] at hcI
    have HO : Hid (t.ok = false) := Lib.hid (by rw [hok, hI]; simp)
    clear hok hI
    go_enter Tryz.func14, Tryz.ntmps14
    go_wp2_with fail
    refine hcI.mono ?_
    rintro e w1 ⟨rfl, hx1⟩
    have hb1 := hb0.trans (hx1.mono hb0.size)
    clear hcI hx1
    go_wp2
    go_ret
    exact ⟨by rw [HO.out]; rfl, hb1⟩
  rw [hI] at hcI
  have HI := Lib.hid hI
  rw [hI, Bool.true_and] at hok
  clear hI
  have hcO := fun (W : World) (hW : OuL lo W b m t.outs) => areOuts_any lo b m d t.outs W hW hm6 HSM.out.lock
  cases hO : Tr.outsOk t.outs
  · have HO : Hid (t.ok = false) := Lib.hid (by rw [hok, hO]; simp)
    simp only [hO] at hcO
    have HCO := Lib.hid hcO
    clear hok hO hcO
    go_enter Tryz.func14, Tryz.ntmps14
    go_wp2_with fail
    refine hcI.mono ?_
    rintro e w1 ⟨rfl, hx1⟩
    have hb1 := hb0.trans (hx1.mono hb0.size)
    have vB1 := vB0.below hx1
    obtain ⟨d0, d1, d2, d3⟩ := Bk.c4 vB1
    clear hcI hx1 e0 e1 e2 e3
    go_wp2_with fail
    refine (HCO.out _ (HH.out.below hb1).outs).mono ?_
    rintro e w2 ⟨rfl, hx2⟩
    have hb2 := hb1.trans (hx2.mono hb1.size)
    obtain ⟨f0, f1, f2, f3⟩ := Bk.c4 (vB1.below hx2)
    clear hx2 d0 d1 d2 d3
    go_wp2
    go_ret
    exact ⟨by rw [HO.out]; rfl, hb2⟩
  simp only [hO] at hcO
  have HOO := Lib.hid hO
  rw [hO, Bool.true_and] at hok
  clear hO
  have HCO := Lib.hid hcO
  clear hcO
  cases hA : decide (0 ≤ t.after)
  · have HO : Hid (t.ok = false) := Lib.hid (by rw [hok, hA]; simp)
    clear hok
    go_enter Tryz.func14, Tryz.ntmps14
    go_wp2_with fail
    refine hcI.mono ?_
    rintro e w1 ⟨rfl, hx1⟩
    have hb1 := hb0.trans (hx1.mono hb0.size)
    have vB1 := vB0.below hx1
    obtain ⟨d0, d1, d2, d3⟩ := Bk.c4 vB1
    clear hcI hx1 e0 e1 e2 e3
    go_wp2_with fail
    refine (HCO.out _ (HH.out.below hb1).outs).mono ?_
    rintro e w2 ⟨rfl, hx2⟩
    have hb2 := hb1.trans (hx2.mono hb1.size)
    obtain ⟨f0, f1, f2, f3⟩ := Bk.c4 (vB1.below hx2)
    clear hx2 d0 d1 d2 d3
    go_wp2
    go_ret
    exact ⟨by rw [HO.out]; rfl, hb2⟩
  rw [hA, Bool.true_and] at hok
  cases hA2 : decide (t.after ≤ 9999)
  · have HO : Hid (t.ok = false) := Lib.hid (by rw [hok, hA2]; simp)
    clear hok
    go_enter Tryz.func14, Tryz.ntmps14
    go_wp2_with fail
    refine hcI.mono ?_
    rintro e w1 ⟨rfl, hx1⟩
    have hb1 := hb0.trans (hx1.mono hb0.size)
    have vB1 := vB0.below hx1
    obtain ⟨d0, d1, d2, d3⟩ := Bk.c4 vB1
    clear hcI hx1 e0 e1 e2 e3
    go_wp2_with fail
    refine (HCO.out _ (HH.out.below hb1).outs).mono ?_
    rintro e w2 ⟨rfl, hx2⟩
    have hb2 := hb1.trans (hx2.mono hb1.size)
    obtain ⟨f0, f1, f2, f3⟩ := Bk.c4 (vB1.below hx2)
    clear hx2 d0 d1 d2 d3
    go_wp2
    go_ret
    exact ⟨by rw [HO.out]; rfl, hb2⟩
  rw [hA2, Bool.true_and] at hok
  have HA : Hid (0 ≤ t.after ∧ t.after ≤ 9999) := Lib.hid ⟨of_decide_eq_true hA, of_decide_eq_true hA2⟩
  by_cases hN : 20 < t.note.size
  · have hv : decide ((t.note.size : Int) ≤ 20) = false := decide_eq_false (by omega)
    have HO : Hid (t.ok = false) := Lib.hid (by rw [hok, decide_eq_false (by omega)]; simp)
    clear hok hN
    go_enter Tryz.func14, Tryz.ntmps14
    go_wp2_with fail
    refine hcI.mono ?_
    rintro e w1 ⟨rfl, hx1⟩
    have hb1 := hb0.trans (hx1.mono hb0.size)
    have vB1 := vB0.below hx1
    obtain ⟨d0, d1, d2, d3⟩ := Bk.c4 vB1
    clear hcI hx1 e0 e1 e2 e3
    go_wp2_with fail
    refine (HCO.out _ (HH.out.below hb1).outs).mono ?_
    rintro e w2 ⟨rfl, hx2⟩
    have hb2 := hb1.trans (hx2.mono hb1.size)
    obtain ⟨f0, f1, f2, f3⟩ := Bk.c4 (vB1.below hx2)
    clear hx2 d0 d1 d2 d3
    go_wp2
    go_ret
    exact ⟨by rw [HO.out]; rfl, hb2⟩
  have hv : decide ((t.note.size : Int) ≤ 20) = true := decide_eq_true (by omega)
  have hmid := Tr.mid_of HI.out HOO.out HA.out (by omega)
  rw [decide_eq_true (show t.note.size ≤ 20 by omega), Bool.true_and] at hok
  have hcB := fun (W : World) (hW : TrR lo W a n b m t) => txbytes_any lo a n c b m d t W hW hmid
  have hze := Tr.enc_size true hmid
  obtain ⟨X, HX⟩ : ∃ X, Hid (Tr.enc true t = X) := ⟨_, Lib.hid rfl⟩
  rw [HX.out] at hok hze
  simp only [HX.out] at hcB
  have HCB := Lib.hid hcB
  have HO : Hid (t.ok = decide ((X.size : Int) ≤ 3000)) := Lib.hid (by
    rw [hok, decide_eq_decide]
    omega)
  clear hok hN hcB hmid HX
  go_enter Tryz.func14, Tryz.ntmps14
  go_wp2_with fail
  refine hcI.mono ?_
  rintro e w1 ⟨rfl, hx1⟩
  have hb1 := hb0.trans (hx1.mono hb0.size)
  have vB1 := vB0.below hx1
  obtain ⟨d0, d1, d2, d3⟩ := Bk.c4 vB1
  clear hcI hx1 e0 e1 e2 e3
  go_wp2_with fail
  refine (HCO.out _ (HH.out.below hb1).outs).mono ?_
  rintro e w2 ⟨rfl, hx2⟩
  have hb2 := hb1.trans (hx2.mono hb1.size)
  obtain ⟨f0, f1, f2, f3⟩ := Bk.c4 (vB1.below hx2)
  clear hx2 d0 d1 d2 d3
  go_wp2_with fail
  refine (HCB.out _ (HH.out.below hb2)).mono ?_
  rintro e w3 ⟨rfl, hx3⟩
  have hb3 := below_aft13 hb2 hx3
  clear hx3 f0 f1 f2 f3
  go_wp2
  go_ret
  exact ⟨by rw [HO.out]; rfl, hb3⟩

set_option maxRecDepth 100000 in
set_option maxHeartbeats 1600000 in
theorem implTxBytes_any (lo : Nat) (a : Option Addr) (n c : Nat) (b : Option Addr) (m d : Nat) (t : Tr) (w : World) (h : TrR lo w a n b m t) (hcap : n ≤ c) (hs : t.small) :
    Calls Tryz.prog 6 #[.agg #[.slice a n c, .slice b m d, .int .i64 t.after, .string t.note]] w fun e w' => e = .returned (.tuple #[.string (if t.ok = true then Tr.enc true t else ⟨#[]⟩), .bool t.ok]) ∧ Below w.heap.size w w' := by
  have vB0 : Bk w.heap.size 26 #[.slice a n c, .slice b m d, .int .i64 t.after, .string t.note] (w.alloc (.cells #[.slice a n c, .slice b m d, .int .i64 t.after, .string t.note] 26 (0, 0))) := Bk.new _ _ _
  have hb0 : Below w.heap.size w (w.alloc (.cells #[.slice a n c, .slice b m d, .int .i64 t.after, .string t.note] 26 (0, 0))) := (Below.refl _ _).alloc (Nat.le_refl _) _
  have hcT := implTxOk_any lo a n c b m d t _ (h.below hb0) hcap hs
  have HH := Lib.hid h
  obtain ⟨e0, e1, e2, e3⟩ := Bk.c4 vB0
  clear h hs
  cases hok : t.ok
  · rw [hok] at hcT
    rw [if_neg (by decide)]
    clear hok
    go_enter Tryz.func6, Tryz.ntmps6
    go_wp2_with fail
    refine hcT.mono ?_
    rintro e w1 ⟨rfl, hx1⟩
    have hb1 := hb0.trans (hx1.mono hb0.size)
    go_wp2
    go_ret2
    exact ⟨rfl, hb1⟩
  rw [hok] at hcT
  rw [if_pos rfl]
  have hmid := Tr.ok_mid hok
  have HCB := Lib.hid (fun (W : World) (hW : TrR lo W a n b m t) => txbytes_any lo a n c b m d t W hW hmid)
  clear hok hmid
  go_enter Tryz.func6, Tryz.ntmps6
  go_wp2_with fail
  refine hcT.mono ?_
  rintro e w1 ⟨rfl, hx1⟩
  have hb1 := hb0.trans (hx1.mono hb0.size)
  obtain ⟨d0, d1, d2, d3⟩ := Bk.c4 (vB0.below hx1)
  clear hcT hx1 e0 e1 e2 e3
  go_wp2_with fail
  refine (HCB.out _ (HH.out.below hb1)).mono ?_
  rintro e w2 ⟨rfl, hx2⟩
  have hb2 := below_aft13 hb1 hx2
  clear hx2 d0 d1 d2 d3
  go_wp2
  go_ret2
  exact ⟨rfl, hb2⟩


/-- The id. -/
def Tr.id (t : Tr) : Int := if t.ok = true then Dg.of (Tr.enc false t) else -1

end Go.Proofs.YtcbpdibkindnfaaGreat
