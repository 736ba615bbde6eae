/-
  Contracts of the program: TxOk, TxBytes, TxCore, TxId, SignText; of the model: TxId.
-/
import Derived.Test.YtcbpdibkindnfaaTt
import Derived.Test.YtcbpdibkindnfaaTh
namespace Go.Proofs.Ytcbpdibkindnfaa
open Go.RowKit

set_option maxRecDepth 100000 in
set_option maxHeartbeats 1600000 in
theorem implTxOk_any (lo : Nat) (a : Option Addr) (n c : Nat) (b : Option Addr) (m d : Nat) (t : Tr) (w : World) (h : TrR lo w a n b m t) (hcap : n ≤ c) (hs : t.small) :
    Calls Try.prog 10 #[.agg #[.slice a n c, .slice b m d, .int .i64 t.after, .string t.note]] w fun e w' => e = .returned (.bool t.ok) ∧ Below w.heap.size w w' := by
  have hn6 : n ≤ 1048576 := by have := hs.nin; have := h.ins.1; omega
  have hm6 : m ≤ 1048576 := by have := hs.nout; have := h.outs.1; omega
  have hnt := hs.note
  have HSM := Lib.hid hs
  have vB0 : Bk w.heap.size 26 #[.slice a n c, .slice b m d, .int .i64 t.after, .string t.note] (w.alloc (.cells #[.slice a n c, .slice b m d, .int .i64 t.after, .string t.note] 26 (0, 0))) := Bk.new _ _ _
  have hb0 : Below w.heap.size w (w.alloc (.cells #[.slice a n c, .slice b m d, .int .i64 t.after, .string t.note] 26 (0, 0))) := (Below.refl _ _).alloc (Nat.le_refl _) _
  have hcI := areIns_any lo a n c t.ins _ (h.below hb0).ins hcap hn6 hs.wit
  have hok := Tr.ok_eq t
  have HH := Lib.hid h
  obtain ⟨e0, e1, e2, e3⟩ := Bk.c4 vB0
  clear h hs
  cases hI : Tr.insOk t.ins
  · rw [hI] at hcI
    have HO : Hid (t.ok = false) := Lib.hid (by rw [hok, hI]; simp)
    clear hok hI
    go_enter Try.func10, Try.ntmps10
    go_wp2_with fail
    refine hcI.mono ?_
    rintro e w1 ⟨rfl, hx1⟩
    have hb1 := hb0.trans (hx1.mono hb0.size)
    clear hcI hx1
    go_wp2
    go_ret
    exact ⟨by rw [HO.out]; rfl, hb1⟩
  rw [hI] at hcI
  have HI := Lib.hid hI
  rw [hI, Bool.true_and] at hok
  clear hI
  have hcO := fun (W : World) (hW : OuL lo W b m t.outs) => areOuts_any lo b m d t.outs W hW hm6 HSM.out.lock
  cases hO : Tr.outsOk t.outs
  · have HO : Hid (t.ok = false) := Lib.hid (by rw [hok, hO]; simp)
    simp only [hO] at hcO
    have HCO := Lib.hid hcO
    clear hok hO hcO
    go_enter Try.func10, Try.ntmps10
    go_wp2_with fail
    refine hcI.mono ?_
    rintro e w1 ⟨rfl, hx1⟩
    have hb1 := hb0.trans (hx1.mono hb0.size)
    have vB1 := vB0.below hx1
    obtain ⟨d0, d1, d2, d3⟩ := Bk.c4 vB1
    clear hcI hx1 e0 e1 e2 e3
    go_wp2_with fail
    refine (HCO.out _ (HH.out.below hb1).outs).mono ?_
    rintro e w2 ⟨rfl, hx2⟩
    have hb2 := hb1.trans (hx2.mono hb1.size)
    obtain ⟨f0, f1, f2, f3⟩ := Bk.c4 (vB1.below hx2)
    clear hx2 d0 d1 d2 d3
    go_wp2
    go_ret
    exact ⟨by rw [HO.out]; rfl, hb2⟩
  simp only [hO] at hcO
  have HOO := Lib.hid hO
  rw [hO, Bool.true_and] at hok
  clear hO
  have HCO := Lib.hid hcO
  clear hcO
  cases hA : decide (0 ≤ t.after)
  · have HO : Hid (t.ok = false) := Lib.hid (by rw [hok, hA]; simp)
    clear hok
    go_enter Try.func10, Try.ntmps10
    go_wp2_with fail
    refine hcI.mono ?_
    rintro e w1 ⟨rfl, hx1⟩
    have hb1 := hb0.trans (hx1.mono hb0.size)
    have vB1 := vB0.below hx1
    obtain ⟨d0, d1, d2, d3⟩ := Bk.c4 vB1
    clear hcI hx1 e0 e1 e2 e3
    go_wp2_with fail
    refine (HCO.out _ (HH.out.below hb1).outs).mono ?_
    rintro e w2 ⟨rfl, hx2⟩
    have hb2 := hb1.trans (hx2.mono hb1.size)
    obtain ⟨f0, f1, f2, f3⟩ := Bk.c4 (vB1.below hx2)
    clear hx2 d0 d1 d2 d3
    go_wp2
    go_ret
    exact ⟨by rw [HO.out]; rfl, hb2⟩
  rw [hA, Bool.true_and] at hok
  cases hA2 : decide (t.after ≤ 9999)
  · have HO : Hid (t.ok = false) := Lib.hid (by rw [hok, hA2]; simp)
    clear hok
    go_enter Try.func10, Try.ntmps10
    go_wp2_with fail
    refine hcI.mono ?_
    rintro e w1 ⟨rfl, hx1⟩
    have hb1 := hb0.trans (hx1.mono hb0.size)
    have vB1 := vB0.below hx1
    obtain ⟨d0, d1, d2, d3⟩ := Bk.c4 vB1
    clear hcI hx1 e0 e1 e2 e3
    go_wp2_with fail
    refine (HCO.out _ (HH.out.below hb1).outs).mono ?_
    rintro e w2 ⟨rfl, hx2⟩
    have hb2 := hb1.trans (hx2.mono hb1.size)
    obtain ⟨f0, f1, f2, f3⟩ := Bk.c4 (vB1.below hx2)
    clear hx2 d0 d1 d2 d3
    go_wp2
    go_ret
    exact ⟨by rw [HO.out]; rfl, hb2⟩
  rw [hA2, Bool.true_and] at hok
  have HA : Hid (0 ≤ t.after ∧ t.after ≤ 9999) := Lib.hid ⟨of_decide_eq_true hA, of_decide_eq_true hA2⟩
  by_cases hN : 20 < t.note.size
  · have hv : decide ((t.note.size : Int) ≤ 20) = false := decide_eq_false (by omega)
    have HO : Hid (t.ok = false) := Lib.hid (by rw [hok, decide_eq_false (by omega)]; simp)
    clear hok hN
    go_enter Try.func10, Try.ntmps10
    go_wp2_with fail
    refine hcI.mono ?_
    rintro e w1 ⟨rfl, hx1⟩
    have hb1 := hb0.trans (hx1.mono hb0.size)
    have vB1 := vB0.below hx1
    obtain ⟨d0, d1, d2, d3⟩ := Bk.c4 vB1
    clear hcI hx1 e0 e1 e2 e3
    go_wp2_with fail
    refine (HCO.out _ (HH.out.below hb1).outs).mono ?_
    rintro e w2 ⟨rfl, hx2⟩
    have hb2 := hb1.trans (hx2.mono hb1.size)
    obtain ⟨f0, f1, f2, f3⟩ := Bk.c4 (vB1.below hx2)
    clear hx2 d0 d1 d2 d3
    go_wp2
    go_ret
    exact ⟨by rw [HO.out]; rfl, hb2⟩
  have hv : decide ((t.note.size : Int) ≤ 20) = true := decide_eq_true (by omega)
  have hmid := Tr.mid_of HI.out HOO.out HA.out (by omega)
  rw [decide_eq_true (show t.note.size ≤ 20 by omega), Bool.true_and] at hok
  have hcB := fun (W : World) (hW : TrR lo W a n b m t) => txbytes_any lo a n c b m d t W hW hmid
  have hze := Tr.enc_size true hmid
  obtain ⟨X, HX⟩ : ∃ X, Hid (Tr.enc true t = X) := ⟨_, Lib.hid rfl⟩
  rw [HX.out] at hok hze
  simp only [HX.out] at hcB
  have HCB := Lib.hid hcB
  have HO : Hid (t.ok = decide ((X.size : Int) ≤ 3000)) := Lib.hid (by
    rw [hok, decide_eq_decide]
    omega)
  clear hok hN hcB hmid HX
  go_enter Try.func10, Try.ntmps10
  go_wp2_with fail
  refine hcI.mono ?_
  rintro e w1 ⟨rfl, hx1⟩
  have hb1 := hb0.trans (hx1.mono hb0.size)
  have vB1 := vB0.below hx1
  obtain ⟨d0, d1, d2, d3⟩ := Bk.c4 vB1
  clear hcI hx1 e0 e1 e2 e3
  go_wp2_with fail
  refine (HCO.out _ (HH.out.below hb1).outs).mono ?_
  rintro e w2 ⟨rfl, hx2⟩
  have hb2 := hb1.trans (hx2.mono hb1.size)
  obtain ⟨f0, f1, f2, f3⟩ := Bk.c4 (vB1.below hx2)
  clear hx2 d0 d1 d2 d3
  go_wp2_with fail
  refine (HCB.out _ (HH.out.below hb2)).mono ?_
  rintro e w3 ⟨rfl, hx3⟩
  have hb3 := below_aft13 hb2 hx3
  clear hx3 f0 f1 f2 f3
  go_wp2
  go_ret
  exact ⟨by rw [HO.out]; rfl, hb3⟩

set_option maxRecDepth 100000 in
set_option maxHeartbeats 1600000 in
theorem implTxBytes_any (lo : Nat) (a : Option Addr) (n c : Nat) (b : Option Addr) (m d : Nat) (t : Tr) (w : World) (h : TrR lo w a n b m t) (hcap : n ≤ c) (hs : t.small) :
    Calls Try.prog 12 #[.agg #[.slice a n c, .slice b m d, .int .i64 t.after, .string t.note]] w fun e w' => e = .returned (.tuple #[.string (if t.ok = true then Tr.enc true t else ⟨#[]⟩), .bool t.ok]) ∧ Below w.heap.size w w' := by
  have vB0 : Bk w.heap.size 26 #[.slice a n c, .slice b m d, .int .i64 t.after, .string t.note] (w.alloc (.cells #[.slice a n c, .slice b m d, .int .i64 t.after, .string t.note] 26 (0, 0))) := Bk.new _ _ _
  have hb0 : Below w.heap.size w (w.alloc (.cells #[.slice a n c, .slice b m d, .int .i64 t.after, .string t.note] 26 (0, 0))) := (Below.refl _ _).alloc (Nat.le_refl _) _
  have hcT := implTxOk_any lo a n c b m d t _ (h.below hb0) hcap hs
  have HH := Lib.hid h
  obtain ⟨e0, e1, e2, e3⟩ := Bk.c4 vB0
  clear h hs
  cases hok : t.ok
  · rw [hok] at hcT
    rw [if_neg (by decide)]
    clear hok
    go_enter Try.func12, Try.ntmps12
    go_wp2_with fail
    refine hcT.mono ?_
    rintro e w1 ⟨rfl, hx1⟩
    have hb1 := hb0.trans (hx1.mono hb0.size)
    go_wp2
    go_ret2
    exact ⟨rfl, hb1⟩
  rw [hok] at hcT
  rw [if_pos rfl]
  have hmid := Tr.ok_mid hok
  have HCB := Lib.hid (fun (W : World) (hW : TrR lo W a n b m t) => txbytes_any lo a n c b m d t W hW hmid)
  clear hok hmid
  go_enter Try.func12, Try.ntmps12
  go_wp2_with fail
  refine hcT.mono ?_
  rintro e w1 ⟨rfl, hx1⟩
  have hb1 := hb0.trans (hx1.mono hb0.size)
  obtain ⟨d0, d1, d2, d3⟩ := Bk.c4 (vB0.below hx1)
  clear hcT hx1 e0 e1 e2 e3
  go_wp2_with fail
  refine (HCB.out _ (HH.out.below hb1)).mono ?_
  rintro e w2 ⟨rfl, hx2⟩
  have hb2 := below_aft13 hb1 hx2
  clear hx2 d0 d1 d2 d3
  go_wp2
  go_ret2
  exact ⟨rfl, hb2⟩

set_option maxRecDepth 100000 in
set_option maxHeartbeats 1600000 in
theorem implTxCore_any (lo : Nat) (a : Option Addr) (n c : Nat) (b : Option Addr) (m d : Nat) (t : Tr) (w : World) (h : TrR lo w a n b m t) (hcap : n ≤ c) (hs : t.small) :
    Calls Try.prog 13 #[.agg #[.slice a n c, .slice b m d, .int .i64 t.after, .string t.note]] w fun e w' => e = .returned (.tuple #[.string (if t.ok = true then Tr.enc false t else ⟨#[]⟩), .bool t.ok]) ∧ Below w.heap.size w w' := by
  have vB0 : Bk w.heap.size 26 #[.slice a n c, .slice b m d, .int .i64 t.after, .string t.note] (w.alloc (.cells #[.slice a n c, .slice b m d, .int .i64 t.after, .string t.note] 26 (0, 0))) := Bk.new _ _ _
  have hb0 : Below w.heap.size w (w.alloc (.cells #[.slice a n c, .slice b m d, .int .i64 t.after, .string t.note] 26 (0, 0))) := (Below.refl _ _).alloc (Nat.le_refl _) _
  have hcT := implTxOk_any lo a n c b m d t _ (h.below hb0) hcap hs
  have HH := Lib.hid h
  obtain ⟨e0, e1, e2, e3⟩ := Bk.c4 vB0
  clear h hs
  cases hok : t.ok
  · rw [hok] at hcT
    rw [if_neg (by decide)]
    clear hok
    go_enter Try.func13, Try.ntmps13
    go_wp2_with fail
    refine hcT.mono ?_
    rintro e w1 ⟨rfl, hx1⟩
    have hb1 := hb0.trans (hx1.mono hb0.size)
    go_wp2
    go_ret2
    exact ⟨rfl, hb1⟩
  rw [hok] at hcT
  rw [if_pos rfl]
  have hmid := Tr.ok_mid hok
  have HCB := Lib.hid (fun (W : World) (hW : TrR lo W a n b m t) => txcore_any lo a n c b m d t W hW hmid)
  clear hok hmid
  go_enter Try.func13, Try.ntmps13
  go_wp2_with fail
  refine hcT.mono ?_
  rintro e w1 ⟨rfl, hx1⟩
  have hb1 := hb0.trans (hx1.mono hb0.size)
  obtain ⟨d0, d1, d2, d3⟩ := Bk.c4 (vB0.below hx1)
  clear hcT hx1 e0 e1 e2 e3
  go_wp2_with fail
  refine (HCB.out _ (HH.out.below hb1)).mono ?_
  rintro e w2 ⟨rfl, hx2⟩
  have hb2 := below_aft13 hb1 hx2
  clear hx2 d0 d1 d2 d3
  go_wp2
  go_ret2
  exact ⟨rfl, hb2⟩

/-- The id. -/
def Tr.id (t : Tr) : Int := if t.ok = true then Dg.of (Tr.enc false t) else -1
set_option maxRecDepth 100000 in
set_option maxHeartbeats 1600000 in
theorem implTxId_any (lo : Nat) (a : Option Addr) (n c : Nat) (b : Option Addr) (m d : Nat) (t : Tr) (w : World) (h : TrR lo w a n b m t) (hcap : n ≤ c) (hs : t.small) :
    Calls Try.prog 14 #[.agg #[.slice a n c, .slice b m d, .int .i64 t.after, .string t.note]] w fun e w' => e = .returned (.int .i64 t.id) ∧ Below w.heap.size w w' := by
  have vB0 : Bk w.heap.size 26 #[.slice a n c, .slice b m d, .int .i64 t.after, .string t.note] (w.alloc (.cells #[.slice a n c, .slice b m d, .int .i64 t.after, .string t.note] 26 (0, 0))) := Bk.new _ _ _
  have hb0 : Below w.heap.size w (w.alloc (.cells #[.slice a n c, .slice b m d, .int .i64 t.after, .string t.note] 26 (0, 0))) := (Below.refl _ _).alloc (Nat.le_refl _) _
  have hcT := implTxCore_any lo a n c b m d t _ (h.below hb0) hcap hs
  obtain ⟨e0, e1, e2, e3⟩ := Bk.c4 vB0
  clear h hs
  unfold Tr.id
  cases hok : t.ok
  · rw [hok, if_neg (by decide)] at hcT
    rw [if_neg (by decide)]
    clear hok
    go_enter Try.func14, Try.ntmps14
    go_wp2_with fail
    refine hcT.mono ?_
    rintro e w1 ⟨rfl, hx1⟩
    have hb1 := hb0.trans (hx1.mono hb0.size)
    go_wp2
    go_ret
    exact ⟨rfl, hb1⟩
  rw [hok, if_pos rfl] at hcT
  rw [if_pos rfl]
  have hze := Tr.enc_size false (Tr.ok_mid hok)
  obtain ⟨X, HX⟩ : ∃ X, Hid (Tr.enc false t = X) := ⟨_, Lib.hid rfl⟩
  rw [HX.out] at hcT hze
  rw [HX.out]
  have HCD := Lib.hid (fun W => implDigest_any X W (by omega))
  clear hok HX
  go_enter Try.func14, Try.ntmps14
  go_wp2_with fail
  refine hcT.mono ?_
  rintro e w1 ⟨rfl, hx1⟩
  have hb1 := hb0.trans (hx1.mono hb0.size)
  clear hcT hx1
  go_wp2_with fail
  refine (HCD.out _).mono ?_
  rintro e w2 ⟨rfl, hx2⟩
  have hb2 := below_aft13 hb1 hx2
  go_wp2
  go_ret
  exact ⟨rfl, hb2⟩
set_option maxRecDepth 100000 in
set_option maxHeartbeats 1600000 in
theorem l13Id_any (lo : Nat) (a : Option Addr) (n c : Nat) (b : Option Addr) (m d : Nat) (t : Tr) (w : World) (h : TrR lo w a n b m t) (hm : t.mid) :
    Calls Try.prog 42 #[.agg #[.slice a n c, .slice b m d, .int .i64 t.after, .string t.note]] w fun e w' => e = .returned (.int .i64 (Dg.of (Tr.enc false t))) ∧ Below w.heap.size w w' := by
  have vB0 : Bk w.heap.size 26 #[.slice a n c, .slice b m d, .int .i64 t.after, .string t.note] (w.alloc (.cells #[.slice a n c, .slice b m d, .int .i64 t.after, .string t.note] 26 (0, 0))) := Bk.new _ _ _
  have hb0 : Below w.heap.size w (w.alloc (.cells #[.slice a n c, .slice b m d, .int .i64 t.after, .string t.note] 26 (0, 0))) := (Below.refl _ _).alloc (Nat.le_refl _) _
  have hcB := l13Bytes_false lo a n c b m d t _ (h.below hb0) hm
  have hze := Tr.enc_size false hm
  obtain ⟨e0, e1, e2, e3⟩ := Bk.c4 vB0
  obtain ⟨X, HX⟩ : ∃ X, Hid (Tr.enc false t = X) := ⟨_, Lib.hid rfl⟩
  rw [HX.out] at hcB hze
  rw [HX.out]
  have HCD := Lib.hid (fun W => specDigest_any X W (by omega))
  clear h hm HX
  go_enter Try.func42, Try.ntmps42
  go_wp2_with fail
  refine hcB.mono ?_
  rintro e w1 ⟨rfl, hx1⟩
  have hb1 := hb0.trans (hx1.mono hb0.size)
  clear hcB hx1
  go_wp2_with fail
  refine (HCD.out _).mono ?_
  rintro e w2 ⟨rfl, hx2⟩
  have hb2 := below_aft13 hb1 hx2
  go_wp2
  go_ret
  exact ⟨rfl, hb2⟩
set_option maxRecDepth 100000 in
set_option maxHeartbeats 1600000 in
theorem specTxId_any (lo : Nat) (a : Option Addr) (n c : Nat) (b : Option Addr) (m d : Nat) (t : Tr) (w : World) (h : TrR lo w a n b m t) (hs : t.small) :
    Calls Try.prog 19 #[.agg #[.slice a n c, .slice b m d, .int .i64 t.after, .string t.note]] w fun e w' => e = .returned (.int .i64 t.id) ∧ Below w.heap.size w w' := by
  have vB0 : Bk w.heap.size 26 #[.slice a n c, .slice b m d, .int .i64 t.after, .string t.note] (w.alloc (.cells #[.slice a n c, .slice b m d, .int .i64 t.after, .string t.note] 26 (0, 0))) := Bk.new _ _ _
  have hb0 : Below w.heap.size w (w.alloc (.cells #[.slice a n c, .slice b m d, .int .i64 t.after, .string t.note] 26 (0, 0))) := (Below.refl _ _).alloc (Nat.le_refl _) _
  have hcT := TxOk_any lo a n c b m d t _ (h.below hb0) hs
  have HH := Lib.hid h
  obtain ⟨e0, e1, e2, e3⟩ := Bk.c4 vB0
  clear h hs
  unfold Tr.id
  cases hok : t.ok
  · rw [hok] at hcT
    rw [if_neg (by decide)]
    clear hok
    go_enter Try.func19, Try.ntmps19
    go_wp2_with fail
    refine hcT.mono ?_
    rintro e w1 ⟨rfl, hx1⟩
    have hb1 := hb0.trans (hx1.mono hb0.size)
    go_wp2
    go_ret
    exact ⟨rfl, hb1⟩
  rw [hok] at hcT
  rw [if_pos rfl]
  have hmid := Tr.ok_mid hok
  have HCB := Lib.hid (fun (W : World) (hW : TrR lo W a n b m t) => l13Id_any lo a n c b m d t W hW hmid)
  clear hok hmid
  go_enter Try.func19, Try.ntmps19
  go_wp2_with fail
  refine hcT.mono ?_
  rintro e w1 ⟨rfl, hx1⟩
  have hb1 := hb0.trans (hx1.mono hb0.size)
  obtain ⟨d0, d1, d2, d3⟩ := Bk.c4 (vB0.below hx1)
  clear hcT hx1 e0 e1 e2 e3
  go_wp2_with fail
  refine (HCB.out _ (HH.out.below hb1)).mono ?_
  rintro e w2 ⟨rfl, hx2⟩
  have hb2 := below_aft13 hb1 hx2
  clear hx2 d0 d1 d2 d3
  go_wp2
  go_ret
  exact ⟨rfl, hb2⟩

set_option maxRecDepth 100000 in
set_option maxHeartbeats 1600000 in
theorem hasIn_any (a : Option Addr) (n c : Nat) (b : Option Addr) (m d : Nat) (af i : Int) (nt : ByteArray) (w : World) :
    Calls Try.prog 39 #[.agg #[.slice a n c, .slice b m d, .int .i64 af, .string nt], .int .i64 i] w fun e w' => e = .returned (.bool (decide (0 ≤ i) && decide (i ≤ (n : Int) - 1))) ∧ Below w.heap.size w w' := by
  have hb0 : Below w.heap.size w (w.alloc (.cells #[.slice a n c, .slice b m d, .int .i64 af, .string nt] 26 (0, 0))) := (Below.refl _ _).alloc (Nat.le_refl _) _
  have hq : decide (i < (n : Int)) = decide (i ≤ (n : Int) - 1) := by rw [decide_eq_decide]; omega
  cases h0 : decide (0 ≤ i)
  · rw [Bool.false_and]
    clear hq
    go_enter Try.func39, Try.ntmps39
    go_wp2
    go_ret
    exact ⟨rfl, hb0⟩
  rw [Bool.true_and]
  obtain ⟨v, hv⟩ : ∃ v, decide (i ≤ (n : Int) - 1) = v := ⟨_, rfl⟩
  rw [hv] at hq ⊢
  clear hv
  go_enter Try.func39, Try.ntmps39
  go_wp2
  go_ret
  exact ⟨rfl, hb0⟩

set_option maxRecDepth 100000 in
set_option maxHeartbeats 1600000 in
theorem implSignText_any (lo : Nat) (a : Option Addr) (n c : Nat) (b : Option Addr) (m d : Nat) (t : Tr) (i k : Int) (s : ByteArray) (w : World) (h : TrR lo w a n b m t) (hcap : n ≤ c) (hs : t.small) (hz : s.size ≤ 1048576) :
    Calls Try.prog 22 #[.agg #[.slice a n c, .slice b m d, .int .i64 t.after, .string t.note], .int .i64 i, .int .i64 k, .string s] w fun e w' => e = .returned (.tuple #[.string (if Tr.signOk t i k s = true then Tr.sign t i k s else ⟨#[]⟩), .bool (Tr.signOk t i k s)]) ∧ Below w.heap.size w w' := by
  have hnn := h.ins.1
  have hnb := hs.nin
  have vB0 : Bk w.heap.size 26 #[.slice a n c, .slice b m d, .int .i64 t.after, .string t.note] (w.alloc (.cells #[.slice a n c, .slice b m d, .int .i64 t.after, .string t.note] 26 (0, 0))) := Bk.new _ _ _
  have hb0 : Below w.heap.size w (w.alloc (.cells #[.slice a n c, .slice b m d, .int .i64 t.after, .string t.note] 26 (0, 0))) := (Below.refl _ _).alloc (Nat.le_refl _) _
  have hcT := implTxOk_any lo a n c b m d t _ (h.below hb0) hcap hs
  have HH := Lib.hid h
  have hsok : Tr.signOk t i k s = (t.ok && ((decide (0 ≤ i) && decide (i ≤ (t.ins.length : Int) - 1)) && ((decide (1 ≤ k) && decide (k ≤ 1000000)) && decide ((s.size : Int) ≤ 300)))) := rfl
  rw [hnn] at hsok
  have hcH := fun W => hasIn_any a n c b m d t.after i t.note W
  have hcV := fun W => outValid_any ⟨k, s⟩ W hz
  simp only at hcV
  have hov : (⟨k, s⟩ : Tr.Out).ok = ((decide (1 ≤ k) && decide (k ≤ 1000000)) && decide ((s.size : Int) ≤ 300)) := by
    unfold Tr.Out.ok
    congr 1
    rw [decide_eq_decide]
    simp only
    omega
  rw [← hov] at hsok
  obtain ⟨e0, e1, e2, e3⟩ := Bk.c4 vB0
  clear h hs hov
  cases hok : t.ok
  · rw [hok] at hcT hsok
    rw [Bool.false_and] at hsok
    have HO : Hid (Tr.signOk t i k s = false) := Lib.hid hsok
    clear hok hsok hcH hcV
    rw [HO.out, if_neg (by decide)]
    clear HO
    go_enter Try.func22, Try.ntmps22
    go_wp2_with fail
    refine hcT.mono ?_
    rintro e w1 ⟨rfl, hx1⟩
    have hb1 := hb0.trans (hx1.mono hb0.size)
    have vB1 := vB0.below hx1
    obtain ⟨d0, d1, d2, d3⟩ := Bk.c4 vB1
    clear hcT hx1 e0 e1 e2 e3
    go_wp2
    go_ret2
    exact ⟨rfl, hb1⟩
  rw [hok] at hcT hsok
  rw [Bool.true_and] at hsok
  cases hI : (decide (0 ≤ i) && decide (i ≤ (n : Int) - 1))
  · simp only [hI] at hcH
    rw [hI, Bool.false_and] at hsok
    have HO : Hid (Tr.signOk t i k s = false) := Lib.hid hsok
    clear hok hsok hI hcV
    rw [HO.out, if_neg (by decide)]
    clear HO
    go_enter Try.func22, Try.ntmps22
    go_wp2_with fail
    refine hcT.mono ?_
    rintro e w1 ⟨rfl, hx1⟩
    have hb1 := hb0.trans (hx1.mono hb0.size)
    have vB1 := vB0.below hx1
    obtain ⟨d0, d1, d2, d3⟩ := Bk.c4 vB1
    clear hcT hx1 e0 e1 e2 e3
    go_wp2_with fail
    refine (hcH _).mono ?_
    rintro e w2 ⟨rfl, hx2⟩
    have hb2 := below_aft13 hb1 hx2
    have vB2 := vB1.below hx2
    obtain ⟨f0, f1, f2, f3⟩ := Bk.c4 vB2
    clear hx2 d0 d1 d2 d3
    go_wp2
    go_ret2
    exact ⟨rfl, hb2⟩
  have HI : Hid (0 ≤ i ∧ i ≤ (n : Int) - 1) := Lib.hid (by
    rw [Bool.and_eq_true, decide_eq_true_eq, decide_eq_true_eq] at hI
    exact hI)
  simp only [hI] at hcH
  rw [hI, Bool.true_and] at hsok
  clear hI
  cases hV : Tr.Out.ok ⟨k, s⟩
  · simp only [hV] at hcV
    rw [hV] at hsok
    have HO : Hid (Tr.signOk t i k s = false) := Lib.hid hsok
    clear hok hsok hV
    rw [HO.out, if_neg (by decide)]
    clear HO
    go_enter Try.func22, Try.ntmps22
    go_wp2_with fail
    refine hcT.mono ?_
    rintro e w1 ⟨rfl, hx1⟩
    have hb1 := hb0.trans (hx1.mono hb0.size)
    have vB1 := vB0.below hx1
    obtain ⟨d0, d1, d2, d3⟩ := Bk.c4 vB1
    clear hcT hx1 e0 e1 e2 e3
    go_wp2_with fail
    refine (hcH _).mono ?_
    rintro e w2 ⟨rfl, hx2⟩
    have hb2 := below_aft13 hb1 hx2
    have vB2 := vB1.below hx2
    obtain ⟨f0, f1, f2, f3⟩ := Bk.c4 vB2
    clear hx2 d0 d1 d2 d3
    go_wp2_with fail
    refine (hcV _).mono ?_
    rintro e w3 ⟨rfl, hx3⟩
    have hb3 := below_aft13 hb2 hx3
    have vB3 := vB2.below hx3
    clear hx3 f0 f1 f2 f3
    go_wp2
    go_ret2
    exact ⟨rfl, hb3⟩
  simp only [hV] at hcV
  rw [hV] at hsok
  have HK : Hid ((1 ≤ k ∧ k ≤ 1000000) ∧ s.size ≤ 300) := Lib.hid ((Tr.Out.ok_iff _).1 hV)
  have hmid := Tr.ok_mid hok
  have HCB := Lib.hid (fun (W : World) (hW : TrR lo W a n b m t) => txcore_any lo a n c b m d t W hW hmid)
  have hze := Tr.enc_size false hmid
  have hzI := En.size_num i
  have hzK := En.size_num k
  have hzS := Tr.text_size HK.out.2
  have hi5 : i ≤ 5 := by have := HI.out; have := hmid.nin; omega
  have HR : Hid (Tr.sign t i k s = ⟨#[115, 112, 101, 110, 100]⟩ ++ Tr.enc false t ++ En.num i ++ En.num k ++ En.text s) := Lib.hid rfl
  clear hok hmid hV
  rw [hsok, if_pos rfl]
  clear hsok
  obtain ⟨XE, HXE⟩ : ∃ X, Hid (Tr.enc false t = X) := ⟨_, Lib.hid rfl⟩
  obtain ⟨XI, HXI⟩ : ∃ X, Hid (En.num i = X) := ⟨_, Lib.hid rfl⟩
  obtain ⟨XK, HXK⟩ : ∃ X, Hid (En.num k = X) := ⟨_, Lib.hid rfl⟩
  obtain ⟨XS, HXS⟩ : ∃ X, Hid (En.text s = X) := ⟨_, Lib.hid rfl⟩
  rw [HXE.out, HXI.out, HXK.out, HXS.out] at HR
  rw [HXE.out] at hze HCB
  rw [HXI.out] at hzI
  rw [HXK.out] at hzK
  rw [HXS.out] at hzS
  have h5 : (⟨#[115, 112, 101, 110, 100]⟩ : ByteArray).size = 5 := rfl
  have ha1 := fun W => ba_add13 W ⟨#[115, 112, 101, 110, 100]⟩ XE (by omega)
  obtain ⟨Y1, HY1⟩ : ∃ X, Hid (⟨#[115, 112, 101, 110, 100]⟩ ++ XE = X) := ⟨_, Lib.hid rfl⟩
  have hz1 : Y1.size ≤ 15105 := by rw [← HY1.out, ByteArray.size_append]; omega
  have hz1p : 5 ≤ Y1.size := by rw [← HY1.out, ByteArray.size_append]; omega
  simp only [HY1.out] at ha1
  obtain ⟨Y2, HY2⟩ : ∃ X, Hid (Y1 ++ XI = X) := ⟨_, Lib.hid rfl⟩
  have hz2 : Y2.size ≤ 15110 := by rw [← HY2.out, ByteArray.size_append]; omega
  have hz2p : 5 ≤ Y2.size := by rw [← HY2.out, ByteArray.size_append]; omega
  obtain ⟨Y3, HY3⟩ : ∃ X, Hid (Y2 ++ XK = X) := ⟨_, Lib.hid rfl⟩
  have hz3 : Y3.size ≤ 15115 := by rw [← HY3.out, ByteArray.size_append]; omega
  have hz3p : 5 ≤ Y3.size := by rw [← HY3.out, ByteArray.size_append]; omega
  obtain ⟨Y4, HY4⟩ : ∃ X, Hid (Y3 ++ XS = X) := ⟨_, Lib.hid rfl⟩
  have hz4 : Y4.size ≤ 15515 := by rw [← HY4.out, ByteArray.size_append]; omega
  have hz4p : 5 ≤ Y4.size := by rw [← HY4.out, ByteArray.size_append]; omega
  rw [HY1.out, HY2.out, HY3.out, HY4.out] at HR
  rw [HR.out]
  clear h5
  go_enter Try.func22, Try.ntmps22
  go_wp2_with fail
  refine hcT.mono ?_
  rintro e w1 ⟨rfl, hx1⟩
  have hb1 := hb0.trans (hx1.mono hb0.size)
  have vB1 := vB0.below hx1
  obtain ⟨d0, d1, d2, d3⟩ := Bk.c4 vB1
  clear hcT hx1 e0 e1 e2 e3
  go_wp2_with fail
  refine (hcH _).mono ?_
  rintro e w2 ⟨rfl, hx2⟩
  have hb2 := below_aft13 hb1 hx2
  have vB2 := vB1.below hx2
  obtain ⟨f0, f1, f2, f3⟩ := Bk.c4 vB2
  clear hx2 d0 d1 d2 d3
  go_wp2_with fail
  refine (hcV _).mono ?_
  rintro e w3 ⟨rfl, hx3⟩
  have hb3 := below_aft13 hb2 hx3
  have vB3 := vB2.below hx3
  clear hx3 f0 f1 f2 f3
  have hDB : w.heap.size ≠ w3.heap.size := by have := vB3.lt; omega
  have hT0 := tw_fresh w3 w3.heap.size rfl
  have vB4 := vB3.alloc (.cells #[.pointer none, .slice none 0 0] 72 (0, 0))
  have hb4 := hb3.alloc hb3.size (.cells #[.pointer none, .slice none 0 0] 72 (0, 0))
  have HT0 : Hid (IsTw w3.heap.size w3.heap.size (Lib.strCells ByteArray.empty) (w3.alloc (.cells #[.pointer none, .slice none 0 0] 72 (0, 0)))) := Lib.hid hT0
  have hB3 := hb3.size
  obtain ⟨g0, g1, g2, g3⟩ := Bk.c4 vB4
  clear vB3 hb3 hT0
  go_wp2_with fail
  refine (HCB.out _ (HH.out.below hb4)).mono ?_
  rintro e w5 ⟨rfl, hx5⟩
  have hb5 := below_aft13 hb4 hx5
  have hc5 := tw_str w3.heap.size ByteArray.empty Y1 w5 (tw_below HT0.out hx5) (by decide) (by omega)
  rw [Tr.nilL] at hc5
  clear hx5 g0 g1 g2 g3 hb4 vB4
  go_wp2_with fail
  refine hc5.mono ?_
  rintro e w6 ⟨rfl, hT6, hx, hkx⟩
  have hb6 := hb5.trans (hx.mono hB3)
  have hc6 := tw_number w3.heap.size Y1 i w6 hT6 (by omega) HI.out.1 (by omega)
  unfold TwQ at hc6
  rw [HXI.out, HY2.out] at hc6
  clear hx hkx hT6 hb5 hc5
  go_wp2_with fail
  refine hc6.mono ?_
  rintro e w7 ⟨rfl, hT7, hx, hkx⟩
  have hb7 := hb6.trans (hx.mono hB3)
  have hc7 := tw_number w3.heap.size Y2 k w7 hT7 (by omega) (by have := HK.out; omega) (by have := HK.out; omega)
  unfold TwQ at hc7
  rw [HXK.out, HY3.out] at hc7
  clear hx hkx hT7 hb6 hc6
  go_wp2_with fail
  refine hc7.mono ?_
  rintro e w8 ⟨rfl, hT8, hx, hkx⟩
  have hb8 := hb7.trans (hx.mono hB3)
  have hc8 := tw_text w3.heap.size Y3 s w8 hT8 (by omega) (by have := HK.out; omega)
  unfold TwQ at hc8
  rw [HXS.out, HY4.out] at hc8
  clear hx hkx hT8 hb7 hc7
  go_wp2_with fail
  refine hc8.mono ?_
  rintro e w9 ⟨rfl, hT9, hx, hkx⟩
  have hb9 := hb8.trans (hx.mono hB3)
  have hc9 := tw_String w3.heap.size Y4 w9 hT9 (by omega) (by omega)
  clear hx hkx hT9 hb8 hc8
  go_wp2_with fail
  refine hc9.mono ?_
  rintro e w10 ⟨rfl, hx⟩
  have hb10 := hb9.trans (hx.mono hB3)
  clear hx hc9
  go_wp2
  go_ret2
  exact ⟨rfl, hb10⟩
end Go.Proofs.Ytcbpdibkindnfaa
