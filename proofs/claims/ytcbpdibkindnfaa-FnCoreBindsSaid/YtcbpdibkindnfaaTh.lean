/-
  Contracts of the model: TxOk, TxBytes, TxCore, l13Sign, SignText.
-/
import Derived.Test.YtcbpdibkindnfaaTg
namespace Go.Proofs.Ytcbpdibkindnfaa
open Go.RowKit

theorem Tr.ok_eq (t : Tr) : t.ok = (Tr.insOk t.ins && Tr.outsOk t.outs && (decide (0 ≤ t.after) && decide (t.after ≤ 9999)) && decide (t.note.size ≤ 20) && decide ((Tr.enc true t).size ≤ 3000)) := rfl
theorem Tr.small.nat {t : Tr} (h : t.small) : (∀ x ∈ t.ins, x.wit.length ≤ 1048576 ∧ ∀ s ∈ x.wit, s.size ≤ 1048576) ∧ (∀ x ∈ t.outs, x.lock.size ≤ 1048576) ∧ t.note.size ≤ 1048576 := ⟨h.wit, h.lock, h.note⟩

set_option maxRecDepth 100000 in
set_option maxHeartbeats 1600000 in
theorem TxOk_any (lo : Nat) (a : Option Addr) (n c : Nat) (b : Option Addr) (m d : Nat) (t : Tr) (w : World) (h : TrR lo w a n b m t) (hs : t.small) :
    Calls Try.prog 11 #[.agg #[.slice a n c, .slice b m d, .int .i64 t.after, .string t.note]] w fun e w' => e = .returned (.bool t.ok) ∧ Below w.heap.size w w' := by
  have hn6 : n ≤ 1048576 := by have := hs.nin; have := h.ins.1; omega
  have hm6 : m ≤ 1048576 := by have := hs.nout; have := h.outs.1; omega
  have hnt := hs.note
  have HSM := Lib.hid hs
  have vB0 : Bk w.heap.size 26 #[.slice a n c, .slice b m d, .int .i64 t.after, .string t.note] (w.alloc (.cells #[.slice a n c, .slice b m d, .int .i64 t.after, .string t.note] 26 (0, 0))) := Bk.new _ _ _
  have hb0 : Below w.heap.size w (w.alloc (.cells #[.slice a n c, .slice b m d, .int .i64 t.after, .string t.note] 26 (0, 0))) := (Below.refl _ _).alloc (Nat.le_refl _) _
  have hcI := l13Ins_any lo a n c t.ins _ (h.below hb0).ins hn6 hs.wit
  have hok := Tr.ok_eq t
  have HH := Lib.hid h
  clear h hs
  cases hI : Tr.insOk t.ins
  · rw [hI] at hcI
    have HO : Hid (t.ok = false) := Lib.hid (by rw [hok, hI]; simp)
    clear hok hI
    go_enter Try.func11, Try.ntmps11
    go_wp2_with fail
    refine hcI.mono ?_
    rintro e w1 ⟨rfl, hx1⟩
    have hb1 := hb0.trans (hx1.mono hb0.size)
    clear hcI hx1
    go_wp2
    go_ret
    exact ⟨by rw [HO.out]; rfl, hb1⟩
  rw [hI] at hcI
  have HI := Lib.hid hI
  rw [hI, Bool.true_and] at hok
  clear hI
  have hcO := fun (W : World) (hW : OuL lo W b m t.outs) => l13Outs_any lo b m d t.outs W hW hm6 HSM.out.lock
  have hcA := fun W => l6In_any t.after 0 9999 W
  cases hO : Tr.outsOk t.outs
  · have HO : Hid (t.ok = false) := Lib.hid (by rw [hok, hO]; simp)
    simp only [hO] at hcO
    have HCO := Lib.hid hcO
    clear hok hO hcO hcA
    go_enter Try.func11, Try.ntmps11
    go_wp2_with fail
    refine hcI.mono ?_
    rintro e w1 ⟨rfl, hx1⟩
    have hb1 := hb0.trans (hx1.mono hb0.size)
    obtain ⟨d0, d1, d2, d3⟩ := Bk.c4 (vB0.below hx1)
    clear hcI hx1
    go_wp2_with fail
    refine (HCO.out _ (HH.out.below hb1).outs).mono ?_
    rintro e w2 ⟨rfl, rfl⟩
    go_wp2
    go_ret
    exact ⟨by rw [HO.out]; rfl, hb1⟩
  simp only [hO] at hcO
  have HOO := Lib.hid hO
  rw [hO, Bool.true_and] at hok
  clear hO
  have HCO := Lib.hid hcO
  clear hcO
  cases hA : (decide (0 ≤ t.after) && decide (t.after ≤ 9999))
  · have HO : Hid (t.ok = false) := Lib.hid (by rw [hok, hA]; simp)
    simp only [hA] at hcA
    clear hok hA
    go_enter Try.func11, Try.ntmps11
    go_wp2_with fail
    refine hcI.mono ?_
    rintro e w1 ⟨rfl, hx1⟩
    have hb1 := hb0.trans (hx1.mono hb0.size)
    obtain ⟨d0, d1, d2, d3⟩ := Bk.c4 (vB0.below hx1)
    clear hcI hx1
    go_wp2_with fail
    refine (HCO.out _ (HH.out.below hb1).outs).mono ?_
    rintro e w2 ⟨rfl, rfl⟩
    go_wp2_with fail
    refine (hcA _).mono ?_
    rintro e w2 ⟨rfl, rfl⟩
    go_wp2
    go_ret
    exact ⟨by rw [HO.out]; rfl, hb1⟩
  have HA : Hid (0 ≤ t.after ∧ t.after ≤ 9999) := Lib.hid (by
    rw [Bool.and_eq_true, decide_eq_true_eq, decide_eq_true_eq] at hA
    exact hA)
  simp only [hA] at hcA
  rw [hA, Bool.true_and] at hok
  clear hA
  by_cases hN : 20 < t.note.size
  · have hv : decide ((20 : Int) < (t.note.size : Int)) = true := decide_eq_true (by omega)
    have HO : Hid (t.ok = false) := Lib.hid (by rw [hok, decide_eq_false (by omega)]; simp)
    clear hok hN
    go_enter Try.func11, Try.ntmps11
    go_wp2_with fail
    refine hcI.mono ?_
    rintro e w1 ⟨rfl, hx1⟩
    have hb1 := hb0.trans (hx1.mono hb0.size)
    obtain ⟨d0, d1, d2, d3⟩ := Bk.c4 (vB0.below hx1)
    clear hcI hx1
    go_wp2_with fail
    refine (HCO.out _ (HH.out.below hb1).outs).mono ?_
    rintro e w2 ⟨rfl, rfl⟩
    go_wp2_with fail
    refine (hcA _).mono ?_
    rintro e w2 ⟨rfl, rfl⟩
    go_wp2
    go_ret
    exact ⟨by rw [HO.out]; rfl, hb1⟩
  have hv : decide ((20 : Int) < (t.note.size : Int)) = false := decide_eq_false (by omega)
  have hmid := Tr.mid_of HI.out HOO.out HA.out (by omega)
  rw [decide_eq_true (show t.note.size ≤ 20 by omega), Bool.true_and] at hok
  have hcB := fun (W : World) (hW : TrR lo W a n b m t) => l13Bytes_true lo a n c b m d t W hW hmid
  have hze := Tr.enc_size true hmid
  obtain ⟨X, HX⟩ : ∃ X, Hid (Tr.enc true t = X) := ⟨_, Lib.hid rfl⟩
  rw [HX.out] at hok hze
  simp only [HX.out] at hcB
  have HCB := Lib.hid hcB
  have HO : Hid (t.ok = decide ((X.size : Int) ≤ 3000)) := Lib.hid (by
    rw [hok, decide_eq_decide]
    omega)
  clear hok hN hcB hmid HX
  go_enter Try.func11, Try.ntmps11
  go_wp2_with fail
  refine hcI.mono ?_
  rintro e w1 ⟨rfl, hx1⟩
  have hb1 := hb0.trans (hx1.mono hb0.size)
  obtain ⟨d0, d1, d2, d3⟩ := Bk.c4 (vB0.below hx1)
  clear hcI hx1
  go_wp2_with fail
  refine (HCO.out _ (HH.out.below hb1).outs).mono ?_
  rintro e w2 ⟨rfl, rfl⟩
  go_wp2_with fail
  refine (hcA _).mono ?_
  rintro e w2 ⟨rfl, rfl⟩
  go_wp2_with fail
  refine (HCB.out _ (HH.out.below hb1)).mono ?_
  rintro e w2 ⟨rfl, hx2⟩
  have hb2 := below_aft13 hb1 hx2
  clear hx2 d0 d1 d2 d3
  go_wp2
  go_ret
  exact ⟨by rw [HO.out]; rfl, hb2⟩


set_option maxRecDepth 100000 in
set_option maxHeartbeats 1600000 in
theorem TxCore_any (lo : Nat) (a : Option Addr) (n c : Nat) (b : Option Addr) (m d : Nat) (t : Tr) (w : World) (h : TrR lo w a n b m t) (hs : t.small) :
    Calls Try.prog 16 #[.agg #[.slice a n c, .slice b m d, .int .i64 t.after, .string t.note]] w fun e w' => e = .returned (.tuple #[.string (if t.ok = true then Tr.enc false t else ⟨#[]⟩), .bool t.ok]) ∧ Below w.heap.size w w' := by
  have vB0 : Bk w.heap.size 26 #[.slice a n c, .slice b m d, .int .i64 t.after, .string t.note] (w.alloc (.cells #[.slice a n c, .slice b m d, .int .i64 t.after, .string t.note] 26 (0, 0))) := Bk.new _ _ _
  have hb0 : Below w.heap.size w (w.alloc (.cells #[.slice a n c, .slice b m d, .int .i64 t.after, .string t.note] 26 (0, 0))) := (Below.refl _ _).alloc (Nat.le_refl _) _
  have hcT := TxOk_any lo a n c b m d t _ (h.below hb0) hs
  have HH := Lib.hid h
  clear h hs
  cases hok : t.ok
  · rw [hok] at hcT
    rw [if_neg (by decide)]
    clear hok
    go_enter Try.func16, Try.ntmps16
    go_wp2_with fail
    refine hcT.mono ?_
    rintro e w1 ⟨rfl, hx1⟩
    have hb1 := hb0.trans (hx1.mono hb0.size)
    go_wp2
    go_ret2
    exact ⟨rfl, hb1⟩
  rw [hok] at hcT
  rw [if_pos rfl]
  have hmid := Tr.ok_mid hok
  have HCB := Lib.hid (fun (W : World) (hW : TrR lo W a n b m t) => l13Bytes_false lo a n c b m d t W hW hmid)
  clear hok hmid
  go_enter Try.func16, Try.ntmps16
  go_wp2_with fail
  refine hcT.mono ?_
  rintro e w1 ⟨rfl, hx1⟩
  have hb1 := hb0.trans (hx1.mono hb0.size)
  obtain ⟨d0, d1, d2, d3⟩ := Bk.c4 (vB0.below hx1)
  clear hcT hx1
  go_wp2_with fail
  refine (HCB.out _ (HH.out.below hb1)).mono ?_
  rintro e w2 ⟨rfl, hx2⟩
  have hb2 := below_aft13 hb1 hx2
  clear hx2 d0 d1 d2 d3
  go_wp2
  go_ret2
  exact ⟨rfl, hb2⟩

/-- What is signed. -/
def Tr.sign (t : Tr) (i k : Int) (s : ByteArray) : ByteArray := ⟨#[115, 112, 101, 110, 100]⟩ ++ Tr.enc false t ++ En.num i ++ En.num k ++ En.text s
def Tr.signOk (t : Tr) (i k : Int) (s : ByteArray) : Bool := t.ok && ((decide (0 ≤ i) && decide (i ≤ (t.ins.length : Int) - 1)) && ((decide (1 ≤ k) && decide (k ≤ 1000000)) && decide ((s.size : Int) ≤ 300)))
set_option maxRecDepth 100000 in
set_option maxHeartbeats 1600000 in
theorem l13Sign_any (lo : Nat) (a : Option Addr) (n c : Nat) (b : Option Addr) (m d : Nat) (t : Tr) (i k : Int) (s : ByteArray) (w : World) (h : TrR lo w a n b m t) (hm : t.mid) (hi : 0 ≤ i ∧ i ≤ 5) (hk : 1 ≤ k ∧ k ≤ 1000000) (hs : s.size ≤ 300) :
    Calls Try.prog 52 #[.agg #[.slice a n c, .slice b m d, .int .i64 t.after, .string t.note], .int .i64 i, .int .i64 k, .string s] w fun e w' => e = .returned (.string (Tr.sign t i k s)) ∧ Below w.heap.size w w' := by
  have hb0 : Below w.heap.size w (w.alloc (.cells #[.slice a n c, .slice b m d, .int .i64 t.after, .string t.note] 26 (0, 0))) := (Below.refl _ _).alloc (Nat.le_refl _) _
  have hcB := l13Bytes_false lo a n c b m d t _ (h.below hb0) hm
  have hcI := fun W => l1Num_any i W (by omega) (by omega)
  have hcK := fun W => l1Num_any k W (by omega) (by omega)
  have hcS := fun W => l1Text_any s W (by omega)
  have hzE := Tr.enc_size false hm
  have hzI := En.size_num i
  have hzK := En.size_num k
  have hzS := Tr.text_size hs
  have HR : Hid (Tr.sign t i k s = ⟨#[115, 112, 101, 110, 100]⟩ ++ Tr.enc false t ++ En.num i ++ En.num k ++ En.text s) := Lib.hid rfl
  obtain ⟨XE, HXE⟩ : ∃ X, Hid (Tr.enc false t = X) := ⟨_, Lib.hid rfl⟩
  obtain ⟨XI, HXI⟩ : ∃ X, Hid (En.num i = X) := ⟨_, Lib.hid rfl⟩
  obtain ⟨XK, HXK⟩ : ∃ X, Hid (En.num k = X) := ⟨_, Lib.hid rfl⟩
  obtain ⟨XS, HXS⟩ : ∃ X, Hid (En.text s = X) := ⟨_, Lib.hid rfl⟩
  rw [HXE.out, HXI.out, HXK.out, HXS.out] at HR
  rw [HXE.out] at hcB hzE
  simp only [HXI.out] at hcI hzI
  simp only [HXK.out] at hcK hzK
  simp only [HXS.out] at hcS hzS
  have h5 : (⟨#[115, 112, 101, 110, 100]⟩ : ByteArray).size = 5 := rfl
  have ha1 := fun W => ba_add13 W ⟨#[115, 112, 101, 110, 100]⟩ XE (by omega)
  obtain ⟨Y1, HY1⟩ : ∃ X, Hid (⟨#[115, 112, 101, 110, 100]⟩ ++ XE = X) := ⟨_, Lib.hid rfl⟩
  have hz1 : Y1.size ≤ 15105 := by rw [← HY1.out, ByteArray.size_append]; omega
  simp only [HY1.out] at ha1
  have ha2 := fun W => ba_add13 W Y1 XI (by omega)
  obtain ⟨Y2, HY2⟩ : ∃ X, Hid (Y1 ++ XI = X) := ⟨_, Lib.hid rfl⟩
  have hz2 : Y2.size ≤ 15110 := by rw [← HY2.out, ByteArray.size_append]; omega
  simp only [HY2.out] at ha2
  have ha3 := fun W => ba_add13 W Y2 XK (by omega)
  obtain ⟨Y3, HY3⟩ : ∃ X, Hid (Y2 ++ XK = X) := ⟨_, Lib.hid rfl⟩
  have hz3 : Y3.size ≤ 15115 := by rw [← HY3.out, ByteArray.size_append]; omega
  simp only [HY3.out] at ha3
  have ha4 := fun W => ba_add13 W Y3 XS (by omega)
  rw [HY1.out, HY2.out, HY3.out] at HR
  clear h hm HXE HXI HXK HXS HY1 HY2 HY3 h5
  go_enter Try.func52, Try.ntmps52
  go_wp2_with fail
  refine hcB.mono ?_
  rintro e w1 ⟨rfl, hx⟩
  have hb1 := hb0.trans (hx.mono hb0.size)
  clear hx
  go_wp2_with fail
  refine (hcI _).mono ?_
  rintro e w2 ⟨rfl, hx⟩
  have hb2 := below_aft13 hb1 hx
  clear hx
  go_wp2_with fail
  refine (hcK _).mono ?_
  rintro e w3 ⟨rfl, hx⟩
  have hb3 := below_aft13 hb2 hx
  clear hx
  go_wp2_with fail
  refine (hcS _).mono ?_
  rintro e w4 ⟨rfl, hx⟩
  have hb4 := below_aft13 hb3 hx
  clear hx
  go_wp2
  go_ret
  exact ⟨by rw [HR.out]; rfl, hb4⟩

set_option maxRecDepth 100000 in
set_option maxHeartbeats 1600000 in
theorem SignText_any (lo : Nat) (a : Option Addr) (n c : Nat) (b : Option Addr) (m d : Nat) (t : Tr) (i k : Int) (s : ByteArray) (w : World) (h : TrR lo w a n b m t) (hs : t.small) (hz : s.size ≤ 1048576) :
    Calls Try.prog 23 #[.agg #[.slice a n c, .slice b m d, .int .i64 t.after, .string t.note], .int .i64 i, .int .i64 k, .string s] w fun e w' => e = .returned (.tuple #[.string (if Tr.signOk t i k s = true then Tr.sign t i k s else ⟨#[]⟩), .bool (Tr.signOk t i k s)]) ∧ Below w.heap.size w w' := by
  have hnn := h.ins.1
  have hnb := hs.nin
  have vB0 : Bk w.heap.size 26 #[.slice a n c, .slice b m d, .int .i64 t.after, .string t.note] (w.alloc (.cells #[.slice a n c, .slice b m d, .int .i64 t.after, .string t.note] 26 (0, 0))) := Bk.new _ _ _
  have hb0 : Below w.heap.size w (w.alloc (.cells #[.slice a n c, .slice b m d, .int .i64 t.after, .string t.note] 26 (0, 0))) := (Below.refl _ _).alloc (Nat.le_refl _) _
  have hcT := TxOk_any lo a n c b m d t _ (h.below hb0) hs
  have HH := Lib.hid h
  have hsok : Tr.signOk t i k s = (t.ok && ((decide (0 ≤ i) && decide (i ≤ (t.ins.length : Int) - 1)) && ((decide (1 ≤ k) && decide (k ≤ 1000000)) && decide ((s.size : Int) ≤ 300)))) := rfl
  rw [hnn] at hsok
  have hw : IntKind.i64.wrap ((n : Int) - 1) = (n : Int) - 1 := IntWalk.i64_in _ (by omega)
  have hcI := fun W => l6In_any i 0 ((n : Int) - 1) W
  have hcK := fun W => l6In_any k 1 1000000 W
  clear h hs
  cases hok : t.ok
  · rw [hok] at hcT hsok
    rw [Bool.false_and] at hsok
    have HO : Hid (Tr.signOk t i k s = false) := Lib.hid hsok
    clear hok hsok hcI hcK
    rw [HO.out, if_neg (by decide)]
    clear HO
    go_enter Try.func23, Try.ntmps23
    go_wp2_with fail
    refine hcT.mono ?_
    rintro e w1 ⟨rfl, hx1⟩
    have hb1 := hb0.trans (hx1.mono hb0.size)
    obtain ⟨d0, d1, d2, d3⟩ := Bk.c4 (vB0.below hx1)
    clear hcT hx1
    go_wp2
    go_ret2
    exact ⟨rfl, hb1⟩
  rw [hok] at hcT hsok
  rw [Bool.true_and] at hsok
  cases hI : (decide (0 ≤ i) && decide (i ≤ (n : Int) - 1))
  · simp only [hI] at hcI
    rw [hI, Bool.false_and] at hsok
    have HO : Hid (Tr.signOk t i k s = false) := Lib.hid hsok
    clear hok hsok hI hcK
    rw [HO.out, if_neg (by decide)]
    clear HO
    go_enter Try.func23, Try.ntmps23
    go_wp2_with fail
    refine hcT.mono ?_
    rintro e w1 ⟨rfl, hx1⟩
    have hb1 := hb0.trans (hx1.mono hb0.size)
    obtain ⟨d0, d1, d2, d3⟩ := Bk.c4 (vB0.below hx1)
    clear hcT hx1
    go_wp2_with fail
    refine (hcI _).mono ?_
    rintro e w2 ⟨rfl, rfl⟩
    go_wp2
    go_ret2
    exact ⟨rfl, hb1⟩
  have HI : Hid (0 ≤ i ∧ i ≤ (n : Int) - 1) := Lib.hid (by
    rw [Bool.and_eq_true, decide_eq_true_eq, decide_eq_true_eq] at hI
    exact hI)
  simp only [hI] at hcI
  rw [hI, Bool.true_and] at hsok
  clear hI
  cases hK : (decide (1 ≤ k) && decide (k ≤ 1000000))
  · simp only [hK] at hcK
    rw [hK, Bool.false_and] at hsok
    have HO : Hid (Tr.signOk t i k s = false) := Lib.hid hsok
    clear hok hsok hK
    rw [HO.out, if_neg (by decide)]
    clear HO
    go_enter Try.func23, Try.ntmps23
    go_wp2_with fail
    refine hcT.mono ?_
    rintro e w1 ⟨rfl, hx1⟩
    have hb1 := hb0.trans (hx1.mono hb0.size)
    obtain ⟨d0, d1, d2, d3⟩ := Bk.c4 (vB0.below hx1)
    clear hcT hx1
    go_wp2_with fail
    refine (hcI _).mono ?_
    rintro e w2 ⟨rfl, rfl⟩
    go_wp2_with fail
    refine (hcK _).mono ?_
    rintro e w2 ⟨rfl, rfl⟩
    go_wp2
    go_ret2
    exact ⟨rfl, hb1⟩
  have HK : Hid (1 ≤ k ∧ k ≤ 1000000) := Lib.hid (by
    rw [Bool.and_eq_true, decide_eq_true_eq, decide_eq_true_eq] at hK
    exact hK)
  simp only [hK] at hcK
  rw [hK, Bool.true_and] at hsok
  clear hK
  by_cases hS : 300 < s.size
  · have hv : decide ((300 : Int) < (s.size : Int)) = true := decide_eq_true (by omega)
    have HO : Hid (Tr.signOk t i k s = false) := Lib.hid (by rw [hsok]; exact decide_eq_false (by omega))
    clear hok hsok hS
    rw [HO.out, if_neg (by decide)]
    clear HO
    go_enter Try.func23, Try.ntmps23
    go_wp2_with fail
    refine hcT.mono ?_
    rintro e w1 ⟨rfl, hx1⟩
    have hb1 := hb0.trans (hx1.mono hb0.size)
    obtain ⟨d0, d1, d2, d3⟩ := Bk.c4 (vB0.below hx1)
    clear hcT hx1
    go_wp2_with fail
    refine (hcI _).mono ?_
    rintro e w2 ⟨rfl, rfl⟩
    go_wp2_with fail
    refine (hcK _).mono ?_
    rintro e w2 ⟨rfl, rfl⟩
    go_wp2
    go_ret2
    exact ⟨rfl, hb1⟩
  have hv : decide ((300 : Int) < (s.size : Int)) = false := decide_eq_false (by omega)
  have HO : Hid (Tr.signOk t i k s = true) := Lib.hid (by rw [hsok]; exact decide_eq_true (by omega))
  have hmid := Tr.ok_mid hok
  have HCB := Lib.hid (fun (W : World) (hW : TrR lo W a n b m t) => l13Sign_any lo a n c b m d t i k s W hW hmid (by have := HI.out; have := hmid.nin; omega) HK.out (by omega))
  clear hok hsok hS hmid
  rw [HO.out, if_pos rfl]
  clear HO
  go_enter Try.func23, Try.ntmps23
  go_wp2_with fail
  refine hcT.mono ?_
  rintro e w1 ⟨rfl, hx1⟩
  have hb1 := hb0.trans (hx1.mono hb0.size)
  obtain ⟨d0, d1, d2, d3⟩ := Bk.c4 (vB0.below hx1)
  clear hcT hx1
  go_wp2_with fail
  refine (hcI _).mono ?_
  rintro e w2 ⟨rfl, rfl⟩
  go_wp2_with fail
  refine (hcK _).mono ?_
  rintro e w2 ⟨rfl, rfl⟩
  go_wp2_with fail
  refine (HCB.out _ (HH.out.below hb1)).mono ?_
  rintro e w2 ⟨rfl, hx2⟩
  have hb2 := below_aft13 hb1 hx2
  clear hx2 d0 d1 d2 d3
  go_wp2
  go_ret2
  exact ⟨rfl, hb2⟩
end Go.Proofs.Ytcbpdibkindnfaa
