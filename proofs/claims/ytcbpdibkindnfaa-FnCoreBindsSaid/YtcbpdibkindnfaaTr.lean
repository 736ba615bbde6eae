/-
  Contracts of the program: valid inputs and outputs of a transaction.
-/
import Derived.Test.YtcbpdibkindnfaaTg
import Derived.Test.YtcbpdibkindnfaaWq
import Derived.Test.YtcbpdibkindnfaaDg
import Derived.Deep.RegionHeld3
import Derived.Deep.RegionWith
import Derived.Shelf.Abstract
namespace Go.Proofs.Ytcbpdibkindnfaa
open Go.RowKit

theorem below_aftR {w w1 w2 : World} (h : Below w.heap.size w w1) (k : Below w1.heap.size w1 w2) : Below w.heap.size w w2 := h.trans (k.mono h.size)
theorem makeFunc_run13 : ∀ (fn : Fn) (first cap : Array Value) (w : World), (Instr.makeFunc fn first cap).run Try.prog w = .ok (.func fn first cap) w := fun _ _ _ _ => rfl
theorem sliceTo13 (b off n cap k : Nat) (W : World) (hk : k ≤ cap) :
    (Instr.slice 23 (.slice (some ⟨b, off, none⟩) n cap) none (some (.int .i64 (k : Int))) none).run Try.prog W = .ok (.slice (some ⟨b, off, none⟩) k cap) W := by
  simp [Instr.slice, Instr.sliceBounds, Instr.sliceBound, asIntOf, run_underlying Try.underlying23, hk, Addr.add]
theorem Tr.In.same_comm (x y : Tr.In) : x.same y = y.same x := by
  unfold Tr.In.same
  congr 1 <;> (rw [decide_eq_decide]; exact ⟨Eq.symm, Eq.symm⟩)
/-- Whether one of the first k inputs spends the same as x. -/
def Tr.seen (l : List Tr.In) (x : Tr.In) : Nat → Bool
  | 0 => false
  | k + 1 => Tr.seen l x k || x.same (Tr.inAt l k)
theorem Tr.seen_no {l : List Tr.In} {x : Tr.In} {k : Nat} (h : Tr.seen l x k = false) : ∀ j, j < k → x.same (Tr.inAt l j) = false := by
  induction k with
  | zero => intro j hj; omega
  | succ k ih =>
    intro j hj
    unfold Tr.seen at h
    rw [Bool.or_eq_false_iff] at h
    by_cases hjk : j < k
    · exact ih h.1 j hjk
    · rw [show j = k by omega]; exact h.2
theorem Tr.seen_yes {l : List Tr.In} {x : Tr.In} {j k : Nat} (hj : j < k) (h : x.same (Tr.inAt l j) = true) : Tr.seen l x k = true := by
  induction k with
  | zero => omega
  | succ k ih =>
    unfold Tr.seen
    by_cases hjk : j < k
    · rw [ih hjk, Bool.true_or]
    · rw [show k = j by omega, h, Bool.or_true]
theorem Tr.seen_at {l : List Tr.In} {x : Tr.In} {k : Nat} (h : Tr.seen l x k = true) : ∃ j, j < k ∧ x.same (Tr.inAt l j) = true := by
  induction k with
  | zero => cases h
  | succ k ih =>
    unfold Tr.seen at h
    rw [Bool.or_eq_true] at h
    rcases h with h | h
    · obtain ⟨j, hj, h⟩ := ih h
      exact ⟨j, by omega, h⟩
    · exact ⟨k, by omega, h⟩
/-- The slice at a begins with the first k inputs of l. -/
def InP (w : World) (a : Option Addr) (k : Nat) (l : List Tr.In) : Prop := 0 < k → ∃ b off, a = some ⟨b, off, none⟩ ∧ b < w.heap.size ∧ ∀ j, j < k → ∃ wa wc, InC 0 w b (off + j * 3) (Tr.inAt l j) wa wc
theorem InP.below {w w' : World} {a : Option Addr} {k : Nat} {l : List Tr.In} (h : InP w a k l) (hb : Below w.heap.size w w') : InP w' a k l := fun h0 => by
  obtain ⟨b, off, rfl, hlt, hc⟩ := h h0
  refine ⟨b, off, rfl, Nat.lt_of_lt_of_le hlt hb.size, fun j hj => ?_⟩
  obtain ⟨wa, wc, hi⟩ := hc j hj
  exact ⟨wa, wc, hi.grown (row := none) ⟨hb.os, hb.tape, hb.output, hb.size, fun k hk _ => hb.block k hk⟩ (by simp) (fun _ e => by cases e)⟩
theorem InL.inP {lo : Nat} {w : World} {a : Option Addr} {n : Nat} {l : List Tr.In} (h : InL lo w a n l) (k : Nat) (hk : k ≤ n) : InP w a k l := fun h0 => by
  obtain ⟨b, off, rfl, _, hlt, hc⟩ := h.2 (by omega)
  refine ⟨b, off, rfl, hlt, fun j hj => ?_⟩
  obtain ⟨wa, wc, hi⟩ := hc j (by omega)
  exact ⟨wa, wc, hi.mono (Nat.zero_le _)⟩
theorem Bk.c3t {B : Nat} {t : TypeId} {u0 u1 u2 : Value} {w : World} (h : Bk B t #[u0, u1, u2] w) : w.cell? ⟨B, 0, none⟩ = some u0 ∧ w.cell? ⟨B, 1, none⟩ = some u1 ∧ w.cell? ⟨B, 2, none⟩ = some u2 := ⟨h.cell 0, h.cell 1, h.cell 2⟩

set_option maxRecDepth 100000 in
set_option maxHeartbeats 1600000 in
theorem outValid_any (x : Tr.Out) (w : World) (hz : x.lock.size ≤ 1048576) :
    Calls Try.prog 47 #[.agg #[.int .i64 x.amt, .string x.lock]] w fun e w' => e = .returned (.bool x.ok) ∧ Below w.heap.size w w' := by
  obtain ⟨am, lk⟩ := x
  simp only at hz ⊢
  have hok : (⟨am, lk⟩ : Tr.Out).ok = ((decide (1 ≤ am) && decide (am ≤ 1000000)) && decide (lk.size ≤ 300)) := rfl
  have hbel : Below w.heap.size w (w.alloc (.cells #[.int .i64 am, .string lk] 66 (0, 0))) := (Below.refl _ _).alloc (Nat.le_refl _) _
  cases h1 : decide (1 ≤ am)
  · rw [h1, Bool.false_and, Bool.false_and] at hok
    have HO := Lib.hid hok
    clear hok
    go_enter Try.func47, Try.ntmps47
    go_wp2
    go_ret
    exact ⟨by rw [HO.out]; rfl, hbel⟩
  rw [h1, Bool.true_and] at hok
  cases h2 : decide (am ≤ 1000000)
  · rw [h2, Bool.false_and] at hok
    have HO := Lib.hid hok
    clear hok
    go_enter Try.func47, Try.ntmps47
    go_wp2
    go_ret
    exact ⟨by rw [HO.out]; rfl, hbel⟩
  rw [h2, Bool.true_and] at hok
  have hq : decide ((lk.size : Int) ≤ 300) = decide (lk.size ≤ 300) := by rw [decide_eq_decide]; omega
  obtain ⟨v, hv⟩ : ∃ v, decide (lk.size ≤ 300) = v := ⟨_, rfl⟩
  rw [hv] at hok hq
  have HO := Lib.hid hok
  clear hok hv
  go_enter Try.func47, Try.ntmps47
  go_wp2
  go_ret
  exact ⟨by rw [HO.out]; rfl, hbel⟩

set_option maxRecDepth 100000 in
set_option maxHeartbeats 1600000 in
theorem inValid_any (x : Tr.In) (wa : Option Addr) (wc : Nat) (w : World) (hs : SR w wa x.wit.length x.wit) (h1 : x.wit.length ≤ 1048576) (hz : ∀ s ∈ x.wit, s.size ≤ 1048576) :
    Calls Try.prog 61 #[.agg #[.int .i64 x.tx, .int .i64 x.out, .slice wa x.wit.length wc]] w fun e w' => e = .returned (.bool x.ok) ∧ Below w.heap.size w w' := by
  obtain ⟨tx, out, wit⟩ := x
  simp only at hs h1 hz ⊢
  have hbel : Below w.heap.size w (w.alloc (.cells #[.int .i64 tx, .int .i64 out, .slice wa wit.length wc] 45 (0, 0))) := (Below.refl _ _).alloc (Nat.le_refl _) _
  have hs' := hs.below hbel
  have hc2 := isStack_any wa wit.length wc wit _ hs' (by omega) (fun s h => by have := hz s h; omega)
  have hc0 := fun W => isDigest_any tx W
  have hok : (⟨tx, out, wit⟩ : Tr.In).ok = ((decide (0 ≤ tx) && decide (tx ≤ 4294967295)) && ((decide (0 ≤ out) && decide (out ≤ 5)) && decide (Vm.fits wit))) := rfl
  clear hs hs' hz h1
  cases hA : (decide (0 ≤ tx) && decide (tx ≤ 4294967295))
  · rw [hA, Bool.false_and] at hok
    simp only [hA] at hc0
    have HO := Lib.hid hok
    clear hok hA hc2
    go_enter Try.func61, Try.ntmps61
    go_wp2_with fail
    refine (hc0 _).mono ?_
    rintro e w' ⟨rfl, rfl⟩
    go_wp2
    go_ret
    exact ⟨by rw [HO.out]; rfl, hbel⟩
  rw [hA, Bool.true_and] at hok
  simp only [hA] at hc0
  clear hA
  cases hB : decide (0 ≤ out)
  · rw [hB, Bool.false_and, Bool.false_and] at hok
    have HO := Lib.hid hok
    clear hok hc2
    go_enter Try.func61, Try.ntmps61
    go_wp2_with fail
    refine (hc0 _).mono ?_
    rintro e w' ⟨rfl, rfl⟩
    go_wp2
    go_ret
    exact ⟨by rw [HO.out]; rfl, hbel⟩
  rw [hB, Bool.true_and] at hok
  have hq : decide (out < 6) = decide (out ≤ 5) := by rw [decide_eq_decide]; omega
  cases hC : decide (out ≤ 5)
  · rw [hC, Bool.false_and] at hok
    rw [hC] at hq
    have HO := Lib.hid hok
    clear hok hc2
    go_enter Try.func61, Try.ntmps61
    go_wp2_with fail
    refine (hc0 _).mono ?_
    rintro e w' ⟨rfl, rfl⟩
    go_wp2
    go_ret
    exact ⟨by rw [HO.out]; rfl, hbel⟩
  rw [hC, Bool.true_and] at hok
  rw [hC] at hq
  have HO := Lib.hid hok
  obtain ⟨v, HV⟩ : ∃ v, Hid (decide (Vm.fits wit) = v) := ⟨_, Lib.hid rfl⟩
  rw [HV.out] at hc2
  have HO : Hid (Tr.In.ok ⟨tx, out, wit⟩ = v) := Lib.hid (by rw [HO.out, HV.out])
  clear hok HV
  go_enter Try.func61, Try.ntmps61
  go_wp2_with fail
  refine (hc0 _).mono ?_
  rintro e w' ⟨rfl, rfl⟩
  go_wp2_with fail
  refine (hc2).mono ?_
  rintro e w' ⟨rfl, rfl⟩
  go_wp2
  go_ret
  exact ⟨by rw [HO.out]; rfl, hbel⟩

set_option maxRecDepth 100000 in
set_option maxHeartbeats 1600000 in
theorem spendsSame_any (tx out ty oy : Int) (va vb : Option Addr) (na nb ca cb : Nat) (w : World) :
    Calls Try.prog 63 #[.agg #[.int .i64 tx, .int .i64 out, .slice va na ca], .agg #[.int .i64 ty, .int .i64 oy, .slice vb nb cb]] w fun e w' => e = .returned (.bool (decide (tx = ty) && decide (out = oy))) ∧ Below w.heap.size w w' := by
  have hbel : Below w.heap.size w ((w.alloc (.cells #[.int .i64 tx, .int .i64 out, .slice va na ca] 45 (0, 0))).alloc (.cells #[.int .i64 ty, .int .i64 oy, .slice vb nb cb] 45 (0, 0))) := ((Below.refl _ _).alloc (Nat.le_refl _) _).alloc (by simp) _
  have v1 : Bk w.heap.size 45 #[.int .i64 tx, .int .i64 out, .slice va na ca] ((w.alloc (.cells #[.int .i64 tx, .int .i64 out, .slice va na ca] 45 (0, 0))).alloc (.cells #[.int .i64 ty, .int .i64 oy, .slice vb nb cb] 45 (0, 0))) := (Bk.new _ _ _).alloc _
  have v2 : Bk (w.heap.size + 1) 45 #[.int .i64 ty, .int .i64 oy, .slice vb nb cb] ((w.alloc (.cells #[.int .i64 tx, .int .i64 out, .slice va na ca] 45 (0, 0))).alloc (.cells #[.int .i64 ty, .int .i64 oy, .slice vb nb cb] 45 (0, 0))) := Bk.new' _ _ _ _ (by simp)
  obtain ⟨c0, c1, _⟩ := Bk.c3t v1
  obtain ⟨d0, d1, _⟩ := Bk.c3t v2
  clear v1 v2
  by_cases hA : tx = ty
  case neg =>
    have hAf : (tx == ty) = false := by simpa using hA
    have HO : Hid ((decide (tx = ty) && decide (out = oy)) = false) := Lib.hid (by rw [decide_eq_false hA, Bool.false_and])
    clear hA
    go_enter Try.func63, Try.ntmps63
    go_wp2
    go_ret
    exact ⟨by rw [HO.out]; rfl, hbel⟩
  have hAt : (tx == ty) = true := by simpa using hA
  have HO : Hid ((decide (tx = ty) && decide (out = oy)) = (out == oy)) := Lib.hid (by rw [decide_eq_true hA, Bool.true_and]; rfl)
  clear hA
  obtain ⟨v, hv⟩ : ∃ v, (out == oy) = v := ⟨_, rfl⟩
  rw [hv] at HO
  go_enter Try.func63, Try.ntmps63
  go_wp2
  go_ret
  exact ⟨by rw [HO.out]; rfl, hbel⟩

set_option maxRecDepth 100000 in
set_option maxHeartbeats 1600000 in
theorem indexSame_any (a : Option Addr) (k c : Nat) (l : List Tr.In) (tx out : Int) (wit : List ByteArray) (va : Option Addr) (na ca : Nat) (w : World) (h : InP w a k l) (hk : k ≤ 1048576) :
    Calls Try.prog 89 #[.slice a k c, (Value.func (Fn.func 63) #[.agg #[.int .i64 tx, .int .i64 out, .slice va na ca]] #[])] w fun e w' => (∃ i : Int, e = .returned (.int .i64 i) ∧ decide (0 ≤ i) = Tr.seen l ⟨tx, out, wit⟩ k) ∧ Below w.heap.size w w' := by
  have he : ∀ args w, (callFunc 63 args).run Try.prog w = .ok (.enter 63 args) w := enters_of Try.func63 (by kernel_rfl) rfl
  have HH := Lib.hid h
  clear h
  go_enter Try.func89, Try.ntmps89
  go_wp2
  go_loopw [8] (fun i wr => ∃ j : Nat, j ≤ k ∧ i = .int .i64 (j : Int) ∧ Hid (Tr.seen l ⟨tx, out, wit⟩ j = false) ∧ Below w.heap.size w wr)
    (fun i _ => k - (intOf i).toNat)
  case atStart => exact ⟨0, by omega, rfl, Lib.hid rfl, Below.refl _ _⟩
  case round =>
    obtain ⟨j, hj, rfl, hfr, hbel⟩ := hrel
    by_cases hlt : j < k
    · obtain ⟨b, off, rfl, hb, hc⟩ := (HH.out.below hbel) (by omega)
      obtain ⟨wa, wc, hi⟩ := hc j hlt
      obtain ⟨c0, c1, c2, _, _⟩ := hi
      have HNo : Hid ((Tr.In.mk tx out wit).same (Tr.inAt l j) = true → decide ((0 : Int) ≤ (j : Int)) = Tr.seen l ⟨tx, out, wit⟩ k) := Lib.hid fun he => by
        rw [Tr.seen_yes hlt he, decide_eq_true (Int.natCast_nonneg j)]
      have HYes : Hid ((Tr.In.mk tx out wit).same (Tr.inAt l j) = false → Tr.seen l ⟨tx, out, wit⟩ (j + 1) = false) := Lib.hid fun he => by
        unfold Tr.seen
        rw [hfr.out, he]
        rfl
      obtain ⟨x, HX⟩ : ∃ x, Hid (Tr.inAt l j = x) := ⟨_, Lib.hid rfl⟩
      rw [HX.out] at c0 c1 c2 HNo HYes
      obtain ⟨ty, oy, wy⟩ := x
      simp only at c0 c1 c2
      have hcon := spendsSame_any tx out ty oy va wa na wy.length ca wc wr
      rw [show (decide (tx = ty) && decide (out = oy)) = (Tr.In.mk tx out wit).same ⟨ty, oy, wy⟩ from rfl] at hcon
      clear hc HX hfr
      cases hq : (Tr.In.mk tx out wit).same ⟨ty, oy, wy⟩
      · have HN := Lib.hid (HYes.out hq)
        rw [hq] at hcon
        clear HNo HYes hq
        go_wp2_with fail
        refine hcon.mono ?_
        rintro e2 w2 ⟨rfl, hb2⟩
        have hc2 := below_aftR hbel hb2
        clear hb2 hbel hcon
        go_wp2
        go_roundw
        case rel => exact ⟨j + 1, by omega, by simp, HN, hc2⟩
        case measure => simp [intOf]; omega
      · have HN := Lib.hid (HNo.out hq)
        rw [hq] at hcon
        clear HNo HYes hq
        go_wp2_with fail
        refine hcon.mono ?_
        rintro e2 w2 ⟨rfl, hb2⟩
        have hc2 := below_aftR hbel hb2
        clear hb2 hbel hcon
        go_wp2
        go_ret
        exact ⟨⟨_, rfl, HN.out⟩, hc2⟩
    · have hk2 : j = k := by omega
      subst hk2
      have HN : Hid (decide ((0 : Int) ≤ -1) = Tr.seen l ⟨tx, out, wit⟩ j) := Lib.hid (by rw [hfr.out]; rfl)
      clear hfr
      go_wp2
      go_ret
      exact ⟨⟨_, rfl, HN.out⟩, hbel⟩

set_option maxRecDepth 100000 in
set_option maxHeartbeats 1600000 in
theorem containsSame_any (a : Option Addr) (k c : Nat) (l : List Tr.In) (tx out : Int) (wit : List ByteArray) (va : Option Addr) (na ca : Nat) (w : World) (h : InP w a k l) (hk : k ≤ 1048576) :
    Calls Try.prog 62 #[.slice a k c, (Value.func (Fn.func 63) #[.agg #[.int .i64 tx, .int .i64 out, .slice va na ca]] #[])] w fun e w' => e = .returned (.bool (Tr.seen l ⟨tx, out, wit⟩ k)) ∧ Below w.heap.size w w' := by
  have hcon := indexSame_any a k c l tx out wit va na ca w h hk
  clear h
  go_enter Try.func62, Try.ntmps62
  go_wp2_with fail
  refine hcon.mono ?_
  rintro e1 w1 ⟨⟨i, rfl, hi⟩, hb1⟩
  have HK := Lib.hid hi
  clear hi hcon
  go_wp2
  go_ret
  exact ⟨by rw [← HK.out]; rfl, hb1⟩

set_option maxRecDepth 100000 in
set_option maxHeartbeats 1600000 in
theorem areOuts_any (lo : Nat) (a : Option Addr) (n c : Nat) (l : List Tr.Out) (w : World) (h : OuL lo w a n l) (hn : n ≤ 1048576) (hz : ∀ x ∈ l, x.lock.size ≤ 1048576) :
    Calls Try.prog 32 #[.slice a n c] w fun e w' => e = .returned (.bool (Tr.outsOk l)) ∧ Below w.heap.size w w' := by
  have hl := h.1
  by_cases hb1 : n < 1
  · have HO := Lib.hid (Tr.outsOk_len (l := l) (by omega))
    have hi : (n : Int) < 1 := by omega
    clear h hz hl
    go_enter Try.func32, Try.ntmps32
    go_wp2
    go_ret
    exact ⟨by rw [HO.out]; rfl, Below.refl _ _⟩
  by_cases hb2 : 6 < n
  · have HO := Lib.hid (Tr.outsOk_len (l := l) (by omega))
    have hi : ¬ (n : Int) < 1 := by omega
    have hj : (6 : Int) < n := by omega
    clear h hz hl
    go_enter Try.func32, Try.ntmps32
    go_wp2
    go_ret
    exact ⟨by rw [HO.out]; rfl, Below.refl _ _⟩
  have hi : ¬ (n : Int) < 1 := by omega
  have hj : ¬ (6 : Int) < n := by omega
  have HL := Lib.hid hl
  have HH := Lib.hid h
  have HZ := Lib.hid hz
  clear hl h hz
  go_enter Try.func32, Try.ntmps32
  go_wp2
  go_loopw [3, 16] (fun s i wr => ∃ k : Nat, k ≤ n ∧ i = .int .i64 (k : Int) ∧ s = .int .i64 (Tr.sum (l.take k)) ∧ (0 ≤ Tr.sum (l.take k) ∧ Tr.sum (l.take k) ≤ 1000000 * (k : Int)) ∧ (∀ j, j < k → (Tr.outAt l j).ok = true) ∧ Below w.heap.size w wr)
    (fun _ i _ => n - (intOf i).toNat)
  case atStart => exact ⟨0, by omega, rfl, rfl, by constructor <;> exact Int.le_refl _, fun j hj => absurd hj (by omega), Below.refl _ _⟩
  case round =>
    obtain ⟨k, hk, rfl, rfl, hsum, hjj, hbel⟩ := hrel
    clear hi hj
    by_cases hlt : k < n
    · obtain ⟨g, off, rfl, _, _, hc⟩ := (HH.out.below hbel).2 (by omega)
      obtain ⟨e0, e1⟩ := hc k hlt
      have HJ := Lib.hid hjj
      have hkl : k < l.length := by have := HL.out; omega
      have hzk := HZ.out _ (Tr.outAt_mem hkl)
      have HS := Lib.hid (Tr.sum_take l k hkl)
      have hok := Tr.Out.ok_iff (Tr.outAt l k)
      have HBAD := Lib.hid (Tr.outsOk_bad hkl)
      obtain ⟨x, HX⟩ : ∃ x, Hid (Tr.outAt l k = x) := ⟨_, Lib.hid rfl⟩
      rw [HX.out] at e0 e1 hzk HS hok HBAD
      obtain ⟨S, HSS⟩ : ∃ S, Hid (Tr.sum (l.take k) = S) := ⟨_, Lib.hid rfl⟩
      rw [HSS.out] at hsum HS
      rw [HSS.out]
      obtain ⟨am, lk⟩ := x
      simp only at e0 e1 hzk hok HS
      have hbelA : Below w.heap.size w (wr.alloc (.cells #[.int .i64 am, .string lk] 66 (0, 0))) := hbel.alloc hbel.size _
      have vA : Bk wr.heap.size 66 #[.int .i64 am, .string lk] (wr.alloc (.cells #[.int .i64 am, .string lk] 66 (0, 0))) := Bk.new _ _ _
      have hcv := outValid_any ⟨am, lk⟩ (wr.alloc (.cells #[.int .i64 am, .string lk] 66 (0, 0))) hzk
      simp only at hcv
      obtain ⟨a0, a1⟩ := Bk.c2 vA
      clear hc hjj
      cases hv : Tr.Out.ok ⟨am, lk⟩
      · have HF := Lib.hid (HBAD.out hv)
        rw [hv] at hcv
        clear hv hok HBAD
        go_wp2_with fail
        refine hcv.mono ?_
        rintro e w1 ⟨rfl, hx⟩
        have hb1 := below_aftR hbelA hx
        clear hx
        go_wp2
        go_ret
        exact ⟨by rw [HF.out]; rfl, hb1⟩
      · have HOK := Lib.hid hv
        have hA := (hok.1 hv).1
        rw [hv] at hcv
        have hbd : 0 ≤ S + am ∧ S + am ≤ 1000000 * ((k : Int) + 1) := by omega
        have hw : IntKind.i64.wrap (S + am) = S + am := IntWalk.i64_in _ (by omega)
        clear hv hok HBAD
        go_wp2_with fail
        refine hcv.mono ?_
        rintro e w1 ⟨rfl, hx⟩
        have hb1 := below_aftR hbelA hx
        obtain ⟨b0, b1⟩ := Bk.c2 (vA.below hx)
        clear hx vA a0 a1 hcv
        go_wp2
        go_roundw
        case rel =>
          refine ⟨k + 1, by omega, by simp, by rw [HS.out], ?_, fun j hj => ?_, hb1⟩
          · rw [HS.out]
            exact ⟨hbd.1, by have := hbd.2; push_cast; omega⟩
          · by_cases hjk : j < k
            · exact HJ.out j hjk
            · rw [show j = k by omega, HX.out]; exact HOK.out
        case measure => simp [intOf]; omega
    · have hk2 : k = n := by omega
      have HE := Lib.hid (Tr.outsOk_end (l := l) (by have := HL.out; omega) (fun j hj' => hjj j (by have := HL.out; omega)))
      have htk : l.take k = l := by rw [hk2, ← HL.out, List.take_length]
      rw [htk] at hsum
      rw [htk]
      obtain ⟨S, HSS⟩ : ∃ S, Hid (Tr.sum l = S) := ⟨_, Lib.hid rfl⟩
      rw [HSS.out] at hsum HE
      rw [HSS.out]
      clear hjj htk
      go_wp2
      go_ret
      exact ⟨by rw [HE.out]; rfl, hbel⟩

set_option maxRecDepth 100000 in
set_option maxHeartbeats 3200000 in
theorem areIns_any (lo : Nat) (a : Option Addr) (n c : Nat) (l : List Tr.In) (w : World) (h : InL lo w a n l) (hcap : n ≤ c) (hn : n ≤ 1048576) (hz : ∀ x ∈ l, x.wit.length ≤ 1048576 ∧ ∀ s ∈ x.wit, s.size ≤ 1048576) :
    Calls Try.prog 31 #[.slice a n c] w fun e w' => e = .returned (.bool (Tr.insOk l)) ∧ Below w.heap.size w w' := by
  have hl := h.1
  by_cases hb2 : 6 < n
  · have HO : Hid (Tr.insOk l = false) := Lib.hid (by
      unfold Tr.insOk
      rw [decide_eq_false (p := l.length ≤ 6) (by omega), Bool.and_false])
    have hj : (6 : Int) < n := by omega
    clear h hz hl
    go_enter Try.func31, Try.ntmps31
    go_wp2
    go_ret
    exact ⟨by rw [HO.out]; rfl, Below.refl _ _⟩
  have hj : ¬ (6 : Int) < n := by omega
  have HL := Lib.hid hl
  have HH := Lib.hid h
  have HZ := Lib.hid hz
  have hmf := makeFunc_run13
  clear hl h hz
  go_enter Try.func31, Try.ntmps31
  go_wp2
  go_loopw [10] (fun i wr => ∃ k : Nat, k ≤ n ∧ i = .int .i64 (k : Int) ∧ Below w.heap.size w wr ∧ (∀ j, j < k → (Tr.inAt l j).ok = true) ∧ ∀ j, j < k → ∀ q, q < j → (Tr.inAt l q).same (Tr.inAt l j) = false)
    (fun i _ => n - (intOf i).toNat)
  case atStart => exact ⟨0, by omega, rfl, Below.refl _ _, fun j hj => absurd hj (by omega), fun j hj => absurd hj (by omega)⟩
  case round =>
    obtain ⟨k, hk, rfl, hbel, hjj, hq⟩ := hrel
    clear hj
    by_cases hlt : k < n
    · have hIL := HH.out.below hbel
      obtain ⟨g, off, rfl, _, hgl, hc⟩ := hIL.2 (by omega)
      obtain ⟨wa, wc, hi⟩ := hc k hlt
      obtain ⟨e0, e1, e2, e3, _⟩ := hi
      have HJ := Lib.hid hjj
      have HQ := Lib.hid hq
      have hkl : k < l.length := by have := HL.out; omega
      have hzk := HZ.out _ (Tr.inAt_mem hkl)
      have HBAD := Lib.hid (Tr.insOk_bad hkl)
      have HTW := Lib.hid (fun q (hq : q < k) => Tr.insOk_twice hkl hq)
      have hsl := fun W => sliceTo13 g off n c k W (by omega)
      obtain ⟨x, HX⟩ : ∃ x, Hid (Tr.inAt l k = x) := ⟨_, Lib.hid rfl⟩
      rw [HX.out] at e0 e1 e2 e3 hzk HBAD
      obtain ⟨tx, out, wit⟩ := x
      simp only at e0 e1 e2 e3 hzk
      have vA : Bk wr.heap.size 45 #[.int .i64 tx, .int .i64 out, .slice wa wit.length wc] (wr.alloc (.cells #[.int .i64 tx, .int .i64 out, .slice wa wit.length wc] 45 (0, 0))) := Bk.new _ _ _
      have hbA : Below wr.heap.size wr (wr.alloc (.cells #[.int .i64 tx, .int .i64 out, .slice wa wit.length wc] 45 (0, 0))) := (Below.refl _ _).alloc (Nat.le_refl _) _
      obtain ⟨W1, HW⟩ : ∃ W1, Hid (wr.alloc (.cells #[.int .i64 tx, .int .i64 out, .slice wa wit.length wc] 45 (0, 0)) = W1) := ⟨_, Lib.hid rfl⟩
      rw [HW.out] at vA hbA
      have hbel1 := below_aftR hbel hbA
      have hcI := inValid_any ⟨tx, out, wit⟩ wa wc W1.drew ((e3.below hbA).below (Below.refl _ _).drew) hzk.1 hzk.2
      simp only at hcI
      have HP : Hid (∀ W, Below W1.drew.heap.size W1.drew W → Calls Try.prog 62 #[.slice (some ⟨g, off, none⟩) k c, (Value.func (Fn.func 63) #[.agg #[.int .i64 tx, .int .i64 out, .slice wa wit.length wc]] #[])] W fun e w' => e = .returned (.bool (Tr.seen l ⟨tx, out, wit⟩ k)) ∧ Below W.heap.size W w') := Lib.hid fun W hW =>
        containsSame_any _ k c l tx out wit wa _ wc W (((hIL.inP k hk).below hbA).below ((Below.refl _ _).drew.trans hW)) (by omega)
      have hS0 := Bk.c3t vA.drew
      clear hc hjj hq e3 hIL hbA hbel
      cases hv : Tr.In.ok ⟨tx, out, wit⟩
      · have HF := Lib.hid (HBAD.out hv)
        rw [hv] at hcI
        clear hv HP
        go_wp2
        rw [HW.out]
        clear HW e0 e1 e2
        refine wp_region_noPanic ?_
        refine wp_region_held_drew (S := fun W => W.cell? ⟨wr.heap.size, 0, none⟩ = some (.int .i64 tx) ∧ W.cell? ⟨wr.heap.size, 1, none⟩ = some (.int .i64 out) ∧ W.cell? ⟨wr.heap.size, 2, none⟩ = some (.slice wa wit.length wc)) (by kernel_rfl) hS0 (fun hH => ?_)
        refine wpAnyH_take (i := 0) (v := .agg #[.int .i64 tx, .int .i64 out, .slice wa wit.length wc]) rfl (by kernel_rfl) (by kernel_rfl) (by kernel_rfl) (fun _ _ _ h => h) (Or.inl ⟨by rfl, fun W hW => by obtain ⟨c0, c1, c2⟩ := hW; go_simp⟩) (by assumption) ?_
        refine wpAnyH_ready (rs := [1]) (by kernel_rfl) (by simp) ?_
        refine AllReadyH.cons rfl (fun K hK => ?_) AllReadyH.nil
        go_simp
        go_wp2_with (go_at_call 61; refine hcI.mono ?_; rintro x1 w1 ⟨rfl, hb1⟩; have hS1 := Bk.c3t (vA.drew.below hb1); have hc1 := below_aftR hbel1.drew hb1)
        refine hK.out _ _ hS1 (fun hH1 => ?_)
        clear hK K
        refine wpAnyH_take (i := 2) (v := .bool true) rfl (by kernel_rfl) (by kernel_rfl) (by kernel_rfl) (fun _ _ _ h => h) (Or.inl ⟨by rfl, fun W hW => by go_simp⟩) (by assumption) ?_
        simp only [Act.put, List.getElem_toArray, List.getElem_cons_succ, List.getElem_cons_zero, List.setIfInBounds_toArray, List.set_cons_zero, List.set_cons_succ]
        refine wpAnyH_take (i := 3) (v := .bool true) rfl (by kernel_rfl) (by kernel_rfl) (by kernel_rfl) (fun _ _ _ h => h) (Or.inl ⟨by rfl, fun W hW => by go_simp⟩) (by assumption) ?_
        simp only [Act.put, List.getElem_toArray, List.getElem_cons_succ, List.getElem_cons_zero, List.setIfInBounds_toArray, List.set_cons_zero, List.set_cons_succ]
        refine wpAnyH_take (i := 4) (v := undef) rfl (by kernel_rfl) (by kernel_rfl) (by kernel_rfl) (fun _ _ _ h => h) (Or.inr ⟨rfl, rfl⟩) (by assumption) ?_
        simp only [Act.put, List.getElem_toArray, List.getElem_cons_succ, List.getElem_cons_zero, List.setIfInBounds_toArray, List.set_cons_zero, List.set_cons_succ]
        refine wpAnyH_take (i := 5) (v := undef) rfl (by kernel_rfl) (by kernel_rfl) (by kernel_rfl) (fun _ _ _ h => h) (Or.inr ⟨rfl, rfl⟩) (by assumption) ?_
        simp only [Act.put, List.getElem_toArray, List.getElem_cons_succ, List.getElem_cons_zero, List.setIfInBounds_toArray, List.set_cons_zero, List.set_cons_succ]
        refine wpAnyH_take (i := 6) (v := undef) rfl (by kernel_rfl) (by kernel_rfl) (by kernel_rfl) (fun _ _ _ h => h) (Or.inr ⟨rfl, rfl⟩) (by assumption) ?_
        simp only [Act.put, List.getElem_toArray, List.getElem_cons_succ, List.getElem_cons_zero, List.setIfInBounds_toArray, List.set_cons_zero, List.set_cons_succ]
        refine wpAnyH_take (i := 7) (v := undef) rfl (by kernel_rfl) (by kernel_rfl) (by kernel_rfl) (fun _ _ _ h => h) (Or.inr ⟨rfl, rfl⟩) (by assumption) ?_
        simp only [Act.put, List.getElem_toArray, List.getElem_cons_succ, List.getElem_cons_zero, List.setIfInBounds_toArray, List.set_cons_zero, List.set_cons_succ]
        refine wpAnyH_take (i := 8) (v := undef) rfl (by kernel_rfl) (by kernel_rfl) (by kernel_rfl) (fun _ _ _ h => h) (Or.inr ⟨rfl, rfl⟩) (by assumption) ?_
        simp only [Act.put, List.getElem_toArray, List.getElem_cons_succ, List.getElem_cons_zero, List.setIfInBounds_toArray, List.set_cons_zero, List.set_cons_succ]
        refine wpAnyH_take (i := 9) (v := undef) rfl (by kernel_rfl) (by kernel_rfl) (by kernel_rfl) (fun _ _ _ h => h) (Or.inr ⟨rfl, rfl⟩) (by assumption) ?_
        simp only [Act.put, List.getElem_toArray, List.getElem_cons_succ, List.getElem_cons_zero, List.setIfInBounds_toArray, List.set_cons_zero, List.set_cons_succ]
        refine wpAnyH_take (i := 10) (v := .bool true) rfl (by kernel_rfl) (by kernel_rfl) (by kernel_rfl) (fun _ _ _ h => h) (Or.inl ⟨by rfl, fun W hW => by go_simp⟩) (by assumption) ?_
        simp only [Act.put, List.getElem_toArray, List.getElem_cons_succ, List.getElem_cons_zero, List.setIfInBounds_toArray, List.set_cons_zero, List.set_cons_succ]
        refine wpAnyH_done (by kernel_rfl) ?_ _
        refine NoPanic.normal ?_
        go_wp2
        go_ret
        exact ⟨by rw [HF.out]; rfl, hc1⟩
      · have HOK := Lib.hid hv
        rw [hv] at hcI
        clear hv HBAD
        go_wp2
        rw [HW.out]
        clear HW e0 e1 e2
        obtain ⟨T, HT⟩ : ∃ T, Hid (Tr.seen l ⟨tx, out, wit⟩ k = T) := ⟨_, Lib.hid rfl⟩
        rw [HT.out] at HP
        apply wp_meet13 (fun w' => Below w.heap.size w w')
        case h1 =>
          go_region_held3 (fun W => W.cell? ⟨wr.heap.size, 0, none⟩ = some (.int .i64 tx) ∧ W.cell? ⟨wr.heap.size, 1, none⟩ = some (.int .i64 out) ∧ W.cell? ⟨wr.heap.size, 2, none⟩ = some (.slice wa wit.length wc)) (first | with_reducible exact hS0 | with_reducible exact hS1 | with_reducible exact hS2)
            (first
              | (go_at_call 61; refine hcI.mono ?_; rintro e2 w2 ⟨rfl, hb2⟩; have hS1 := Bk.c3t (vA.drew.below hb2); have hc2 := below_aftR hbel1.drew hb2)
              | (go_at_call 62; refine (HP.out _ hb2).mono ?_; rintro e3 w3 ⟨rfl, hb3⟩; have hS2 := Bk.c3t ((vA.drew.below hb2).below hb3); have hc3 := below_aftR hc2 hb3))
          all_goals exact ⟨rfl, hc3⟩
        case h2 =>
          intro w5 hc5
          cases T
          · have hno := Tr.seen_no HT.out
            have HNO := Lib.hid hno
            clear hno
            go_wp2
            go_roundw
            case rel =>
              refine ⟨k + 1, by omega, by simp, hc5, fun j hj => ?_, fun j hj q2 hq2 => ?_⟩
              · by_cases hjk : j < k
                · exact HJ.out j hjk
                · rw [show j = k by omega, HX.out]; exact HOK.out
              · by_cases hjk : j < k
                · exact HQ.out j hjk q2 hq2
                · have hj2 : j = k := by omega
                  subst hj2
                  rw [HX.out, Tr.In.same_comm]
                  exact HNO.out q2 hq2
            case measure => simp [intOf]; omega
          · have HF : Hid (Tr.insOk l = false) := Lib.hid (by
              obtain ⟨q, hq, hs⟩ := Tr.seen_at HT.out
              exact HTW.out q hq (by rw [HX.out, Tr.In.same_comm]; exact hs))
            go_wp2
            go_ret
            exact ⟨by rw [HF.out]; rfl, hc5⟩
    · have hk2 : k = n := by omega
      have HE := Lib.hid (Tr.insOk_end (l := l) (fun j hj' => hjj j (by have := HL.out; omega)) (fun j hj' => hq j (by have := HL.out; omega)))
      have HT : Hid (Tr.insOk l = true) := Lib.hid (by rw [HE.out]; exact decide_eq_true (by have := HL.out; omega))
      clear hjj hq
      go_wp2
      go_ret
      exact ⟨by rw [HT.out]; rfl, hbel⟩

end Go.Proofs.Ytcbpdibkindnfaa
