import Derived.Test.YtcbpdibkindnfaaGreatTb
import Derived.Test.YtcbpdibkindnfaaGreatBa
import Derived.Deep.DeepMust
import Derived.BigQuiet
import Derived.Deep.QuietTactic
import Derived.Test.YtcbpdibkindnfaaGreatTe
import Derived.Test.YtcbpdibkindnfaaGreatDg
import Derived.Deep.RegionHeld3
import Derived.Deep.RegionWith
/-
  Plain: sizes of what a transaction's bytes are made of, step by step.
-/
namespace Go.Proofs.YtcbpdibkindnfaaGreat

theorem Tr.cat_take {α : Type} (e : α → ByteArray) (l : List α) (d : α) (k : Nat) (hk : k < l.length) : Tr.cat e (l.take (k + 1)) = Tr.cat e (l.take k) ++ e (l.getD k d) := by
  rw [List.take_add_one, List.getElem?_eq_getElem hk, Option.toList_some, Tr.cat_snoc, List.getD_eq_getElem?_getD, List.getElem?_eq_getElem hk]
  rfl
theorem Tr.cat_size {α : Type} (e : α → ByteArray) (l : List α) (N : Nat) (h : ∀ x ∈ l, (e x).size ≤ N) : (Tr.cat e l).size ≤ l.length * N := by
  induction l with
  | nil => exact Nat.zero_le _
  | cons x l ih =>
    show (e x ++ Tr.cat e l).size ≤ _
    rw [ByteArray.size_append, List.length_cons, Nat.add_mul, Nat.one_mul]
    have h1 := h x (by simp)
    have h2 := ih (fun y hy => h y (by simp [hy]))
    omega
theorem Tr.cat_take_size {α : Type} (e : α → ByteArray) (l : List α) (N k : Nat) (h : ∀ x ∈ l, (e x).size ≤ N) (hl : l.length ≤ 6) : (Tr.cat e (l.take k)).size ≤ 6 * N := by
  have h1 := Tr.cat_size e (l.take k) N (fun x hx => h x (List.mem_of_mem_take hx))
  have h2 : (l.take k).length ≤ 6 := by rw [List.length_take]; omega
  exact Nat.le_trans h1 (Nat.mul_le_mul_right N h2)
theorem Tr.text_size {s : ByteArray} {n : Nat} (h : s.size ≤ n) : (En.text s).size ≤ 5 + n := by
  unfold En.text
  rw [ByteArray.size_append]
  have := En.size_num s.size
  omega
theorem Tr.texts_size {l : List ByteArray} (h1 : l.length ≤ 24) (h2 : ∀ s ∈ l, s.size ≤ 80) : (En.texts l).size ≤ 2045 := by
  unfold En.texts
  rw [ByteArray.size_append, En.cat_tr]
  have h3 := En.size_num l.length
  have h4 := Tr.cat_size En.text l 85 (fun s hs => Tr.text_size (h2 s hs))
  omega
theorem Tr.In.enc_size (w : Bool) {x : Tr.In} (h : Vm.fits x.wit) : (x.enc w).size ≤ 2054 := by
  unfold Tr.In.enc
  rw [ByteArray.size_append, ByteArray.size_append, Dg.bytes_size]
  have h1 := En.size_num x.out
  have h2 := Tr.texts_size h.1 h.2
  have h3 : ByteArray.empty.size = 0 := rfl
  split <;> omega
theorem Tr.Out.enc_size {x : Tr.Out} (h : x.lock.size ≤ 300) : x.enc.size ≤ 310 := by
  unfold Tr.Out.enc
  rw [ByteArray.size_append]
  have h1 := En.size_num x.amt
  have h2 := Tr.text_size h
  omega
/-- All that a transaction which is valid by itself keeps, but for the count of its bytes. -/
structure Tr.mid (t : Tr) : Prop where
  nin : t.ins.length ≤ 6
  ins : ∀ x ∈ t.ins, (0 ≤ x.tx ∧ x.tx ≤ 4294967295) ∧ (0 ≤ x.out ∧ x.out ≤ 5) ∧ Vm.fits x.wit
  nout : t.outs.length ≤ 6
  outs : ∀ x ∈ t.outs, (1 ≤ x.amt ∧ x.amt ≤ 1000000) ∧ x.lock.size ≤ 300
  after : 0 ≤ t.after ∧ t.after ≤ 9999
  note : t.note.size ≤ 20
theorem Tr.In.ok_iff (x : Tr.In) : x.ok = true ↔ (0 ≤ x.tx ∧ x.tx ≤ 4294967295) ∧ (0 ≤ x.out ∧ x.out ≤ 5) ∧ Vm.fits x.wit := by
  unfold Tr.In.ok
  simp only [Bool.and_eq_true, decide_eq_true_eq]
theorem Tr.Out.ok_iff (x : Tr.Out) : x.ok = true ↔ (1 ≤ x.amt ∧ x.amt ≤ 1000000) ∧ x.lock.size ≤ 300 := by
  unfold Tr.Out.ok
  simp only [Bool.and_eq_true, decide_eq_true_eq]
theorem Tr.mid_of {t : Tr} (h1 : Tr.insOk t.ins = true) (h2 : Tr.outsOk t.outs = true) (h3 : 0 ≤ t.after ∧ t.after ≤ 9999) (h4 : t.note.size ≤ 20) : t.mid := by
  unfold Tr.insOk at h1
  unfold Tr.outsOk at h2
  simp only [Bool.and_eq_true, decide_eq_true_eq, List.all_eq_true] at h1 h2
  exact ⟨h1.2, fun x hx => (Tr.In.ok_iff x).1 (h1.1.1 x hx), h2.1.2, fun x hx => (Tr.Out.ok_iff x).1 (h2.2.1 x hx), h3, h4⟩
theorem Tr.ok_mid {t : Tr} (h : t.ok = true) : t.mid := by
  unfold Tr.ok at h
  simp only [Bool.and_eq_true, decide_eq_true_eq] at h
  obtain ⟨⟨⟨⟨h1, h2⟩, h3⟩, h4⟩, _⟩ := h
  exact Tr.mid_of h1 h2 h3 h4
/-- The bytes after k inputs, after all of them and j outputs, and at the end. -/
def Tr.s1 (w : Bool) (t : Tr) (k : Nat) : ByteArray := En.num t.ins.length ++ Tr.cat (Tr.In.enc w) (t.ins.take k)
def Tr.s2 (w : Bool) (t : Tr) (k : Nat) : ByteArray := Tr.s1 w t t.ins.length ++ En.num t.outs.length ++ Tr.cat Tr.Out.enc (t.outs.take k)
theorem Tr.s1_zero (w : Bool) (t : Tr) : Tr.s1 w t 0 = En.num t.ins.length := by
  unfold Tr.s1
  rw [List.take_zero]
  exact Tr.nilR _
theorem Tr.s1_succ (w : Bool) (t : Tr) (k : Nat) (hk : k < t.ins.length) : Tr.s1 w t (k + 1) = Tr.s1 w t k ++ (Tr.inAt t.ins k).enc w := by
  unfold Tr.s1
  rw [Tr.cat_take _ _ Tr.z k hk, Tr.assoc]
  rfl
theorem Tr.s2_zero (w : Bool) (t : Tr) : Tr.s2 w t 0 = Tr.s1 w t t.ins.length ++ En.num t.outs.length := by
  unfold Tr.s2
  rw [List.take_zero]
  exact Tr.nilR _
theorem Tr.s2_succ (w : Bool) (t : Tr) (k : Nat) (hk : k < t.outs.length) : Tr.s2 w t (k + 1) = Tr.s2 w t k ++ (Tr.outAt t.outs k).enc := by
  unfold Tr.s2
  rw [Tr.cat_take _ _ Tr.zo k hk, Tr.assoc _ (Tr.cat Tr.Out.enc (t.outs.take k))]
  rfl
theorem Tr.s2_end (w : Bool) (t : Tr) : Tr.s2 w t t.outs.length ++ En.num t.after ++ En.text t.note = Tr.enc w t := by
  unfold Tr.s2 Tr.s1 Tr.enc
  rw [List.take_length, List.take_length]
  simp only [Tr.assoc]
theorem Tr.s1_size (w : Bool) {t : Tr} (h : t.mid) (k : Nat) : (Tr.s1 w t k).size ≤ 13000 := by
  unfold Tr.s1
  rw [ByteArray.size_append]
  have h1 := En.size_num t.ins.length
  have h2 := Tr.cat_take_size (Tr.In.enc w) t.ins 2054 k (fun x hx => Tr.In.enc_size w (h.ins x hx).2.2) h.nin
  omega
theorem Tr.s2_size (w : Bool) {t : Tr} (h : t.mid) (k : Nat) : (Tr.s2 w t k).size ≤ 15000 := by
  unfold Tr.s2
  rw [ByteArray.size_append, ByteArray.size_append]
  have h0 := Tr.s1_size w h t.ins.length
  have h1 := En.size_num t.outs.length
  have h2 := Tr.cat_take_size Tr.Out.enc t.outs 310 k (fun x hx => Tr.Out.enc_size (h.outs x hx).2) h.nout
  omega
theorem Tr.enc_size (w : Bool) {t : Tr} (h : t.mid) : (Tr.enc w t).size ≤ 15100 := by
  rw [← Tr.s2_end, ByteArray.size_append, ByteArray.size_append]
  have h0 := Tr.s2_size w h t.outs.length
  have h1 := En.size_num t.after
  have h2 := Tr.text_size h.note
  omega
end Go.Proofs.YtcbpdibkindnfaaGreat

/-
  Contracts of the model: l11Fits, l13In, l13Outs, l13Ins.
-/
namespace Go.Proofs.YtcbpdibkindnfaaGreat
open Go.RowKit

theorem wp_meet13 {P : Program} {c : Code} {Q : Exit → Act → World → Prop} {a : Act} {w : World} (F : World → Prop) (A : Act)
    (h1 : c.wp P (fun e a' w' => match e with | .normal => a' = A ∧ F w' | _ => False) a w) (h2 : ∀ w', F w' → Q .normal A w') : c.wp P Q a w :=
  Code.wp_mono (fun e a' w' h => by
    cases e <;> first | exact (h : False).elim | (obtain ⟨ha, hF⟩ := h; subst ha; exact h2 w' hF)) h1
theorem below_drewN13 {n : Nat} {w w' : World} (h : Below n w w') (k : Nat) : Below n w (w'.drewN k) := ⟨h.os, h.tape, h.output, h.size, h.block⟩

set_option maxRecDepth 100000 in
set_option maxHeartbeats 1600000 in
theorem l11Fits_any (a : Option Addr) (n c : Nat) (ss : List ByteArray) (w : World) (h : SR w a n ss) (hm : n ≤ 9223372036854775807) (hz : ∀ s ∈ ss, s.size ≤ 9223372036854775807) :
    Calls Tryz.prog 100 #[.slice a n c] w fun e w' => e = .returned (.bool (decide (Vm.fits ss))) ∧ w' = w := by
  have hl := h.1
  go_enter Tryz.func100, Tryz.ntmps100
  go_wp2
  go_loopw [3] (fun i wr => wr = w ∧ ∃ k : Nat, k ≤ n ∧ i = .int .i64 (k : Int) ∧ ∀ j, j < k → (ss.getD j ByteArray.empty).size ≤ 80)
    (fun i _ => n - (intOf i).toNat)
  case atStart => exact ⟨rfl, 0, by omega, rfl, fun j hj => absurd hj (by omega)⟩
  case round =>
    obtain ⟨rfl, k, hk, rfl, hj⟩ := hrel
    by_cases hlt : k < n
    · obtain ⟨g, off, rfl, _, hc⟩ := h.2 (by omega)
      have hck := hc k hlt
      have HJ := Lib.hid hj
      have hmem : ss.getD k ByteArray.empty ∈ ss := getD_mem (by omega)
      have hzk := hz _ hmem
      clear hj hc h hz
      obtain ⟨t, HT⟩ : ∃ t, Hid (ss.getD k ByteArray.empty = t) := ⟨_, Lib.hid rfl⟩
      rw [HT.out] at hck hmem hzk
      by_cases hv : 80 < t.size
      · have HF : Hid (decide (Vm.fits ss) = false) := Lib.hid (decide_eq_false (fun g => by have := g.2 t hmem; omega))
        have hv2 : decide ((80 : Int) < (t.size : Int)) = true := decide_eq_true (by omega)
        clear hv hmem
        go_wp2
        go_ret
        exact ⟨by rw [HF.out]; rfl, rfl⟩
      · have hv2 : decide ((80 : Int) < (t.size : Int)) = false := decide_eq_false (by omega)
        have HV := Lib.hid hv
        clear hv hmem
        go_wp2
        go_roundw
        case rel =>
          refine ⟨trivial, k + 1, by omega, by simp, fun j hj => ?_⟩
          by_cases hjk : j < k
          · exact HJ.out j hjk
          · rw [show j = k by omega, HT.out]; exact Nat.le_of_not_lt HV.out
        case measure => simp [intOf]; omega
    · have hk2 : k = n := by omega
      have HF : Hid (decide (Vm.fits ss) = decide ((n : Int) ≤ 24)) := Lib.hid (by
        rw [decide_eq_decide]
        unfold Vm.fits
        constructor
        · intro g; have := g.1; omega
        · intro g
          refine ⟨by omega, fun s hs => ?_⟩
          obtain ⟨j, hjl, hje⟩ := List.getElem_of_mem hs
          have := hj j (by omega)
          rw [List.getD_eq_getElem?_getD, List.getElem?_eq_getElem hjl] at this
          simpa [hje] using this)
      clear hj h hz
      go_wp2
      go_ret
      exact ⟨by rw [HF.out]; rfl, rfl⟩

set_option maxRecDepth 100000 in
set_option maxHeartbeats 1600000 in
theorem l13In_any (x : Tr.In) (wa : Option Addr) (wc : Nat) (w : World) (hs : SR w wa x.wit.length x.wit) (h1 : x.wit.length ≤ 1048576) (hz : ∀ s ∈ x.wit, s.size ≤ 1048576) :
    Calls Tryz.prog 72 #[.agg #[.int .i64 x.tx, .int .i64 x.out, .slice wa x.wit.length wc]] w fun e w' => e = .returned (.bool x.ok) ∧ Below w.heap.size w w' := by
  obtain ⟨tx, out, wit⟩ := x
  simp only at hs h1 hz ⊢
  have hs' := hs.below ((Below.refl w.heap.size w).alloc (Nat.le_refl _) (.cells #[.int .i64 tx, .int .i64 out, .slice wa wit.length wc] 64 (0, 0)))
  have hc2 := l11Fits_any wa wit.length wc wit _ hs' (by omega) (fun s h => by have := hz s h; omega)
  have hc0 := fun W => l6In_any tx 0 4294967295 W
  have hc1 := fun W => l6In_any out 0 5 W
  have hok : (⟨tx, out, wit⟩ : Tr.In).ok = ((decide (0 ≤ tx) && decide (tx ≤ 4294967295)) && ((decide (0 ≤ out) && decide (out ≤ 5)) && decide (Vm.fits wit))) := rfl
  clear hs hs' hz h1
  cases hA : (decide (0 ≤ tx) && decide (tx ≤ 4294967295))
  · rw [hA, Bool.false_and] at hok
    simp only [hA] at hc0
    have HO := Lib.hid hok
    clear hok hA hc1 hc2
    go_enter Tryz.func72, Tryz.ntmps72
    go_wp2_with fail
    refine (hc0 _).mono ?_
    rintro e w' ⟨rfl, rfl⟩
    go_wp2
    go_ret
    exact ⟨by rw [HO.out]; rfl, (Below.refl _ _).alloc (Nat.le_refl _) _⟩
  rw [hA, Bool.true_and] at hok
  simp only [hA] at hc0
  clear hA
  cases hB : (decide (0 ≤ out) && decide (out ≤ 5))
  · rw [hB, Bool.false_and] at hok
    simp only [hB] at hc1
    have HO := Lib.hid hok
    clear hok hB hc2
    go_enter Tryz.func72, Tryz.ntmps72
    go_wp2_with fail
    refine (hc0 _).mono ?_
    rintro e w' ⟨rfl, rfl⟩
    go_wp2_with fail
    refine (hc1 _).mono ?_
    rintro e w' ⟨rfl, rfl⟩
    go_wp2
    go_ret
    exact ⟨by rw [HO.out]; rfl, (Below.refl _ _).alloc (Nat.le_refl _) _⟩
  rw [hB, Bool.true_and] at hok
  simp only [hB] at hc1
  clear hB
  have HO := Lib.hid hok
  obtain ⟨v, HV⟩ : ∃ v, Hid (decide (Vm.fits wit) = v) := ⟨_, Lib.hid rfl⟩
  rw [HV.out] at hc2
  have HOV : Hid (Tr.In.ok ⟨tx, out, wit⟩ = v) := Lib.hid (by rw [HO.out, HV.out])
  clear hok HO HV
  go_enter Tryz.func72, Tryz.ntmps72
  go_wp2_with fail
  refine (hc0 _).mono ?_
  rintro e w' ⟨rfl, rfl⟩
  go_wp2_with fail
  refine (hc1 _).mono ?_
  rintro e w' ⟨rfl, rfl⟩
  go_wp2_with fail
  refine hc2.mono ?_
  rintro e w' ⟨rfl, rfl⟩
  go_wp2
  go_ret
  exact ⟨by rw [HOV.out]; rfl, (Below.refl _ _).alloc (Nat.le_refl _) _⟩

set_option maxRecDepth 100000 in
set_option maxHeartbeats 1600000 in
theorem l13Outs_any (lo : Nat) (a : Option Addr) (n c : Nat) (l : List Tr.Out) (w : World) (h : OuL lo w a n l) (hn : n ≤ 1048576) (hz : ∀ x ∈ l, x.lock.size ≤ 1048576) :
    Calls Tryz.prog 39 #[.slice a n c] w fun e w' => e = .returned (.bool (Tr.outsOk l)) ∧ w' = w := by
  have hl := h.1
  have hc0 := fun W => l6In_any n 1 6 W
  by_cases hb : 1 ≤ l.length ∧ l.length ≤ 6
  case neg =>
    have HO := Lib.hid (Tr.outsOk_len hb)
    have hd : (decide ((1 : Int) ≤ (n : Int)) && decide ((n : Int) ≤ 6)) = false := by
      rw [Bool.eq_false_iff]
      intro h2
      simp at h2
      omega
    simp only [hd] at hc0
    clear hd hb h hz hl
    go_enter Tryz.func39, Tryz.ntmps39
    go_wp2_with fail
    refine (hc0 _).mono ?_
    rintro e w' ⟨rfl, rfl⟩
    go_wp2
    go_ret
    exact ⟨by rw [HO.out]; rfl, rfl⟩
  have hd : (decide ((1 : Int) ≤ (n : Int)) && decide ((n : Int) ≤ 6)) = true := by
    rw [Bool.and_eq_true]
    exact ⟨decide_eq_true (by omega), decide_eq_true (by omega)⟩
  simp only [hd] at hc0
  clear hd
  have HL := Lib.hid hl
  have HB := Lib.hid hb
  have HH := Lib.hid h
  have HZ := Lib.hid hz
  clear hl hb h hz
  go_enter Tryz.func39, Tryz.ntmps39
  go_wp2_with fail
  refine (hc0 _).mono ?_
  rintro e w' ⟨rfl, rfl⟩
  go_wp2
  go_loopw [3, 4] (fun s i wr => wr = w ∧ ∃ k : Nat, k ≤ n ∧ i = .int .i64 (k : Int) ∧ s = .int .i64 (Tr.sum (l.take k)) ∧ (0 ≤ Tr.sum (l.take k) ∧ Tr.sum (l.take k) ≤ 1000000 * (k : Int)) ∧ ∀ j, j < k → (Tr.outAt l j).ok = true)
    (fun _ i _ => n - (intOf i).toNat)
  case atStart => exact ⟨rfl, 0, by omega, rfl, rfl, by constructor <;> exact Int.le_refl _, fun j hj => absurd hj (by omega)⟩
  case round =>
    obtain ⟨rfl, k, hk, rfl, rfl, hsum, hj⟩ := hrel
    have hn6 : n ≤ 6 := by have := HB.out.2; have := HL.out; omega
    by_cases hlt : k < n
    · obtain ⟨g, off, rfl, _, _, hc⟩ := HH.out.2 (by omega)
      obtain ⟨e0, e1⟩ := hc k hlt
      have HJ := Lib.hid hj
      have hkl : k < l.length := by have := HL.out; omega
      have hzk := HZ.out _ (Tr.outAt_mem hkl)
      have HS := Lib.hid (Tr.sum_take l k hkl)
      have hok := Tr.Out.ok_iff (Tr.outAt l k)
      have HBAD := Lib.hid (Tr.outsOk_bad hkl)
      obtain ⟨x, HX⟩ : ∃ x, Hid (Tr.outAt l k = x) := ⟨_, Lib.hid rfl⟩
      rw [HX.out] at e0 e1 hzk HS hok HBAD
      obtain ⟨am, lk⟩ := x
      simp only at e0 e1 hzk hok HS
      obtain ⟨S, HSS⟩ : ∃ S, Hid (Tr.sum (l.take k) = S) := ⟨_, Lib.hid rfl⟩
      rw [HSS.out] at hsum HS
      rw [HSS.out]
      clear hc hj
      have hcA := fun W => l6In_any am 1 1000000 W
      by_cases hA : 1 ≤ am ∧ am ≤ 1000000
      case neg =>
        have hAf : (decide (1 ≤ am) && decide (am ≤ 1000000)) = false := by
          rw [Bool.eq_false_iff]
          intro h2
          simp at h2
          omega
        simp only [hAf] at hcA
        have HF := Lib.hid (HBAD.out (by rw [Bool.eq_false_iff]; intro h2; exact hA (hok.1 h2).1))
        clear hAf hA hok
        go_wp2_with fail
        refine (hcA _).mono ?_
        rintro e w' ⟨rfl, rfl⟩
        go_wp2
        go_ret
        exact ⟨by rw [HF.out]; rfl, rfl⟩
      have hAt : (decide (1 ≤ am) && decide (am ≤ 1000000)) = true := by
        rw [Bool.and_eq_true]
        exact ⟨decide_eq_true hA.1, decide_eq_true hA.2⟩
      simp only [hAt] at hcA
      clear hAt
      by_cases hK : 300 < lk.size
      · have hv2 : decide ((300 : Int) < (lk.size : Int)) = true := decide_eq_true (by omega)
        have HF := Lib.hid (HBAD.out (by rw [Bool.eq_false_iff]; intro h2; have := (hok.1 h2).2; omega))
        clear hA hok hK
        go_wp2_with fail
        refine (hcA _).mono ?_
        rintro e w' ⟨rfl, rfl⟩
        go_wp2
        go_ret
        exact ⟨by rw [HF.out]; rfl, rfl⟩
      · have hv2 : decide ((300 : Int) < (lk.size : Int)) = false := decide_eq_false (by omega)
        have HOK := Lib.hid (hok.2 ⟨hA, by omega⟩)
        have hb1 : 0 ≤ S + am ∧ S + am ≤ 1000000 * ((k : Int) + 1) := by omega
        have hw : IntKind.i64.wrap (S + am) = S + am := IntWalk.i64_in _ (by omega)
        clear hok hK
        go_wp2_with fail
        refine (hcA _).mono ?_
        rintro e w' ⟨rfl, rfl⟩
        go_wp2
        go_roundw
        case rel =>
          refine ⟨trivial, k + 1, by omega, by simp, by rw [HS.out], ?_, fun j hj => ?_⟩
          · rw [HS.out]
            exact ⟨hb1.1, by have := hb1.2; push_cast; omega⟩
          · by_cases hjk : j < k
            · exact HJ.out j hjk
            · rw [show j = k by omega, HX.out]; exact HOK.out
        case measure => simp [intOf]; omega
    · have hk2 : k = n := by omega
      have HE := Lib.hid (Tr.outsOk_end HB.out (fun j hj' => hj j (by have := HL.out; omega)))
      have htk : l.take k = l := by rw [hk2, ← HL.out, List.take_length]
      rw [htk] at hsum
      rw [htk]
      obtain ⟨S, HSS⟩ : ∃ S, Hid (Tr.sum l = S) := ⟨_, Lib.hid rfl⟩
      rw [HSS.out] at hsum HE
      rw [HSS.out]
      clear hj htk
      go_wp2
      go_ret
      exact ⟨by rw [HE.out]; rfl, rfl⟩

set_option maxRecDepth 100000 in
set_option maxHeartbeats 1600000 in
theorem l13Ins_any (lo : Nat) (a : Option Addr) (n c : Nat) (l : List Tr.In) (w : World) (h : InL lo w a n l) (hn : n ≤ 1048576) (hz : ∀ x ∈ l, x.wit.length ≤ 1048576 ∧ ∀ s ∈ x.wit, s.size ≤ 1048576) :
    Calls Tryz.prog 38 #[.slice a n c] w fun e w' => e = .returned (.bool (Tr.insOk l)) ∧ Below w.heap.size w w' := by
  have HL := Lib.hid h.1
  have HH := Lib.hid h
  have HZ := Lib.hid hz
  clear h hz
  go_enter Tryz.func38, Tryz.ntmps38
  go_wp2
  go_loopw [3] (fun i wr => ∃ k : Nat, k ≤ n ∧ i = .int .i64 (k : Int) ∧ Below w.heap.size w wr ∧ (∀ j, j < k → (Tr.inAt l j).ok = true) ∧ ∀ j, j < k → ∀ q, q < j → (Tr.inAt l q).same (Tr.inAt l j) = false)
    (fun i _ => n - (intOf i).toNat)
  case atStart => exact ⟨0, by omega, rfl, Below.refl _ _, fun j hj => absurd hj (by omega), fun j hj => absurd hj (by omega)⟩
  case round =>
    obtain ⟨k, hk, rfl, hbel, hj, hq⟩ := hrel
    by_cases hlt : k < n
    · have hIL := HH.out.below hbel
      obtain ⟨g, off, rfl, _, hgl, hc⟩ := hIL.2 (by omega)
      obtain ⟨wa, wc, hi⟩ := hc k hlt
      obtain ⟨e0, e1, e2, e3, _⟩ := hi
      have HC := Lib.hid hc
      have HJ := Lib.hid hj
      have HQ := Lib.hid hq
      have hkl : k < l.length := by have := HL.out; omega
      have hzk := HZ.out _ (Tr.inAt_mem hkl)
      have HBAD := Lib.hid (Tr.insOk_bad hkl)
      have HTW := Lib.hid (fun q (hq : q < k) => Tr.insOk_twice hkl hq)
      obtain ⟨x, HX⟩ : ∃ x, Hid (Tr.inAt l k = x) := ⟨_, Lib.hid rfl⟩
      rw [HX.out] at e0 e1 e2 e3 hzk HBAD
      have hcI := l13In_any x wa wc _ e3 hzk.1 hzk.2
      clear hc hj hq e3 hIL
      obtain ⟨tx, out, wit⟩ := x
      simp only at e0 e1 e2 hcI hzk
      go_wp2_with fail
      refine hcI.mono ?_
      rintro e w1 ⟨rfl, hx1⟩
      have hbel1 := hbel.trans (hx1.mono hbel.size)
      have hg1 : g < w1.heap.size := Nat.lt_of_lt_of_le hgl hx1.size
      have HIL := Lib.hid (HH.out.below hbel1)
      cases hv : (⟨tx, out, wit⟩ : Tr.In).ok
      · have HF := Lib.hid (HBAD.out hv)
        clear hv
        go_wp2
        go_ret
        exact ⟨by rw [HF.out]; rfl, hbel1⟩
      have HOK := Lib.hid hv
      clear hv e0 e1 e2 hcI hzk hx1 hbel
      go_wp2
      go_loopw [4] (fun i wr => ∃ q : Nat, q ≤ k ∧ i = .int .i64 (q : Int) ∧ Below w.heap.size w wr ∧ ∀ j, j < q → (Tr.inAt l j).same (Tr.inAt l k) = false)
        (fun i _ => k - (intOf i).toNat)
      case atStart => exact ⟨0, by omega, rfl, hbel1, fun j hj => absurd hj (by omega)⟩
      case round =>
        obtain ⟨q, hqk, rfl, hbel2, hsm⟩ := hrel
        by_cases hlq : q < k
        · obtain ⟨g2, off2, hge, _, _, hc2⟩ := (HH.out.below hbel2).2 (by omega)
          cases hge
          obtain ⟨wa2, wc2, hi2⟩ := hc2 q (by omega)
          obtain ⟨wa3, wc3, hi3⟩ := hc2 k hlt
          obtain ⟨e0, e1, _, _, _⟩ := hi2
          obtain ⟨d0, d1, _, _, _⟩ := hi3
          have HSM := Lib.hid hsm
          have HT := Lib.hid (HTW.out q hlq)
          obtain ⟨y, HY⟩ : ∃ y, Hid (Tr.inAt l q = y) := ⟨_, Lib.hid rfl⟩
          rw [HX.out] at d0 d1
          rw [HY.out] at e0 e1
          obtain ⟨ty, oy, wy⟩ := y
          simp only at e0 e1 d0 d1
          clear hc2 hsm
          by_cases hA : ty = tx
          case neg =>
            have hAf : (ty == tx) = false := by simpa using hA
            have HN : Hid ((Tr.inAt l q).same (Tr.inAt l k) = false) := Lib.hid (by
              rw [HX.out, HY.out]
              unfold Tr.In.same
              simp [hA])
            clear hA
            go_wp2
            go_quiet (fail)
            go_wp2
            go_roundw
            case rel =>
              refine ⟨q + 1, by omega, by simp, below_drewN13 hbel2 _, fun j hj => ?_⟩
              by_cases hjq : j < q
              · exact HSM.out j hjq
              · rw [show j = q by omega]; exact HN.out
            case measure => simp [intOf]; omega
          have hAt : (ty == tx) = true := by simpa using hA
          by_cases hB : oy = out
          · have hBt : (oy == out) = true := by simpa using hB
            have HF := Lib.hid (HT.out (by
              rw [HX.out, HY.out]
              unfold Tr.In.same
              simp [hA, hB]))
            clear hA hB
            go_wp2
            go_quiet (fail)
            go_wp2
            go_ret
            exact ⟨by rw [HF.out]; rfl, below_drewN13 hbel2 _⟩
          · have hBf : (oy == out) = false := by simpa using hB
            have HN : Hid ((Tr.inAt l q).same (Tr.inAt l k) = false) := Lib.hid (by
              rw [HX.out, HY.out]
              unfold Tr.In.same
              simp [hB])
            clear hA hB
            go_wp2
            go_quiet (fail)
            go_wp2
            go_roundw
            case rel =>
              refine ⟨q + 1, by omega, by simp, below_drewN13 hbel2 _, fun j hj => ?_⟩
              by_cases hjq : j < q
              · exact HSM.out j hjq
              · rw [show j = q by omega]; exact HN.out
            case measure => simp [intOf]; omega
        · have hqe : q = k := by omega
          have HSM := Lib.hid hsm
          clear hsm
          go_wp2
          go_roundw
          case rel =>
            refine ⟨k + 1, by omega, by simp, hbel2, fun j hj => ?_, fun j hj q2 hq2 => ?_⟩
            · by_cases hjk : j < k
              · exact HJ.out j hjk
              · rw [show j = k by omega, HX.out]; exact HOK.out
            · by_cases hjk : j < k
              · exact HQ.out j hjk q2 hq2
              · have hj2 : j = k := by omega
                subst hj2
                exact HSM.out q2 (by omega)
          case measure => simp [intOf]; omega
    · have hk2 : k = n := by omega
      have HE := Lib.hid (Tr.insOk_end (l := l) (fun j hj' => hj j (by have := HL.out; omega)) (fun j hj' => hq j (by have := HL.out; omega)))
      have HE2 : Hid (Tr.insOk l = decide ((n : Int) ≤ 6)) := Lib.hid (by
        rw [HE.out, decide_eq_decide]
        have := HL.out
        omega)
      clear hj hq HE
      go_wp2
      go_ret
      exact ⟨by rw [HE2.out]; rfl, hbel⟩

end Go.Proofs.YtcbpdibkindnfaaGreat

/-
  Contracts of the model: l13Bytes, TxOk, TxBytes, TxCore.
-/
namespace Go.Proofs.YtcbpdibkindnfaaGreat
open Go.RowKit

theorem ba_add13 (W : World) (a b : ByteArray) (h : a.size + b.size ≤ 1000000) : (Op.stringOp .add a b).run Tryz.prog W = .ok (.string (a ++ b)) W :=
  run_string_add_sum (P := Tryz.prog) W _ _ (by omega)
theorem below_aft13 {w w1 w2 : World} (h : Below w.heap.size w w1) (k : Below w1.heap.size w1 w2) : Below w.heap.size w w2 := h.trans (k.mono h.size)
theorem cell_bel {W W' : World} {g o : Nat} {v : Value} (h : Below W.heap.size W W') (hc : W.cell? ⟨g, o, none⟩ = some v) : W'.cell? ⟨g, o, none⟩ = some v :=
  (⟨h.os, h.tape, h.output, h.size, fun k hk _ => h.block k hk⟩ : W.grownBy W' none).cell hc (by simp)
theorem and3_bel {W W' : World} {g0 o0 g1 o1 g2 o2 : Nat} {v0 v1 v2 : Value} (h : Below W.heap.size W W') (hc : W.cell? ⟨g0, o0, none⟩ = some v0 ∧ W.cell? ⟨g1, o1, none⟩ = some v1 ∧ W.cell? ⟨g2, o2, none⟩ = some v2) :
    W'.cell? ⟨g0, o0, none⟩ = some v0 ∧ W'.cell? ⟨g1, o1, none⟩ = some v1 ∧ W'.cell? ⟨g2, o2, none⟩ = some v2 := ⟨cell_bel h hc.1, cell_bel h hc.2.1, cell_bel h hc.2.2⟩
theorem and2_bel {W W' : World} {g0 o0 g1 o1 : Nat} {v0 v1 : Value} (h : Below W.heap.size W W') (hc : W.cell? ⟨g0, o0, none⟩ = some v0 ∧ W.cell? ⟨g1, o1, none⟩ = some v1) :
    W'.cell? ⟨g0, o0, none⟩ = some v0 ∧ W'.cell? ⟨g1, o1, none⟩ = some v1 := ⟨cell_bel h hc.1, cell_bel h hc.2⟩

set_option maxRecDepth 100000 in
set_option maxHeartbeats 3200000 in
theorem l13Bytes_true (lo : Nat) (a : Option Addr) (n c : Nat) (b : Option Addr) (m d : Nat) (t : Tr) (w : World) (h : TrR lo w a n b m t) (hm : t.mid) :
    Calls Tryz.prog 17 #[.agg #[.slice a n c, .slice b m d, .int .i64 t.after, .string t.note], .bool true] w fun e w' => e = .returned (.string (Tr.enc true t)) ∧ Below w.heap.size w w' := by
  have HN := Lib.hid h.ins.1
  have HM := Lib.hid h.outs.1
  have HH := Lib.hid h
  have HMID := Lib.hid hm
  have hn6 : n ≤ 6 := by have := hm.nin; have := h.ins.1; omega
  have hm6 : m ≤ 6 := by have := hm.nout; have := h.outs.1; omega
  have HZ1 := Lib.hid (Tr.s1_size true hm)
  have HZ2 := Lib.hid (Tr.s2_size true hm)
  have vB0 : Bk w.heap.size 26 #[.slice a n c, .slice b m d, .int .i64 t.after, .string t.note] (w.alloc (.cells #[.slice a n c, .slice b m d, .int .i64 t.after, .string t.note] 26 (0, 0))) := Bk.new _ _ _
  have hb0 : Below w.heap.size w (w.alloc (.cells #[.slice a n c, .slice b m d, .int .i64 t.after, .string t.note] 26 (0, 0))) := (Below.refl _ _).alloc (Nat.le_refl _) _
  clear h hm
  go_enter Tryz.func17, Tryz.ntmps17
  go_wp2_with fail
  refine (l1Num_any n _ (by omega) (by omega)).mono ?_
  rintro e w1 ⟨rfl, hx1⟩
  have vB1 := vB0.below hx1
  have hb1 := hb0.trans (hx1.mono hb0.size)
  clear vB0 hb0 hx1
  go_wp2
  go_loopw [5, 6] (fun s i wr => ∃ k : Nat, k ≤ n ∧ i = .int .i64 (k : Int) ∧ s = .string (Tr.s1 true t k) ∧ Below w.heap.size w wr ∧ Bk w.heap.size 26 #[.slice a n c, .slice b m d, .int .i64 t.after, .string t.note] wr)
    (fun _ i _ => n - (intOf i).toNat)
  case atStart => exact ⟨0, by omega, rfl, by rw [Tr.s1_zero, HN.out], hb1, vB1⟩
  case round =>
    obtain ⟨k, hk, rfl, rfl, hbel, vB⟩ := hrel
    obtain ⟨d0, d1, d2, d3⟩ := Bk.c4 vB
    clear vB1 hb1
    by_cases hlt : k < n
    · obtain ⟨g, off, rfl, _, _, hc⟩ := (HH.out.ins.below hbel).2 (by omega)
      obtain ⟨wa, wc, e0, e1, _, _, _⟩ := hc k hlt
      have hkl : k < t.ins.length := by have := HN.out; omega
      have hin := HMID.out.ins _ (Tr.inAt_mem hkl)
      have HS := Lib.hid (Tr.s1_succ true t k hkl)
      have hz := HZ1.out k
      obtain ⟨x, HX⟩ : ∃ x, Hid (Tr.inAt t.ins k = x) := ⟨_, Lib.hid rfl⟩
      rw [HX.out] at e0 e1 hin HS
      obtain ⟨tx, out, wit⟩ := x
      simp only at e0 e1 hin
      obtain ⟨S, HSS⟩ : ∃ S, Hid (Tr.s1 true t k = S) := ⟨_, Lib.hid rfl⟩
      rw [HSS.out] at hz HS
      rw [HSS.out]
      clear hc
      have HS2 : Hid (Tr.s1 true t (k + 1) = S ++ Dg.bytes tx ++ En.num out ++ En.texts wit) := Lib.hid (by
        rw [HS.out]
        unfold Tr.In.enc
        rw [if_pos rfl]
        simp only [Tr.assoc])
      have hzT := Tr.texts_size hin.2.2.1 hin.2.2.2
      have hconA := fun W => l2Bytes_any tx W hin.1.1 hin.1.2
      have hconB := fun W => l1Num_any out W hin.2.1.1 (by omega)
      have hzA := Dg.bytes_size tx
      have hzB := En.size_num out
      obtain ⟨XA, HXA⟩ : ∃ X, Hid (Dg.bytes tx = X) := ⟨_, Lib.hid rfl⟩
      obtain ⟨XB, HXB⟩ : ∃ X, Hid (En.num out = X) := ⟨_, Lib.hid rfl⟩
      rw [HXA.out] at hzA
      rw [HXB.out] at hzB
      rw [HXA.out, HXB.out] at HS2
      simp only [HXA.out] at hconA
      simp only [HXB.out] at hconB
      have hadd1 := fun W => ba_add13 W S XA (by omega)
      obtain ⟨R, HR⟩ : ∃ R, Hid (S ++ XA = R) := ⟨_, Lib.hid rfl⟩
      simp only [HR.out] at hadd1
      have hzr : R.size ≤ 13010 := by rw [← HR.out, ByteArray.size_append]; omega
      have hadd2 := fun W => ba_add13 W R XB (by omega)
      obtain ⟨R2, HR2⟩ : ∃ Y, Hid (R ++ XB = Y) := ⟨_, Lib.hid rfl⟩
      simp only [HR2.out] at hadd2
      have hzr2 : R2.size ≤ 13020 := by rw [← HR2.out, ByteArray.size_append]; omega
      rw [HR.out, HR2.out] at HS2
      have hS0 : wr.drew.cell? ⟨w.heap.size, 0, none⟩ = some (.slice (some ⟨g, off, none⟩) n c) ∧ wr.drew.cell? ⟨g, off + k * 3, none⟩ = some (.int .i64 tx) ∧ wr.drew.cell? ⟨g, off + k * 3 + 1, none⟩ = some (.int .i64 out) := ⟨d0, e0, e1⟩
      clear HS HXA HXB HR HR2 hzA hzB e0 e1
      go_wp2
      clear d0 d1 d2 d3
      apply wp_meet13 (fun w' => Below w.heap.size w w' ∧ Bk w.heap.size 26 #[.slice (some ⟨g, off, none⟩) n c, .slice b m d, .int .i64 t.after, .string t.note] w')
      case h1 =>
        go_region_held3 (fun W => W.cell? ⟨w.heap.size, 0, none⟩ = some (.slice (some ⟨g, off, none⟩) n c) ∧ W.cell? ⟨g, off + k * 3, none⟩ = some (.int .i64 tx) ∧ W.cell? ⟨g, off + k * 3 + 1, none⟩ = some (.int .i64 out)) (first | with_reducible exact hS0 | with_reducible exact hSA | with_reducible exact hSB)
          (first
            | (go_at_call 42; refine (hconA _).mono ?_; rintro e wA ⟨rfl, hbA⟩; have hvA : Bk w.heap.size 26 #[.slice (some ⟨g, off, none⟩) n c, .slice b m d, .int .i64 t.after, .string t.note] wA := (by first | exact hvB.below hbA | exact vB.drew.below hbA); have hblA : Below w.heap.size w wA := (by first | exact below_aft13 hblB hbA | exact below_aft13 hbel.drew hbA); have hSA : wA.cell? ⟨w.heap.size, 0, none⟩ = some (.slice (some ⟨g, off, none⟩) n c) ∧ wA.cell? ⟨g, off + k * 3, none⟩ = some (.int .i64 tx) ∧ wA.cell? ⟨g, off + k * 3 + 1, none⟩ = some (.int .i64 out) := (by first | exact and3_bel hbA hSB | exact and3_bel hbA hS0))
            | (go_at_call 41; refine (hconB _).mono ?_; rintro e wB ⟨rfl, hbB⟩; have hvB : Bk w.heap.size 26 #[.slice (some ⟨g, off, none⟩) n c, .slice b m d, .int .i64 t.after, .string t.note] wB := (by first | exact hvA.below hbB | exact vB.drew.below hbB); have hblB : Below w.heap.size w wB := (by first | exact below_aft13 hblA hbB | exact below_aft13 hbel.drew hbB); have hSB : wB.cell? ⟨w.heap.size, 0, none⟩ = some (.slice (some ⟨g, off, none⟩) n c) ∧ wB.cell? ⟨g, off + k * 3, none⟩ = some (.int .i64 tx) ∧ wB.cell? ⟨g, off + k * 3 + 1, none⟩ = some (.int .i64 out) := (by first | exact and3_bel hbB hSA | exact and3_bel hbB hS0)))
        all_goals (refine ⟨rfl, ?_, ?_⟩ <;> first | with_reducible exact hblB | with_reducible exact hblA | with_reducible exact hvB | with_reducible exact hvA)
      case h2 =>
        rintro w2 ⟨hbel2, vB2⟩
        obtain ⟨d0, d1, d2, d3⟩ := Bk.c4 vB2
        obtain ⟨g2, off2, hge, _, _, hc⟩ := (HH.out.ins.below hbel2).2 (by omega)
        cases hge
        obtain ⟨wa2, wc2, _, _, e2, e3, _⟩ := hc k hlt
        rw [HX.out] at e2 e3
        simp only at e2 e3
        clear hc
        have htx := l1Texts_any wa2 wit.length wc2 wit w2 e3 (fun s hs => by have := hin.2.2.2 s hs; omega) (by have := hin.2.2.1; omega)
        obtain ⟨XT, HXT⟩ : ∃ X, Hid (En.texts wit = X) := ⟨_, Lib.hid rfl⟩
        rw [HXT.out] at htx HS2 hzT
        have hadd3 := fun W => ba_add13 W R2 XT (by omega)
        go_wp2_with fail
        refine htx.mono ?_
        rintro e w3 ⟨rfl, hx3⟩
        have hbel3 := below_aft13 hbel2 hx3
        have vB3 := vB2.below hx3
        clear hx3 d0 d1 d2 d3 e2 e3 htx
        go_wp2
        go_roundw
        case rel => exact ⟨k + 1, by omega, by simp, by rw [HS2.out], hbel3, vB3⟩
        case measure => simp [intOf]; omega
    · have hk2 : k = n := by omega
      have hs1 : Tr.s1 true t k = Tr.s1 true t t.ins.length := by rw [hk2, HN.out]
      have hz := HZ1.out t.ins.length
      have HS0 := Lib.hid (Tr.s2_zero true t)
      rw [HM.out] at HS0
      obtain ⟨S, HSS⟩ : ∃ S, Hid (Tr.s1 true t t.ins.length = S) := ⟨_, Lib.hid rfl⟩
      rw [HSS.out] at hs1 hz HS0
      rw [hs1]
      have hzn := En.size_num m
      have hadd0 := fun W => ba_add13 W S (En.num m) (by omega)
      clear hs1
      go_wp2_with fail
      refine (l1Num_any m _ (by omega) (by omega)).mono ?_
      rintro e w1 ⟨rfl, hx1⟩
      have vB1 := vB.below hx1
      have hb1 := below_aft13 hbel hx1
      clear vB hbel hx1 d0 d1 d2 d3
      go_wp2
      go_loopw [5, 7] (fun s i wr => ∃ j : Nat, j ≤ m ∧ i = .int .i64 (j : Int) ∧ s = .string (Tr.s2 true t j) ∧ Below w.heap.size w wr ∧ Bk w.heap.size 26 #[.slice a n c, .slice b m d, .int .i64 t.after, .string t.note] wr)
        (fun _ i _ => m - (intOf i).toNat)
      case atStart => exact ⟨0, by omega, rfl, by rw [HS0.out], hb1, vB1⟩
      case round =>
        obtain ⟨j, hj, rfl, rfl, hbel, vB⟩ := hrel
        obtain ⟨d0, d1, d2, d3⟩ := Bk.c4 vB
        clear vB1 hb1 hadd0 hz hzn HS0
        by_cases hlj : j < m
        · obtain ⟨g, off, rfl, _, _, hc⟩ := (HH.out.outs.below hbel).2 (by omega)
          obtain ⟨e0, e1⟩ := hc j hlj
          have hjl : j < t.outs.length := by have := HM.out; omega
          have hin := HMID.out.outs _ (Tr.outAt_mem hjl)
          have HS := Lib.hid (Tr.s2_succ true t j hjl)
          have hz := HZ2.out j
          obtain ⟨x, HX⟩ : ∃ x, Hid (Tr.outAt t.outs j = x) := ⟨_, Lib.hid rfl⟩
          rw [HX.out] at e0 e1 hin HS
          obtain ⟨am, lk⟩ := x
          simp only at e0 e1 hin
          obtain ⟨S2, HSS2⟩ : ∃ S, Hid (Tr.s2 true t j = S) := ⟨_, Lib.hid rfl⟩
          rw [HSS2.out] at hz HS
          rw [HSS2.out]
          have HS2 : Hid (Tr.s2 true t (j + 1) = S2 ++ En.num am ++ En.text lk) := Lib.hid (by
            rw [HS.out]
            unfold Tr.Out.enc
            simp only [Tr.assoc])
          have hconA := fun W => l1Num_any am W (by omega) (by omega)
          have hconB := fun W => l1Text_any lk W (by omega)
          have hzA := En.size_num am
          have hzB := Tr.text_size hin.2
          obtain ⟨XA, HXA⟩ : ∃ X, Hid (En.num am = X) := ⟨_, Lib.hid rfl⟩
          obtain ⟨XB, HXB⟩ : ∃ X, Hid (En.text lk = X) := ⟨_, Lib.hid rfl⟩
          rw [HXA.out] at hzA
          rw [HXB.out] at hzB
          rw [HXA.out, HXB.out] at HS2
          simp only [HXA.out] at hconA
          simp only [HXB.out] at hconB
          have hadd1 := fun W => ba_add13 W S2 XA (by omega)
          obtain ⟨R, HR⟩ : ∃ R, Hid (S2 ++ XA = R) := ⟨_, Lib.hid rfl⟩
          simp only [HR.out] at hadd1
          have hzr : R.size ≤ 15010 := by rw [← HR.out, ByteArray.size_append]; omega
          have hadd2 := fun W => ba_add13 W R XB (by omega)
          rw [HR.out] at HS2
          have hS0 : wr.drew.cell? ⟨w.heap.size, 1, none⟩ = some (.slice (some ⟨g, off, none⟩) m d) ∧ wr.drew.cell? ⟨g, off + j * 2, none⟩ = some (.int .i64 am) ∧ wr.drew.cell? ⟨g, off + j * 2 + 1, none⟩ = some (.string lk) := ⟨d1, e0, e1⟩
          clear HS HXA HXB HR hzA hzB e0 e1 hc
          go_wp2
          clear d0 d1 d2 d3
          apply wp_meet13 (fun w' => Below w.heap.size w w' ∧ Bk w.heap.size 26 #[.slice a n c, .slice (some ⟨g, off, none⟩) m d, .int .i64 t.after, .string t.note] w')
          case h1 =>
            go_region_held3 (fun W => W.cell? ⟨w.heap.size, 1, none⟩ = some (.slice (some ⟨g, off, none⟩) m d) ∧ W.cell? ⟨g, off + j * 2, none⟩ = some (.int .i64 am) ∧ W.cell? ⟨g, off + j * 2 + 1, none⟩ = some (.string lk)) (first | with_reducible exact hS0 | with_reducible exact hSA | with_reducible exact hSB)
              (first
                | (go_at_call 41; refine (hconA _).mono ?_; rintro e wA ⟨rfl, hbA⟩; have hvA : Bk w.heap.size 26 #[.slice a n c, .slice (some ⟨g, off, none⟩) m d, .int .i64 t.after, .string t.note] wA := (by first | exact hvB.below hbA | exact vB.drew.below hbA); have hblA : Below w.heap.size w wA := (by first | exact below_aft13 hblB hbA | exact below_aft13 hbel.drew hbA); have hSA : wA.cell? ⟨w.heap.size, 1, none⟩ = some (.slice (some ⟨g, off, none⟩) m d) ∧ wA.cell? ⟨g, off + j * 2, none⟩ = some (.int .i64 am) ∧ wA.cell? ⟨g, off + j * 2 + 1, none⟩ = some (.string lk) := (by first | exact and3_bel hbA hSB | exact and3_bel hbA hS0))
                | (go_at_call 44; refine (hconB _).mono ?_; rintro e wB ⟨rfl, hbB⟩; have hvB : Bk w.heap.size 26 #[.slice a n c, .slice (some ⟨g, off, none⟩) m d, .int .i64 t.after, .string t.note] wB := (by first | exact hvA.below hbB | exact vB.drew.below hbB); have hblB : Below w.heap.size w wB := (by first | exact below_aft13 hblA hbB | exact below_aft13 hbel.drew hbB); have hSB : wB.cell? ⟨w.heap.size, 1, none⟩ = some (.slice (some ⟨g, off, none⟩) m d) ∧ wB.cell? ⟨g, off + j * 2, none⟩ = some (.int .i64 am) ∧ wB.cell? ⟨g, off + j * 2 + 1, none⟩ = some (.string lk) := (by first | exact and3_bel hbB hSA | exact and3_bel hbB hS0)))
            all_goals (refine ⟨rfl, ?_, ?_⟩ <;> first | with_reducible exact hblB | with_reducible exact hblA | with_reducible exact hvB | with_reducible exact hvA)
          case h2 =>
            rintro w2 ⟨hbel2, vB2⟩
            go_wp2
            go_roundw
            case rel => exact ⟨j + 1, by omega, by simp, by rw [HS2.out], hbel2, vB2⟩
            case measure => simp [intOf]; omega
        · have hj2 : j = m := by omega
          have hs2 : Tr.s2 true t j = Tr.s2 true t t.outs.length := by rw [hj2, HM.out]
          have hz := HZ2.out t.outs.length
          have HE := Lib.hid (Tr.s2_end true t)
          have hin := HMID.out.after
          have hnt := HMID.out.note
          obtain ⟨S2, HSS2⟩ : ∃ S, Hid (Tr.s2 true t t.outs.length = S) := ⟨_, Lib.hid rfl⟩
          rw [HSS2.out] at hs2 hz HE
          rw [hs2]
          have hconA := fun W => l1Num_any t.after W (by omega) (by omega)
          have hconB := fun W => l1Text_any t.note W (by omega)
          have hzA := En.size_num t.after
          have hzB := Tr.text_size hnt
          obtain ⟨XA, HXA⟩ : ∃ X, Hid (En.num t.after = X) := ⟨_, Lib.hid rfl⟩
          obtain ⟨XB, HXB⟩ : ∃ X, Hid (En.text t.note = X) := ⟨_, Lib.hid rfl⟩
          rw [HXA.out] at hzA
          rw [HXB.out] at hzB
          rw [HXA.out, HXB.out] at HE
          simp only [HXA.out] at hconA
          simp only [HXB.out] at hconB
          have hadd1 := fun W => ba_add13 W S2 XA (by omega)
          obtain ⟨R, HR⟩ : ∃ R, Hid (S2 ++ XA = R) := ⟨_, Lib.hid rfl⟩
          simp only [HR.out] at hadd1
          have hzr : R.size ≤ 15010 := by rw [← HR.out, ByteArray.size_append]; omega
          have hadd2 := fun W => ba_add13 W R XB (by omega)
          rw [HR.out] at HE
          have hS0 : wr.drew.cell? ⟨w.heap.size, 2, none⟩ = some (.int .i64 t.after) ∧ wr.drew.cell? ⟨w.heap.size, 3, none⟩ = some (.string t.note) := ⟨d2, d3⟩
          clear HXA HXB HR hzA hzB hs2
          go_wp2
          clear d0 d1 d2 d3
          go_region_held3 (fun W => W.cell? ⟨w.heap.size, 2, none⟩ = some (.int .i64 t.after) ∧ W.cell? ⟨w.heap.size, 3, none⟩ = some (.string t.note)) (first | with_reducible exact hS0 | with_reducible exact hSA | with_reducible exact hSB)
            (first
              | (go_at_call 41; refine (hconA _).mono ?_; rintro e wA ⟨rfl, hbA⟩; have hvA : Bk w.heap.size 26 #[.slice a n c, .slice b m d, .int .i64 t.after, .string t.note] wA := (by first | exact hvB.below hbA | exact vB.drew.below hbA); have hblA : Below w.heap.size w wA := (by first | exact below_aft13 hblB hbA | exact below_aft13 hbel.drew hbA); have hSA : wA.cell? ⟨w.heap.size, 2, none⟩ = some (.int .i64 t.after) ∧ wA.cell? ⟨w.heap.size, 3, none⟩ = some (.string t.note) := (by first | exact and2_bel hbA hSB | exact and2_bel hbA hS0))
              | (go_at_call 44; refine (hconB _).mono ?_; rintro e wB ⟨rfl, hbB⟩; have hvB : Bk w.heap.size 26 #[.slice a n c, .slice b m d, .int .i64 t.after, .string t.note] wB := (by first | exact hvA.below hbB | exact vB.drew.below hbB); have hblB : Below w.heap.size w wB := (by first | exact below_aft13 hblA hbB | exact below_aft13 hbel.drew hbB); have hSB : wB.cell? ⟨w.heap.size, 2, none⟩ = some (.int .i64 t.after) ∧ wB.cell? ⟨w.heap.size, 3, none⟩ = some (.string t.note) := (by first | exact and2_bel hbB hSA | exact and2_bel hbB hS0)))
          all_goals go_wp2
          all_goals go_ret
          all_goals exact ⟨by rw [← HE.out]; rfl, by first | with_reducible exact hblB | with_reducible exact hblA⟩

set_option maxRecDepth 100000 in
set_option maxHeartbeats 3200000 in
theorem l13Bytes_false (lo : Nat) (a : Option Addr) (n c : Nat) (b : Option Addr) (m d : Nat) (t : Tr) (w : World) (h : TrR lo w a n b m t) (hm : t.mid) :
    Calls Tryz.prog 17 #[.agg #[.slice a n c, .slice b m d, .int .i64 t.after, .string t.note], .bool false] w fun e w' => e = .returned (.string (Tr.enc false t)) ∧ Below w.heap.size w w' := by
  have HN := Lib.hid h.ins.1
  have HM := Lib.hid h.outs.1
  have HH := Lib.hid h
  have HMID := Lib.hid hm
  have hn6 : n ≤ 6 := by have := hm.nin; have := h.ins.1; omega
  have hm6 : m ≤ 6 := by have := hm.nout; have := h.outs.1; omega
  have HZ1 := Lib.hid (Tr.s1_size false hm)
  have HZ2 := Lib.hid (Tr.s2_size false hm)
  have vB0 : Bk w.heap.size 26 #[.slice a n c, .slice b m d, .int .i64 t.after, .string t.note] (w.alloc (.cells #[.slice a n c, .slice b m d, .int .i64 t.after, .string t.note] 26 (0, 0))) := Bk.new _ _ _
  have hb0 : Below w.heap.size w (w.alloc (.cells #[.slice a n c, .slice b m d, .int .i64 t.after, .string t.note] 26 (0, 0))) := (Below.refl _ _).alloc (Nat.le_refl _) _
  clear h hm
  go_enter Tryz.func17, Tryz.ntmps17
  go_wp2_with fail
  refine (l1Num_any n _ (by omega) (by omega)).mono ?_
  rintro e w1 ⟨rfl, hx1⟩
  have vB1 := vB0.below hx1
  have hb1 := hb0.trans (hx1.mono hb0.size)
  clear vB0 hb0 hx1
  go_wp2
  go_loopw [5, 6] (fun s i wr => ∃ k : Nat, k ≤ n ∧ i = .int .i64 (k : Int) ∧ s = .string (Tr.s1 false t k) ∧ Below w.heap.size w wr ∧ Bk w.heap.size 26 #[.slice a n c, .slice b m d, .int .i64 t.after, .string t.note] wr)
    (fun _ i _ => n - (intOf i).toNat)
  case atStart => exact ⟨0, by omega, rfl, by rw [Tr.s1_zero, HN.out], hb1, vB1⟩
  case round =>
    obtain ⟨k, hk, rfl, rfl, hbel, vB⟩ := hrel
    obtain ⟨d0, d1, d2, d3⟩ := Bk.c4 vB
    clear vB1 hb1
    by_cases hlt : k < n
    · obtain ⟨g, off, rfl, _, _, hc⟩ := (HH.out.ins.below hbel).2 (by omega)
      obtain ⟨wa, wc, e0, e1, _, _, _⟩ := hc k hlt
      have hkl : k < t.ins.length := by have := HN.out; omega
      have hin := HMID.out.ins _ (Tr.inAt_mem hkl)
      have HS := Lib.hid (Tr.s1_succ false t k hkl)
      have hz := HZ1.out k
      obtain ⟨x, HX⟩ : ∃ x, Hid (Tr.inAt t.ins k = x) := ⟨_, Lib.hid rfl⟩
      rw [HX.out] at e0 e1 hin HS
      obtain ⟨tx, out, wit⟩ := x
      simp only at e0 e1 hin
      obtain ⟨S, HSS⟩ : ∃ S, Hid (Tr.s1 false t k = S) := ⟨_, Lib.hid rfl⟩
      rw [HSS.out] at hz HS
      rw [HSS.out]
      clear hc
      have HS2 : Hid (Tr.s1 false t (k + 1) = S ++ Dg.bytes tx ++ En.num out) := Lib.hid (by
        rw [HS.out]
        unfold Tr.In.enc
        rw [if_neg (by decide), Tr.nilR]
        simp only [Tr.assoc])
      have hconA := fun W => l2Bytes_any tx W hin.1.1 hin.1.2
      have hconB := fun W => l1Num_any out W hin.2.1.1 (by omega)
      have hzA := Dg.bytes_size tx
      have hzB := En.size_num out
      obtain ⟨XA, HXA⟩ : ∃ X, Hid (Dg.bytes tx = X) := ⟨_, Lib.hid rfl⟩
      obtain ⟨XB, HXB⟩ : ∃ X, Hid (En.num out = X) := ⟨_, Lib.hid rfl⟩
      rw [HXA.out] at hzA
      rw [HXB.out] at hzB
      rw [HXA.out, HXB.out] at HS2
      simp only [HXA.out] at hconA
      simp only [HXB.out] at hconB
      have hadd1 := fun W => ba_add13 W S XA (by omega)
      obtain ⟨R, HR⟩ : ∃ R, Hid (S ++ XA = R) := ⟨_, Lib.hid rfl⟩
      simp only [HR.out] at hadd1
      have hzr : R.size ≤ 13010 := by rw [← HR.out, ByteArray.size_append]; omega
      have hadd2 := fun W => ba_add13 W R XB (by omega)
      obtain ⟨R2, HR2⟩ : ∃ Y, Hid (R ++ XB = Y) := ⟨_, Lib.hid rfl⟩
      simp only [HR2.out] at hadd2
      have hzr2 : R2.size ≤ 13020 := by rw [← HR2.out, ByteArray.size_append]; omega
      rw [HR.out, HR2.out] at HS2
      have hS0 : wr.drew.cell? ⟨w.heap.size, 0, none⟩ = some (.slice (some ⟨g, off, none⟩) n c) ∧ wr.drew.cell? ⟨g, off + k * 3, none⟩ = some (.int .i64 tx) ∧ wr.drew.cell? ⟨g, off + k * 3 + 1, none⟩ = some (.int .i64 out) := ⟨d0, e0, e1⟩
      clear HS HXA HXB HR HR2 hzA hzB e0 e1
      go_wp2
      clear d0 d1 d2 d3
      apply wp_meet13 (fun w' => Below w.heap.size w w' ∧ Bk w.heap.size 26 #[.slice (some ⟨g, off, none⟩) n c, .slice b m d, .int .i64 t.after, .string t.note] w')
      case h1 =>
        go_region_held3 (fun W => W.cell? ⟨w.heap.size, 0, none⟩ = some (.slice (some ⟨g, off, none⟩) n c) ∧ W.cell? ⟨g, off + k * 3, none⟩ = some (.int .i64 tx) ∧ W.cell? ⟨g, off + k * 3 + 1, none⟩ = some (.int .i64 out)) (first | with_reducible exact hS0 | with_reducible exact hSA | with_reducible exact hSB)
          (first
            | (go_at_call 42; refine (hconA _).mono ?_; rintro e wA ⟨rfl, hbA⟩; have hvA : Bk w.heap.size 26 #[.slice (some ⟨g, off, none⟩) n c, .slice b m d, .int .i64 t.after, .string t.note] wA := (by first | exact hvB.below hbA | exact vB.drew.below hbA); have hblA : Below w.heap.size w wA := (by first | exact below_aft13 hblB hbA | exact below_aft13 hbel.drew hbA); have hSA : wA.cell? ⟨w.heap.size, 0, none⟩ = some (.slice (some ⟨g, off, none⟩) n c) ∧ wA.cell? ⟨g, off + k * 3, none⟩ = some (.int .i64 tx) ∧ wA.cell? ⟨g, off + k * 3 + 1, none⟩ = some (.int .i64 out) := (by first | exact and3_bel hbA hSB | exact and3_bel hbA hS0))
            | (go_at_call 41; refine (hconB _).mono ?_; rintro e wB ⟨rfl, hbB⟩; have hvB : Bk w.heap.size 26 #[.slice (some ⟨g, off, none⟩) n c, .slice b m d, .int .i64 t.after, .string t.note] wB := (by first | exact hvA.below hbB | exact vB.drew.below hbB); have hblB : Below w.heap.size w wB := (by first | exact below_aft13 hblA hbB | exact below_aft13 hbel.drew hbB); have hSB : wB.cell? ⟨w.heap.size, 0, none⟩ = some (.slice (some ⟨g, off, none⟩) n c) ∧ wB.cell? ⟨g, off + k * 3, none⟩ = some (.int .i64 tx) ∧ wB.cell? ⟨g, off + k * 3 + 1, none⟩ = some (.int .i64 out) := (by first | exact and3_bel hbB hSA | exact and3_bel hbB hS0)))
        all_goals (refine ⟨rfl, ?_, ?_⟩ <;> first | with_reducible exact hblB | with_reducible exact hblA | with_reducible exact hvB | with_reducible exact hvA)
      case h2 =>
        rintro w2 ⟨hbel2, vB2⟩
        obtain ⟨d0, d1, d2, d3⟩ := Bk.c4 vB2
        obtain ⟨g2, off2, hge, _, _, hc⟩ := (HH.out.ins.below hbel2).2 (by omega)
        cases hge
        obtain ⟨wa2, wc2, _, _, e2, e3, _⟩ := hc k hlt
        rw [HX.out] at e2 e3
        simp only at e2 e3
        clear hc
        go_wp2
        go_roundw
        case rel => exact ⟨k + 1, by omega, by simp, by rw [HS2.out], hbel2, vB2⟩
        case measure => simp [intOf]; omega
    · have hk2 : k = n := by omega
      have hs1 : Tr.s1 false t k = Tr.s1 false t t.ins.length := by rw [hk2, HN.out]
      have hz := HZ1.out t.ins.length
      have HS0 := Lib.hid (Tr.s2_zero false t)
      rw [HM.out] at HS0
      obtain ⟨S, HSS⟩ : ∃ S, Hid (Tr.s1 false t t.ins.length = S) := ⟨_, Lib.hid rfl⟩
      rw [HSS.out] at hs1 hz HS0
      rw [hs1]
      have hzn := En.size_num m
      have hadd0 := fun W => ba_add13 W S (En.num m) (by omega)
      clear hs1
      go_wp2_with fail
      refine (l1Num_any m _ (by omega) (by omega)).mono ?_
      rintro e w1 ⟨rfl, hx1⟩
      have vB1 := vB.below hx1
      have hb1 := below_aft13 hbel hx1
      clear vB hbel hx1 d0 d1 d2 d3
      go_wp2
      go_loopw [5, 7] (fun s i wr => ∃ j : Nat, j ≤ m ∧ i = .int .i64 (j : Int) ∧ s = .string (Tr.s2 false t j) ∧ Below w.heap.size w wr ∧ Bk w.heap.size 26 #[.slice a n c, .slice b m d, .int .i64 t.after, .string t.note] wr)
        (fun _ i _ => m - (intOf i).toNat)
      case atStart => exact ⟨0, by omega, rfl, by rw [HS0.out], hb1, vB1⟩
      case round =>
        obtain ⟨j, hj, rfl, rfl, hbel, vB⟩ := hrel
        obtain ⟨d0, d1, d2, d3⟩ := Bk.c4 vB
        clear vB1 hb1 hadd0 hz hzn HS0
        by_cases hlj : j < m
        · obtain ⟨g, off, rfl, _, _, hc⟩ := (HH.out.outs.below hbel).2 (by omega)
          obtain ⟨e0, e1⟩ := hc j hlj
          have hjl : j < t.outs.length := by have := HM.out; omega
          have hin := HMID.out.outs _ (Tr.outAt_mem hjl)
          have HS := Lib.hid (Tr.s2_succ false t j hjl)
          have hz := HZ2.out j
          obtain ⟨x, HX⟩ : ∃ x, Hid (Tr.outAt t.outs j = x) := ⟨_, Lib.hid rfl⟩
          rw [HX.out] at e0 e1 hin HS
          obtain ⟨am, lk⟩ := x
          simp only at e0 e1 hin
          obtain ⟨S2, HSS2⟩ : ∃ S, Hid (Tr.s2 false t j = S) := ⟨_, Lib.hid rfl⟩
          rw [HSS2.out] at hz HS
          rw [HSS2.out]
          have HS2 : Hid (Tr.s2 false t (j + 1) = S2 ++ En.num am ++ En.text lk) := Lib.hid (by
            rw [HS.out]
            unfold Tr.Out.enc
            simp only [Tr.assoc])
          have hconA := fun W => l1Num_any am W (by omega) (by omega)
          have hconB := fun W => l1Text_any lk W (by omega)
          have hzA := En.size_num am
          have hzB := Tr.text_size hin.2
          obtain ⟨XA, HXA⟩ : ∃ X, Hid (En.num am = X) := ⟨_, Lib.hid rfl⟩
          obtain ⟨XB, HXB⟩ : ∃ X, Hid (En.text lk = X) := ⟨_, Lib.hid rfl⟩
          rw [HXA.out] at hzA
          rw [HXB.out] at hzB
          rw [HXA.out, HXB.out] at HS2
          simp only [HXA.out] at hconA
          simp only [HXB.out] at hconB
          have hadd1 := fun W => ba_add13 W S2 XA (by omega)
          obtain ⟨R, HR⟩ : ∃ R, Hid (S2 ++ XA = R) := ⟨_, Lib.hid rfl⟩
          simp only [HR.out] at hadd1
          have hzr : R.size ≤ 15010 := by rw [← HR.out, ByteArray.size_append]; omega
          have hadd2 := fun W => ba_add13 W R XB (by omega)
          rw [HR.out] at HS2
          have hS0 : wr.drew.cell? ⟨w.heap.size, 1, none⟩ = some (.slice (some ⟨g, off, none⟩) m d) ∧ wr.drew.cell? ⟨g, off + j * 2, none⟩ = some (.int .i64 am) ∧ wr.drew.cell? ⟨g, off + j * 2 + 1, none⟩ = some (.string lk) := ⟨d1, e0, e1⟩
          clear HS HXA HXB HR hzA hzB e0 e1 hc
          go_wp2
          clear d0 d1 d2 d3
          apply wp_meet13 (fun w' => Below w.heap.size w w' ∧ Bk w.heap.size 26 #[.slice a n c, .slice (some ⟨g, off, none⟩) m d, .int .i64 t.after, .string t.note] w')
          case h1 =>
            go_region_held3 (fun W => W.cell? ⟨w.heap.size, 1, none⟩ = some (.slice (some ⟨g, off, none⟩) m d) ∧ W.cell? ⟨g, off + j * 2, none⟩ = some (.int .i64 am) ∧ W.cell? ⟨g, off + j * 2 + 1, none⟩ = some (.string lk)) (first | with_reducible exact hS0 | with_reducible exact hSA | with_reducible exact hSB)
              (first
                | (go_at_call 41; refine (hconA _).mono ?_; rintro e wA ⟨rfl, hbA⟩; have hvA : Bk w.heap.size 26 #[.slice a n c, .slice (some ⟨g, off, none⟩) m d, .int .i64 t.after, .string t.note] wA := (by first | exact hvB.below hbA | exact vB.drew.below hbA); have hblA : Below w.heap.size w wA := (by first | exact below_aft13 hblB hbA | exact below_aft13 hbel.drew hbA); have hSA : wA.cell? ⟨w.heap.size, 1, none⟩ = some (.slice (some ⟨g, off, none⟩) m d) ∧ wA.cell? ⟨g, off + j * 2, none⟩ = some (.int .i64 am) ∧ wA.cell? ⟨g, off + j * 2 + 1, none⟩ = some (.string lk) := (by first | exact and3_bel hbA hSB | exact and3_bel hbA hS0))
                | (go_at_call 44; refine (hconB _).mono ?_; rintro e wB ⟨rfl, hbB⟩; have hvB : Bk w.heap.size 26 #[.slice a n c, .slice (some ⟨g, off, none⟩) m d, .int .i64 t.after, .string t.note] wB := (by first | exact hvA.below hbB | exact vB.drew.below hbB); have hblB : Below w.heap.size w wB := (by first | exact below_aft13 hblA hbB | exact below_aft13 hbel.drew hbB); have hSB : wB.cell? ⟨w.heap.size, 1, none⟩ = some (.slice (some ⟨g, off, none⟩) m d) ∧ wB.cell? ⟨g, off + j * 2, none⟩ = some (.int .i64 am) ∧ wB.cell? ⟨g, off + j * 2 + 1, none⟩ = some (.string lk) := (by first | exact and3_bel hbB hSA | exact and3_bel hbB hS0)))
            all_goals (refine ⟨rfl, ?_, ?_⟩ <;> first | with_reducible exact hblB | with_reducible exact hblA | with_reducible exact hvB | with_reducible exact hvA)
          case h2 =>
            rintro w2 ⟨hbel2, vB2⟩
            go_wp2
            go_roundw
            case rel => exact ⟨j + 1, by omega, by simp, by rw [HS2.out], hbel2, vB2⟩
            case measure => simp [intOf]; omega
        · have hj2 : j = m := by omega
          have hs2 : Tr.s2 false t j = Tr.s2 false t t.outs.length := by rw [hj2, HM.out]
          have hz := HZ2.out t.outs.length
          have HE := Lib.hid (Tr.s2_end false t)
          have hin := HMID.out.after
          have hnt := HMID.out.note
          obtain ⟨S2, HSS2⟩ : ∃ S, Hid (Tr.s2 false t t.outs.length = S) := ⟨_, Lib.hid rfl⟩
          rw [HSS2.out] at hs2 hz HE
          rw [hs2]
          have hconA := fun W => l1Num_any t.after W (by omega) (by omega)
          have hconB := fun W => l1Text_any t.note W (by omega)
          have hzA := En.size_num t.after
          have hzB := Tr.text_size hnt
          obtain ⟨XA, HXA⟩ : ∃ X, Hid (En.num t.after = X) := ⟨_, Lib.hid rfl⟩
          obtain ⟨XB, HXB⟩ : ∃ X, Hid (En.text t.note = X) := ⟨_, Lib.hid rfl⟩
          rw [HXA.out] at hzA
          rw [HXB.out] at hzB
          rw [HXA.out, HXB.out] at HE
          simp only [HXA.out] at hconA
          simp only [HXB.out] at hconB
          have hadd1 := fun W => ba_add13 W S2 XA (by omega)
          obtain ⟨R, HR⟩ : ∃ R, Hid (S2 ++ XA = R) := ⟨_, Lib.hid rfl⟩
          simp only [HR.out] at hadd1
          have hzr : R.size ≤ 15010 := by rw [← HR.out, ByteArray.size_append]; omega
          have hadd2 := fun W => ba_add13 W R XB (by omega)
          rw [HR.out] at HE
          have hS0 : wr.drew.cell? ⟨w.heap.size, 2, none⟩ = some (.int .i64 t.after) ∧ wr.drew.cell? ⟨w.heap.size, 3, none⟩ = some (.string t.note) := ⟨d2, d3⟩
          clear HXA HXB HR hzA hzB hs2
          go_wp2
          clear d0 d1 d2 d3
          go_region_held3 (fun W => W.cell? ⟨w.heap.size, 2, none⟩ = some (.int .i64 t.after) ∧ W.cell? ⟨w.heap.size, 3, none⟩ = some (.string t.note)) (first | with_reducible exact hS0 | with_reducible exact hSA | with_reducible exact hSB)
            (first
              | (go_at_call 41; refine (hconA _).mono ?_; rintro e wA ⟨rfl, hbA⟩; have hvA : Bk w.heap.size 26 #[.slice a n c, .slice b m d, .int .i64 t.after, .string t.note] wA := (by first | exact hvB.below hbA | exact vB.drew.below hbA); have hblA : Below w.heap.size w wA := (by first | exact below_aft13 hblB hbA | exact below_aft13 hbel.drew hbA); have hSA : wA.cell? ⟨w.heap.size, 2, none⟩ = some (.int .i64 t.after) ∧ wA.cell? ⟨w.heap.size, 3, none⟩ = some (.string t.note) := (by first | exact and2_bel hbA hSB | exact and2_bel hbA hS0))
              | (go_at_call 44; refine (hconB _).mono ?_; rintro e wB ⟨rfl, hbB⟩; have hvB : Bk w.heap.size 26 #[.slice a n c, .slice b m d, .int .i64 t.after, .string t.note] wB := (by first | exact hvA.below hbB | exact vB.drew.below hbB); have hblB : Below w.heap.size w wB := (by first | exact below_aft13 hblA hbB | exact below_aft13 hbel.drew hbB); have hSB : wB.cell? ⟨w.heap.size, 2, none⟩ = some (.int .i64 t.after) ∧ wB.cell? ⟨w.heap.size, 3, none⟩ = some (.string t.note) := (by first | exact and2_bel hbB hSA | exact and2_bel hbB hS0)))
          all_goals go_wp2
          all_goals go_ret
          all_goals exact ⟨by rw [← HE.out]; rfl, by first | with_reducible exact hblB | with_reducible exact hblA⟩

end Go.Proofs.YtcbpdibkindnfaaGreat
