/-
  Contracts of the model: l11Fits, l13In, l13Outs, l13Ins.
-/
import Derived.Test.YtedjbikphdflhabTc
import Derived.Test.YtedjbikphdflhabBa
import Derived.Deep.DeepMust
import Derived.BigQuiet
import Derived.Deep.QuietTactic
namespace Go.Proofs.Ytedjbikphdflhab
open Go.RowKit

theorem wp_meet13 {P : Program} {c : Code} {Q : Exit → Act → World → Prop} {a : Act} {w : World} (F : World → Prop) (A : Act)
    (h1 : c.wp P (fun e a' w' => match e with | .normal => a' = A ∧ F w' | _ => False) a w) (h2 : ∀ w', F w' → Q .normal A w') : c.wp P Q a w :=
  Code.wp_mono (fun e a' w' h => by
    cases e <;> first | exact (h : False).elim | (obtain ⟨ha, hF⟩ := h; subst ha; exact h2 w' hF)) h1
theorem below_drewN13 {n : Nat} {w w' : World} (h : Below n w w') (k : Nat) : Below n w (w'.drewN k) := ⟨h.os, h.tape, h.output, h.size, h.block⟩

set_option maxRecDepth 100000 in
set_option maxHeartbeats 1600000 in
theorem l11Fits_any (a : Option Addr) (n c : Nat) (ss : List ByteArray) (w : World) (h : SR w a n ss) (hm : n ≤ 9223372036854775807) (hz : ∀ s ∈ ss, s.size ≤ 9223372036854775807) :
    Calls Try.prog 109 #[.slice a n c] w fun e w' => e = .returned (.bool (decide (Vm.fits ss))) ∧ w' = w := by
  have hl := h.1
  go_enter Try.func109, Try.ntmps109
  go_wp2
  go_loopw [3] (fun i wr => wr = w ∧ ∃ k : Nat, k ≤ n ∧ i = .int .i64 (k : Int) ∧ ∀ j, j < k → (ss.getD j ByteArray.empty).size ≤ 80)
    (fun i _ => n - (intOf i).toNat)
  case atStart => exact ⟨rfl, 0, by omega, rfl, fun j hj => absurd hj (by omega)⟩
  case round =>
    obtain ⟨rfl, k, hk, rfl, hj⟩ := hrel
    by_cases hlt : k < n
    · obtain ⟨g, off, rfl, _, hc⟩ := h.2 (by omega)
      have hck := hc k hlt
      have HJ := Lib.hid hj
      have hmem : ss.getD k ByteArray.empty ∈ ss := getD_mem (by omega)
      have hzk := hz _ hmem
      clear hj hc h hz
      obtain ⟨t, HT⟩ : ∃ t, Hid (ss.getD k ByteArray.empty = t) := ⟨_, Lib.hid rfl⟩
      rw [HT.out] at hck hmem hzk
      by_cases hv : 80 < t.size
      · have HF : Hid (decide (Vm.fits ss) = false) := Lib.hid (decide_eq_false (fun g => by have := g.2 t hmem; omega))
        have hv2 : decide ((80 : Int) < (t.size : Int)) = true := decide_eq_true (by omega)
        clear hv hmem
        go_wp2
        go_ret
        exact ⟨by rw [HF.out]; rfl, rfl⟩
      · have hv2 : decide ((80 : Int) < (t.size : Int)) = false := decide_eq_false (by omega)
        have HV := Lib.hid hv
        clear hv hmem
        go_wp2
        go_roundw
        case rel =>
          refine ⟨trivial, k + 1, by omega, by simp, fun j hj => ?_⟩
          by_cases hjk : j < k
          · exact HJ.out j hjk
          · rw [show j = k by omega, HT.out]; exact Nat.le_of_not_lt HV.out
        case measure => simp [intOf]; omega
    · have hk2 : k = n := by omega
      have HF : Hid (decide (Vm.fits ss) = decide ((n : Int) ≤ 24)) := Lib.hid (by
        rw [decide_eq_decide]
        unfold Vm.fits
        constructor
        · intro g; have := g.1; omega
        · intro g
          refine ⟨by omega, fun s hs => ?_⟩
          obtain ⟨j, hjl, hje⟩ := List.getElem_of_mem hs
          have := hj j (by omega)
          rw [List.getD_eq_getElem?_getD, List.getElem?_eq_getElem hjl] at this
          simpa [hje] using this)
      clear hj h hz
      go_wp2
      go_ret
      exact ⟨by rw [HF.out]; rfl, rfl⟩

set_option maxRecDepth 100000 in
set_option maxHeartbeats 1600000 in
theorem l13In_any (x : Tr.In) (wa : Option Addr) (wc : Nat) (w : World) (hs : SR w wa x.wit.length x.wit) (h1 : x.wit.length ≤ 1048576) (hz : ∀ s ∈ x.wit, s.size ≤ 1048576) :
    Calls Try.prog 75 #[.agg #[.int .i64 x.tx, .int .i64 x.out, .slice wa x.wit.length wc]] w fun e w' => e = .returned (.bool x.ok) ∧ Below w.heap.size w w' := by
  obtain ⟨tx, out, wit⟩ := x
  simp only at hs h1 hz ⊢
  have hs' := hs.below ((Below.refl w.heap.size w).alloc (Nat.le_refl _) (.cells #[.int .i64 tx, .int .i64 out, .slice wa wit.length wc] 96 (0, 0)))
  have hc2 := l11Fits_any wa wit.length wc wit _ hs' (by omega) (fun s h => by have := hz s h; omega)
  have hc0 := fun W => l6In_any tx 0 4294967295 W
  have hc1 := fun W => l6In_any out 0 5 W
  have hok : (⟨tx, out, wit⟩ : Tr.In).ok = ((decide (0 ≤ tx) && decide (tx ≤ 4294967295)) && ((decide (0 ≤ out) && decide (out ≤ 5)) && decide (Vm.fits wit))) := rfl
  clear hs hs' hz h1
  cases hA : (decide (0 ≤ tx) && decide (tx ≤ 4294967295))
  · rw [hA, Bool.false_and] at hok
    simp only [hA] at hc0
    have HO := Lib.hid hok
    clear hok hA hc1 hc2
    go_enter Try.func75, Try.ntmps75
    go_wp2_with fail
    refine (hc0 _).mono ?_
    rintro e w' ⟨rfl, rfl⟩
    go_wp2
    go_ret
    exact ⟨by rw [HO.out]; rfl, (Below.refl _ _).alloc (Nat.le_refl _) _⟩
  rw [hA, Bool.true_and] at hok
  simp only [hA] at hc0
  clear hA
  cases hB : (decide (0 ≤ out) && decide (out ≤ 5))
  · rw [hB, Bool.false_and] at hok
    simp only [hB] at hc1
    have HO := Lib.hid hok
    clear hok hB hc2
    go_enter Try.func75, Try.ntmps75
    go_wp2_with fail
    refine (hc0 _).mono ?_
    rintro e w' ⟨rfl, rfl⟩
    go_wp2_with fail
    refine (hc1 _).mono ?_
    rintro e w' ⟨rfl, rfl⟩
    go_wp2
    go_ret
    exact ⟨by rw [HO.out]; rfl, (Below.refl _ _).alloc (Nat.le_refl _) _⟩
  rw [hB, Bool.true_and] at hok
  simp only [hB] at hc1
  clear hB
  have HO := Lib.hid hok
  obtain ⟨v, HV⟩ : ∃ v, Hid (decide (Vm.fits wit) = v) := ⟨_, Lib.hid rfl⟩
  rw [HV.out] at hc2
  have HOV : Hid (Tr.In.ok ⟨tx, out, wit⟩ = v) := Lib.hid (by rw [HO.out, HV.out])
  clear hok HO HV
  go_enter Try.func75, Try.ntmps75
  go_wp2_with fail
  refine (hc0 _).mono ?_
  rintro e w' ⟨rfl, rfl⟩
  go_wp2_with fail
  refine (hc1 _).mono ?_
  rintro e w' ⟨rfl, rfl⟩
  go_wp2_with fail
  refine hc2.mono ?_
  rintro e w' ⟨rfl, rfl⟩
  go_wp2
  go_ret
  exact ⟨by rw [HOV.out]; rfl, (Below.refl _ _).alloc (Nat.le_refl _) _⟩

set_option maxRecDepth 100000 in
set_option maxHeartbeats 1600000 in
theorem l13Outs_any (lo : Nat) (a : Option Addr) (n c : Nat) (l : List Tr.Out) (w : World) (h : OuL lo w a n l) (hn : n ≤ 1048576) (hz : ∀ x ∈ l, x.lock.size ≤ 1048576) :
    Calls Try.prog 36 #[.slice a n c] w fun e w' => e = .returned (.bool (Tr.outsOk l)) ∧ w' = w := by
  have hl := h.1
  have hc0 := fun W => l6In_any n 1 6 W
  by_cases hb : 1 ≤ l.length ∧ l.length ≤ 6
  case neg =>
    have HO := Lib.hid (Tr.outsOk_len hb)
    have hd : (decide ((1 : Int) ≤ (n : Int)) && decide ((n : Int) ≤ 6)) = false := by
      rw [Bool.eq_false_iff]
      intro h2
      simp at h2
      omega
    simp only [hd] at hc0
    clear hd hb h hz hl
    go_enter Try.func36, Try.ntmps36
    go_wp2_with fail
    refine (hc0 _).mono ?_
    rintro e w' ⟨rfl, rfl⟩
    go_wp2
    go_ret
    exact ⟨by rw [HO.out]; rfl, rfl⟩
  have hd : (decide ((1 : Int) ≤ (n : Int)) && decide ((n : Int) ≤ 6)) = true := by
    rw [Bool.and_eq_true]
    exact ⟨decide_eq_true (by omega), decide_eq_true (by omega)⟩
  simp only [hd] at hc0
  clear hd
  have HL := Lib.hid hl
  have HB := Lib.hid hb
  have HH := Lib.hid h
  have HZ := Lib.hid hz
  clear hl hb h hz
  go_enter Try.func36, Try.ntmps36
  go_wp2_with fail
  refine (hc0 _).mono ?_
  rintro e w' ⟨rfl, rfl⟩
  go_wp2
  go_loopw [3, 4] (fun s i wr => wr = w ∧ ∃ k : Nat, k ≤ n ∧ i = .int .i64 (k : Int) ∧ s = .int .i64 (Tr.sum (l.take k)) ∧ (0 ≤ Tr.sum (l.take k) ∧ Tr.sum (l.take k) ≤ 1000000 * (k : Int)) ∧ ∀ j, j < k → (Tr.outAt l j).ok = true)
    (fun _ i _ => n - (intOf i).toNat)
  case atStart => exact ⟨rfl, 0, by omega, rfl, rfl, by constructor <;> exact Int.le_refl _, fun j hj => absurd hj (by omega)⟩
  case round =>
    obtain ⟨rfl, k, hk, rfl, rfl, hsum, hj⟩ := hrel
    have hn6 : n ≤ 6 := by have := HB.out.2; have := HL.out; omega
    by_cases hlt : k < n
    · obtain ⟨g, off, rfl, _, _, hc⟩ := HH.out.2 (by omega)
      obtain ⟨e0, e1⟩ := hc k hlt
      have HJ := Lib.hid hj
      have hkl : k < l.length := by have := HL.out; omega
      have hzk := HZ.out _ (Tr.outAt_mem hkl)
      have HS := Lib.hid (Tr.sum_take l k hkl)
      have hok := Tr.Out.ok_iff (Tr.outAt l k)
      have HBAD := Lib.hid (Tr.outsOk_bad hkl)
      obtain ⟨x, HX⟩ : ∃ x, Hid (Tr.outAt l k = x) := ⟨_, Lib.hid rfl⟩
      rw [HX.out] at e0 e1 hzk HS hok HBAD
      obtain ⟨am, lk⟩ := x
      simp only at e0 e1 hzk hok HS
      obtain ⟨S, HSS⟩ : ∃ S, Hid (Tr.sum (l.take k) = S) := ⟨_, Lib.hid rfl⟩
      rw [HSS.out] at hsum HS
      rw [HSS.out]
      clear hc hj
      have hcA := fun W => l6In_any am 1 1000000 W
      by_cases hA : 1 ≤ am ∧ am ≤ 1000000
      case neg =>
        have hAf : (decide (1 ≤ am) && decide (am ≤ 1000000)) = false := by
          rw [Bool.eq_false_iff]
          intro h2
          simp at h2
          omega
        simp only [hAf] at hcA
        have HF := Lib.hid (HBAD.out (by rw [Bool.eq_false_iff]; intro h2; exact hA (hok.1 h2).1))
        clear hAf hA hok
        go_wp2_with fail
        refine (hcA _).mono ?_
        rintro e w' ⟨rfl, rfl⟩
        go_wp2
        go_ret
        exact ⟨by rw [HF.out]; rfl, rfl⟩
      have hAt : (decide (1 ≤ am) && decide (am ≤ 1000000)) = true := by
        rw [Bool.and_eq_true]
        exact ⟨decide_eq_true hA.1, decide_eq_true hA.2⟩
      simp only [hAt] at hcA
      clear hAt
      by_cases hK : 300 < lk.size
      · have hv2 : decide ((300 : Int) < (lk.size : Int)) = true := decide_eq_true (by omega)
        have HF := Lib.hid (HBAD.out (by rw [Bool.eq_false_iff]; intro h2; have := (hok.1 h2).2; omega))
        clear hA hok hK
        go_wp2_with fail
        refine (hcA _).mono ?_
        rintro e w' ⟨rfl, rfl⟩
        go_wp2
        go_ret
        exact ⟨by rw [HF.out]; rfl, rfl⟩
      · have hv2 : decide ((300 : Int) < (lk.size : Int)) = false := decide_eq_false (by omega)
        have HOK := Lib.hid (hok.2 ⟨hA, by omega⟩)
        have hb1 : 0 ≤ S + am ∧ S + am ≤ 1000000 * ((k : Int) + 1) := by omega
        have hw : IntKind.i64.wrap (S + am) = S + am := IntWalk.i64_in _ (by omega)
        clear hok hK
        go_wp2_with fail
        refine (hcA _).mono ?_
        rintro e w' ⟨rfl, rfl⟩
        go_wp2
        go_roundw
        case rel =>
          refine ⟨trivial, k + 1, by omega, by simp, by rw [HS.out], ?_, fun j hj => ?_⟩
          · rw [HS.out]
            exact ⟨hb1.1, by have := hb1.2; push_cast; omega⟩
          · by_cases hjk : j < k
            · exact HJ.out j hjk
            · rw [show j = k by omega, HX.out]; exact HOK.out
        case measure => simp [intOf]; omega
    · have hk2 : k = n := by omega
      have HE := Lib.hid (Tr.outsOk_end HB.out (fun j hj' => hj j (by have := HL.out; omega)))
      have htk : l.take k = l := by rw [hk2, ← HL.out, List.take_length]
      rw [htk] at hsum
      rw [htk]
      obtain ⟨S, HSS⟩ : ∃ S, Hid (Tr.sum l = S) := ⟨_, Lib.hid rfl⟩
      rw [HSS.out] at hsum HE
      rw [HSS.out]
      clear hj htk
      go_wp2
      go_ret
      exact ⟨by rw [HE.out]; rfl, rfl⟩

set_option maxRecDepth 100000 in
set_option maxHeartbeats 1600000 in
theorem l13Ins_any (lo : Nat) (a : Option Addr) (n c : Nat) (l : List Tr.In) (w : World) (h : InL lo w a n l) (hn : n ≤ 1048576) (hz : ∀ x ∈ l, x.wit.length ≤ 1048576 ∧ ∀ s ∈ x.wit, s.size ≤ 1048576) :
    Calls Try.prog 35 #[.slice a n c] w fun e w' => e = .returned (.bool (Tr.insOk l)) ∧ Below w.heap.size w w' := by
  have HL := Lib.hid h.1
  have HH := Lib.hid h
  have HZ := Lib.hid hz
  clear h hz
  go_enter Try.func35, Try.ntmps35
  go_wp2
  go_loopw [3] (fun i wr => ∃ k : Nat, k ≤ n ∧ i = .int .i64 (k : Int) ∧ Below w.heap.size w wr ∧ (∀ j, j < k → (Tr.inAt l j).ok = true) ∧ ∀ j, j < k → ∀ q, q < j → (Tr.inAt l q).same (Tr.inAt l j) = false)
    (fun i _ => n - (intOf i).toNat)
  case atStart => exact ⟨0, by omega, rfl, Below.refl _ _, fun j hj => absurd hj (by omega), fun j hj => absurd hj (by omega)⟩
  case round =>
    obtain ⟨k, hk, rfl, hbel, hj, hq⟩ := hrel
    by_cases hlt : k < n
    · have hIL := HH.out.below hbel
      obtain ⟨g, off, rfl, _, hgl, hc⟩ := hIL.2 (by omega)
      obtain ⟨wa, wc, hi⟩ := hc k hlt
      obtain ⟨e0, e1, e2, e3, _⟩ := hi
      have HC := Lib.hid hc
      have HJ := Lib.hid hj
      have HQ := Lib.hid hq
      have hkl : k < l.length := by have := HL.out; omega
      have hzk := HZ.out _ (Tr.inAt_mem hkl)
      have HBAD := Lib.hid (Tr.insOk_bad hkl)
      have HTW := Lib.hid (fun q (hq : q < k) => Tr.insOk_twice hkl hq)
      obtain ⟨x, HX⟩ : ∃ x, Hid (Tr.inAt l k = x) := ⟨_, Lib.hid rfl⟩
      rw [HX.out] at e0 e1 e2 e3 hzk HBAD
      have hcI := l13In_any x wa wc _ e3 hzk.1 hzk.2
      clear hc hj hq e3 hIL
      obtain ⟨tx, out, wit⟩ := x
      simp only at e0 e1 e2 hcI hzk
      go_wp2_with fail
      refine hcI.mono ?_
      rintro e w1 ⟨rfl, hx1⟩
      have hbel1 := hbel.trans (hx1.mono hbel.size)
      have hg1 : g < w1.heap.size := Nat.lt_of_lt_of_le hgl hx1.size
      have HIL := Lib.hid (HH.out.below hbel1)
      cases hv : (⟨tx, out, wit⟩ : Tr.In).ok
      · have HF := Lib.hid (HBAD.out hv)
        clear hv
        go_wp2
        go_ret
        exact ⟨by rw [HF.out]; rfl, hbel1⟩
      have HOK := Lib.hid hv
      clear hv e0 e1 e2 hcI hzk hx1 hbel
      go_wp2
      go_loopw [4] (fun i wr => ∃ q : Nat, q ≤ k ∧ i = .int .i64 (q : Int) ∧ Below w.heap.size w wr ∧ ∀ j, j < q → (Tr.inAt l j).same (Tr.inAt l k) = false)
        (fun i _ => k - (intOf i).toNat)
      case atStart => exact ⟨0, by omega, rfl, hbel1, fun j hj => absurd hj (by omega)⟩
      case round =>
        obtain ⟨q, hqk, rfl, hbel2, hsm⟩ := hrel
        by_cases hlq : q < k
        · obtain ⟨g2, off2, hge, _, _, hc2⟩ := (HH.out.below hbel2).2 (by omega)
          cases hge
          obtain ⟨wa2, wc2, hi2⟩ := hc2 q (by omega)
          obtain ⟨wa3, wc3, hi3⟩ := hc2 k hlt
          obtain ⟨e0, e1, _, _, _⟩ := hi2
          obtain ⟨d0, d1, _, _, _⟩ := hi3
          have HSM := Lib.hid hsm
          have HT := Lib.hid (HTW.out q hlq)
          obtain ⟨y, HY⟩ : ∃ y, Hid (Tr.inAt l q = y) := ⟨_, Lib.hid rfl⟩
          rw [HX.out] at d0 d1
          rw [HY.out] at e0 e1
          obtain ⟨ty, oy, wy⟩ := y
          simp only at e0 e1 d0 d1
          clear hc2 hsm
          by_cases hA : ty = tx
          case neg =>
            have hAf : (ty == tx) = false := by simpa using hA
            have HN : Hid ((Tr.inAt l q).same (Tr.inAt l k) = false) := Lib.hid (by
              rw [HX.out, HY.out]
              unfold Tr.In.same
              simp [hA])
            clear hA
            go_wp2
            go_quiet (fail)
            go_wp2
            go_roundw
            case rel =>
              refine ⟨q + 1, by omega, by simp, below_drewN13 hbel2 _, fun j hj => ?_⟩
              by_cases hjq : j < q
              · exact HSM.out j hjq
              · rw [show j = q by omega]; exact HN.out
            case measure => simp [intOf]; omega
          have hAt : (ty == tx) = true := by simpa using hA
          by_cases hB : oy = out
          · have hBt : (oy == out) = true := by simpa using hB
            have HF := Lib.hid (HT.out (by
              rw [HX.out, HY.out]
              unfold Tr.In.same
              simp [hA, hB]))
            clear hA hB
            go_wp2
            go_quiet (fail)
            go_wp2
            go_ret
            exact ⟨by rw [HF.out]; rfl, below_drewN13 hbel2 _⟩
          · have hBf : (oy == out) = false := by simpa using hB
            have HN : Hid ((Tr.inAt l q).same (Tr.inAt l k) = false) := Lib.hid (by
              rw [HX.out, HY.out]
              unfold Tr.In.same
              simp [hB])
            clear hA hB
            go_wp2
            go_quiet (fail)
            go_wp2
            go_roundw
            case rel =>
              refine ⟨q + 1, by omega, by simp, below_drewN13 hbel2 _, fun j hj => ?_⟩
              by_cases hjq : j < q
              · exact HSM.out j hjq
              · rw [show j = q by omega]; exact HN.out
            case measure => simp [intOf]; omega
        · have hqe : q = k := by omega
          have HSM := Lib.hid hsm
          clear hsm
          go_wp2
          go_roundw
          case rel =>
            refine ⟨k + 1, by omega, by simp, hbel2, fun j hj => ?_, fun j hj q2 hq2 => ?_⟩
            · by_cases hjk : j < k
              · exact HJ.out j hjk
              · rw [show j = k by omega, HX.out]; exact HOK.out
            · by_cases hjk : j < k
              · exact HQ.out j hjk q2 hq2
              · have hj2 : j = k := by omega
                subst hj2
                exact HSM.out q2 (by omega)
          case measure => simp [intOf]; omega
    · have hk2 : k = n := by omega
      have HE := Lib.hid (Tr.insOk_end (l := l) (fun j hj' => hj j (by have := HL.out; omega)) (fun j hj' => hq j (by have := HL.out; omega)))
      have HE2 : Hid (Tr.insOk l = decide ((n : Int) ≤ 6)) := Lib.hid (by
        rw [HE.out, decide_eq_decide]
        have := HL.out
        omega)
      clear hj hq HE
      go_wp2
      go_ret
      exact ⟨by rw [HE2.out]; rfl, hbel⟩

end Go.Proofs.Ytedjbikphdflhab
