/-
  Contracts of the laws' marks: markText, markStringS, markInS, markOutS, heldInS, heldOutS.
-/
import Derived.Test.YtedjbikphdflhabUr
import Derived.LoopTactic
namespace Go.Proofs.Ytedjbikphdflhab
open Go.RowKit

set_option maxRecDepth 100000 in
set_option maxHeartbeats 800000 in
theorem markTextW_any (k : Int) (w : World) (h0 : 1 ≤ k) (h1 : k ≤ 1000000000000000) :
    Calls Try.prog 72 #[.int .i64 k] w fun e w' => e = .returned (.string (Mk.mark k)) ∧ Below w.heap.size w w' := by
  have c1 := fun (x : Int) (W : World) => conv_new [x] 1 W
  simp only [List.map, List.length] at c1
  go_enter Try.func72, Try.ntmps72
  go_wp2
  go_loopw [0, 3] (fun v o wr => ∃ (f : Nat) (j : Int) (out : ByteArray), v = .int .i64 j ∧ o = .string out ∧ 0 ≤ j ∧ j ≤ k ∧ j ≤ (f : Int) ∧ (out.size : Int) + j ≤ k ∧ Mk.dec f j out = Mk.dec k.toNat k ⟨#[]⟩ ∧ Below w.heap.size w wr)
    (fun v _ _ => (intOf v).toNat)
  case atStart => exact ⟨k.toNat, k, _, rfl, rfl, by omega, by omega, by omega, by simp [ByteArray.size], rfl, Below.refl _ _⟩
  case round =>
    obtain ⟨f, j, out, rfl, rfl, j0, j1, j2, hsz, hd, hbel⟩ := hrel
    by_cases hp : 0 < j
    · obtain ⟨f, rfl⟩ : ∃ f', f = f' + 1 := ⟨f - 1, by omega⟩
      rw [Mk.dec_pos _ _ _ hp] at hd
      have HD := Lib.hid hd
      clear hd
      have hadd : ∀ W, (Op.stringOp .add (strOfNums [48 + j % 10]) out).run Try.prog W = .ok (.string (strOfNums [48 + j % 10] ++ out)) W :=
        fun W => run_string_add_sum (P := Try.prog) W _ _ (by rw [strOfNums_size]; simp; omega)
      go_wp2
      go_roundw
      case rel => exact ⟨f, j / 10, _, rfl, rfl, by omega, by omega, by omega, by rw [ByteArray.size_append, strOfNums_size]; simp; omega, HD.out, hbel.alloc hbel.size _⟩
      case measure => simp [intOf]; omega
    · rw [Mk.dec_end _ _ _ hp] at hd
      have hadd : ∀ W, (Op.stringOp .add (⟨#[109]⟩ : ByteArray) out).run Try.prog W = .ok (.string (⟨#[109]⟩ ++ out)) W :=
        fun W => run_string_add_sum (P := Try.prog) W _ _ (by have : (⟨#[109]⟩ : ByteArray).size = 1 := rfl; omega)
      have HD : Hid (Mk.mark k = ⟨#[109]⟩ ++ out) := by unfold Mk.mark; rw [← hd]; exact rfl
      clear hd
      go_wp2
      go_ret
      exact ⟨by rw [HD.out]; rfl, hbel⟩
set_option maxRecDepth 100000 in
set_option maxHeartbeats 1600000 in
theorem markStrs_row (base : Nat) (a : Option Addr) (len cap : Nat) (k : Int) (ss : List ByteArray) (w : World) (ho : w.ownsRow base 9 1 (.slice a len cap) len (ss.map Value.string)) (h0 : 1 ≤ k) (h1 : k ≤ 100000000000000) (hlen : len ≤ 1048576) :
    Calls Try.prog 32 #[.slice a len cap, .int .i64 k] w fun e w' => e = .returned (.int .i64 (k + (len : Int))) ∧ w.grownBy w' (Value.slice a len cap).ownBlock ∧ w'.ownsRow base 9 1 (.slice a len cap) len ((Mk.marks k len).map Value.string) := by
  have HL : Hid (ss.length = len) := Lib.hid (by have := ho.1; simpa using this)
  have HO := Lib.hid ho
  clear ho
  go_enter Try.func32, Try.ntmps32
  go_wp2
  go_loopw [1, 5] (fun v i wr => ∃ n : Nat, n ≤ len ∧ i = .int .i64 (n : Int) ∧ v = .int .i64 (k + n) ∧ Hid (w.grownBy wr (Value.slice a len cap).ownBlock) ∧ Hid (wr.ownsRow base 9 1 (.slice a len cap) len ((Mk.marks k n ++ ss.drop n).map Value.string)))
    (fun _ i _ => len - (intOf i).toNat)
  case atStart => exact ⟨0, by omega, rfl, by simp, Lib.hid (World.grownBy.refl _ _), Lib.hid (by simpa [Mk.marks] using HO.out)⟩
  case round =>
    obtain ⟨n, hn, rfl, rfl, hgr, hro⟩ := hrel
    by_cases hlt : n < len
    · obtain ⟨g, rfl⟩ := own_posZ hro.out (by omega)
      have hdr : ss.drop n = ss[n]'(by rw [HL.out]; exact hlt) :: ss.drop (n + 1) := List.drop_eq_getElem_cons (by rw [HL.out]; exact hlt)
      obtain ⟨s, hs⟩ : ∃ s, Hid (ss[n]'(by rw [HL.out]; exact hlt) = s) := ⟨_, Lib.hid rfl⟩
      rw [hs.out] at hdr
      have HR : Hid (wr.ownsRow base 9 1 (.slice (some ⟨g, 0, none⟩) len cap) len ((Mk.marks k n ++ s :: ss.drop (n + 1)).map Value.string)) := Lib.hid (by rw [← hdr]; exact hro.out)
      clear hro hdr hs HO
      have hcs := markTextW_any (k + (n : Int)) wr (by omega) (by omega)
      go_wp2_with fail
      refine hcs.mono ?_
      rintro e w2 ⟨rfl, hb2⟩
      have HR2 := Lib.hid (own_belQ HR.out hb2)
      have hat : ((Mk.marks k n ++ s :: ss.drop (n + 1)).map Value.string)[n]? = some (.string s) := by
        rw [List.map_append, List.getElem?_append_right (by simp [Mk.marks_length])]
        simp [Mk.marks_length]
      obtain ⟨q0, f0⟩ := own_at HR2.out hat
      have HG2 : Hid (w.grownBy w2 (some g)) := Lib.hid (hgr.out.trans ⟨hb2.os, hb2.tape, hb2.output, hb2.size, fun q hq _ => hb2.block q hq⟩)
      clear hcs hat HR hgr hb2
      go_wp2
      go_roundw
      case rel =>
        refine ⟨n + 1, by omega, by simp, by simp; omega, Lib.hid (HG2.out.trans (grownBy_set w2 g n _)), Lib.hid ?_⟩
        have h3 := own_setcell (j := n) HR2.out (.string (Mk.mark (k + (n : Int))))
        have e3 : ((Mk.marks k n ++ s :: ss.drop (n + 1)).map Value.string).set n (.string (Mk.mark (k + (n : Int)))) = (Mk.marks k (n + 1) ++ ss.drop (n + 1)).map Value.string := by
          rw [Mk.marks_snoc, List.map_append, List.set_append_right _ _ (by simp [Mk.marks_length])]
          simp [Mk.marks_length]
        rw [e3] at h3
        exact h3
      case measure => simp [intOf]; omega
    · have hn2 : n = len := by omega
      have hdn : ss.drop n = [] := List.drop_eq_nil_of_le (by rw [HL.out]; omega)
      have HF : Hid (wr.ownsRow base 9 1 (.slice a len cap) len ((Mk.marks k n).map Value.string)) := Lib.hid (by have := hro.out; rw [hdn, List.append_nil] at this; exact this)
      clear hro HO hdn
      subst hn2
      go_wp2
      go_ret
      exact ⟨rfl, hgr.out, HF.out⟩
set_option maxRecDepth 100000 in
set_option maxHeartbeats 3200000 in
theorem markInS_any (base hi : Nat) (a : Option Addr) (n c : Nat) (l : List (Tr.In × Value)) (k : Int) (w : World) (h : OwnI base w (.slice a n c) l) (hl : l.length = n) (hd : DistW l) (hu : UpI hi (.slice a n c) l) (h0 : 1 ≤ k) (h1 : k ≤ 1000000000000) (hn : n ≤ 1048576) (hz : ∀ x ∈ l, x.1.wit.length ≤ 1048576) :
    Calls Try.prog 54 #[.slice a n c, .int .i64 k] w fun e w' => e = .returned (.int .i64 (Tr.mkE k l)) ∧ OwnI base w' (.slice a n c) (Tr.mkI k l) ∧ Seg base hi w w' ∧ KeepO w w' := by
  have HH := Lib.hid h
  have HD := Lib.hid hd
  have HU := Lib.hid hu
  have HZ := Lib.hid hz
  clear h hd hu hz
  have HL := Lib.hid hl
  clear hl
  go_enter Try.func54, Try.ntmps54
  go_wp2
  go_loopw [1, 5] (fun v i wr => ∃ j : Nat, j ≤ n ∧ i = .int .i64 (j : Int) ∧ ∃ (K : Int) (l1 l2 : List (Tr.In × Value)), v = .int .i64 K ∧ Hid (l1.length = j) ∧ Hid (Tr.mkE k l1 = K) ∧ Hid (l1 ++ l2 = l) ∧ 1 ≤ K ∧ K ≤ k + (j : Int) * 1048578 ∧ Hid (OwnI base wr (.slice a n c) (Tr.mkI k l1 ++ l2)) ∧ Hid (Seg base hi w wr) ∧ Hid (KeepO w wr))
    (fun _ i _ => n - (intOf i).toNat)
  case atStart => exact ⟨0, by omega, rfl, k, [], l, rfl, Lib.hid rfl, Lib.hid rfl, Lib.hid rfl, h0, by simp, HH, Lib.hid (Seg.refl _ _ _), Lib.hid (KeepO.refl _)⟩
  case round =>
    obtain ⟨j, hj, rfl, K, l1, l2, rfl, hl1, hK, hll, hK0, hK1, hro, hsg, hko⟩ := hrel
    clear HH
    by_cases hlt : j < n
    · have hlen : l1.length + l2.length = n := by
        have e1 := congrArg List.length hll.out
        rw [HL.out] at e1
        simpa using e1
      rw [hl1.out] at hlen
      obtain ⟨⟨⟨tx, out, wit⟩, v⟩, l3, rfl⟩ : ∃ y l3, l2 = y :: l3 := by
        cases l2 with
        | nil => simp at hlen; omega
        | cons y l3 => exact ⟨y, l3, rfl⟩
      have hm1 : (Tr.mkI k l1).length = j := by rw [Tr.mkI_length]; exact hl1.out
      have hlenI : (Tr.mkI k l1 ++ ((⟨tx, out, wit⟩ : Tr.In), v) :: l3).length = n := by
        rw [List.length_append, hm1]
        exact hlen
      have hrow := hro.out.1
      rw [hlenI] at hrow
      obtain ⟨g, rfl⟩ := own_posZ hrow (by omega)
      obtain ⟨⟨wa, wc, hv⟩, _⟩ := hro.out.2 (⟨tx, out, wit⟩, v) (by simp)
      simp only at hv
      subst hv
      have hzk : wit.length ≤ 1048576 := HZ.out (⟨tx, out, wit⟩, Value.slice wa wit.length wc) (by rw [← hll.out]; simp)
      obtain ⟨e0, e1, e2⟩ := Tr.ics_get (Tr.mkI k l1 ++ ((⟨tx, out, wit⟩ : Tr.In), Value.slice wa wit.length wc) :: l3) j (by rw [hlenI]; exact hlt)
      have ex : (Tr.mkI k l1 ++ ((⟨tx, out, wit⟩ : Tr.In), Value.slice wa wit.length wc) :: l3)[j]'(by rw [hlenI]; exact hlt) = (⟨tx, out, wit⟩, Value.slice wa wit.length wc) := by
        rw [List.getElem_append_right (Nat.le_of_eq hm1)]
        simp [hm1]
      rw [ex] at e0 e1 e2
      have hS2 := hro.out.set2 hm1 hlenI K (K + 1)
      have hD2 : DistW (Tr.mkI k l1 ++ ((⟨K, K + 1, wit⟩ : Tr.In), Value.slice wa wit.length wc) :: l3) := HD.out.snd (by rw [← hll.out]; simp [Tr.mkI_snd])
      have hgrw : wr.grownBy ((wr.setCell ⟨g, j * 3, none⟩ (.int .i64 K)).setCell ⟨g, j * 3 + 1, none⟩ (.int .i64 (K + 1))) (some g) := (grownBy_set wr g (j * 3) _).trans (grownBy_set _ g (j * 3 + 1) _)
      have hgb : base ≤ g ∧ g < hi := ⟨(hrow.lt g rfl).1, HU.out.1 g rfl⟩
      have hsg2 := hsg.out.trans (Seg.of_grown (lo := base) (hi := hi) hgrw (by intro q e; cases e; exact hgb))
      have hko2 : KeepO w ((wr.setCell ⟨g, j * 3, none⟩ (.int .i64 K)).setCell ⟨g, j * 3 + 1, none⟩ (.int .i64 (K + 1))) := hko.out.trans fun B v m xs q => own_typesG q hrow (by decide) hgrw
      have hS2w := (hS2.2 (⟨K, K + 1, wit⟩, Value.slice wa wit.length wc) (by simp)).2
      have hcs := markStrs_row base wa wit.length wc (K + 1 + 1) wit _ hS2w (by omega) (by omega) hzk
      obtain ⟨q0, f0⟩ := own_at hrow e0
      obtain ⟨q1, f1⟩ := own_at (j := j * 3 + 1) (own_setcell (j := j * 3) hrow (.int .i64 K)) (u := .int .i64 out) (by rw [List.getElem?_set_ne (by omega)]; exact e1)
      obtain ⟨q2, _⟩ := own_at (j := j * 3 + 2) (own_setcell (j := j * 3 + 1) (own_setcell (j := j * 3) hrow (.int .i64 K)) (.int .i64 (K + 1))) (u := .slice wa wit.length wc) (by rw [List.getElem?_set_ne (by omega), List.getElem?_set_ne (by omega)]; exact e2)
      have HX : Hid (OwnI base ((wr.setCell ⟨g, j * 3, none⟩ (.int .i64 K)).setCell ⟨g, j * 3 + 1, none⟩ (.int .i64 (K + 1))) (.slice (some ⟨g, 0, none⟩) n c) (Tr.mkI k l1 ++ ((⟨K, K + 1, wit⟩ : Tr.In), Value.slice wa wit.length wc) :: l3) ∧ DistW (Tr.mkI k l1 ++ ((⟨K, K + 1, wit⟩ : Tr.In), Value.slice wa wit.length wc) :: l3) ∧ Seg base hi w ((wr.setCell ⟨g, j * 3, none⟩ (.int .i64 K)).setCell ⟨g, j * 3 + 1, none⟩ (.int .i64 (K + 1))) ∧ KeepO w ((wr.setCell ⟨g, j * 3, none⟩ (.int .i64 K)).setCell ⟨g, j * 3 + 1, none⟩ (.int .i64 (K + 1)))) := Lib.hid ⟨hS2, hD2, hsg2, hko2⟩
      have HUX : Hid (∀ q, (Value.slice wa wit.length wc).ownBlock = some q → q < hi) := Lib.hid (HU.out.2 (⟨tx, out, wit⟩, Value.slice wa wit.length wc) (by rw [← hll.out]; simp))
      obtain ⟨r, hr⟩ : ∃ r, Hid (wit.length = r) := ⟨_, Lib.hid rfl⟩
      rw [hr.out] at q2 hcs hzk
      clear hS2 hD2 hgrw hgb hsg2 hko2 hS2w e0 e1 e2 ex hrow hro hsg hko hlenI hm1 hlen
      go_wp2_with fail
      refine hcs.mono ?_
      rintro e w3 ⟨rfl, hg3, ho3⟩
      clear hcs q0 q1 q2 f0 f1
      have HN : Hid (OwnI base w3 (.slice (some ⟨g, 0, none⟩) n c) (Tr.mkI k l1 ++ ((⟨K, K + 1, Mk.marks (K + 1 + 1) r⟩ : Tr.In), Value.slice wa r wc) :: l3) ∧ Seg base hi w w3 ∧ KeepO w w3) := by
        obtain ⟨x1, x2, x3, x4⟩ := HX.out
        rw [hr.out] at x1 x2
        have hw := (x1.2 (⟨K, K + 1, wit⟩, Value.slice wa r wc) (by simp)).2
        refine Lib.hid ⟨x1.mark x2 hg3 (by rw [show (⟨K, K + 1, wit⟩ : Tr.In).wit.length = r from hr.out]; exact ho3) (by rw [Mk.marks_length]; exact hr.out.symm), x3.trans (Seg.of_grown hg3 fun q e => ⟨(ho3.lt q e).1, HUX.out q (by rw [hr.out]; exact e)⟩), x4.trans fun B v m xs q => own_typesG q hw (by decide) hg3⟩
      clear hg3 ho3 HX HUX
      go_wp2
      go_roundw
      case rel =>
        refine ⟨j + 1, by omega, by simp, K + 1 + 1 + (r : Int), l1 ++ [((⟨tx, out, wit⟩ : Tr.In), Value.slice wa wit.length wc)], l3, rfl, Lib.hid (by simp [hl1.out]), Lib.hid ?_, Lib.hid (by rw [← hll.out]; simp), by omega, by simp; omega, Lib.hid ?_, Lib.hid HN.out.2.1, Lib.hid HN.out.2.2⟩
        · rw [Tr.mkE_append, hK.out]
          simp only [Tr.mkE, hr.out]
        · rw [Tr.mkI_append, hK.out]
          simp only [Tr.mkI, hr.out, List.append_assoc, List.singleton_append]
          exact HN.out.1
      case measure => simp [intOf]; omega
    · have hjn : j = n := by omega
      have hl2 : l2 = [] := by
        have e1 := congrArg List.length hll.out
        rw [HL.out, List.length_append, hl1.out] at e1
        exact List.eq_nil_of_length_eq_zero (by omega)
      subst hl2
      have hl1l : l1 = l := by have := hll.out; rwa [List.append_nil] at this
      subst hl1l
      have HN : Hid (OwnI base wr (.slice a n c) (Tr.mkI k l1)) := Lib.hid (by have := hro.out; rwa [List.append_nil] at this)
      have HJ := Lib.hid hjn
      clear hjn hro
      go_wp2
      go_ret
      exact ⟨by rw [hK.out]; rfl, HN.out, hsg.out, hko.out⟩
set_option maxRecDepth 100000 in
set_option maxHeartbeats 3200000 in
theorem markOutS_any (base : Nat) (a : Option Addr) (n c : Nat) (l : List Tr.Out) (k : Int) (w : World) (h : OwnO base w (.slice a n c) l) (hl : l.length = n) (h0 : 1 ≤ k) (h1 : k ≤ 100000000000000) (hn : n ≤ 1048576) :
    Calls Try.prog 55 #[.slice a n c, .int .i64 k] w fun e w' => e = .returned (.int .i64 (k + 2 * (n : Int))) ∧ OwnO base w' (.slice a n c) (Tr.mkO k n) ∧ w.grownBy w' (Value.slice a n c).ownBlock := by
  have HH : Hid (w.ownsRow base 80 2 (.slice a n c) n (Tr.ocs l)) := Lib.hid (by have h' : w.ownsRow base 80 2 (.slice a n c) l.length (Tr.ocs l) := h; rwa [hl] at h')
  have HL := Lib.hid hl
  clear h hl
  go_enter Try.func55, Try.ntmps55
  go_wp2
  go_loopw [1, 5] (fun v i wr => ∃ j : Nat, j ≤ n ∧ i = .int .i64 (j : Int) ∧ v = .int .i64 (k + 2 * (j : Int)) ∧ Hid (w.grownBy wr (Value.slice a n c).ownBlock) ∧ Hid (wr.ownsRow base 80 2 (.slice a n c) n (Tr.ocs (Tr.mkO k j ++ l.drop j))))
    (fun _ i _ => n - (intOf i).toNat)
  case atStart => exact ⟨0, by omega, rfl, by simp, Lib.hid (World.grownBy.refl _ _), Lib.hid (by simpa [Tr.mkO] using HH.out)⟩
  case round =>
    obtain ⟨j, hj, rfl, rfl, hgr, hro⟩ := hrel
    clear HH
    by_cases hlt : j < n
    · obtain ⟨g, rfl⟩ := own_posZ hro.out (by omega)
      have hdr : l.drop j = l[j]'(by rw [HL.out]; exact hlt) :: l.drop (j + 1) := List.drop_eq_getElem_cons (by rw [HL.out]; exact hlt)
      obtain ⟨⟨am, lk⟩, hs⟩ : ∃ s, Hid (l[j]'(by rw [HL.out]; exact hlt) = s) := ⟨_, Lib.hid rfl⟩
      rw [hs.out] at hdr
      obtain ⟨K, hK⟩ : ∃ K, Hid (k + 2 * (j : Int) = K) := ⟨_, Lib.hid rfl⟩
      have hK1 : 1 ≤ K := by have := hK.out; omega
      have hK2 : K ≤ 200000000000000 := by have := hK.out; omega
      have hrow : wr.ownsRow base 80 2 (.slice (some ⟨g, 0, none⟩) n c) n (Tr.ocs (Tr.mkO k j ++ ⟨am, lk⟩ :: l.drop (j + 1))) := by rw [← hdr]; exact hro.out
      obtain ⟨e0, e1⟩ := Tr.ocs_get (Tr.mkO k j ++ ⟨am, lk⟩ :: l.drop (j + 1)) j (by simp [Tr.mkO_length])
      have ex : Tr.outAt (Tr.mkO k j ++ ⟨am, lk⟩ :: l.drop (j + 1)) j = ⟨am, lk⟩ := by
        unfold Tr.outAt
        rw [List.getD_eq_getElem?_getD, List.getElem?_append_right (Nat.le_of_eq (Tr.mkO_length k j))]
        simp [Tr.mkO_length]
      rw [ex] at e0 e1
      obtain ⟨q0, f0⟩ := own_at hrow e0
      have hr1 := own_setcell (j := j * 2) hrow (.int .i64 K)
      have e2 : ((Tr.ocs (Tr.mkO k j ++ ⟨am, lk⟩ :: l.drop (j + 1))).set (j * 2) (.int .i64 K))[j * 2 + 1]? = some (.string lk) := by rw [List.getElem?_set_ne (by omega)]; exact e1
      have HR1 := Lib.hid hr1
      have HE2 := Lib.hid e2
      have HSET := Lib.hid (Tr.ocs_set (Tr.mkO k j) (l.drop (j + 1)) ⟨am, lk⟩ K (Mk.mark (K + 1)) j (Tr.mkO_length k j))
      have hcs := markTextW_any (K + 1) (wr.setCell ⟨g, j * 2, none⟩ (.int .i64 K)) (by omega) (by omega)
      have HGR := Lib.hid (hgr.out.trans (grownBy_set wr g (j * 2) (.int .i64 K)))
      rw [hK.out]
      clear hr1 e0 e1 e2 ex hrow hro hdr hs hgr
      go_wp2_with fail
      refine hcs.mono ?_
      rintro e w2 ⟨rfl, hb2⟩
      have HR2 := Lib.hid (own_belQ HR1.out hb2)
      obtain ⟨q1, f1⟩ := own_at HR2.out HE2.out
      have HG2 : Hid (w.grownBy w2 (some g)) := Lib.hid (HGR.out.trans ⟨hb2.os, hb2.tape, hb2.output, hb2.size, fun q hq _ => hb2.block q hq⟩)
      clear hcs HR1 HGR hb2 q0 f0
      go_wp2
      go_roundw
      case rel =>
        refine ⟨j + 1, by omega, by simp, by have := hK.out; simp; omega, Lib.hid (HG2.out.trans (grownBy_set w2 g (j * 2 + 1) _)), Lib.hid ?_⟩
        have h3 := own_setcell (j := j * 2 + 1) HR2.out (.string (Mk.mark (K + 1)))
        rw [HSET.out] at h3
        rw [Tr.mkO_snoc, List.append_assoc, List.singleton_append, hK.out]
        exact h3
      case measure => simp [intOf]; omega
    · have hjn : j = n := by omega
      have hdn : l.drop j = [] := List.drop_eq_nil_of_le (by rw [HL.out]; omega)
      have HF : Hid (wr.ownsRow base 80 2 (.slice a n c) n (Tr.ocs (Tr.mkO k j))) := Lib.hid (by have := hro.out; rw [hdn, List.append_nil] at this; exact this)
      clear hro hdn
      subst hjn
      go_wp2
      go_ret
      refine ⟨rfl, ?_, hgr.out⟩
      unfold OwnO
      rw [Tr.mkO_length]
      exact HF.out
end Go.Proofs.Ytedjbikphdflhab
