/- For every code of at most 1<<20 bytes (longer ones are let pass by the law itself): VerifyBatch answers as the model's VerifyBatch; where it holds of a list with just one signature that isn't valid, it doesn't hold with the weight of that one increased by 1. -/
import Derived.Test.YtimajobbkemdbabRows
import Derived.Test.YtimajobbkemdbabVc
import Derived.Test.YtimajobbkemdbabDl
import Derived.Deep.RegionHeld3
import Derived.WalkKit
import Derived.WalkSpells
import Derived.ProofKit
import Derived.OpenShut
import Derived.ShutString
import Derived.Below
import Derived.SliceStrings
namespace Go.Proofs.Ytimajobbkemdbab.fnBatchTwo
open Go.ChangeShapes Go.WideShapes Go.ChangeAt Go.RowKit
open Go.ChangeMaps (open_string shut_string)
theorem getD_setI2 {ss : List Int} {i j : Nat} {t : Int} (hi : i < ss.length) : (ss.set i t).getD j 0 = if j = i then t else ss.getD j 0 := by
  rw [List.getD_eq_getElem?_getD, List.getD_eq_getElem?_getD, List.getElem?_set]
  by_cases h : j = i
  · subst h; simp [hi]
  · rw [if_neg (fun h' => h h'.symm), if_neg h]
theorem IR.set2 {w : World} {g n i : Nat} {ss : List Int} (h : IR w (some ⟨g, 0, none⟩) n ss) (hi : i < n) (t : Int) : IR (w.setCell ⟨g, i, none⟩ (.int .i64 t)) (some ⟨g, 0, none⟩) n (ss.set i t) := by
  have hl := h.1
  refine ⟨by rw [List.length_set, hl], fun h0 => ?_⟩
  obtain ⟨b, off, he, hb, hc⟩ := h.2 h0
  cases he
  refine ⟨g, 0, rfl, by simpa [World.setCell] using hb, fun j hj => ?_⟩
  rw [getD_setI2 (by omega), Nat.zero_add]
  by_cases hji : j = i
  · subst hji
    rw [if_pos rfl]
    have := hc j hj
    rw [Nat.zero_add] at this
    exact World.cell?_setCell_same _ _ _ this
  · rw [if_neg hji]
    have := hc j hj
    rw [Nat.zero_add] at this
    exact (World.cell?_setCell_other _ _ _ _ (by intro e; cases e; exact hji rfl)).trans this
theorem IR.news2 {w : World} {g len : Nat} {zs : List Int} (h : IR w (some ⟨g, 0, none⟩) len zs) : ∀ j u, (zs.map (Value.int .i64))[j]? = some u → w.cell? ((⟨g, 0, none⟩ : Addr).add j) = some u := by
  intro j u hj
  have hjl : j < zs.length := by
    rcases Nat.lt_or_ge j zs.length with h' | h'
    · exact h'
    · rw [List.getElem?_eq_none (by simpa using h')] at hj; cases hj
  obtain ⟨b, off, he, _, hc⟩ := h.2 (by have := h.1; omega)
  cases he
  have h2 := hc j (by have := h.1; omega)
  rw [Nat.zero_add] at h2
  have hadd : (⟨g, 0, none⟩ : Addr).add j = ⟨g, j, none⟩ := by unfold Addr.add; split <;> simp_all
  rw [hadd, h2]
  rw [List.getElem?_map, List.getElem?_eq_getElem hjl] at hj
  rw [List.getD_eq_getElem?_getD, List.getElem?_eq_getElem hjl]
  simpa using hj
set_option maxRecDepth 100000 in
set_option maxHeartbeats 6400000 in
theorem walk (a0 : Option Addr) (len0 cap0 : Nat) (z0 : List Int) (w : World) (w0 : IsRow .u8 w a0 len0 cap0 z0) :
    Calls Try.prog 5 #[.slice a0 len0 cap0] w fun e w' => e = .returned (.bool true) ∧ Below w.heap.size w w' := by
  have hcm := w0.len
  by_cases h : (1048576 : Int) < (len0 : Int)
  · go_enter Try.func5, Try.ntmps5
    go_wp2
    go_ret
    exact ⟨rfl, Below.refl _ _⟩
  go_enter Try.func5, Try.ntmps5
  go_wp2_with fail
  refine (drawVerifyBatch_any a0 len0 cap0 z0 _ w0 (by omega)).mono ?_
  rintro e w1 ⟨l, ws, g, cp, g', cp', rfl, n0, n1, n2, n3, h1, h2, hb1⟩
  clear w0 h hcm
  have HGR1 := (GR.own h1).2
  have HIR1 := (IR.own h2).2
  have htx : ∀ j, j < l.length → (l.getD j Sg.it0).text.size ≤ 1048576 := fun j hj => by
    have : l.getD j Sg.it0 ∈ l := by rw [List.getD_eq_getElem?_getD, List.getElem?_eq_getElem hj]; exact List.getElem_mem _
    have := n2 _ this
    omega
  have hcon1 := fun W (h : GR W (some ⟨g, 0, none⟩) l.length l) (k : IR W (some ⟨g', 0, none⟩) ws.length ws) => implVerifyBatch_any _ _ l.length cp ws.length cp' l ws W h k (by omega) (by omega) htx
  have hcon2 := fun W (h : GR W (some ⟨g, 0, none⟩) l.length l) (k : IR W (some ⟨g', 0, none⟩) ws.length ws) => specVerifyBatch_any _ _ l.length cp ws.length cp' l ws W h k (by omega) (by omega) htx
  clear h1 h2
  cases hX : Sg.batch l ws
  · rw [hX] at hcon1 hcon2
    obtain ⟨m, hm⟩ : ∃ m, l.length = m := ⟨_, rfl⟩
    obtain ⟨m', hm'⟩ : ∃ m, ws.length = m := ⟨_, rfl⟩
    rw [hm, hm'] at hcon1 hcon2
    rw [hm] at HGR1 n0
    rw [hm'] at HIR1 n1
    rw [hm, hm']
    clear hm hm' hX htx n2
    by_cases hz : m = 0
    · subst hz
      go_wp2_with fail
      refine (hcon1 _ HGR1 HIR1).mono ?_
      rintro e w2 ⟨rfl, hb2⟩
      have HGR2 := HGR1.below hb2
      have HIR2 := HIR1.below hb2
      replace hb2 := below_after hb1 hb2
      clear HGR1 HIR1 hb1
      go_wp2_with fail
      refine (hcon2 _ HGR2 HIR2).mono ?_
      rintro e w3 ⟨rfl, hb3⟩
      have HGR3 := HGR2.below hb3
      have HIR3 := HIR2.below hb3
      replace hb3 := below_after hb2 hb3
      clear HGR2 HIR2 hb2 hcon1 hcon2
      go_wp2
      go_ret
      exact ⟨rfl, hb3⟩
    have hz0 : ((m : Int) == 0) = false := by simp; omega
    by_cases hne : m' = m
    · subst hne
      go_wp2_with fail
      refine (hcon1 _ HGR1 HIR1).mono ?_
      rintro e w2 ⟨rfl, hb2⟩
      have HGR2 := HGR1.below hb2
      have HIR2 := HIR1.below hb2
      replace hb2 := below_after hb1 hb2
      clear HGR1 HIR1 hb1
      go_wp2_with fail
      refine (hcon2 _ HGR2 HIR2).mono ?_
      rintro e w3 ⟨rfl, hb3⟩
      have HGR3 := HGR2.below hb3
      have HIR3 := HIR2.below hb3
      replace hb3 := below_after hb2 hb3
      clear HGR2 HIR2 hb2 hcon1 hcon2
      go_wp2
      go_ret
      exact ⟨rfl, hb3⟩
    · have hn1 : ((m : Int) == (m' : Int)) = false := by simp; omega
      go_wp2_with fail
      refine (hcon1 _ HGR1 HIR1).mono ?_
      rintro e w2 ⟨rfl, hb2⟩
      have HGR2 := HGR1.below hb2
      have HIR2 := HIR1.below hb2
      replace hb2 := below_after hb1 hb2
      clear HGR1 HIR1 hb1
      go_wp2_with fail
      refine (hcon2 _ HGR2 HIR2).mono ?_
      rintro e w3 ⟨rfl, hb3⟩
      have HGR3 := HGR2.below hb3
      have HIR3 := HIR2.below hb3
      replace hb3 := below_after hb2 hb3
      clear HGR2 HIR2 hb2 hcon1 hcon2
      go_wp2
      go_ret
      exact ⟨rfl, hb3⟩
  · rw [hX] at hcon1 hcon2
    obtain ⟨⟨hl1, hl8, hwl⟩, hgood, _⟩ := (Sg.batch_iff l ws).mp hX
    have hbt := fun i hi hb => Sg.batch_two l ws i hi hb hX
    have hgd := fun j hj => (Sg.good_at l ws _ hgood j hj).2
    have hcon3 := fun (a : Option Addr) (c : Nat) (vs : List Int) W (h : GR W (some ⟨g, 0, none⟩) l.length l) (k : IR W a l.length vs) => implVerifyBatch_any _ a l.length cp l.length c l vs W h k (by omega) (by omega) htx
    rw [hwl] at hcon1 hcon2 HIR1 n1 ⊢
    have hlw : ws.length = l.length := hwl
    obtain ⟨m, hm⟩ : ∃ m, l.length = m := ⟨_, rfl⟩
    rw [hm] at hcon1 hcon2 hcon3 hl1 hl8 hlw htx hbt hgd HGR1 HIR1 n0 n1 ⊢
    have HM := Lib.hid hlw
    have HBT := Lib.hid hbt
    have HGD := Lib.hid hgd
    have HTX := Lib.hid htx
    clear hm hwl hX hgood hlw hbt hgd htx n2
    have hz0 : ((m : Int) == 0) = false := by simp; omega
    go_wp2_with fail
    refine (hcon1 _ HGR1 HIR1).mono ?_
    rintro e w2 ⟨rfl, hb2⟩
    have HGR2 := HGR1.below hb2
    have HIR2 := HIR1.below hb2
    replace hb2 := below_after hb1 hb2
    clear HGR1 HIR1 hb1
    go_wp2_with fail
    refine (hcon2 _ HGR2 HIR2).mono ?_
    rintro e w3 ⟨rfl, hb3⟩
    have HGR3 := HGR2.below hb3
    have HIR3 := HIR2.below hb3
    replace hb3 := below_after hb2 hb3
    clear HGR2 HIR2 hb2 hcon1 hcon2
    have HG3 := Lib.hid HGR3
    have HI3 := Lib.hid HIR3
    go_wp2
    go_loopw [7, 8, 9] (fun bv qv i wr => ∃ k b q : Nat, k ≤ m ∧ b ≤ k ∧ i = .int .i64 (k : Int) ∧ bv = .int .i64 (b : Int) ∧ qv = .int .i64 (q : Int) ∧ Hid (b = 0 ∨ (q < m ∧ (l.getD q Sg.it0).ver = false)) ∧ Below w3.heap.size w3 wr)
      (fun _ _ i _ => m - (intOf i).toNat)
    case atStart => exact ⟨0, 0, 0, by omega, by omega, rfl, rfl, rfl, Lib.hid (Or.inl rfl), Below.refl _ _⟩
    case round =>
      obtain ⟨k, b, q, hk, hbk, rfl, rfl, rfl, hbad, hbel⟩ := hrel
      by_cases hlt : k < m
      · obtain ⟨ba, offa, hea, hba, hca⟩ := (HGR3.below hbel).2 (by omega)
        cases hea
        obtain ⟨c0, c1, c2, c3⟩ := hca k hlt
        have htt := HTX.out k hlt
        have hstep : ∀ x, Hid (l.getD k Sg.it0 = x) → x.ver = false → Hid (b + 1 = 0 ∨ (k < m ∧ (l.getD k Sg.it0).ver = false)) := fun x hx hv => Lib.hid (Or.inr ⟨hlt, by rw [hx.out]; exact hv⟩)
        obtain ⟨x, hx⟩ : ∃ x, Hid (l.getD k Sg.it0 = x) := ⟨_, Lib.hid rfl⟩
        replace hstep := hstep x hx
        rw [hx.out] at c0 c1 c2 c3 htt
        obtain ⟨K, t, R, S⟩ := x
        simp only [Nat.zero_add] at c0 c1 c2 c3 htt
        clear hx hca hba
        have hl1' : g < w3.heap.size := by
          obtain ⟨_, _, he, h, _⟩ := HGR3.2 (by omega)
          cases he; exact h
        have e1 := (hbel.cell (p := ⟨g, k * 4, none⟩) hl1').symm.trans c0
        have e2 := (hbel.cell (p := ⟨g, k * 4 + 1, none⟩) hl1').symm.trans c1
        have e3 := (hbel.cell (p := ⟨g, k * 4 + 2, none⟩) hl1').symm.trans c2
        have e4 := (hbel.cell (p := ⟨g, k * 4 + 3, none⟩) hl1').symm.trans c3
        have hSof : ∀ {W W' : World}, Below w3.heap.size w3 W → Below W.heap.size W W' → W'.cell? ⟨g, k * 4, none⟩ = some (.int .i64 K) ∧ W'.cell? ⟨g, k * 4 + 1, none⟩ = some (.string t) ∧ W'.cell? ⟨g, k * 4 + 2, none⟩ = some (.int .i64 R) ∧ W'.cell? ⟨g, k * 4 + 3, none⟩ = some (.int .i64 S) := fun hW hW' => by
          have hb := hW.trans (hW'.mono hW.size)
          exact ⟨(hb.cell (p := ⟨g, k * 4, none⟩) hl1').trans e1, (hb.cell (p := ⟨g, k * 4 + 1, none⟩) hl1').trans e2, (hb.cell (p := ⟨g, k * 4 + 2, none⟩) hl1').trans e3, (hb.cell (p := ⟨g, k * 4 + 3, none⟩) hl1').trans e4⟩
        clear e1 e2 e3 e4 HGR3 HIR3
        have hcon := fun W => implVerify_any K R S t W htt
        have hS0 : wr.drew.cell? ⟨g, k * 4, none⟩ = some (.int .i64 K) ∧ wr.drew.cell? ⟨g, k * 4 + 1, none⟩ = some (.string t) ∧ wr.drew.cell? ⟨g, k * 4 + 2, none⟩ = some (.int .i64 R) ∧ wr.drew.cell? ⟨g, k * 4 + 3, none⟩ = some (.int .i64 S) := ⟨c0, c1, c2, c3⟩
        cases hv : Sg.ver K t R S
        · rw [hv] at hcon
          have hbad' := hstep hv
          clear hstep hbad hv
          go_wp2
          go_region_held3 (fun W => W.cell? ⟨g, k * 4, none⟩ = some (.int .i64 K) ∧ W.cell? ⟨g, k * 4 + 1, none⟩ = some (.string t) ∧ W.cell? ⟨g, k * 4 + 2, none⟩ = some (.int .i64 R) ∧ W.cell? ⟨g, k * 4 + 3, none⟩ = some (.int .i64 S)) (first | with_reducible exact hS0 | with_reducible exact hS1)
            (first
              | (go_at_call 17; refine (hcon _).mono ?_; rintro e w4 ⟨rfl, hb4⟩; have hS1 := hSof hbel.drew hb4))
          go_wp2
          go_roundw
          case rel => exact ⟨k + 1, b + 1, k, by omega, by omega, by simp, by simp, rfl, hbad', below_after hbel.drew hb4⟩
          case measure => simp [intOf]; omega
        · rw [hv] at hcon
          clear hstep hv
          go_wp2
          go_region_held3 (fun W => W.cell? ⟨g, k * 4, none⟩ = some (.int .i64 K) ∧ W.cell? ⟨g, k * 4 + 1, none⟩ = some (.string t) ∧ W.cell? ⟨g, k * 4 + 2, none⟩ = some (.int .i64 R) ∧ W.cell? ⟨g, k * 4 + 3, none⟩ = some (.int .i64 S)) (first | with_reducible exact hS0 | with_reducible exact hS1)
            (first
              | (go_at_call 17; refine (hcon _).mono ?_; rintro e w4 ⟨rfl, hb4⟩; have hS1 := hSof hbel.drew hb4))
          go_wp2
          go_roundw
          case rel => exact ⟨k + 1, b, q, by omega, by omega, by simp, rfl, rfl, hbad, below_after hbel.drew hb4⟩
          case measure => simp [intOf]; omega
      · have hk2 : k = m := by omega
        subst hk2
        by_cases hb1 : b = 1
        · subst hb1
          obtain ⟨hq, hqv⟩ := hbad.out.resolve_left (by decide)
          have HF := HBT.out q hq hqv
          have hwin := (Sg.win_iff _).mp (HGD.out q hq)
          obtain ⟨y, hy⟩ : ∃ y, ws.getD q 0 = y := ⟨_, rfl⟩
          rw [hy] at hwin HF
          have HY := Lib.hid hy
          have HFF := Lib.hid HF
          have HI4 := HI3.out.below hbel
          have HG4 := HG3.out.below hbel
          obtain ⟨i0, hi, hz0', hz1, hz2⟩ := info_parts info_int5
          have hone : ∀ u ∈ ws.map (Value.int .i64), u.oneCell' = true := by
            intro u hu
            obtain ⟨t, _, rfl⟩ := List.mem_map.1 hu
            rfl
          have HONE := Lib.hid hone
          have HN := Lib.hid (IR.news2 (HI4.alloc (.cells #[] 3)))
          clear hbad hqv hy HF HI4 hone HGD HBT HTX HGR3 HIR3
          have hqk : ((q : Int) < (k : Int)) := by omega
          go_wp2_with (at_builtin; refine wpList_append_own _ rfl _ _ 23 rfl wr.heap.size 3 i0 (.int .i64 0) 1 8 Try.underlying23 hi hz0' hz1 hz2 rfl (by decide) (.slice (some ⟨wr.heap.size, 0, none⟩) 0 0) 0 [] rfl (World.ownsRow_made (e := 3) (size := 1) wr #[] 0 (Nat.le_refl _) (by decide) rfl) ⟨g', 0, none⟩ k cp' (ws.map (Value.int .i64)) rfl (by simp [HM.out]) HN.out HONE.out ?c3 ?c4 ?c5 ?_)
          case c3 => unfold maxLen; omega
          case c4 => omega
          case c5 => simp
          intro x5 w5 hown5 hgrow5 _
          have hG5 : wr.grownBy w5 none := gtrans_own (World.grownBy_alloc _ _ _) hgrow5 (fun j he => by cases he; exact Nat.le_refl _)
          have hb5 : Below w3.heap.size w3 w5 := Below.grown hbel hG5 hbel.size (fun j hj => by cases hj)
          replace hown5 : w5.ownsRow wr.heap.size 3 1 x5 k (ws.map (Value.int .i64)) := by simpa using hown5
          obtain ⟨gx, cx, cur, hx5, hgx, hcur⟩ : ∃ gx cx cur, x5 = .slice (some ⟨gx, 0, none⟩) k cx ∧ wr.heap.size ≤ gx ∧ w5.heap[gx]? = some (.cells cur 3 (0, 0)) := by
            rcases hown5.2 with ⟨h, h0⟩ | ⟨g, cap', cur, he, hg, hh, _⟩
            · exfalso; omega
            · exact ⟨_, _, _, he, hg, hh⟩
          subst hx5
          have HI5 := (IR.own hown5).2
          have hcell : w5.cell? ⟨gx, q, none⟩ = some (.int .i64 y) := by
            obtain ⟨b', off', he, _, hc⟩ := HI5.2 (by omega)
            cases he
            have := hc q hq
            rw [Nat.zero_add, HY.out] at this
            exact this
          have hfro : w5.frozen? ⟨gx, q, none⟩ = false := by simp [World.frozen?, hcur]
          have HI6 := Lib.hid (IR.set2 HI5 hq ((y + 1) % 1073741789))
          have hle : w3.heap.size ≤ gx := Nat.le_trans hbel.size hgx
          have hb6 := hb5.setCell (p := ⟨gx, q, none⟩) hle (.int .i64 ((y + 1) % 1073741789))
          have HG6 := Lib.hid (HG3.out.below hb6)
          have hw1 : IntKind.i64.wrap (y + 1) = y + 1 := by unfold IntKind.wrap; simp [IntKind.bits, IntKind.signed]; omega
          have hw2 : Int.tmod (y + 1) 1073741789 = (y + 1) % 1073741789 := Int.tmod_eq_emod_of_nonneg (by omega)
          clear hown5 hgrow5 hG5 hb5 hcur HI5 HG4 HI3 HN HONE HY HM hi hz0' hz1 hz2
          go_wp2_with fail
          refine (hcon3 (some ⟨gx, 0, none⟩) cx (ws.set q ((y + 1) % 1073741789)) _ HG6.out HI6.out).mono ?_
          rw [HFF.out]
          rintro e7 w7 ⟨rfl, hb7⟩
          go_wp2
          go_ret
          exact ⟨rfl, below_after hb3 (below_after hb6 hb7)⟩
        · have hb2 : ((b : Int) == 1) = false := by simp; omega
          clear hbad HGD HBT HTX HGR3 HIR3
          go_wp2
          go_ret
          exact ⟨rfl, below_after hb3 hbel⟩
/-! ### The row's step. -/
theorem own : ownKnob Try.prog.godebug = none := by kernel_rfl
theorem laidOut : laidOutB Try.prog = true := by kernel_rfl
set_option maxRecDepth 100000 in
theorem lifted (os : Os) (started : os.Started) (H : Type) (enc : TypeId × Value → H) :
    ReturnsInHanded {} Try.checked os 5 .any (Rows.fnBatchTwoSpec.pre6 enc Try.prog Try.f5 Rows.fnBatchTwoRow.domain false) (Rows.fnBatchTwoSpec.post enc Try.prog Try.f5 false true false false) := by
  refine returnsInHanded_of_change (C := Try.checked) own started (by kernel_rfl) Try.func5
    (ChangeSpec.witness6 (enc := enc) (C := Try.checked) false ⟨#[], #[.slice none 0 0], []⟩ 8 (by kernel_rfl) (by kernel_rfl) (by kernel_rfl) (by kernel_rfl)) ?_
  intro W base args ds gs before hval0 hW hcnd _
  have hval : ∀ (j : Nat) t v, Try.f5.params[j]? = some t → args[j]? = some v → Value.okWide Try.prog W .any base t v := hval0
  have hW' := hW
  obtain ⟨p, q, hA0, hV, rfl, hfz, hnd⟩ := hW
  have hA : DataW.TrodAll enc Try.prog W 0 (fun _ => true) true Try.f5.params.toList args.toList ds p := hA0
  rw [Try.params5] at hA hval
  obtain ⟨v0, vs0, d0, ds0, p0, q0, hargs, rfl, rfl, h0, r0⟩ := trodAll_cons hA
  obtain ⟨rfl, rfl, rfl⟩ := trodAll_nil r0
  obtain rfl : args = #[v0] := by cases args; simp_all
  obtain ⟨rfl, rfl⟩ := trodVars_none hV
  obtain ⟨a0, len0, cap0, rfl⟩ := okWide_slice Try.underlying22 (hval 0 22 v0 rfl rfl)
  have k0 := h0
  have lt0 : ∀ x ∈ p0, x.block < W.heap.size := by obtain ⟨m, hm⟩ := k0; exact DataW.trod_lt m _ _ _ hm
  obtain ⟨z0, w0⟩ : ∃ zs, IsRow .u8 W a0 len0 cap0 zs := by
    obtain ⟨fuel, hf⟩ := h0
    rcases open_ints Try.underlying22 Try.underlying5 (by kernel_rfl) hf with ⟨hcs, _⟩ | ⟨x, l, c, zs, hcs, _, hl, hm, hz, _, hcell, hwz⟩
    · simp [Value.cells] at hcs
      obtain ⟨rfl, rfl, rfl⟩ := hcs
      exact ⟨[], .inl ⟨rfl, rfl, rfl, rfl⟩⟩
    · simp [Value.cells] at hcs
      obtain ⟨rfl, rfl, rfl⟩ := hcs
      exact ⟨zs, .inr ⟨_, rfl, hl, hm, by simpa using hz, hcell, hwz⟩⟩
  clear hA0 hval0
  refine (walk a0 len0 cap0 z0 W w0).mono fun e W' ⟨he, bel⟩ => ?_
  subst he
  exact ⟨_, rfl, _, _, _, [], _, [], hW', trodAll_mk1 (shut_bool Try.underlying4 _), (trodAll_cons_mk (Below.trod laidOut (by kernel_rfl) (of_decide_eq_true (by kernel_rfl)) k0 bel lt0) trodAll_mk0), rfl, bel.frame _, fun h => by cases h⟩
theorem over : Rows.fnBatchTwoRow.holds Try.pinned (OpenSpec.ofChange Rows.fnBatchTwoSpec) :=
  OpenClaim.holds_of_wide 5 Try.f5 rfl rfl rfl rfl rfl rfl rfl ⟨rfl, rfl, rfl, rfl, rfl⟩ rfl rfl rfl rfl rfl (by kernel_rfl) Try.func5 (by kernel_rfl)
    (of_decide_eq_true (by kernel_rfl)) (by unfold Func.isWrapper; first | (rw [if_pos (by decide +kernel)]; kernel_rfl) | (rw [if_neg (by decide +kernel)]; exact ⟨rfl, rfl⟩))
    (fun os started H enc _ => lifted os started H enc)
theorem proved : Rows.FnBatchTwoSaid := over
#print axioms proved
end Go.Proofs.Ytimajobbkemdbab.fnBatchTwo
