/-
  Contracts of chapter 8: HideParts; of the model.
-/
import Derived.Test.YtbhpealkhpginaaQt
namespace Go.Proofs.Ytbhpealkhpginaa
open Go.RowKit

/-- What HideParts answers. -/
def Po.hiOk (l : List (Int × Int)) (x s : Int) : Bool := Po.ok l && decide (l.length < 8) && Po.inX x && Po.inY s && Po.fresh l x l.length
def Po.hi0 (l : List (Int × Int)) (x s : Int) : Int := if Po.hiOk l x s then x else 0
def Po.hi1 (l : List (Int × Int)) (x s : Int) : Int := if Po.hiOk l x s then Po.val (Po.all s l) x else 0
theorem Po.hi_no {l : List (Int × Int)} {x s : Int} (h : Po.hiOk l x s = false) : Po.hiOk l x s = false ∧ Po.hi0 l x s = 0 ∧ Po.hi1 l x s = 0 := by unfold Po.hi0 Po.hi1; rw [h]; exact ⟨rfl, rfl, rfl⟩
theorem Po.hi_yes {l : List (Int × Int)} {x s : Int} (h : Po.hiOk l x s = true) : Po.hiOk l x s = true ∧ Po.hi0 l x s = x ∧ Po.hi1 l x s = Po.val (Po.all s l) x := by unfold Po.hi0 Po.hi1; rw [h]; exact ⟨rfl, rfl, rfl⟩
set_option maxRecDepth 100000 in
set_option maxHeartbeats 3200000 in
theorem specHideParts_any (a : Option Addr) (len cap : Nat) (l : List (Int × Int)) (x s : Int) (w : World) (h : QR w a len l) :
    Calls Try.prog 24 #[.slice a len cap, .int .i64 x, .int .i64 s] w fun e w' => e = .returned (.tuple #[.agg #[.int .i64 (Po.hi0 l x s), .int .i64 (Po.hi1 l x s)], .bool (Po.hiOk l x s)]) ∧ Below w.heap.size w w' := by
  have hl := h.1
  obtain ⟨j0, hj, hy0, hy1, hy2⟩ := info_parts info_part
  have HX0 : Bk w.heap.size 35 #[.int .i64 0, .int .i64 0] (w.alloc (.cells #[.int .i64 0, .int .i64 0] 35 (0, 0))) := Bk.new _ _ _
  have hb0 : Below w.heap.size w (w.alloc (.cells #[.int .i64 0, .int .i64 0] 35 (0, 0))) := below_alloc (Below.refl _ _) _
  have hQ0 := h.alloc (.cells #[.int .i64 0, .int .i64 0] 35 (0, 0))
  have hcon := l8Ok_any a len cap l _ hQ0
  have hxi : (decide (1 ≤ x) && decide (x ≤ 1073741788)) = Po.inX x := rfl
  have hconX := fun W => l6In_any x 1 1073741788 W
  rw [hxi] at hconX
  have hyi : (decide (0 ≤ s) && decide (s ≤ 1073741788)) = Po.inY s := rfl
  have hconY := fun W => l6In_any s 0 1073741788 W
  rw [hyi] at hconY
  clear hxi hyi
  cases hok : Po.ok l
  · rw [hok] at hcon
    have HN := Lib.hid (Po.hi_no (l := l) (x := x) (s := s) (by unfold Po.hiOk; rw [hok]; rfl))
    clear h hok hQ0
    go_enter Try.func24, Try.ntmps24
    go_wp2_with fail
    refine hcon.mono ?_
    rintro e1 w1 ⟨rfl, hb1⟩
    have HX1 := HX0.below hb1
    have hc1 := below_after hb0 hb1
    clear HX0 hb0 hb1 hcon hconX hconY
    obtain ⟨z0, z1⟩ := Bk.c2 HX1
    obtain ⟨f0, f1⟩ := HX1.f2
    have HXz := Bk.store2 HX1 (.int .i64 0) (.int .i64 0)
    have hcz := below_store2 hc1 w.heap.size (by omega) (.int .i64 0) (.int .i64 0)
    clear HX1 hc1
    go_wp2
    refine bodyPost_ret (results_cell_row2 (P := Try.prog) rfl _ _ w.heap.size 35 _ (0, 0) _ rfl HXz.held Try.underlying35 rfl (by kernel_rfl)) rfl ?_
    exact ⟨by rw [HN.out.1, HN.out.2.1, HN.out.2.2]; rfl, hcz⟩
  rw [hok] at hcon
  obtain ⟨q1, q2, q3⟩ := Po.ok_bd hok
  rw [hl] at q1 q2 q3
  have h18 := ((Po.ok_iff l).mp hok).1
  go_enter Try.func24, Try.ntmps24
  go_wp2_with fail
  refine hcon.mono ?_
  rintro e1 w1 ⟨rfl, hb1⟩
  have HX1 := HX0.below hb1
  have hc1 := below_after hb0 hb1
  have hQ1 := hQ0.below hb1
  clear HX0 hb0 hb1 hcon hQ0 h
  by_cases h8 : len = 8
  · have HN := Lib.hid (Po.hi_no (l := l) (x := x) (s := s) (by unfold Po.hiOk; rw [show decide (l.length < 8) = false by simp; omega, Bool.and_false]; rfl))
    have h81 : ((len : Int) == 8) = true := by simp; omega
    have h82 : decide ((len : Int) = 8) = true := by simp; omega
    clear hQ1 hconX hconY q1 q2 q3 h18 hl hok
    obtain ⟨z0, z1⟩ := Bk.c2 HX1
    obtain ⟨f0, f1⟩ := HX1.f2
    have HXz := Bk.store2 HX1 (.int .i64 0) (.int .i64 0)
    have hcz := below_store2 hc1 w.heap.size (by omega) (.int .i64 0) (.int .i64 0)
    clear HX1 hc1
    go_wp2
    refine bodyPost_ret (results_cell_row2 (P := Try.prog) rfl _ _ w.heap.size 35 _ (0, 0) _ rfl HXz.held Try.underlying35 rfl (by kernel_rfl)) rfl ?_
    exact ⟨by rw [HN.out.1, HN.out.2.1, HN.out.2.2]; rfl, hcz⟩
  have h81 : ((len : Int) == 8) = false := by simp; omega
  have h82 : decide ((len : Int) = 8) = false := by simp; omega
  have h83 : ¬ (len : Int) = 8 := by omega
  have hl8 : l.length < 8 := by omega
  cases hx : Po.inX x
  · have HN := Lib.hid (Po.hi_no (l := l) (x := x) (s := s) (by unfold Po.hiOk; rw [hx, Bool.and_false]; rfl))
    rw [hx] at hconX
    clear hQ1 q1 q2 q3 h18 hl hok hx hconY
    go_wp2_with fail
    refine (hconX _).mono ?_
    rintro e2 w2 ⟨rfl, hw2⟩
    subst hw2
    obtain ⟨z0, z1⟩ := Bk.c2 HX1
    obtain ⟨f0, f1⟩ := HX1.f2
    have HXz := Bk.store2 HX1 (.int .i64 0) (.int .i64 0)
    have hcz := below_store2 hc1 w.heap.size (by omega) (.int .i64 0) (.int .i64 0)
    clear HX1 hc1
    go_wp2
    refine bodyPost_ret (results_cell_row2 (P := Try.prog) rfl _ _ w.heap.size 35 _ (0, 0) _ rfl HXz.held Try.underlying35 rfl (by kernel_rfl)) rfl ?_
    exact ⟨by rw [HN.out.1, HN.out.2.1, HN.out.2.2]; rfl, hcz⟩
  rw [hx] at hconX
  cases hy : Po.inY s
  · have HN := Lib.hid (Po.hi_no (l := l) (x := x) (s := s) (by unfold Po.hiOk; rw [hy, Bool.and_false]; rfl))
    rw [hy] at hconY
    clear hQ1 q1 q2 q3 h18 hl hok hx hy
    go_wp2_with fail
    refine (hconX _).mono ?_
    rintro e2 w2 ⟨rfl, hw2⟩
    subst hw2
    go_wp2_with fail
    refine (hconY _).mono ?_
    rintro e3 w3 ⟨rfl, hw3⟩
    subst hw3
    obtain ⟨z0, z1⟩ := Bk.c2 HX1
    obtain ⟨f0, f1⟩ := HX1.f2
    have HXz := Bk.store2 HX1 (.int .i64 0) (.int .i64 0)
    have hcz := below_store2 hc1 w.heap.size (by omega) (.int .i64 0) (.int .i64 0)
    clear HX1 hc1
    go_wp2
    refine bodyPost_ret (results_cell_row2 (P := Try.prog) rfl _ _ w.heap.size 35 _ (0, 0) _ rfl HXz.held Try.underlying35 rfl (by kernel_rfl)) rfl ?_
    exact ⟨by rw [HN.out.1, HN.out.2.1, HN.out.2.2]; rfl, hcz⟩
  rw [hy] at hconY
  have HOK : Hid (Po.fresh l x l.length = true → Po.hiOk l x s = true) := Lib.hid fun hf => by unfold Po.hiOk; rw [hok, hx, hy, hf, decide_eq_true hl8]; rfl
  have HNO : Hid (∀ j, j < l.length → Po.X l j = x → Po.hiOk l x s = false) := Lib.hid fun j hj he => by unfold Po.hiOk; rw [Po.fresh_no he l.length hj, Bool.and_false]
  obtain ⟨x0, x1⟩ := (Po.inX_iff x).mp hx
  obtain ⟨s0, s1⟩ := (Po.inY_iff s).mp hy
  clear hok hx hy
  go_wp2_with fail
  refine (hconX _).mono ?_
  rintro e2 w2 ⟨rfl, hw2⟩
  subst hw2
  go_wp2_with fail
  refine (hconY _).mono ?_
  rintro e3 w3 ⟨rfl, hw3⟩
  subst hw3
  go_wp2
  go_loopw [8] (fun i wr => ∃ k : Nat, k ≤ len ∧ i = .int .i64 (k : Int) ∧ Hid (Po.fresh l x k = true) ∧ Below w1.heap.size w1 wr)
    (fun i _ => len - (intOf i).toNat)
  case atStart => exact ⟨0, by omega, rfl, Lib.hid rfl, Below.refl _ _⟩
  case round =>
    clear hconX hconY
    obtain ⟨k, hk, rfl, hfr, hbel⟩ := hrel
    by_cases hlt : k < len
    · obtain ⟨b, off, rfl, hb, hc⟩ := (hQ1.below hbel).2 (by omega)
      have c0 := (hc k hlt).1
      have HNk := Lib.hid (HNO.out k (by omega))
      have HFk : Hid (Po.X l k ≠ x → Po.fresh l x (k + 1) = true) := Lib.hid fun hne => by
        show (Po.fresh l x k && !(Po.X l k == x)) = true
        rw [hfr.out, Bool.true_and, Bool.not_eq_true', beq_eq_false_iff_ne]
        exact hne
      obtain ⟨V, HV⟩ : ∃ V, Hid (Po.X l k = V) := ⟨_, Lib.hid rfl⟩
      rw [HV.out] at c0 HNk HFk
      clear hc HNO HOK hfr HV q2 q3
      by_cases he : V = x
      · have HN := Lib.hid (Po.hi_no (HNk.out he))
        subst he
        have HX2 := HX1.below hbel
        have hc2 := below_after hc1 hbel
        clear HNk HFk HX1 hc1 hbel hQ1
        obtain ⟨z0, z1⟩ := Bk.c2 HX2
        obtain ⟨f0, f1⟩ := HX2.f2
        have HXz := Bk.store2 HX2 (.int .i64 0) (.int .i64 0)
        have hcz := below_store2 hc2 w.heap.size (by omega) (.int .i64 0) (.int .i64 0)
        clear HX2 hc2
        go_wp2
        refine bodyPost_ret (results_cell_row2 (P := Try.prog) rfl _ _ w.heap.size 35 _ (0, 0) _ rfl HXz.held Try.underlying35 rfl (by kernel_rfl)) rfl ?_
        exact ⟨by rw [HN.out.1, HN.out.2.1, HN.out.2.2]; rfl, hcz⟩
      · have HF2 := Lib.hid (HFk.out he)
        have he2 : (V == x) = false := by simp [he]
        have he3 : decide (V = x) = false := by simp [he]
        clear HNk HFk
        go_wp2
        go_roundw
        case rel => exact ⟨k + 1, by omega, by simp, HF2, hbel⟩
        case measure => simp [intOf]; omega
    · have hk2 : k = len := by omega
      have hfr2 := hfr.out
      rw [hk2, ← hl] at hfr2
      have HN := Lib.hid (Po.hi_yes (HOK.out hfr2))
      have hQ2 := hQ1.below hbel
      have HX2 := HX1.below hbel
      have hc2 := below_after hc1 hbel
      have hk3 : ¬ (k : Int) < (len : Int) := by omega
      clear HOK HNO hfr hfr2 hQ1 HX1 hc1 hbel hk2 hlt hk
      have HAX : Hid (∀ j, j < len + 1 → 0 ≤ Po.X (Po.all s l) j ∧ Po.X (Po.all s l) j ≤ 1073741788) := Lib.hid fun j hj => by
        cases j with
        | zero => exact ⟨Int.le_refl 0, (show (0 : Int) ≤ 1073741788 by decide)⟩
        | succ j => exact q2 j (by omega)
      have HAY : Hid (∀ j, j < len + 1 → 0 ≤ Po.Y (Po.all s l) j ∧ Po.Y (Po.all s l) j ≤ 1073741788) := Lib.hid fun j hj => by
        cases j with
        | zero => exact ⟨s0, s1⟩
        | succ j => exact q3 j (by omega)
      have hown0 := World.ownsRow_lit (e := 35) (size := 2) wr #[.int .i64 0, .int .i64 s] 1 (Nat.le_refl _) (by decide) rfl
      have hb3 := below_alloc (Below.refl wr.heap.size wr) (.cells #[.int .i64 0, .int .i64 s] 35)
      obtain ⟨B2, hB2⟩ : ∃ B, Hid (B = wr.heap.size) := ⟨_, Lib.hid rfl⟩
      rw [← hB2.out] at hown0 hb3
      clear q2 q3
      go_wp2
      go_loopw [9, 10] (fun o i wr2 => ∃ (q g cp : Nat), q ≤ len ∧ i = .int .i64 (q : Int) ∧ o = .slice (some ⟨g, 0, none⟩) (q + 1) cp ∧ wr2.ownsRow B2 35 2 (.slice (some ⟨g, 0, none⟩) (q + 1) cp) (q + 1) (Po.enc (Po.all s (l.take q))) ∧ Below B2 wr wr2)
        (fun _ i _ => len - (intOf i).toNat)
      case atStart => exact ⟨0, B2, 1, by omega, rfl, by rw [hB2.out], hown0, hb3⟩
      case round =>
        clear hown0 hb3
        obtain ⟨q, g, cp, hq, rfl, rfl, hown, hbel2⟩ := hrel
        have hbel3 := hbel2
        rw [hB2.out] at hbel3
        have hQ3 := hQ2.below hbel3
        have HX3 := HX2.below hbel3
        have hc3 := below_after hc2 hbel3
        have hlo := hown.lt _ rfl
        by_cases hlq : q < len
        · obtain ⟨b, off, rfl, hb, hcc⟩ := hQ3.2 (by omega)
          obtain ⟨d0, d1⟩ := hcc q hlq
          have HL : Hid (Po.all s (l.take (q + 1)) = Po.all s (l.take q) ++ [(Po.X l q, Po.Y l q)]) := Lib.hid (by
            unfold Po.all Po.X Po.Y
            rw [List.take_succ_eq_append_getElem (by omega : q < l.length), List.getD_eq_getElem?_getD, List.getElem?_eq_getElem (by omega : q < l.length), List.cons_append]
            rfl)
          obtain ⟨V, HV⟩ : ∃ V, Hid (Po.X l q = V) := ⟨_, Lib.hid rfl⟩
          obtain ⟨Y, HY⟩ : ∃ V, Hid (Po.Y l q = V) := ⟨_, Lib.hid rfl⟩
          rw [HV.out] at d0 HL
          rw [HY.out] at d1 HL
          have hal := hbel2.alloc (by omega) (.cells #[.int .i64 V, .int .i64 Y] 35 (0, 0))
          clear hcc HV HY hbel2 hbel3 hQ3 hQ2 HX3 HX2 hc3 hc2 HN HAX HAY
          go_wp2_with (at_builtin; refine wpList_append_own _ rfl _ _ 26 rfl B2 35 j0 (.agg #[.int .i64 0, .int .i64 0]) 2 16 Try.underlying26 hj hy0 hy1 hy2 rfl (by decide) _ _ _ rfl (hown.alloc (.cells #[.int .i64 V, .int .i64 Y] 35 (0, 0))) ⟨wr.heap.size, 0, none⟩ 1 1 [.int .i64 V, .int .i64 Y] rfl rfl ?c1 ?c2 ?c3 ?c4 ?c5 ?_)
          case c2 => exact ⟨rfl, rfl⟩
          case c3 => first | omega | (unfold maxLen; omega)
          case c4 => omega
          case c5 => first | omega | (simp; omega)
          intro v' w7 hown7 hgrow _
          have hb7 := Below.grown hal hgrow (by simp; omega) (fun j he => (hown.lt _ he).1)
          obtain ⟨g5, cp5, rfl⟩ : ∃ g cp, v' = .slice (some ⟨g, 0, none⟩) (q + 1 + 1) cp := by
            rcases hown7.2 with ⟨h, h0⟩ | ⟨g, cap, cur, h, _⟩
            · omega
            · exact ⟨_, _, h⟩
          have hown8 : w7.ownsRow B2 35 2 (.slice (some ⟨g5, 0, none⟩) (q + 1 + 1) cp5) (q + 1 + 1) (Po.enc (Po.all s (l.take (q + 1)))) := by
            rw [HL.out, Po.enc_append]
            exact hown7
          clear hown7 hgrow hown HL hal
          go_wp2
          go_roundw
          case rel => exact ⟨q + 1, g5, cp5, by omega, by simp, rfl, hown8, hb7⟩
          case measure => simp [intOf]; omega
        · have hq2 : q = len := by omega
          have hE : l.take q = l := by rw [hq2, ← hl, List.take_length]
          rw [hE] at hown
          have hQA := (QR.own hown).2
          have hcon2 := fun W (hh : QR W (some ⟨g, 0, none⟩) (q + 1) (Po.all s l)) => l8At_any (some ⟨g, 0, none⟩) (q + 1) cp (Po.all s l) x W hh (by omega) (by rw [hq2]; exact HAX.out) (by rw [hq2]; exact HAY.out) (by omega) x1
          obtain ⟨V, HV⟩ : ∃ V, Hid (Po.val (Po.all s l) x = V) := ⟨_, Lib.hid rfl⟩
          rw [HV.out] at hcon2 HN
          have hq3 : ¬ (q : Int) < (len : Int) := by omega
          clear hown hE HAX HAY hQ3 hQ2 HX2 hc2 hbel2 hbel3 HV hq2 hlq hq
          go_wp2_with fail
          refine (hcon2 _ hQA).mono ?_
          rintro e5 w5 ⟨rfl, hb5⟩
          have HX5 := HX3.below hb5
          have hc5 := below_after hc3 hb5
          obtain ⟨z0, z1⟩ := Bk.c2 HX5
          obtain ⟨f0, f1⟩ := HX5.f2
          have HX6 := Bk.store2 HX5 (.int .i64 x) (.int .i64 V)
          have hc6 := below_store2 hc5 w.heap.size (by omega) (.int .i64 x) (.int .i64 V)
          clear HX5 hc5 HX3 hc3 hb5 hQA hcon2
          go_wp2
          refine bodyPost_ret (results_cell_row2 (P := Try.prog) rfl _ _ w.heap.size 35 _ (0, 0) _ rfl HX6.held Try.underlying35 rfl (by kernel_rfl)) rfl ?_
          exact ⟨by rw [HN.out.1, HN.out.2.1, HN.out.2.2]; rfl, hc6⟩
end Go.Proofs.Ytbhpealkhpginaa
