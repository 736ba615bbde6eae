/-
  Contracts of chapter 8: valid shares, JoinParts, PartAt; of the model.
-/
import Derived.Test.YtbhpealkhpginaaQr
import Derived.Test.YtbhpealkhpginaaBa
namespace Go.Proofs.Ytbhpealkhpginaa
open Go.RowKit

theorem below_drewN8 {B : Nat} {w w1 : World} (h : Below B w w1) (n : Nat) : Below B w (w1.drewN n) := ⟨h.os, h.tape, h.output, h.size, h.block⟩
set_option maxRecDepth 100000 in
set_option maxHeartbeats 1600000 in
theorem l8Ok_any (a : Option Addr) (len cap : Nat) (l : List (Int × Int)) (w : World) (h : QR w a len l) :
    Calls Try.prog 46 #[.slice a len cap] w fun e w' => e = .returned (.bool (Po.ok l)) ∧ Below w.heap.size w w' := by
  have hl := h.1
  by_cases hr : ¬ (1 ≤ len ∧ len ≤ 8)
  · have HN : Hid (Po.ok l = false) := Lib.hid (Po.ok_no_room (by omega))
    have HT : Hid ((decide ((1 : Int) ≤ (len : Int)) && decide ((len : Int) ≤ 8)) = false) := Lib.hid (by simp; omega)
    clear hr h
    go_enter Try.func46, Try.ntmps46
    go_wp2_with fail
    refine (l6In_any (len : Int) 1 8 _).mono ?_
    rw [HT.out]
    rintro e1 w1 ⟨rfl, rfl⟩
    go_wp2
    go_ret
    exact ⟨by rw [HN.out]; rfl, Below.refl _ _⟩
  replace hr := Decidable.not_not.mp hr
  have HT : Hid ((decide ((1 : Int) ≤ (len : Int)) && decide ((len : Int) ≤ 8)) = true) := Lib.hid (by simp; omega)
  go_enter Try.func46, Try.ntmps46
  go_wp2_with fail
  refine (l6In_any (len : Int) 1 8 _).mono ?_
  rw [HT.out]
  rintro e1 w1 ⟨rfl, rfl⟩
  go_wp2
  go_loopw [3] (fun i wr => ∃ k : Nat, k ≤ len ∧ i = .int .i64 (k : Int) ∧ Hid (Po.gd l k = true) ∧ Below w.heap.size w wr)
    (fun i _ => len - (intOf i).toNat)
  case atStart => exact ⟨0, by omega, rfl, Lib.hid rfl, Below.refl _ _⟩
  case round =>
    obtain ⟨k, hk, rfl, hgd, hbel⟩ := hrel
    by_cases hlt : k < len
    · have h1 := h.below hbel
      obtain ⟨b, off, rfl, hb, hc⟩ := h1.2 (by omega)
      have c0 := (hc k hlt).1
      have c1 := (hc k hlt).2
      have HNo : Hid ((Po.inX (Po.X l k) && Po.inY (Po.Y l k) && Po.fresh l (Po.X l k) k) = false → Po.ok l = false) := Lib.hid fun hf => Po.ok_no_gd (Po.gd_no k hf _ (by omega))
      have HYes : Hid (Po.inX (Po.X l k) = true → Po.inY (Po.Y l k) = true → Po.fresh l (Po.X l k) k = true → Po.gd l (k + 1) = true) := Lib.hid fun a b c => by
        show (Po.gd l k && _) = true
        rw [hgd.out, a, b, c]
        rfl
      have HC : Hid (∀ j, j < len → wr.cell? ⟨b, off + j * 2, none⟩ = some (.int .i64 (Po.X l j))) := Lib.hid fun j hj => (hc j hj).1
      obtain ⟨V, HV⟩ : ∃ V, Hid (Po.X l k = V) := ⟨_, Lib.hid rfl⟩
      obtain ⟨Y, HY⟩ : ∃ V, Hid (Po.Y l k = V) := ⟨_, Lib.hid rfl⟩
      rw [HV.out] at c0 HNo HYes
      rw [HY.out] at c1 HNo HYes
      have hxi : (decide (1 ≤ V) && decide (V ≤ 1073741788)) = Po.inX V := rfl
      have hyi : (decide (0 ≤ Y) && decide (Y ≤ 1073741788)) = Po.inY Y := rfl
      have hconX := fun W => l6In_any V 1 1073741788 W
      have hconY := fun W => l6In_any Y 0 1073741788 W
      rw [hxi] at hconX
      rw [hyi] at hconY
      clear hc h1 hgd hxi hyi
      cases hx : Po.inX V
      · have HN := Lib.hid (HNo.out (by rw [hx]; rfl))
        rw [hx] at hconX
        clear HNo HYes HC h hx hconY HV HY
        go_wp2_with fail
        refine (hconX _).mono ?_
        rintro e2 w2 ⟨rfl, rfl⟩
        go_wp2
        go_ret
        exact ⟨by rw [HN.out]; rfl, hbel⟩
      · cases hy : Po.inY Y
        · have HN := Lib.hid (HNo.out (by rw [hy, Bool.and_false]; rfl))
          rw [hx] at hconX
          rw [hy] at hconY
          clear HNo HYes HC h hx hy HV HY
          go_wp2_with fail
          refine (hconX _).mono ?_
          rintro e2 w2 ⟨rfl, rfl⟩
          go_wp2_with fail
          refine (hconY _).mono ?_
          rintro e3 w3 ⟨rfl, rfl⟩
          go_wp2
          go_ret
          exact ⟨by rw [HN.out]; rfl, hbel⟩
        · replace HYes := Lib.hid (HYes.out hx hy)
          have HNo2 : Hid (Po.fresh l V k = false → Po.ok l = false) := Lib.hid fun hf => HNo.out (by rw [hf, Bool.and_false])
          rw [hx] at hconX
          rw [hy] at hconY
          clear HNo h hx hy HY
          go_wp2_with fail
          refine (hconX _).mono ?_
          rintro e2 w2 ⟨rfl, rfl⟩
          go_wp2_with fail
          refine (hconY _).mono ?_
          rintro e3 w3 ⟨rfl, rfl⟩
          go_wp2
          go_loopw [4] (fun i wr' => ∃ j : Nat, j ≤ k ∧ i = .int .i64 (j : Int) ∧ Hid (Po.fresh l V j = true) ∧ Below wr.heap.size wr wr')
            (fun i _ => k - (intOf i).toNat)
          case atStart => exact ⟨0, by omega, rfl, Lib.hid rfl, Below.refl _ _⟩
          case round =>
            obtain ⟨j, hj, rfl, hfr, hbel2⟩ := hrel
            by_cases hlj : j < k
            · have d0 := (hbel2.cell (p := ⟨b, off + j * 2, none⟩) hb).trans (HC.out j (by omega))
              have d1 := (hbel2.cell (p := ⟨b, off + k * 2, none⟩) hb).trans (HC.out k hlt)
              rw [HV.out] at d1
              have HF : Hid (Po.X l j ≠ V → Po.fresh l V (j + 1) = true) := Lib.hid fun hne => by
                show (Po.fresh l V j && !(Po.X l j == V)) = true
                rw [hfr.out, Bool.true_and, Bool.not_eq_true', beq_eq_false_iff_ne]
                exact hne
              have HG : Hid (Po.X l j = V → Po.ok l = false) := Lib.hid fun he => HNo2.out (Po.fresh_no he k hlj)
              obtain ⟨U, HU⟩ : ∃ U, Hid (Po.X l j = U) := ⟨_, Lib.hid rfl⟩
              rw [HU.out] at d0 HF HG
              clear HYes HNo2 HC HV HU hfr
              by_cases he : V = U
              · have HN := Lib.hid (HG.out he.symm)
                subst he
                clear HF HG
                go_wp2
                go_quiet (fail)
                go_wp2
                go_ret
                exact ⟨by rw [HN.out]; rfl, below_after hbel (below_drewN8 hbel2 _)⟩
              · have HF2 := Lib.hid (HF.out (fun h => he h.symm))
                have he2 : (V == U) = false := by simp [he]
                have he3 : decide (V = U) = false := by simp [he]
                clear HF HG
                go_wp2
                go_quiet (fail)
                go_wp2
                go_roundw
                case rel => exact ⟨j + 1, by omega, by simp, HF2, below_drewN8 hbel2 _⟩
                case measure => simp [intOf]; omega
            · have hj2 : j = k := by omega
              subst hj2
              have HG := Lib.hid (HYes.out hfr.out)
              have hbel3 := below_after hbel hbel2
              clear HYes HNo2 HC HV hfr hbel hbel2
              go_wp2
              go_roundw
              case rel => exact ⟨j + 1, by omega, by simp, HG, hbel3⟩
              case measure => simp [intOf]; omega
    · have hk2 : k = len := by omega
      subst hk2
      have HN : Hid (Po.ok l = true) := Lib.hid (Po.ok_yes (by omega) (by rw [hl]; exact hgd.out))
      clear h hgd
      go_wp2
      go_ret
      exact ⟨by rw [HN.out]; rfl, hbel⟩
theorem Po.ok_bd {l : List (Int × Int)} (h : Po.ok l = true) : l.length ≤ 9 ∧ (∀ j, j < l.length → 0 ≤ Po.X l j ∧ Po.X l j ≤ 1073741788) ∧ ∀ j, j < l.length → 0 ≤ Po.Y l j ∧ Po.Y l j ≤ 1073741788 := by
  have h1 := (Po.ok_iff l).mp h
  exact ⟨by omega, fun j hj => by have := (h1.2 j hj).1; omega, fun j hj => (h1.2 j hj).2.1⟩
set_option maxRecDepth 100000 in
set_option maxHeartbeats 800000 in
theorem specJoinParts_any (a : Option Addr) (len cap : Nat) (l : List (Int × Int)) (w : World) (h : QR w a len l) :
    Calls Try.prog 18 #[.slice a len cap] w fun e w' => e = .returned (.tuple #[.int .i64 (Po.join l), .bool (Po.ok l)]) ∧ Below w.heap.size w w' := by
  have hl := h.1
  have hcon := l8Ok_any a len cap l w h
  cases hok : Po.ok l
  · rw [hok] at hcon
    have HJ := Lib.hid (Po.join_no hok)
    clear h hok
    go_enter Try.func18, Try.ntmps18
    go_wp2_with fail
    refine hcon.mono ?_
    rintro e1 w1 ⟨rfl, hb1⟩
    go_wp2
    go_ret2
    exact ⟨by rw [HJ.out]; rfl, hb1⟩
  · rw [hok] at hcon
    have HJ := Lib.hid (Po.join_yes hok)
    obtain ⟨q1, q2, q3⟩ := Po.ok_bd hok
    rw [hl] at q1 q2 q3
    clear hok
    go_enter Try.func18, Try.ntmps18
    go_wp2_with fail
    refine hcon.mono ?_
    rintro e1 w1 ⟨rfl, hb1⟩
    have hcon2 := l8At_any a len cap l 0 w1 (h.below hb1) q1 q2 q3 (by omega) (by omega)
    clear h q1 q2 q3 hcon
    go_wp2_with fail
    refine hcon2.mono ?_
    rintro e2 w2 ⟨rfl, hb2⟩
    have hc2 := below_after hb1 hb2
    clear hb1 hb2
    go_wp2
    go_ret2
    exact ⟨by rw [HJ.out]; rfl, hc2⟩
/-- What PartAt answers. -/
def Po.atOk (l : List (Int × Int)) (x : Int) : Bool := Po.ok l && Po.inX x
def Po.at0 (l : List (Int × Int)) (x : Int) : Int := if Po.atOk l x then x else 0
def Po.at1 (l : List (Int × Int)) (x : Int) : Int := if Po.atOk l x then Po.val l x else 0
theorem Po.at_no {l : List (Int × Int)} {x : Int} (h : Po.atOk l x = false) : Po.atOk l x = false ∧ Po.at0 l x = 0 ∧ Po.at1 l x = 0 := by unfold Po.at0 Po.at1; rw [h]; exact ⟨rfl, rfl, rfl⟩
theorem Po.at_yes {l : List (Int × Int)} {x : Int} (h : Po.atOk l x = true) : Po.atOk l x = true ∧ Po.at0 l x = x ∧ Po.at1 l x = Po.val l x := by unfold Po.at0 Po.at1; rw [h]; exact ⟨rfl, rfl, rfl⟩
set_option maxRecDepth 100000 in
set_option maxHeartbeats 800000 in
theorem specPartAt_any (a : Option Addr) (len cap : Nat) (l : List (Int × Int)) (x : Int) (w : World) (h : QR w a len l) :
    Calls Try.prog 21 #[.slice a len cap, .int .i64 x] w fun e w' => e = .returned (.tuple #[.agg #[.int .i64 (Po.at0 l x), .int .i64 (Po.at1 l x)], .bool (Po.atOk l x)]) ∧ Below w.heap.size w w' := by
  have hl := h.1
  have HX0 : Bk w.heap.size 35 #[.int .i64 0, .int .i64 0] (w.alloc (.cells #[.int .i64 0, .int .i64 0] 35 (0, 0))) := Bk.new _ _ _
  have hb0 : Below w.heap.size w (w.alloc (.cells #[.int .i64 0, .int .i64 0] 35 (0, 0))) := below_alloc (Below.refl _ _) _
  have hcon := l8Ok_any a len cap l _ (h.alloc (.cells #[.int .i64 0, .int .i64 0] 35 (0, 0)))
  cases hok : Po.ok l
  · rw [hok] at hcon
    have HN := Lib.hid (Po.at_no (l := l) (x := x) (by unfold Po.atOk; rw [hok]; rfl))
    clear h hok
    go_enter Try.func21, Try.ntmps21
    go_wp2_with fail
    refine hcon.mono ?_
    rintro e1 w1 ⟨rfl, hb1⟩
    have HX1 := HX0.below hb1
    have hc1 := below_after hb0 hb1
    obtain ⟨z0, z1⟩ := Bk.c2 HX1
    obtain ⟨f0, f1⟩ := HX1.f2
    have HX2 := Bk.store2 HX1 (.int .i64 0) (.int .i64 0)
    have hc2 := below_store2 hc1 w.heap.size (by omega) (.int .i64 0) (.int .i64 0)
    clear HX1 HX0 hc1 hb0 hb1
    go_wp2
    refine bodyPost_ret (results_cell_row2 (P := Try.prog) rfl _ _ w.heap.size 35 _ (0, 0) _ rfl HX2.held Try.underlying35 rfl (by kernel_rfl)) rfl ?_
    exact ⟨by rw [HN.out.1, HN.out.2.1, HN.out.2.2]; rfl, hc2⟩
  · rw [hok] at hcon
    have hxi : (decide (1 ≤ x) && decide (x ≤ 1073741788)) = Po.inX x := rfl
    have hconX := fun W => l6In_any x 1 1073741788 W
    rw [hxi] at hconX
    clear hxi
    cases hx : Po.inX x
    · have HN := Lib.hid (Po.at_no (l := l) (x := x) (by unfold Po.atOk; rw [hx, Bool.and_false]))
      rw [hx] at hconX
      clear h hok hx
      go_enter Try.func21, Try.ntmps21
      go_wp2_with fail
      refine hcon.mono ?_
      rintro e1 w1 ⟨rfl, hb1⟩
      go_wp2_with fail
      refine (hconX _).mono ?_
      rintro e2 w2 ⟨rfl, rfl⟩
      have HX1 := HX0.below hb1
      have hc1 := below_after hb0 hb1
      obtain ⟨z0, z1⟩ := Bk.c2 HX1
      obtain ⟨f0, f1⟩ := HX1.f2
      have HX2 := Bk.store2 HX1 (.int .i64 0) (.int .i64 0)
      have hc2 := below_store2 hc1 w.heap.size (by omega) (.int .i64 0) (.int .i64 0)
      clear HX1 HX0 hc1 hb0 hb1
      go_wp2
      refine bodyPost_ret (results_cell_row2 (P := Try.prog) rfl _ _ w.heap.size 35 _ (0, 0) _ rfl HX2.held Try.underlying35 rfl (by kernel_rfl)) rfl ?_
      exact ⟨by rw [HN.out.1, HN.out.2.1, HN.out.2.2]; rfl, hc2⟩
    · have HN := Lib.hid (Po.at_yes (l := l) (x := x) (by unfold Po.atOk; rw [hok, hx]; rfl))
      obtain ⟨x0, x1⟩ := (Po.inX_iff x).mp hx
      obtain ⟨q1, q2, q3⟩ := Po.ok_bd hok
      rw [hl] at q1 q2 q3
      rw [hx] at hconX
      clear hok hx
      go_enter Try.func21, Try.ntmps21
      go_wp2_with fail
      refine hcon.mono ?_
      rintro e1 w1 ⟨rfl, hb1⟩
      go_wp2_with fail
      refine (hconX _).mono ?_
      rintro e2 w2 ⟨rfl, hw2⟩
      subst hw2
      have HX1 := HX0.below hb1
      have hc1 := below_after hb0 hb1
      have hcon2 := l8At_any a len cap l x w1 ((h.alloc (.cells #[.int .i64 0, .int .i64 0] 35 (0, 0))).below hb1) q1 q2 q3 (by omega) x1
      obtain ⟨V, HV⟩ : ∃ V, Hid (Po.val l x = V) := ⟨_, Lib.hid rfl⟩
      rw [HV.out] at hcon2 HN
      clear h q1 q2 q3 hcon HX0 hb0 hb1 hconX HV
      go_wp2_with fail
      refine hcon2.mono ?_
      rintro e3 w3 ⟨rfl, hb3⟩
      have HX3 := HX1.below hb3
      have hc3 := below_after hc1 hb3
      obtain ⟨z0, z1⟩ := Bk.c2 HX3
      obtain ⟨f0, f1⟩ := HX3.f2
      have HX4 := Bk.store2 HX3 (.int .i64 x) (.int .i64 V)
      have hc4 := below_store2 hc3 w.heap.size (by omega) (.int .i64 x) (.int .i64 V)
      clear HX1 HX3 hc1 hc3 hb3
      go_wp2
      refine bodyPost_ret (results_cell_row2 (P := Try.prog) rfl _ _ w.heap.size 35 _ (0, 0) _ rfl HX4.held Try.underlying35 rfl (by kernel_rfl)) rfl ?_
      exact ⟨by rw [HN.out.1, HN.out.2.1, HN.out.2.2]; rfl, hc4⟩
end Go.Proofs.Ytbhpealkhpginaa
