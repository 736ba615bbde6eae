/-
  Contracts of chapter 8: JoinParts, PartAt; of the program.
-/
import Derived.Test.YtbhpealkhpginaaRk
namespace Go.Proofs.Ytbhpealkhpginaa
open Go.RowKit

theorem Po.ok_ne {l : List (Int × Int)} (h : Po.ok l = true) : ∀ i j, i < l.length → j < l.length → j ≠ i → Po.X l j ≠ Po.X l i := fun i j hi hj hij => Po.dist_ne (Po.ok_dist h) i j hi hj hij
set_option maxRecDepth 100000 in
set_option maxHeartbeats 800000 in
theorem implJoinParts_any (a : Option Addr) (len cap : Nat) (l : List (Int × Int)) (w : World) (h : QR w a len l) (hcap : len ≤ cap) (hm : len ≤ 9223372036854775807) :
    Calls Try.prog 16 #[.slice a len cap] w fun e w' => e = .returned (.tuple #[.int .i64 (Po.join l), .bool (Po.ok l)]) ∧ Below w.heap.size w w' := by
  have hl := h.1
  have hcon := areShares_any a len cap l w h hcap hm
  cases hok : Po.ok l
  · rw [hok] at hcon
    have HJ := Lib.hid (Po.join_no hok)
    clear h hok
    go_enter Try.func16, Try.ntmps16
    go_wp2_with fail
    refine hcon.mono ?_
    rintro e1 w1 ⟨rfl, hb1⟩
    go_wp2
    go_ret2
    exact ⟨by rw [HJ.out]; rfl, hb1⟩
  · rw [hok] at hcon
    have HJ := Lib.hid (Po.join_yes hok)
    obtain ⟨q1, q2, q3⟩ := Po.ok_bd hok
    have q4 := Po.ok_ne hok
    rw [hl] at q1 q2 q3 q4
    clear hok
    have hfld : ∀ (V : Int) (W : World), (Instr.field 35 (.agg #[.int .i64 0, .int .i64 V]) 1).run Try.prog W = .ok (.int .i64 V) W := fun V W => by
      simp [Instr.field, part, isAgg, asAgg, run_underlying Try.underlying35, run_underlying Try.underlying3]
    go_enter Try.func16, Try.ntmps16
    go_wp2_with fail
    refine hcon.mono ?_
    rintro e1 w1 ⟨rfl, hb1⟩
    have hcon2 := pointThrough_any a len cap l 0 w1 (h.below hb1) q1 q2 q3 q4 (by omega) (by omega)
    obtain ⟨V, HV⟩ : ∃ V, Hid (Po.val l 0 = V) := ⟨_, Lib.hid rfl⟩
    rw [HV.out] at hcon2 HJ
    clear h q1 q2 q3 q4 hcon HV
    go_wp2_with fail
    refine hcon2.mono ?_
    rintro e2 w2 ⟨rfl, hb2⟩
    have hc2 := below_after hb1 hb2
    clear hb1 hb2
    go_wp2
    go_ret2
    exact ⟨by rw [HJ.out]; rfl, hc2⟩
set_option maxRecDepth 100000 in
set_option maxHeartbeats 1600000 in
theorem implPartAt_any (a : Option Addr) (len cap : Nat) (l : List (Int × Int)) (x : Int) (w : World) (h : QR w a len l) (hcap : len ≤ cap) (hm : len ≤ 9223372036854775807) :
    Calls Try.prog 20 #[.slice a len cap, .int .i64 x] w fun e w' => e = .returned (.tuple #[.agg #[.int .i64 (Po.at0 l x), .int .i64 (Po.at1 l x)], .bool (Po.atOk l x)]) ∧ Below w.heap.size w w' := by
  have hl := h.1
  have HX0 : Bk w.heap.size 35 #[.int .i64 0, .int .i64 0] (w.alloc (.cells #[.int .i64 0, .int .i64 0] 35 (0, 0))) := Bk.new _ _ _
  have hb0 : Below w.heap.size w (w.alloc (.cells #[.int .i64 0, .int .i64 0] 35 (0, 0))) := below_alloc (Below.refl _ _) _
  have hcon := areShares_any a len cap l _ (h.alloc (.cells #[.int .i64 0, .int .i64 0] 35 (0, 0))) hcap hm
  have hconX := fun W => isScalar_any x W
  rw [show Gr.sok x = Po.inX x from rfl] at hconX
  cases hok : Po.ok l
  · rw [hok] at hcon
    have HN := Lib.hid (Po.at_no (l := l) (x := x) (by unfold Po.atOk; rw [hok]; rfl))
    clear h hok hconX
    go_enter Try.func20, Try.ntmps20
    go_wp2_with fail
    refine hcon.mono ?_
    rintro e1 w1 ⟨rfl, hb1⟩
    have HX1 := HX0.below hb1
    have hc1 := below_after hb0 hb1
    obtain ⟨z0, z1⟩ := Bk.c2 HX1
    obtain ⟨f0, f1⟩ := HX1.f2
    have HX2 := Bk.store2 HX1 (.int .i64 0) (.int .i64 0)
    have hc2 := below_store2 hc1 w.heap.size (by omega) (.int .i64 0) (.int .i64 0)
    clear HX1 HX0 hc1 hb0 hb1
    go_wp2
    refine bodyPost_ret (results_cell_row2 (P := Try.prog) rfl _ _ w.heap.size 35 _ (0, 0) _ rfl HX2.held Try.underlying35 rfl (by kernel_rfl)) rfl ?_
    exact ⟨by rw [HN.out.1, HN.out.2.1, HN.out.2.2]; rfl, hc2⟩
  · rw [hok] at hcon
    cases hx : Po.inX x
    · have HN := Lib.hid (Po.at_no (l := l) (x := x) (by unfold Po.atOk; rw [hx, Bool.and_false]))
      rw [hx] at hconX
      clear h hok hx
      go_enter Try.func20, Try.ntmps20
      go_wp2_with fail
      refine hcon.mono ?_
      rintro e1 w1 ⟨rfl, hb1⟩
      go_wp2_with fail
      refine (hconX _).mono ?_
      rintro e2 w2 ⟨rfl, hw2⟩
      subst hw2
      have HX1 := HX0.below hb1
      have hc1 := below_after hb0 hb1
      obtain ⟨z0, z1⟩ := Bk.c2 HX1
      obtain ⟨f0, f1⟩ := HX1.f2
      have HX2 := Bk.store2 HX1 (.int .i64 0) (.int .i64 0)
      have hc2 := below_store2 hc1 w.heap.size (by omega) (.int .i64 0) (.int .i64 0)
      clear HX1 HX0 hc1 hb0 hb1
      go_wp2
      refine bodyPost_ret (results_cell_row2 (P := Try.prog) rfl _ _ w.heap.size 35 _ (0, 0) _ rfl HX2.held Try.underlying35 rfl (by kernel_rfl)) rfl ?_
      exact ⟨by rw [HN.out.1, HN.out.2.1, HN.out.2.2]; rfl, hc2⟩
    · have HN := Lib.hid (Po.at_yes (l := l) (x := x) (by unfold Po.atOk; rw [hok, hx]; rfl))
      obtain ⟨x0, x1⟩ := (Po.inX_iff x).mp hx
      obtain ⟨q1, q2, q3⟩ := Po.ok_bd hok
      have q4 := Po.ok_ne hok
      rw [hl] at q1 q2 q3 q4
      rw [hx] at hconX
      clear hok hx
      go_enter Try.func20, Try.ntmps20
      go_wp2_with fail
      refine hcon.mono ?_
      rintro e1 w1 ⟨rfl, hb1⟩
      go_wp2_with fail
      refine (hconX _).mono ?_
      rintro e2 w2 ⟨rfl, hw2⟩
      subst hw2
      have HX1 := HX0.below hb1
      have hc1 := below_after hb0 hb1
      have hcon2 := pointThrough_any a len cap l x w2 ((h.alloc (.cells #[.int .i64 0, .int .i64 0] 35 (0, 0))).below hb1) q1 q2 q3 q4 (by omega) x1
      obtain ⟨V, HV⟩ : ∃ V, Hid (Po.val l x = V) := ⟨_, Lib.hid rfl⟩
      rw [HV.out] at hcon2 HN
      clear h q1 q2 q3 q4 hcon HX0 hb0 hb1 hconX HV
      go_wp2_with fail
      refine hcon2.mono ?_
      rintro e3 w3 ⟨rfl, hb3⟩
      have HX3 := HX1.below hb3
      have hc3 := below_after hc1 hb3
      obtain ⟨z0, z1⟩ := Bk.c2 HX3
      obtain ⟨f0, f1⟩ := HX3.f2
      have HX4 := Bk.store2 HX3 (.int .i64 x) (.int .i64 V)
      have hc4 := below_store2 hc3 w.heap.size (by omega) (.int .i64 x) (.int .i64 V)
      clear HX1 HX3 hc1 hc3 hb3
      go_wp2
      refine bodyPost_ret (results_cell_row2 (P := Try.prog) rfl _ _ w.heap.size 35 _ (0, 0) _ rfl HX4.held Try.underlying35 rfl (by kernel_rfl)) rfl ?_
      exact ⟨by rw [HN.out.1, HN.out.2.1, HN.out.2.2]; rfl, hc4⟩
end Go.Proofs.Ytbhpealkhpginaa
