/-
  Contracts of chapter 8: the polynomial through points; of the program.
-/
import Derived.Test.YtbhpealkhpginaaRj
namespace Go.Proofs.Ytbhpealkhpginaa
open Go.RowKit

set_option maxRecDepth 100000 in
set_option maxHeartbeats 12800000 in
theorem pointThrough_any (a : Option Addr) (len cap : Nat) (l : List (Int × Int)) (x : Int) (w : World) (h : QR w a len l) (h9 : len ≤ 9) (hX : ∀ j, j < len → 0 ≤ Po.X l j ∧ Po.X l j ≤ 1073741788) (hY : ∀ j, j < len → 0 ≤ Po.Y l j ∧ Po.Y l j ≤ 1073741788) (hD : ∀ i j, i < len → j < len → j ≠ i → Po.X l j ≠ Po.X l i) (x0 : 0 ≤ x) (x1 : x ≤ 1073741788) :
    Calls Try.prog 44 #[.slice a len cap, .int .i64 x] w fun e w' => e = .returned (.agg #[.int .i64 x, .int .i64 (Po.val l x)]) ∧ Below w.heap.size w w' := by
  have hl := h.1
  have HR0 : Bk w.heap.size 35 #[.int .i64 0, .int .i64 0] ((w.alloc (.cells #[.int .i64 0, .int .i64 0] 35 (0, 0))).alloc (.cells #[.int .i64 0, .int .i64 1073741789] 77 (0, 0))) := (Bk.new _ _ _).alloc _
  have HS0 : Bk (w.heap.size + 1) 77 #[.int .i64 0, .int .i64 1073741789] ((w.alloc (.cells #[.int .i64 0, .int .i64 0] 35 (0, 0))).alloc (.cells #[.int .i64 0, .int .i64 1073741789] 77 (0, 0))) := Bk.new' _ _ _ _ (by simp)
  have hb0 : Below w.heap.size w ((w.alloc (.cells #[.int .i64 0, .int .i64 0] 35 (0, 0))).alloc (.cells #[.int .i64 0, .int .i64 1073741789] 77 (0, 0))) := below_alloc (below_alloc (Below.refl _ _) _) _
  obtain ⟨W0, HW0⟩ : ∃ W0, Hid (((w.alloc (.cells #[.int .i64 0, .int .i64 0] 35 (0, 0))).alloc (.cells #[.int .i64 0, .int .i64 1073741789] 77 (0, 0))) = W0) := ⟨_, Lib.hid rfl⟩
  rw [HW0.out] at HR0 HS0 hb0
  go_enter Try.func44, Try.ntmps44
  go_wp2
  rw [HW0.out]
  go_loopw [11] (fun k wr => ∃ j : Nat, j ≤ len ∧ k = .int .i64 (j : Int) ∧ Bk w.heap.size 35 #[.int .i64 0, .int .i64 0] wr ∧ Bk (w.heap.size + 1) 77 #[.int .i64 (Po.sum l x j), .int .i64 1073741789] wr ∧ Below w.heap.size w wr)
    (fun k _ => len - (intOf k).toNat)
  case atStart => exact ⟨0, by omega, rfl, HR0, HS0, hb0⟩
  case round =>
    clear HR0 HS0 hb0 HW0
    obtain ⟨j, hj, rfl, HR, HS, hbel⟩ := hrel
    have hsz := HS.lt
    by_cases hlt : j < len
    · have hPT0 : Bk wr.heap.size 35 #[.int .i64 (Po.X l j), .int .i64 (Po.Y l j)] (wr.alloc (.cells #[.int .i64 (Po.X l j), .int .i64 (Po.Y l j)] 35 (0, 0))) := Bk.new _ _ _
      have HR1 := HR.alloc (.cells #[.int .i64 (Po.X l j), .int .i64 (Po.Y l j)] 35 (0, 0))
      have HS1 := HS.alloc (.cells #[.int .i64 (Po.X l j), .int .i64 (Po.Y l j)] 35 (0, 0))
      have hbel1 := below_alloc hbel (.cells #[.int .i64 (Po.X l j), .int .i64 (Po.Y l j)] 35 (0, 0))
      have hQ1 := h.below hbel1
      obtain ⟨b, off, rfl, hb, hc⟩ := (h.below hbel).2 (by omega)
      obtain ⟨c0, c1⟩ := hc j hlt
      obtain ⟨W1, HW⟩ : ∃ W1, Hid (wr.alloc (.cells #[.int .i64 (Po.X l j), .int .i64 (Po.Y l j)] 35 (0, 0)) = W1) := ⟨_, Lib.hid rfl⟩
      rw [HW.out] at hPT0 HR1 HS1 hbel1 hQ1
      have hcon := factorAt_any (some ⟨b, off, none⟩) len cap l j (Po.Y l j) x W1.drew hQ1.drew hlt h9 hX (fun i hi hij => hD j i hlt hi hij) x0 x1
      have HSUM := Lib.hid (Po.sum_prog l x j)
      obtain ⟨y0, y1⟩ := hY j hlt
      obtain ⟨s0, s1⟩ := Po.sum_bd l x j
      obtain ⟨p0, p1⟩ := Po.part_bd l j x
      obtain ⟨V, HV⟩ : ∃ V, Hid (Po.X l j = V) := ⟨_, Lib.hid rfl⟩
      obtain ⟨Y, HY⟩ : ∃ V, Hid (Po.Y l j = V) := ⟨_, Lib.hid rfl⟩
      obtain ⟨S, HS2⟩ : ∃ V, Hid (Po.sum l x j = V) := ⟨_, Lib.hid rfl⟩
      obtain ⟨F, HF⟩ : ∃ V, Hid (Po.part l j x = V) := ⟨_, Lib.hid rfl⟩
      rw [HV.out] at c0 hcon hPT0 HW
      rw [HY.out] at c1 hcon hPT0 HW y0 y1 HSUM
      rw [HS2.out] at s0 s1 HS HS1 HSUM
      rw [HF.out] at p0 p1 hcon HSUM
      have hT := fun W => times_any F Y 1073741789 W (by omega) (by omega) p0 p1 y0 (by omega)
      have m0 := Int.emod_nonneg (F * Y) (show (1073741789 : Int) ≠ 0 by decide)
      have m1 := Int.emod_lt_of_pos (F * Y) (show (0 : Int) < 1073741789 by decide)
      obtain ⟨M, HM⟩ : ∃ K, Hid (F * Y % 1073741789 = K) := ⟨_, Lib.hid rfl⟩
      rw [HM.out] at hT m0 m1 HSUM
      have hU := fun W => plus_any S M 1073741789 W (by omega) (by omega) s0 s1 m0 m1
      obtain ⟨Z, HZ⟩ : ∃ K, Hid ((S + M) % 1073741789 = K) := ⟨_, Lib.hid rfl⟩
      rw [HZ.out] at hU HSUM
      obtain ⟨k0, k1⟩ := Bk.c2 HS1.drew
      obtain ⟨g0, g1⟩ := Bk.c2 hPT0.drew
      clear h hX hY hD hc HV HY HS2 HF HM HZ hQ1 x0 x1 HS HR hbel y0 y1 s0 s1 p0 p1 m0 m1
      go_wp2
      rw [HW.out]
      clear HW c0 c1
      apply wp_meet8 (fun w' => Bk w.heap.size 35 #[.int .i64 0, .int .i64 0] w' ∧ Bk (w.heap.size + 1) 77 #[.int .i64 Z, .int .i64 1073741789] w' ∧ Below w.heap.size w w')
      case h1 =>
        go_region_with (first
          | (go_at_call 57; refine hcon.mono ?_; rintro e1 v1 ⟨rfl, hb1⟩; have HR2 := HR1.drew.below hb1; have HS2 := HS1.drew.below hb1; have hP2 := hPT0.drew.below hb1; obtain ⟨k10, k11⟩ := Bk.c2 HS2; obtain ⟨g10, g11⟩ := Bk.c2 hP2; have hc1 : Below w.heap.size w v1 := below_after hbel1.drew hb1)
          | (go_at_call 56; refine (hT v1).mono ?_; rintro e2 v2 ⟨rfl, hb2⟩; have HR3 := HR2.below hb2; have HS3 := HS2.below hb2; obtain ⟨k20, k21⟩ := Bk.c2 HS3; have hc2 := below_after hc1 hb2)
          | (go_at_call 55; refine (hU v2).mono ?_; rintro e3 v3 ⟨rfl, hb3⟩; have HS4 := HS3.below hb3; obtain ⟨f20, f21⟩ := HS4.f2; obtain ⟨k30, k31⟩ := Bk.c2 HS4; have HR5 := (HR3.below hb3).other2 (w.heap.size + 1) (by omega) (.int .i64 Z) (.int .i64 1073741789); have HS5 := Bk.store2 HS4 (.int .i64 Z) (.int .i64 1073741789); have hc3 := below_store2 (below_after hc2 hb3) (w.heap.size + 1) (by omega) (.int .i64 Z) (.int .i64 1073741789)))
        all_goals exact ⟨rfl, HR5, HS5, hc3⟩
      case h2 =>
        rintro w3 ⟨HR6, HS6, hc6⟩
        go_wp2
        go_roundw
        case rel => exact ⟨j + 1, by omega, by simp, HR6, by rw [← HSUM.out]; exact HS6, hc6⟩
        case measure => simp [intOf]; omega
    · have hj2 : j = len := by omega
      subst hj2
      have HV : Hid (Po.val l x = Po.sum l x j) := Lib.hid (by unfold Po.val; rw [hl])
      obtain ⟨S, HS2⟩ : ∃ V, Hid (Po.sum l x j = V) := ⟨_, Lib.hid rfl⟩
      rw [HS2.out] at HS HV
      obtain ⟨k0, k1⟩ := Bk.c2 HS
      obtain ⟨g0, g1⟩ := Bk.c2 HR
      obtain ⟨f0, f1⟩ := HR.f2
      have HR5 := Bk.store2 HR (.int .i64 x) (.int .i64 S)
      have hc5 := below_store2 hbel w.heap.size (by omega) (.int .i64 x) (.int .i64 S)
      clear h hX hY hD hl HS2 HR HS hbel x0 x1
      go_wp2
      refine bodyPost_ret (results_cell_row (P := Try.prog) rfl _ _ w.heap.size 35 _ (0, 0) _ rfl HR5.held Try.underlying35 rfl (by kernel_rfl)) rfl ?_
      exact ⟨by rw [HV.out], hc5⟩
end Go.Proofs.Ytbhpealkhpginaa
