/-
  Contracts of chapter 8: HideParts; of the program.
-/
import Derived.Test.YtbhpealkhpginaaRl
import Derived.Test.YtbhpealkhpginaaQv
namespace Go.Proofs.Ytbhpealkhpginaa
open Go.RowKit

theorem QR.enc_cells {w : World} {b off len : Nat} {l : List (Int × Int)} (hl : l.length = len) (hc : ∀ j, j < len → w.cell? ⟨b, off + j * 2, none⟩ = some (.int .i64 (Po.X l j)) ∧ w.cell? ⟨b, off + j * 2 + 1, none⟩ = some (.int .i64 (Po.Y l j))) :
    ∀ j u, (Po.enc l)[j]? = some u → w.cell? ((⟨b, off, none⟩ : Addr).add j) = some u := by
  intro j u hu
  have hadr : (⟨b, off, none⟩ : Addr).add j = ⟨b, off + j, none⟩ := by unfold Addr.add; split <;> simp_all
  have hj : j < (Po.enc l).length := (List.getElem?_eq_some_iff.1 hu).1
  rw [Po.enc_length] at hj
  obtain ⟨q, hq⟩ : ∃ q, q = j / 2 := ⟨_, rfl⟩
  obtain ⟨e0, e1⟩ := Po.enc_get l q (by omega)
  obtain ⟨c0, c1⟩ := hc q (by omega)
  rw [hadr]
  rcases Nat.mod_two_eq_zero_or_one j with h | h
  · have h2 : j = q * 2 := by omega
    rw [h2] at hu ⊢
    rw [e0] at hu
    rw [c0]
    exact hu
  · have h2 : j = q * 2 + 1 := by omega
    rw [h2] at hu ⊢
    rw [e1] at hu
    rw [← Nat.add_assoc, c1]
    exact hu
theorem Po.enc_one (l : List (Int × Int)) : ∀ u ∈ Po.enc l, u.oneCell' = true := by
  induction l with
  | nil => intro u hu; simp [Po.enc] at hu
  | cons x l ih =>
    intro u hu
    simp [Po.enc] at hu
    rcases hu with h | h | h
    · subst h; rfl
    · subst h; rfl
    · exact ih u h
set_option maxRecDepth 100000 in
set_option maxHeartbeats 3200000 in
theorem implHideParts_any (a : Option Addr) (len cap : Nat) (l : List (Int × Int)) (x s : Int) (w : World) (h : QR w a len l) (hcap : len ≤ cap) (hm : len ≤ 9223372036854775807) :
    Calls Try.prog 23 #[.slice a len cap, .int .i64 x, .int .i64 s] w fun e w' => e = .returned (.tuple #[.agg #[.int .i64 (Po.hi0 l x s), .int .i64 (Po.hi1 l x s)], .bool (Po.hiOk l x s)]) ∧ Below w.heap.size w w' := by
  have hl := h.1
  obtain ⟨j0, hj, hy0, hy1, hy2⟩ := info_parts info_part
  have HX0 : Bk w.heap.size 35 #[.int .i64 0, .int .i64 0] (w.alloc (.cells #[.int .i64 0, .int .i64 0] 35 (0, 0))) := Bk.new _ _ _
  have hb0 : Below w.heap.size w (w.alloc (.cells #[.int .i64 0, .int .i64 0] 35 (0, 0))) := below_alloc (Below.refl _ _) _
  have hQ0 := h.alloc (.cells #[.int .i64 0, .int .i64 0] 35 (0, 0))
  have hcon := areShares_any a len cap l _ hQ0 hcap hm
  have hconX := fun W => isScalar_any x W
  rw [show Gr.sok x = Po.inX x from rfl] at hconX
  have hconY := fun W => isScalar0_any s W
  rw [show Sg.win s = Po.inY s from rfl] at hconY
  cases hok : Po.ok l
  · rw [hok] at hcon
    have HN := Lib.hid (Po.hi_no (l := l) (x := x) (s := s) (by unfold Po.hiOk; rw [hok]; rfl))
    clear h hok hQ0
    go_enter Try.func23, Try.ntmps23
    go_wp2_with fail
    refine hcon.mono ?_
    rintro e1 w1 ⟨rfl, hb1⟩
    have HX1 := HX0.below hb1
    have hc1 := below_after hb0 hb1
    clear HX0 hb0 hb1 hcon hconX hconY
    obtain ⟨z0, z1⟩ := Bk.c2 HX1
    obtain ⟨f0, f1⟩ := HX1.f2
    have HXz := Bk.store2 HX1 (.int .i64 0) (.int .i64 0)
    have hcz := below_store2 hc1 w.heap.size (by omega) (.int .i64 0) (.int .i64 0)
    clear HX1 hc1
    go_wp2
    refine bodyPost_ret (results_cell_row2 (P := Try.prog) rfl _ _ w.heap.size 35 _ (0, 0) _ rfl HXz.held Try.underlying35 rfl (by kernel_rfl)) rfl ?_
    exact ⟨by rw [HN.out.1, HN.out.2.1, HN.out.2.2]; rfl, hcz⟩
  rw [hok] at hcon
  obtain ⟨q1, q2, q3⟩ := Po.ok_bd hok
  rw [hl] at q1 q2 q3
  have h18 := ((Po.ok_iff l).mp hok).1
  obtain ⟨b, off, rfl, hbb, hcc0⟩ := h.2 (by omega)
  clear hbb hcc0
  go_enter Try.func23, Try.ntmps23
  go_wp2_with fail
  refine hcon.mono ?_
  rintro e1 w1 ⟨rfl, hb1⟩
  have HX1 := HX0.below hb1
  have hc1 := below_after hb0 hb1
  have hQ1 := hQ0.below hb1
  clear HX0 hb0 hb1 hcon hQ0 h
  by_cases h8 : len = 8
  · have HN := Lib.hid (Po.hi_no (l := l) (x := x) (s := s) (by unfold Po.hiOk; rw [show decide (l.length < 8) = false by simp; omega, Bool.and_false]; rfl))
    have h81 : ((len : Int) == 8) = true := by simp; omega
    have h82 : decide ((len : Int) = 8) = true := by simp; omega
    clear hQ1 hconX hconY q1 q2 q3 h18 hl hok
    obtain ⟨z0, z1⟩ := Bk.c2 HX1
    obtain ⟨f0, f1⟩ := HX1.f2
    have HXz := Bk.store2 HX1 (.int .i64 0) (.int .i64 0)
    have hcz := below_store2 hc1 w.heap.size (by omega) (.int .i64 0) (.int .i64 0)
    clear HX1 hc1
    go_wp2
    refine bodyPost_ret (results_cell_row2 (P := Try.prog) rfl _ _ w.heap.size 35 _ (0, 0) _ rfl HXz.held Try.underlying35 rfl (by kernel_rfl)) rfl ?_
    exact ⟨by rw [HN.out.1, HN.out.2.1, HN.out.2.2]; rfl, hcz⟩
  have h81 : ((len : Int) == 8) = false := by simp; omega
  have h82 : decide ((len : Int) = 8) = false := by simp; omega
  have h83 : ¬ (len : Int) = 8 := by omega
  have hl8 : l.length < 8 := by omega
  cases hx : Po.inX x
  · have HN := Lib.hid (Po.hi_no (l := l) (x := x) (s := s) (by unfold Po.hiOk; rw [hx, Bool.and_false]; rfl))
    rw [hx] at hconX
    clear hQ1 q1 q2 q3 h18 hl hok hx hconY
    go_wp2_with fail
    refine (hconX _).mono ?_
    rintro e2 w2 ⟨rfl, hw2⟩
    subst hw2
    obtain ⟨z0, z1⟩ := Bk.c2 HX1
    obtain ⟨f0, f1⟩ := HX1.f2
    have HXz := Bk.store2 HX1 (.int .i64 0) (.int .i64 0)
    have hcz := below_store2 hc1 w.heap.size (by omega) (.int .i64 0) (.int .i64 0)
    clear HX1 hc1
    go_wp2
    refine bodyPost_ret (results_cell_row2 (P := Try.prog) rfl _ _ w.heap.size 35 _ (0, 0) _ rfl HXz.held Try.underlying35 rfl (by kernel_rfl)) rfl ?_
    exact ⟨by rw [HN.out.1, HN.out.2.1, HN.out.2.2]; rfl, hcz⟩
  rw [hx] at hconX
  go_wp2_with fail
  refine (hconX _).mono ?_
  rintro e2 w2 ⟨rfl, hw2⟩
  subst hw2
  have hconH := hasX_any (some ⟨b, off, none⟩) len cap l x w2 (hQ1.qp len (Nat.le_refl _)) hm
  have HFE : Hid (Po.fresh l x len = Po.fresh l x l.length) := Lib.hid (by rw [hl])
  cases hf : Po.fresh l x len
  · have HN := Lib.hid (Po.hi_no (l := l) (x := x) (s := s) (by unfold Po.hiOk; rw [← HFE.out, hf, Bool.and_false]))
    rw [hf] at hconH
    clear hQ1 q1 q2 q3 h18 hl hok hx hconY hconX HFE hf
    go_wp2_with fail
    refine hconH.mono ?_
    rintro e3 w3 ⟨rfl, hb3⟩
    have HX3 := HX1.below hb3
    have hc3 := below_after hc1 hb3
    clear HX1 hc1 hb3 hconH
    obtain ⟨z0, z1⟩ := Bk.c2 HX3
    obtain ⟨f0, f1⟩ := HX3.f2
    have HXz := Bk.store2 HX3 (.int .i64 0) (.int .i64 0)
    have hcz := below_store2 hc3 w.heap.size (by omega) (.int .i64 0) (.int .i64 0)
    clear HX3 hc3
    go_wp2
    refine bodyPost_ret (results_cell_row2 (P := Try.prog) rfl _ _ w.heap.size 35 _ (0, 0) _ rfl HXz.held Try.underlying35 rfl (by kernel_rfl)) rfl ?_
    exact ⟨by rw [HN.out.1, HN.out.2.1, HN.out.2.2]; rfl, hcz⟩
  rw [hf] at hconH
  go_wp2_with fail
  refine hconH.mono ?_
  rintro e3 w3 ⟨rfl, hb3⟩
  have HX3 := HX1.below hb3
  have hc3 := below_after hc1 hb3
  have hQ3 := hQ1.below hb3
  clear HX1 hc1 hb3 hconH hQ1 hconX
  cases hy : Po.inY s
  · have HN := Lib.hid (Po.hi_no (l := l) (x := x) (s := s) (by unfold Po.hiOk; rw [hy, Bool.and_false]; rfl))
    rw [hy] at hconY
    clear hQ3 q1 q2 q3 h18 hl hok hx hy hf HFE
    go_wp2_with fail
    refine (hconY _).mono ?_
    rintro e4 w4 ⟨rfl, hw4⟩
    subst hw4
    obtain ⟨z0, z1⟩ := Bk.c2 HX3
    obtain ⟨f0, f1⟩ := HX3.f2
    have HXz := Bk.store2 HX3 (.int .i64 0) (.int .i64 0)
    have hcz := below_store2 hc3 w.heap.size (by omega) (.int .i64 0) (.int .i64 0)
    clear HX3 hc3
    go_wp2
    refine bodyPost_ret (results_cell_row2 (P := Try.prog) rfl _ _ w.heap.size 35 _ (0, 0) _ rfl HXz.held Try.underlying35 rfl (by kernel_rfl)) rfl ?_
    exact ⟨by rw [HN.out.1, HN.out.2.1, HN.out.2.2]; rfl, hcz⟩
  rw [hy] at hconY
  have HN := Lib.hid (Po.hi_yes (l := l) (x := x) (s := s) (by unfold Po.hiOk; rw [hok, hx, hy, ← HFE.out, hf, decide_eq_true hl8]; rfl))
  obtain ⟨x0, x1⟩ := (Po.inX_iff x).mp hx
  obtain ⟨s0, s1⟩ := (Po.inY_iff s).mp hy
  have hdist := Po.all_dist hok s
  have hlen : (Po.all s l).length = 1 + len := by show l.length + 1 = _; omega
  have HAX : Hid (∀ j, j < 1 + len → 0 ≤ Po.X (Po.all s l) j ∧ Po.X (Po.all s l) j ≤ 1073741788) := Lib.hid fun j hj => by
    cases j with
    | zero => exact ⟨Int.le_refl 0, (show (0 : Int) ≤ 1073741788 by decide)⟩
    | succ j => exact q2 j (by omega)
  have HAY : Hid (∀ j, j < 1 + len → 0 ≤ Po.Y (Po.all s l) j ∧ Po.Y (Po.all s l) j ≤ 1073741788) := Lib.hid fun j hj => by
    cases j with
    | zero => exact ⟨s0, s1⟩
    | succ j => exact q3 j (by omega)
  have HAD : Hid (∀ i j, i < 1 + len → j < 1 + len → j ≠ i → Po.X (Po.all s l) j ≠ Po.X (Po.all s l) i) := Lib.hid fun i j hi hj hij => Po.dist_ne hdist i j (by omega) (by omega) hij
  clear hok hx hy hf HFE q2 q3 hdist
  go_wp2_with fail
  refine (hconY _).mono ?_
  rintro e4 w4 ⟨rfl, hw4⟩
  subst hw4
  have hown0 := World.ownsRow_lit (e := 35) (size := 2) w4 #[.int .i64 0, .int .i64 s] 1 (Nat.le_refl _) (by decide) rfl
  have hb5 := below_alloc (Below.refl w4.heap.size w4) (.cells #[.int .i64 0, .int .i64 s] 35)
  have hQ5 := hQ3.below hb5
  obtain ⟨_, _, he, hlt5, hcc⟩ := hQ5.2 (by omega)
  cases he
  have HCE := Lib.hid (QR.enc_cells hl hcc)
  clear hcc hlt5 hQ5 hconY
  go_wp2_with (at_builtin; refine wpList_append_own _ rfl _ _ 26 rfl w4.heap.size 35 j0 (.agg #[.int .i64 0, .int .i64 0]) 2 16 Try.underlying26 hj hy0 hy1 hy2 rfl (by decide) _ _ _ rfl hown0 ⟨b, off, none⟩ len cap (Po.enc l) rfl ?_ ?_ ?_ ?_ ?_ ?_ ?_)
  any_goals first | exact HCE.out | exact Po.enc_one l | (rw [Po.enc_length, hl]) | (simp; done) | (simp; omega) | (unfold maxLen; omega) | omega
  intro v' w7 hown7 hgrow _
  have hb7 := Below.grown hb5 hgrow (by simp) (fun j he => by cases he; exact Nat.le_refl _)
  obtain ⟨g5, cp5, rfl⟩ : ∃ g cp, v' = .slice (some ⟨g, 0, none⟩) (1 + len) cp := by
    rcases hown7.2 with ⟨h, h0⟩ | ⟨g, cap, cur, h, _⟩
    · omega
    · exact ⟨_, _, h⟩
  have hown8 : w7.ownsRow w4.heap.size 35 2 (.slice (some ⟨g5, 0, none⟩) (1 + len) cp5) (1 + len) (Po.enc (Po.all s l)) := hown7
  have hQA := (QR.own hown8).2
  have HX7 := HX3.below hb7
  have hc7 := below_after hc3 hb7
  have hcon2 := pointThrough_any (some ⟨g5, 0, none⟩) (1 + len) cp5 (Po.all s l) x w7 hQA (by omega) HAX.out HAY.out HAD.out (by omega) x1
  obtain ⟨V, HV⟩ : ∃ V, Hid (Po.val (Po.all s l) x = V) := ⟨_, Lib.hid rfl⟩
  rw [HV.out] at hcon2 HN
  clear hown7 hown8 hown0 hgrow HCE HAX HAY HAD hQ3 HX3 hc3 hb5 hb7 HV hQA hlen
  go_wp2_with fail
  refine hcon2.mono ?_
  rintro e8 w8 ⟨rfl, hb8⟩
  have HX8 := HX7.below hb8
  have hc8 := below_after hc7 hb8
  obtain ⟨z0, z1⟩ := Bk.c2 HX8
  obtain ⟨f0, f1⟩ := HX8.f2
  have HX9 := Bk.store2 HX8 (.int .i64 x) (.int .i64 V)
  have hc9 := below_store2 hc8 w.heap.size (by omega) (.int .i64 x) (.int .i64 V)
  clear HX8 hc8 HX7 hc7 hb8 hcon2
  go_wp2
  refine bodyPost_ret (results_cell_row2 (P := Try.prog) rfl _ _ w.heap.size 35 _ (0, 0) _ rfl HX9.held Try.underlying35 rfl (by kernel_rfl)) rfl ?_
  exact ⟨by rw [HN.out.1, HN.out.2.1, HN.out.2.2]; rfl, hc9⟩
end Go.Proofs.Ytbhpealkhpginaa
