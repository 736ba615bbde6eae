import Derived.Test.YtoocibabceeagabGreatZk
import Derived.Test.YtoocibabceeagabGreatYl
import Derived.Test.YtoocibabceeagabGreatDs
import Derived.Test.YtoocibabceeagabGreatOf
import Derived.Test.YtoocibabceeagabGreatZd
import Derived.Test.YtoocibabceeagabGreatSm
import Derived.Test.YtoocibabceeagabGreatWl
import Derived.Deep.RegionHeld3
/-
  Locks of the model: LockMany; the drawing of a lock.
-/
namespace Go.Proofs.YtoocibabceeagabGreat
open Go.RowKit

set_option maxRecDepth 100000 in
set_option maxHeartbeats 6400000 in
theorem LockMany_any (need : Int) (g n cap : Nat) (zs : List Int) (w : World) (hn0 : 1 ≤ n) (hn : n ≤ 3) (hg : g < w.heap.size) (hc : ∀ j, j < n → w.cell? ⟨g, j, none⟩ = some (.int .i64 (zs.getD j 0))) :
    Calls Tryz.prog 149 #[.int .i64 need, .slice (some ⟨g, 0, none⟩) n cap] w (LockR w) := by
  obtain ⟨i0, hi, hz0, hz1, hz2⟩ := info_parts info_op
  have H1 : (decide ((1 : Int) ≤ (n : Int)) && decide ((n : Int) ≤ 5)) = true := by simp; omega
  have hb0 := Below.refl w.heap.size w
  go_enter Tryz.func149, Tryz.ntmps149
  go_wp2_with fail
  refine (l6In_any (n : Int) 1 5 _).mono ?_
  rintro e w1 ⟨rfl, hw1⟩
  rw [H1]
  subst hw1
  go_wp2_with fail
  refine (l6In_any need 1 (n : Int) _).mono ?_
  rintro e w2 ⟨rfl, hw2⟩
  subst hw2
  obtain ⟨f, HF⟩ : ∃ g, Hid ((decide (1 ≤ need) && decide (need ≤ (n : Int))) = g) := ⟨_, Lib.hid rfl⟩
  rw [HF.out]
  clear HF H1
  cases f
  · go_wp2
    go_ret2
    exact ⟨⟨#[]⟩, false, rfl, by decide, hb0⟩
  have hown0 : (w.alloc (.cells #[] 77 (0, 0))).ownsRow w.heap.size 77 4 (.slice (some ⟨w.heap.size, 0, none⟩) 0 0) 0 (Jo.cells []) := World.ownsRow_made _ _ _ (Nat.le_refl _) (by decide) rfl
  have hbel0 : Below w.heap.size w (w.alloc (.cells #[] 77 (0, 0))) := hb0.alloc (Nat.le_refl _) _
  have HC : Hid (∀ W, Below w.heap.size w W → ∀ j, j < n → W.cell? ⟨g, j, none⟩ = some (.int .i64 (zs.getD j 0))) := Lib.hid fun W hb j hj => (World.cell?_of_block (w := w) (a := ⟨g, j, none⟩) (hb.block g hg)).trans (hc j hj)
  clear hc hb0
  go_wp2
  go_loopw [6, 7] (fun v i wr => ∃ (k : Nat) (l : List Jo), k ≤ n ∧ i = .int .i64 (k : Int) ∧ Hid (wr.ownsRow w.heap.size 77 4 v k (Jo.cells l)) ∧ Hid (l.length = k) ∧ Below w.heap.size w wr)
    (fun _ i _ => n - (intOf i).toNat)
  case atStart => exact ⟨0, [], by omega, rfl, Lib.hid hown0, Lib.hid rfl, hbel0⟩
  case round =>
    obtain ⟨k, l, hk, rfl, HOWN, HLEN, hbel⟩ := hrel
    clear hown0 hbel0
    have hbs := hbel.size
    obtain ⟨va, vc, rfl⟩ : ∃ va vc, u6 = .slice va k vc := by
      rcases HOWN.out.2 with ⟨h1, h2⟩ | ⟨g, cap', cur, h1, _⟩
      · exact ⟨none, 0, by rw [h1, h2]⟩
      · exact ⟨_, _, h1⟩
    by_cases hlt : k < n
    · have ck := HC.out wr hbel k hlt
      have hbd := @Gr.kok_bd (zs.getD k 0)
      obtain ⟨z, HZ⟩ : ∃ z, Hid (zs.getD k 0 = z) := ⟨_, Lib.hid rfl⟩
      rw [HZ.out] at ck hbd
      clear HZ
      go_wp2_with fail
      refine (specKeyOk_any z _).mono ?_
      rintro e w3 ⟨rfl, hw3⟩
      rw [← hw3] at hbel HOWN ck hbs
      clear hw3
      obtain ⟨f, HF⟩ : ∃ f, Hid (Gr.kok z = f) := ⟨_, Lib.hid rfl⟩
      rw [HF.out] at hbd ⊢
      clear HF
      cases f
      · clear hbd
        go_wp2
        go_ret2
        exact ⟨⟨#[]⟩, false, rfl, by decide, hbel⟩
      replace hbd := hbd rfl
      obtain ⟨z0, z1⟩ := hbd
      go_wp2_with fail
      refine (l12Push_any z _ z0 z1).mono ?_
      rintro e w4 ⟨rfl, hb4⟩
      obtain ⟨t, HT⟩ : ∃ t, Hid (Dg.bytes z = t) := ⟨_, Lib.hid rfl⟩
      rw [HT.out]
      have hbel4 := below_aft9 hbel hb4
      have hsz := hbel4.size
      have HO4 := Lib.hid (HOWN.out.kept (row := none) ⟨hb4.os, hb4.tape, hb4.output, hb4.size, fun q hq _ => hb4.block q hq⟩ (Classical.em _))
      have S1 := Lib.hid (four_newZ w4 (.int .i64 0) (.int .i64 0) (.int .i64 0) (.string t) 77 w4.heap.size rfl)
      clear HT hb4 HOWN hbel ck z0 z1
      go_wp2_with (at_builtin; refine wpList_append_own _ rfl _ _ 79 rfl w.heap.size 77 i0 (.agg #[.int .i64 0, .int .i64 0, .int .i64 0, .string ⟨#[]⟩]) 4 40 Tryz.underlying79 hi hz0 hz1 hz2 rfl (by decide) _ _ _ rfl (HO4.out.alloc (.cells #[.int .i64 0, .int .i64 0, .int .i64 0, .string t] 77 (0, 0))) ⟨w4.heap.size, 0, none⟩ 1 1 [.int .i64 0, .int .i64 0, .int .i64 0, .string t] rfl rfl ?_ ?_ ?_ ?_ ?_ ?_)
      any_goals first | exact S1.out | (intro u hu; simp at hu; rcases hu with rfl | rfl | rfl | rfl <;> rfl) | (unfold maxLen; omega) | omega | exact Nat.le_trans hsz (by simp) | (simp; omega)
      intro v' w5 hown5 hgrow _
      have hown6 : Hid (w5.ownsRow w.heap.size 77 4 v' (k + 1) (Jo.cells (l ++ [(⟨0, 0, 0, t⟩ : Jo)]))) := Lib.hid (by
        rw [Jo.cells_append]
        exact hown5)
      have hl6 : Hid ((l ++ [(⟨0, 0, 0, t⟩ : Jo)]).length = k + 1) := Lib.hid (by rw [List.length_append, HLEN.out]; rfl)
      have hbel5 : Below w.heap.size w w5 := (hbel4.alloc hsz (.cells #[.int .i64 0, .int .i64 0, .int .i64 0, .string t] 77 (0, 0))).grown hgrow (Nat.le_trans hsz (by simp)) (fun q hq => (HO4.out.lt _ hq).1)
      clear hown5 hgrow HO4 S1
      go_wp2
      go_roundw
      case rel => exact ⟨k + 1, _, by omega, by simp, hown6, hl6, hbel5⟩
      case measure => simp [intOf]; omega
    · obtain rfl : k = n := by omega
      have S1 := Lib.hid (four_newZ wr (.int .i64 12) (.int .i64 need) (.int .i64 (k : Int)) (.string ⟨#[]⟩) 77 wr.heap.size rfl)
      go_wp2_with (at_builtin; refine wpList_append_own _ rfl _ _ 79 rfl w.heap.size 77 i0 (.agg #[.int .i64 0, .int .i64 0, .int .i64 0, .string ⟨#[]⟩]) 4 40 Tryz.underlying79 hi hz0 hz1 hz2 rfl (by decide) _ _ _ rfl (HOWN.out.alloc (.cells #[.int .i64 12, .int .i64 need, .int .i64 (k : Int), .string ⟨#[]⟩] 77 (0, 0))) ⟨wr.heap.size, 0, none⟩ 1 1 [.int .i64 12, .int .i64 need, .int .i64 (k : Int), .string ⟨#[]⟩] rfl rfl ?_ ?_ ?_ ?_ ?_ ?_)
      any_goals first | exact S1.out | (intro u hu; simp at hu; rcases hu with rfl | rfl | rfl | rfl <;> rfl) | (unfold maxLen; omega) | omega | exact Nat.le_trans hbs (by simp) | (simp; omega)
      intro v' w5 hown5 hgrow _
      have hown6 : w5.ownsRow w.heap.size 77 4 v' (k + 1) (Jo.cells (l ++ [(⟨12, need, (k : Int), ⟨#[]⟩⟩ : Jo)])) := by
        rw [Jo.cells_append]
        exact hown5
      have hbel5 : Below w.heap.size w w5 := (hbel.alloc hbs (.cells #[.int .i64 12, .int .i64 need, .int .i64 (k : Int), .string ⟨#[]⟩] 77 (0, 0))).grown hgrow (Nat.le_trans hbs (by simp)) (fun q hq => (HOWN.out.lt _ hq).1)
      obtain ⟨va2, vc2, rfl⟩ : ∃ va vc, v' = .slice va (k + 1) vc := by
        rcases hown6.2 with ⟨h1, h2⟩ | ⟨g, cap', cur, h1, _⟩
        · omega
        · exact ⟨_, _, h1⟩
      have hol := (OL.own hown6).2
      clear hown5 hown6 hgrow HOWN S1
      go_wp2_with fail
      refine (l12Lock_any va2 (k + 1) vc2 _ w5 hol (by omega)).mono ?_
      rintro e w6 ⟨s, ok, rfl, hs, hb6⟩
      replace hb6 := below_aft9 hbel5 hb6
      clear hbel5 hol
      go_wp2
      go_ret2
      exact ⟨s, ok, rfl, hs, hb6⟩
set_option maxRecDepth 100000 in
set_option maxHeartbeats 6400000 in
theorem l91Lock_any (B : Nat) (a : Option Addr) (len cap : Nat) (zs : List Int) (p : Nat) (w : World) (hp : p ≤ 500000000) (hD0 : Dw B a len cap zs w p) :
    Calls Tryz.prog 111 #[.pointer (some ⟨B, 0, none⟩)] w (StrR B a len cap zs p 100 5000 w) := by
  go_enter Tryz.func111, Tryz.ntmps111
  go_wp2_with fail
  refine (pick_any B a len cap zs _ 7 _ (by omega) (by omega) hD0).mono ?_
  rintro e w1 ⟨v, rfl, a1, b1, hD, hG⟩
  clear hD0
  have hv : v = 0 ∨ v = 1 ∨ v = 2 ∨ v = 3 ∨ v = 4 ∨ v = 5 ∨ v = 6 := by omega
  clear a1 b1
  rcases hv with rfl | rfl | rfl | rfl | rfl | rfl | rfl
  · skip
    go_wp2_with fail
    refine (pick_any B a len cap zs _ 3 _ (by omega) (by omega) hD).mono ?_
    rintro e wpu ⟨u, rfl, ua, ub, hDu, hGu⟩
    replace hG := gtrans hG hGu
    replace hD := hDu
    clear hGu hDu
    have hr1 : IntKind.i64.wrap (1 + u) = 1 + u := IntWalk.i64_in _ (by omega)
    have hr2 : IntKind.i64.wrap (11 * (1 + u)) = 11 * (1 + u) := IntWalk.i64_in _ (by omega)
    go_wp2_with fail
    refine (l4Base_any (11 * (1 + u)) _ (by omega)).mono ?_
    rintro e wbx ⟨rfl, hwbx⟩
    rw [← hwbx] at hD hG
    clear hwbx
    obtain ⟨x, HXx⟩ : ∃ y, Hid (Gr.pw 2147483579 4 (11 * (1 + u)) = y) := ⟨_, Lib.hid rfl⟩
    rw [HXx.out]
    clear HXx
    go_wp2_with fail
    refine (LockKey_any x _).mono ?_
    rintro e w6 ⟨s, ok, rfl, hs, hb6⟩
    replace hG := gtrans hG (gb_belK hb6 B)
    replace hD := hD.belK hb6
    clear hb6
    go_wp2_with fail
    refine (l91Seldom_any B a len cap zs _ s _ (by omega) (by omega) hD).mono ?_
    rintro e w9 ⟨t, q9, rfl, ht, q90, q91, hD9, hG9⟩
    go_wp2
    go_ret
    exact ⟨t, q9, rfl, by omega, by omega, by omega, hD9, gtrans hG hG9⟩
  · skip
    go_wp2_with fail
    refine (pick_any B a len cap zs _ 3 _ (by omega) (by omega) hD).mono ?_
    rintro e wpu ⟨u, rfl, ua, ub, hDu, hGu⟩
    replace hG := gtrans hG hGu
    replace hD := hDu
    clear hGu hDu
    have hr1 : IntKind.i64.wrap (1 + u) = 1 + u := IntWalk.i64_in _ (by omega)
    have hr2 : IntKind.i64.wrap (11 * (1 + u)) = 11 * (1 + u) := IntWalk.i64_in _ (by omega)
    go_wp2_with fail
    refine (l4Base_any (11 * (1 + u)) _ (by omega)).mono ?_
    rintro e wbx ⟨rfl, hwbx⟩
    rw [← hwbx] at hD hG
    clear hwbx
    obtain ⟨x, HXx⟩ : ∃ y, Hid (Gr.pw 2147483579 4 (11 * (1 + u)) = y) := ⟨_, Lib.hid rfl⟩
    rw [HXx.out]
    clear HXx
    go_wp2_with fail
    refine (LockKey_any x _).mono ?_
    rintro e w6 ⟨s, ok, rfl, hs, hb6⟩
    replace hG := gtrans hG (gb_belK hb6 B)
    replace hD := hD.belK hb6
    clear hb6
    go_wp2_with fail
    refine (l91Seldom_any B a len cap zs _ s _ (by omega) (by omega) hD).mono ?_
    rintro e w9 ⟨t, q9, rfl, ht, q90, q91, hD9, hG9⟩
    go_wp2
    go_ret
    exact ⟨t, q9, rfl, by omega, by omega, by omega, hD9, gtrans hG hG9⟩
  · skip
    go_wp2_with fail
    refine (l91Word_any B a len cap zs _ _ (by omega) hD).mono ?_
    rintro e w2 ⟨s1, q1, rfl, hs1, q10, q11, hD2, hG2⟩
    replace hG := gtrans hG hG2
    replace hD := hD2
    clear hG2 hD2
    have hbd := Dg.of_bd s1
    go_wp2_with fail
    refine (specDigest_any s1 _ (by omega)).mono ?_
    rintro e w3 ⟨rfl, hb3⟩
    replace hG := gtrans hG (gb_belK hb3 B)
    replace hD := hD.belK hb3
    obtain ⟨d, HX⟩ : ∃ y, Hid (Dg.of s1 = y) := ⟨_, Lib.hid rfl⟩
    rw [HX.out] at hbd ⊢
    clear HX hb3
    obtain ⟨hd0, hd1⟩ := hbd
    go_wp2_with fail
    refine (LockDigest_any d _ hd0 hd1).mono ?_
    rintro e w6 ⟨s, ok, rfl, hs, hb6⟩
    replace hG := gtrans hG (gb_belK hb6 B)
    replace hD := hD.belK hb6
    clear hb6
    go_wp2_with fail
    refine (l91Seldom_any B a len cap zs _ s _ (by omega) (by omega) hD).mono ?_
    rintro e w9 ⟨t, q9, rfl, ht, q90, q91, hD9, hG9⟩
    go_wp2
    go_ret
    exact ⟨t, q9, rfl, by omega, by omega, by omega, hD9, gtrans hG hG9⟩
  · skip
    go_wp2_with fail
    refine (pick_any B a len cap zs _ 3 _ (by omega) (by omega) hD).mono ?_
    rintro e wpu ⟨u, rfl, ua, ub, hDu, hGu⟩
    replace hG := gtrans hG hGu
    replace hD := hDu
    clear hGu hDu
    have hu : u = 0 ∨ u = 1 ∨ u = 2 := by omega
    clear ua ub
    rcases hu with rfl | rfl | rfl
    · have hr0 : IntKind.i64.wrap (1 + 0) = 1 := by decide
      have hsl : ∀ g0 W, (Instr.slice 41 (.slice (some ⟨g0, 0, none⟩) 3 3) none (some (.int .i64 (1))) none).run Tryz.prog W = .ok (.slice (some ⟨g0, 0, none⟩) 1 3) W := fun g0 W => by
        simp [Instr.slice, Instr.sliceBounds, Instr.sliceBound, asIntOf, run_underlying Tryz.underlying41, Addr.add]
      go_wp2_with fail
      refine (pick_any B a len cap zs _ 1 _ (by omega) (by omega) hD).mono ?_
      rintro e wpy ⟨y, rfl, ya, yb, hDy, hGy⟩
      replace hG := gtrans hG hGy
      replace hD := hDy
      clear hGy hDy
      have hr1 : IntKind.i64.wrap (1 + y) = 1 + y := IntWalk.i64_in _ (by omega)
      go_wp2_with fail
      refine (l4Base_any 11 _ (by omega)).mono ?_
      rintro e wbx1 ⟨rfl, hwbx1⟩
      rw [← hwbx1] at hD hG
      clear hwbx1
      obtain ⟨x1, HXx1⟩ : ∃ y, Hid (Gr.pw 2147483579 4 11 = y) := ⟨_, Lib.hid rfl⟩
      rw [HXx1.out]
      clear HXx1
      go_wp2_with fail
      refine (l4Base_any 22 _ (by omega)).mono ?_
      rintro e wbx2 ⟨rfl, hwbx2⟩
      rw [← hwbx2] at hD hG
      clear hwbx2
      obtain ⟨x2, HXx2⟩ : ∃ y, Hid (Gr.pw 2147483579 4 22 = y) := ⟨_, Lib.hid rfl⟩
      rw [HXx2.out]
      clear HXx2
      go_wp2_with fail
      refine (l4Base_any 33 _ (by omega)).mono ?_
      rintro e wbx3 ⟨rfl, hwbx3⟩
      rw [← hwbx3] at hD hG
      clear hwbx3
      obtain ⟨x3, HXx3⟩ : ∃ y, Hid (Gr.pw 2147483579 4 33 = y) := ⟨_, Lib.hid rfl⟩
      rw [HXx3.out]
      clear HXx3
      obtain ⟨W, HW⟩ : ∃ W, Hid (wbx3 = W) := ⟨_, Lib.hid rfl⟩
      have hD7 := hD.alloc (.cells #[.int .i64 x1, .int .i64 x2, .int .i64 x3] 3 (0, 0))
      have hG7 := gtrans hG (World.grownBy_alloc wbx3 (.cells #[.int .i64 x1, .int .i64 x2, .int .i64 x3] 3 (0, 0)) (some B))
      have hcs : ∀ j, j < 1 → (wbx3.alloc (.cells #[.int .i64 x1, .int .i64 x2, .int .i64 x3] 3 (0, 0))).cell? ⟨wbx3.heap.size, j, none⟩ = some (.int .i64 (([x1, x2, x3] : List Int).getD j 0)) := fun j hj => (World.cell?_alloc_mark wbx3 _ _ _ j).trans (by
        match j, hj with
        | 0, _ => rfl)
      have hlc := LockMany_any (1 + y) wbx3.heap.size 1 3 [x1, x2, x3] _ (by omega) (by omega) (by simp) hcs
      clear hcs HW hD hG
      go_wp2_with fail
      refine hlc.mono ?_
      rintro e w6 ⟨s, ok, rfl, hs, hb6⟩
      have hG := gtrans hG7 (gb_belK hb6 B)
      have hD := hD7.belK hb6
      clear hb6 hG7 hD7 hlc hsl
      go_wp2_with fail
      refine (l91Seldom_any B a len cap zs _ s _ (by omega) (by omega) hD).mono ?_
      rintro e w9 ⟨t, q9, rfl, ht, q90, q91, hD9, hG9⟩
      go_wp2
      go_ret
      exact ⟨t, q9, rfl, by omega, by omega, by omega, hD9, gtrans hG hG9⟩
    · have hr0 : IntKind.i64.wrap (1 + 1) = 2 := by decide
      have hsl : ∀ g0 W, (Instr.slice 41 (.slice (some ⟨g0, 0, none⟩) 3 3) none (some (.int .i64 (2))) none).run Tryz.prog W = .ok (.slice (some ⟨g0, 0, none⟩) 2 3) W := fun g0 W => by
        simp [Instr.slice, Instr.sliceBounds, Instr.sliceBound, asIntOf, run_underlying Tryz.underlying41, Addr.add]
      go_wp2_with fail
      refine (pick_any B a len cap zs _ 2 _ (by omega) (by omega) hD).mono ?_
      rintro e wpy ⟨y, rfl, ya, yb, hDy, hGy⟩
      replace hG := gtrans hG hGy
      replace hD := hDy
      clear hGy hDy
      have hr1 : IntKind.i64.wrap (1 + y) = 1 + y := IntWalk.i64_in _ (by omega)
      go_wp2_with fail
      refine (l4Base_any 11 _ (by omega)).mono ?_
      rintro e wbx1 ⟨rfl, hwbx1⟩
      rw [← hwbx1] at hD hG
      clear hwbx1
      obtain ⟨x1, HXx1⟩ : ∃ y, Hid (Gr.pw 2147483579 4 11 = y) := ⟨_, Lib.hid rfl⟩
      rw [HXx1.out]
      clear HXx1
      go_wp2_with fail
      refine (l4Base_any 22 _ (by omega)).mono ?_
      rintro e wbx2 ⟨rfl, hwbx2⟩
      rw [← hwbx2] at hD hG
      clear hwbx2
      obtain ⟨x2, HXx2⟩ : ∃ y, Hid (Gr.pw 2147483579 4 22 = y) := ⟨_, Lib.hid rfl⟩
      rw [HXx2.out]
      clear HXx2
      go_wp2_with fail
      refine (l4Base_any 33 _ (by omega)).mono ?_
      rintro e wbx3 ⟨rfl, hwbx3⟩
      rw [← hwbx3] at hD hG
      clear hwbx3
      obtain ⟨x3, HXx3⟩ : ∃ y, Hid (Gr.pw 2147483579 4 33 = y) := ⟨_, Lib.hid rfl⟩
      rw [HXx3.out]
      clear HXx3
      obtain ⟨W, HW⟩ : ∃ W, Hid (wbx3 = W) := ⟨_, Lib.hid rfl⟩
      have hD7 := hD.alloc (.cells #[.int .i64 x1, .int .i64 x2, .int .i64 x3] 3 (0, 0))
      have hG7 := gtrans hG (World.grownBy_alloc wbx3 (.cells #[.int .i64 x1, .int .i64 x2, .int .i64 x3] 3 (0, 0)) (some B))
      have hcs : ∀ j, j < 2 → (wbx3.alloc (.cells #[.int .i64 x1, .int .i64 x2, .int .i64 x3] 3 (0, 0))).cell? ⟨wbx3.heap.size, j, none⟩ = some (.int .i64 (([x1, x2, x3] : List Int).getD j 0)) := fun j hj => (World.cell?_alloc_mark wbx3 _ _ _ j).trans (by
        match j, hj with
        | 0, _ => rfl
        | 1, _ => rfl)
      have hlc := LockMany_any (1 + y) wbx3.heap.size 2 3 [x1, x2, x3] _ (by omega) (by omega) (by simp) hcs
      clear hcs HW hD hG
      go_wp2_with fail
      refine hlc.mono ?_
      rintro e w6 ⟨s, ok, rfl, hs, hb6⟩
      have hG := gtrans hG7 (gb_belK hb6 B)
      have hD := hD7.belK hb6
      clear hb6 hG7 hD7 hlc hsl
      go_wp2_with fail
      refine (l91Seldom_any B a len cap zs _ s _ (by omega) (by omega) hD).mono ?_
      rintro e w9 ⟨t, q9, rfl, ht, q90, q91, hD9, hG9⟩
      go_wp2
      go_ret
      exact ⟨t, q9, rfl, by omega, by omega, by omega, hD9, gtrans hG hG9⟩
    · have hr0 : IntKind.i64.wrap (1 + 2) = 3 := by decide
      have hsl : ∀ g0 W, (Instr.slice 41 (.slice (some ⟨g0, 0, none⟩) 3 3) none (some (.int .i64 (3))) none).run Tryz.prog W = .ok (.slice (some ⟨g0, 0, none⟩) 3 3) W := fun g0 W => by
        simp [Instr.slice, Instr.sliceBounds, Instr.sliceBound, asIntOf, run_underlying Tryz.underlying41, Addr.add]
      go_wp2_with fail
      refine (pick_any B a len cap zs _ 3 _ (by omega) (by omega) hD).mono ?_
      rintro e wpy ⟨y, rfl, ya, yb, hDy, hGy⟩
      replace hG := gtrans hG hGy
      replace hD := hDy
      clear hGy hDy
      have hr1 : IntKind.i64.wrap (1 + y) = 1 + y := IntWalk.i64_in _ (by omega)
      go_wp2_with fail
      refine (l4Base_any 11 _ (by omega)).mono ?_
      rintro e wbx1 ⟨rfl, hwbx1⟩
      rw [← hwbx1] at hD hG
      clear hwbx1
      obtain ⟨x1, HXx1⟩ : ∃ y, Hid (Gr.pw 2147483579 4 11 = y) := ⟨_, Lib.hid rfl⟩
      rw [HXx1.out]
      clear HXx1
      go_wp2_with fail
      refine (l4Base_any 22 _ (by omega)).mono ?_
      rintro e wbx2 ⟨rfl, hwbx2⟩
      rw [← hwbx2] at hD hG
      clear hwbx2
      obtain ⟨x2, HXx2⟩ : ∃ y, Hid (Gr.pw 2147483579 4 22 = y) := ⟨_, Lib.hid rfl⟩
      rw [HXx2.out]
      clear HXx2
      go_wp2_with fail
      refine (l4Base_any 33 _ (by omega)).mono ?_
      rintro e wbx3 ⟨rfl, hwbx3⟩
      rw [← hwbx3] at hD hG
      clear hwbx3
      obtain ⟨x3, HXx3⟩ : ∃ y, Hid (Gr.pw 2147483579 4 33 = y) := ⟨_, Lib.hid rfl⟩
      rw [HXx3.out]
      clear HXx3
      obtain ⟨W, HW⟩ : ∃ W, Hid (wbx3 = W) := ⟨_, Lib.hid rfl⟩
      have hD7 := hD.alloc (.cells #[.int .i64 x1, .int .i64 x2, .int .i64 x3] 3 (0, 0))
      have hG7 := gtrans hG (World.grownBy_alloc wbx3 (.cells #[.int .i64 x1, .int .i64 x2, .int .i64 x3] 3 (0, 0)) (some B))
      have hcs : ∀ j, j < 3 → (wbx3.alloc (.cells #[.int .i64 x1, .int .i64 x2, .int .i64 x3] 3 (0, 0))).cell? ⟨wbx3.heap.size, j, none⟩ = some (.int .i64 (([x1, x2, x3] : List Int).getD j 0)) := fun j hj => (World.cell?_alloc_mark wbx3 _ _ _ j).trans (by
        match j, hj with
        | 0, _ => rfl
        | 1, _ => rfl
        | 2, _ => rfl)
      have hlc := LockMany_any (1 + y) wbx3.heap.size 3 3 [x1, x2, x3] _ (by omega) (by omega) (by simp) hcs
      clear hcs HW hD hG
      go_wp2_with fail
      refine hlc.mono ?_
      rintro e w6 ⟨s, ok, rfl, hs, hb6⟩
      have hG := gtrans hG7 (gb_belK hb6 B)
      have hD := hD7.belK hb6
      clear hb6 hG7 hD7 hlc hsl
      go_wp2_with fail
      refine (l91Seldom_any B a len cap zs _ s _ (by omega) (by omega) hD).mono ?_
      rintro e w9 ⟨t, q9, rfl, ht, q90, q91, hD9, hG9⟩
      go_wp2
      go_ret
      exact ⟨t, q9, rfl, by omega, by omega, by omega, hD9, gtrans hG hG9⟩
  · skip
    go_wp2_with fail
    refine (l91Word_any B a len cap zs _ _ (by omega) hD).mono ?_
    rintro e w2 ⟨s1, q1, rfl, hs1, q10, q11, hD2, hG2⟩
    replace hG := gtrans hG hG2
    replace hD := hD2
    clear hG2 hD2
    have hbd := Dg.of_bd s1
    go_wp2_with fail
    refine (specDigest_any s1 _ (by omega)).mono ?_
    rintro e w3 ⟨rfl, hb3⟩
    replace hG := gtrans hG (gb_belK hb3 B)
    replace hD := hD.belK hb3
    obtain ⟨d, HX⟩ : ∃ y, Hid (Dg.of s1 = y) := ⟨_, Lib.hid rfl⟩
    rw [HX.out] at hbd ⊢
    clear HX hb3
    obtain ⟨hd0, hd1⟩ := hbd
    go_wp2_with fail
    refine (l4Base_any 11 _ (by omega)).mono ?_
    rintro e wbx1 ⟨rfl, hwbx1⟩
    rw [← hwbx1] at hD hG
    clear hwbx1
    obtain ⟨x1, HXx1⟩ : ∃ y, Hid (Gr.pw 2147483579 4 11 = y) := ⟨_, Lib.hid rfl⟩
    rw [HXx1.out]
    clear HXx1
    go_wp2_with fail
    refine (pick_any B a len cap zs _ 20 _ (by omega) (by omega) hD).mono ?_
    rintro e wpu ⟨u, rfl, ua, ub, hDu, hGu⟩
    replace hG := gtrans hG hGu
    replace hD := hDu
    clear hGu hDu
    go_wp2_with fail
    refine (l4Base_any 22 _ (by omega)).mono ?_
    rintro e wbx2 ⟨rfl, hwbx2⟩
    rw [← hwbx2] at hD hG
    clear hwbx2
    obtain ⟨x2, HXx2⟩ : ∃ y, Hid (Gr.pw 2147483579 4 22 = y) := ⟨_, Lib.hid rfl⟩
    rw [HXx2.out]
    clear HXx2
    go_wp2_with fail
    refine (LockTimed_any d x1 u x2 _ hd0 hd1).mono ?_
    rintro e w6 ⟨s, ok, rfl, hs, hb6⟩
    replace hG := gtrans hG (gb_belK hb6 B)
    replace hD := hD.belK hb6
    clear hb6
    go_wp2_with fail
    refine (l91Seldom_any B a len cap zs _ s _ (by omega) (by omega) hD).mono ?_
    rintro e w9 ⟨t, q9, rfl, ht, q90, q91, hD9, hG9⟩
    go_wp2
    go_ret
    exact ⟨t, q9, rfl, by omega, by omega, by omega, hD9, gtrans hG hG9⟩
  · skip
    go_wp2_with fail
    refine (l4Base_any 44 _ (by omega)).mono ?_
    rintro e wbx1 ⟨rfl, hwbx1⟩
    rw [← hwbx1] at hD hG
    clear hwbx1
    obtain ⟨x1, HXx1⟩ : ∃ y, Hid (Gr.pw 2147483579 4 44 = y) := ⟨_, Lib.hid rfl⟩
    rw [HXx1.out]
    clear HXx1
    go_wp2_with fail
    refine (pick_any B a len cap zs _ 9 _ (by omega) (by omega) hD).mono ?_
    rintro e wpu ⟨u, rfl, ua, ub, hDu, hGu⟩
    replace hG := gtrans hG hGu
    replace hD := hDu
    clear hGu hDu
    have hr1 : IntKind.i64.wrap (1 + u) = 1 + u := IntWalk.i64_in _ (by omega)
    go_wp2_with fail
    refine (l4Base_any 11 _ (by omega)).mono ?_
    rintro e wbx2 ⟨rfl, hwbx2⟩
    rw [← hwbx2] at hD hG
    clear hwbx2
    obtain ⟨x2, HXx2⟩ : ∃ y, Hid (Gr.pw 2147483579 4 11 = y) := ⟨_, Lib.hid rfl⟩
    rw [HXx2.out]
    clear HXx2
    go_wp2_with fail
    refine (LockRevocable_any x1 (1 + u) x2 _).mono ?_
    rintro e w6 ⟨s, ok, rfl, hs, hb6⟩
    replace hG := gtrans hG (gb_belK hb6 B)
    replace hD := hD.belK hb6
    clear hb6
    go_wp2_with fail
    refine (l91Seldom_any B a len cap zs _ s _ (by omega) (by omega) hD).mono ?_
    rintro e w9 ⟨t, q9, rfl, ht, q90, q91, hD9, hG9⟩
    go_wp2
    go_ret
    exact ⟨t, q9, rfl, by omega, by omega, by omega, hD9, gtrans hG hG9⟩
  · skip
    go_wp2_with fail
    refine (l91Bytes_any B a len cap zs _ _ (by omega) hD).mono ?_
    rintro e w2 ⟨s0, q1, rfl, hs0, q10, q11, hD2, hG2⟩
    replace hG := gtrans hG hG2
    have hD4 := hD2.alloc (.cells ((([⟨#[]⟩, ⟨#[11]⟩, ⟨#[120]⟩, s0] : List ByteArray).map Value.string).toArray) 9)
    clear hD hG2
    go_wp2_with fail
    refine (pick_any B a len cap zs _ 4 _ (by omega) (by omega) hD4).mono ?_
    rintro e w4 ⟨u, rfl, a4, b4, hD5, hG5⟩
    obtain ⟨k, rfl⟩ := Int.eq_ofNat_of_zero_le a4
    have hk : k < 4 := by omega
    have hne : w2.heap.size ≠ B := by have := hD2.lt; omega
    obtain ⟨s, hs, hsz2⟩ : ∃ s : ByteArray, ([⟨#[]⟩, ⟨#[11]⟩, ⟨#[120]⟩, s0] : List ByteArray)[k]? = some s ∧ s.size ≤ 30 := by
      match k, hk with
      | 0, _ => exact ⟨_, rfl, by decide⟩
      | 1, _ => exact ⟨_, rfl, by decide⟩
      | 2, _ => exact ⟨_, rfl, by decide⟩
      | 3, _ => exact ⟨s0, rfl, hs0⟩
    have hc : w4.cell? ⟨w2.heap.size, k, none⟩ = some (.string s) := hG5.cell (lit_cellV _ _ _ _ _ (by rw [List.getElem?_map, hs]; rfl)) (by simpa using hne)
    replace hG := gtrans hG (gtrans (World.grownBy_alloc _ _ _) hG5)
    have hD := hD5
    clear hs hD2 hD4 hG5 hD5
    go_wp2_with fail
    refine (l91Seldom_any B a len cap zs _ s _ (by omega) (by omega) hD).mono ?_
    rintro e w9 ⟨t, q9, rfl, ht, q90, q91, hD9, hG9⟩
    go_wp2
    go_ret
    exact ⟨t, q9, rfl, by omega, by omega, by omega, hD9, gtrans hG hG9⟩
end Go.Proofs.YtoocibabceeagabGreat

/-
  Witnesses of the model: how long they are, for secrets that are valid.
-/
namespace Go.Proofs.YtoocibabceeagabGreat
open Go.RowKit

/-- A witness: at most m strings of at most 81 bytes. -/
def WitR (m : Nat) (w : World) (e : Ending) (w' : World) : Prop :=
  ∃ (ss : List ByteArray) (g cp : Nat), e = .returned (.tuple #[.slice (some ⟨g, 0, none⟩) ss.length cp, .bool true]) ∧ ss.length ≤ m ∧ (∀ s ∈ ss, s.size ≤ 81) ∧ Below w.heap.size w w' ∧
    w'.ownsRow w.heap.size 9 1 (.slice (some ⟨g, 0, none⟩) ss.length cp) ss.length (ss.map Value.string)
theorem tr_size (b : Bool) : (Vm.tr b).size ≤ 1 := by cases b <;> decide
theorem l12Secret_any (x : Int) (w : World) (x0 : 1 ≤ x) (x1 : x ≤ 1073741788) :
    Calls Tryz.prog 54 #[.int .i64 x] w fun e w' => e = .returned (.bool true) ∧ w' = w := by
  have hq : (decide (1 ≤ x) && decide (x ≤ 1073741788)) = true := by simp [x0, x1]
  have hcon := fun W => l6In_any x 1 1073741788 W
  rw [hq] at hcon
  clear hq x0 x1
  go_enter Tryz.func54, Tryz.ntmps54
  go_wp2_with fail
  refine (hcon _).mono ?_
  rintro e w1 ⟨rfl, rfl⟩
  go_wp2
  go_ret
  exact ⟨rfl, rfl⟩
set_option maxRecDepth 100000 in
set_option maxHeartbeats 1600000 in
theorem OpenKey_any (x : Int) (t : ByteArray) (w : World) (x0 : 1 ≤ x) (x1 : x ≤ 1073741788) (ht : t.size ≤ 1048576) :
    Calls Tryz.prog 13 #[.int .i64 x, .string t] w (WitR 5 w) := by
  go_enter Tryz.func13, Tryz.ntmps13
  go_wp2_with fail
  refine (l12Secret_any x _ x0 x1).mono ?_
  rintro e w1 ⟨rfl, hw1⟩
  rw [hw1]
  clear hw1
  go_wp2_with fail
  refine (l12Sig_any x t _ x0 x1 ht).mono ?_
  rintro e w2 ⟨s, rfl, hs, hb2⟩
  have hown := own_newS w2 w.heap.size hb2.size ([s] : List ByteArray) #[.string s] rfl (by simp)
  have hbz := below_alloc hb2 (.cells #[.string s] 9 (0, 0))
  go_wp2
  go_ret2
  exact ⟨[s], w2.heap.size, 1, rfl, by simp, fun u hu => by simp at hu; rcases hu with rfl <;> first | omega | decide, hbz, hown⟩
set_option maxRecDepth 100000 in
set_option maxHeartbeats 1600000 in
theorem OpenPayee_any (x : Int) (p : ByteArray) (t : ByteArray) (w : World) (x0 : 1 ≤ x) (x1 : x ≤ 1073741788) (ht : t.size ≤ 1048576) (hp : p.size ≤ 80) :
    Calls Tryz.prog 26 #[.int .i64 x, .string p, .string t] w (WitR 5 w) := by
  go_enter Tryz.func26, Tryz.ntmps26
  go_wp2_with fail
  refine (l12Secret_any x _ x0 x1).mono ?_
  rintro e w1 ⟨rfl, hw1⟩
  rw [hw1]
  clear hw1
  go_wp2_with fail
  refine (l12Sig_any x t _ x0 x1 ht).mono ?_
  rintro e w2 ⟨s, rfl, hs, hb2⟩
  have hbt := tr_size true
  obtain ⟨b1, HB⟩ : ∃ b, Hid (Vm.tr true = b) := ⟨_, Lib.hid rfl⟩
  have hcon := fun W => l11Bool_any true W
  rw [HB.out] at hcon hbt
  clear HB
  go_wp2_with fail
  refine (hcon _).mono ?_
  rintro e w3 ⟨rfl, hw3⟩
  rw [hw3]
  clear hw3
  have hown := own_newS w2 w.heap.size hb2.size ([s, p, b1] : List ByteArray) #[.string s, .string p, .string b1] rfl (by simp)
  have hbz := below_alloc hb2 (.cells #[.string s, .string p, .string b1] 9 (0, 0))
  go_wp2
  go_ret2
  exact ⟨[s, p, b1], w2.heap.size, 3, rfl, by simp, fun u hu => by simp at hu; rcases hu with rfl | rfl | rfl <;> first | omega | decide, hbz, hown⟩
set_option maxRecDepth 100000 in
set_option maxHeartbeats 1600000 in
theorem OpenLast_any (x : Int) (t : ByteArray) (w : World) (x0 : 1 ≤ x) (x1 : x ≤ 1073741788) (ht : t.size ≤ 1048576) :
    Calls Tryz.prog 32 #[.int .i64 x, .string t] w (WitR 5 w) := by
  go_enter Tryz.func32, Tryz.ntmps32
  go_wp2_with fail
  refine (l12Secret_any x _ x0 x1).mono ?_
  rintro e w1 ⟨rfl, hw1⟩
  rw [hw1]
  clear hw1
  go_wp2_with fail
  refine (l12Sig_any x t _ x0 x1 ht).mono ?_
  rintro e w2 ⟨s, rfl, hs, hb2⟩
  have hown := own_newS w2 w.heap.size hb2.size ([s, ⟨#[]⟩] : List ByteArray) #[.string s, .string ⟨#[]⟩] rfl (by simp)
  have hbz := below_alloc hb2 (.cells #[.string s, .string ⟨#[]⟩] 9 (0, 0))
  go_wp2
  go_ret2
  exact ⟨[s, ⟨#[]⟩], w2.heap.size, 2, rfl, by simp, fun u hu => by simp at hu; rcases hu with rfl | rfl <;> first | omega | decide, hbz, hown⟩
set_option maxRecDepth 100000 in
set_option maxHeartbeats 1600000 in
theorem OpenRevoked_any (x : Int) (t : ByteArray) (w : World) (x0 : 1 ≤ x) (x1 : x ≤ 1073741788) (ht : t.size ≤ 1048576) :
    Calls Tryz.prog 36 #[.int .i64 x, .string t] w (WitR 5 w) := by
  go_enter Tryz.func36, Tryz.ntmps36
  go_wp2_with fail
  refine (l12Secret_any x _ x0 x1).mono ?_
  rintro e w1 ⟨rfl, hw1⟩
  rw [hw1]
  clear hw1
  go_wp2_with fail
  refine (l12Sig_any x t _ x0 x1 ht).mono ?_
  rintro e w2 ⟨s, rfl, hs, hb2⟩
  have hbt := tr_size true
  obtain ⟨b1, HB⟩ : ∃ b, Hid (Vm.tr true = b) := ⟨_, Lib.hid rfl⟩
  have hcon := fun W => l11Bool_any true W
  rw [HB.out] at hcon hbt
  clear HB
  go_wp2_with fail
  refine (hcon _).mono ?_
  rintro e w3 ⟨rfl, hw3⟩
  rw [hw3]
  clear hw3
  have hown := own_newS w2 w.heap.size hb2.size ([s, b1] : List ByteArray) #[.string s, .string b1] rfl (by simp)
  have hbz := below_alloc hb2 (.cells #[.string s, .string b1] 9 (0, 0))
  go_wp2
  go_ret2
  exact ⟨[s, b1], w2.heap.size, 2, rfl, by simp, fun u hu => by simp at hu; rcases hu with rfl | rfl <;> first | omega | decide, hbz, hown⟩
set_option maxRecDepth 100000 in
set_option maxHeartbeats 1600000 in
theorem OpenMany_any (a : Option Addr) (len cap : Nat) (zs : List Int) (t : ByteArray) (w : World) (hz : IR w a len zs) (hr : ∀ j, j < len → 1 ≤ zs.getD j 0 ∧ zs.getD j 0 ≤ 1073741788) (h1 : 1 ≤ len) (h5 : len ≤ 5) (ht : t.size ≤ 1048576) :
    Calls Tryz.prog 22 #[.slice a len cap, .string t] w (WitR 5 w) := by
  obtain ⟨i0, hi, hz0, hz1, hz2⟩ := info_parts info_str
  have HZ := Lib.hid hz
  have HR := Lib.hid hr
  have hown0 : (w.alloc (.cells #[] 9 (0, 0))).ownsRow w.heap.size 9 1 (.slice (some ⟨w.heap.size, 0, none⟩) 0 0) 0 [] := World.ownsRow_made (e := 9) (size := 1) w #[] 0 (Nat.le_refl _) (by decide) rfl
  have hb0 : Below w.heap.size w (w.alloc (.cells #[] 9 (0, 0))) := below_alloc (Below.refl _ _) _
  have HO0 := Lib.hid hown0
  clear hz hr hown0
  go_enter Tryz.func22, Tryz.ntmps22
  go_wp2
  go_loopw [6, 7] (fun v i wr => ∃ (k : Nat) (ss : List ByteArray) (g cp : Nat), k ≤ len ∧ i = .int .i64 (k : Int) ∧ v = .slice (some ⟨g, 0, none⟩) k cp ∧ Hid (ss.length = k) ∧ Hid (∀ s ∈ ss, s.size ≤ 81) ∧ Below w.heap.size w wr ∧ Hid (wr.ownsRow w.heap.size 9 1 (.slice (some ⟨g, 0, none⟩) k cp) k (ss.map Value.string)))
    (fun _ i _ => len - (intOf i).toNat)
  case atStart => exact ⟨0, [], w.heap.size, 0, by omega, rfl, rfl, Lib.hid rfl, Lib.hid (fun s hs => absurd hs (by simp)), hb0, HO0⟩
  case round =>
    obtain ⟨k, ss, g, cp, hk, rfl, rfl, HL, HSZ, hbel, HOWN⟩ := hrel
    clear hb0 HO0
    by_cases hlt : k < len
    · obtain ⟨b, off, rfl, _, hc⟩ := (HZ.out.below hbel).2 (by omega)
      have hck := hc k hlt
      obtain ⟨r0, r1⟩ := HR.out k hlt
      obtain ⟨x, HX⟩ : ∃ x, Hid (zs.getD k 0 = x) := ⟨_, Lib.hid rfl⟩
      rw [HX.out] at hck r0 r1
      clear HX hc
      go_wp2_with fail
      refine (l12Secret_any x _ r0 r1).mono ?_
      rintro e w1 ⟨rfl, hw1⟩
      rw [hw1]
      clear hw1
      go_wp2_with fail
      refine (l12Sig_any x t _ r0 r1 ht).mono ?_
      rintro e w2 ⟨s, rfl, hs, hb2⟩
      have hown2 := HOWN.out.kept (row := none) ⟨hb2.os, hb2.tape, hb2.output, hb2.size, fun k hk _ => hb2.block k hk⟩ (.inr (by simp [Value.ownBlock]))
      have hb3 := hbel.trans (hb2.mono hbel.size)
      have hsz3 := hb3.size
      clear HOWN hck hb2
      go_wp2_with (at_builtin; refine wpList_append_own _ rfl _ _ 25 rfl w.heap.size 9 i0 (.string ByteArray.empty) 1 16 Tryz.underlying25 hi hz0 hz1 hz2 rfl (by decide) _ _ _ rfl (hown2.alloc _) ⟨w2.heap.size, 0, none⟩ 1 1 [.string s] rfl rfl ?c1 ?c2 ?c3 ?c4 ?c5 ?_)
      case c1 => exact one_new _ _ _
      case c2 => intro u hu; simp at hu; subst hu; rfl
      case c3 => unfold maxLen; omega
      case c4 => omega
      case c5 => simp; omega
      intro v' w8 hown8 hgrow _
      have hb8 := Below.grown (below_alloc hb3 (.cells #[.string s] 9 (0, 0))) hgrow (below_alloc hb3 (.cells #[.string s] 9 (0, 0))).size (fun j he => (hown2.lt j he).1)
      obtain ⟨g8, cp8, rfl⟩ : ∃ g cp, v' = .slice (some ⟨g, 0, none⟩) (k + 1) cp := by
        rcases hown8.2 with ⟨h, h0⟩ | ⟨g, cap, cur, h, _⟩
        · omega
        · exact ⟨_, _, h⟩
      have hown9 : Hid (w8.ownsRow w.heap.size 9 1 (.slice (some ⟨g8, 0, none⟩) (k + 1) cp8) (k + 1) ((ss ++ [s]).map Value.string)) := Lib.hid (by
        rw [List.map_append]
        exact hown8)
      have HL2 : Hid ((ss ++ [s]).length = k + 1) := Lib.hid (by rw [List.length_append, HL.out]; rfl)
      have HSZ2 : Hid (∀ u ∈ ss ++ [s], u.size ≤ 81) := Lib.hid fun u hu => by
        rcases List.mem_append.1 hu with h | h
        · exact HSZ.out u h
        · simp at h; subst h; omega
      clear hown2 hgrow hown8 hb3
      go_wp2
      go_roundw
      case rel => exact ⟨k + 1, ss ++ [s], g8, cp8, by omega, by simp, by simp, HL2, HSZ2, hb8, hown9⟩
      case measure => simp [intOf]; omega
    · obtain rfl : k = len := by omega
      have hq : (decide ((1 : Int) ≤ (k : Int)) && decide ((k : Int) ≤ 5)) = true := by simp; omega
      have hcon := fun W => l6In_any (k : Int) 1 5 W
      rw [hq] at hcon
      clear hq
      go_wp2_with fail
      refine (hcon _).mono ?_
      rintro e w1 ⟨rfl, rfl⟩
      have hl := HL.out
      go_wp2
      go_ret2
      refine ⟨ss, g, cp, ?_, by omega, HSZ.out, hbel, ?_⟩
      · rw [hl]; rfl
      · rw [hl]; exact HOWN.out
end Go.Proofs.YtoocibabceeagabGreat

/-
  Drawing for chapter 11: witnesses; what Unlock is asked.
-/
namespace Go.Proofs.YtoocibabceeagabGreat
open Go.RowKit

/-- Drawing a witness. -/
def StackQ (B : Nat) (a : Option Addr) (len cap : Nat) (zs : List Int) (p c : Nat) (m L : Nat) (w : World) (e : Ending) (w' : World) : Prop :=
  ∃ (ss : List ByteArray) (q g cp : Nat), e = .returned (.slice (some ⟨g, 0, none⟩) ss.length cp) ∧ ss.length ≤ m ∧ (∀ s ∈ ss, s.size ≤ L) ∧ p ≤ q ∧ q ≤ p + c ∧ Dw B a len cap zs w' q ∧ w.grownBy w' (some B) ∧
    w'.ownsRow w.heap.size 9 1 (.slice (some ⟨g, 0, none⟩) ss.length cp) ss.length (ss.map Value.string)
set_option maxRecDepth 100000 in
set_option maxHeartbeats 12800000 in
theorem l91Witness_any (B : Nat) (a : Option Addr) (len cap : Nat) (zs : List Int) (p : Nat) (t : ByteArray) (w : World) (ht : t.size ≤ 1048576) (hp : p ≤ 300000000) (hD0 : Dw B a len cap zs w p) :
    Calls Tryz.prog 112 #[.pointer (some ⟨B, 0, none⟩), .string t] w (StackQ B a len cap zs p 20 6 81 w) := by
  obtain ⟨i0, hi, hz0, hz1, hz2⟩ := info_parts info_str
  have hBw := hD0.lt
  go_enter Tryz.func112, Tryz.ntmps112
  go_wp2_with fail
  refine (pick_any B a len cap zs _ 6 _ (by omega) (by omega) (hD0.alloc (.cells #[] 9 (0, 0)))).mono ?_
  rintro e w1 ⟨v, rfl, a1, b1, hD, hG1⟩
  have hG := gtrans (World.grownBy_alloc w (.cells #[] 9 (0, 0)) (some B)) hG1
  have hv : v = 0 ∨ v = 1 ∨ v = 2 ∨ v = 3 ∨ v = 4 ∨ v = 5 := by omega
  clear a1 b1 hD0 hG1
  rcases hv with rfl | rfl | rfl | rfl | rfl | rfl
  · skip
    go_wp2_with fail
    refine (pick_any B a len cap zs _ 4 _ (by omega) (by omega) hD).mono ?_
    rintro e wpu ⟨u, rfl, xa, xb, hDu, hGu⟩
    replace hG := gtrans hG hGu
    replace hD := hDu
    clear hGu hDu
    have hr1 : IntKind.i64.wrap (1 + u) = 1 + u := IntWalk.i64_in _ (by omega)
    have hr2 : IntKind.i64.wrap (11 * (1 + u)) = 11 * (1 + u) := IntWalk.i64_in _ (by omega)
    have hG0s := hG.size
    go_wp2_with fail
    refine (OpenKey_any (11 * (1 + u)) t _ (by omega) (by omega) ht).mono ?_
    rintro e W9 ⟨ss, g, cp, rfl, hl5, hsz, hb9, hown⟩
    replace hG := gtrans hG (gb_belK hb9 B)
    replace hD := hD.belK hb9
    clear hb9
    clear hr1 hr2
    have hown0 := own_low hown hG0s
    have hneo := own_ne hown0 hBw
    have HSZ := Lib.hid hsz
    clear hown hsz hG0s
    go_wp2_with fail
    refine (pick_any B a len cap zs _ 12 _ (by omega) (by omega) hD).mono ?_
    rintro e W10 ⟨y, rfl, y0, y1, hD10, hG10'⟩
    have hown10 := hown0.kept hG10' hneo
    have hG10 := gtrans hG hG10'
    clear hG hG10' hD hown0
    by_cases hy : y = 0
    · subst hy
      go_wp2_with fail
      refine (l91Word_any B a len cap zs _ _ (by omega) hD10).mono ?_
      rintro e W11 ⟨s2, q2, rfl, z2, p2, r2, hD11, hG11'⟩
      have hown11 := hown10.kept hG11' hneo
      have hG11 := gtrans hG10 hG11'
      have hbw := hG11.size
      clear hG10 hG11' hD10 hown10
      go_wp2_with (at_builtin; refine wpList_append_own _ rfl _ _ 25 rfl w.heap.size 9 i0 (.string ByteArray.empty) 1 16 Tryz.underlying25 hi hz0 hz1 hz2 rfl (by decide) _ _ _ rfl (hown11.alloc _) ⟨W11.heap.size, 0, none⟩ 1 1 [.string s2] rfl rfl ?c1 ?c2 ?c3 ?c4 ?c5 ?_)
      case c1 => exact one_new _ _ _
      case c2 => intro u hu; simp at hu; subst hu; rfl
      case c3 => unfold maxLen; omega
      case c4 => omega
      case c5 => simp; omega
      intro v' w8 hown8 hgrow _
      have hD8 : Dw B a len cap zs w8 q2 := (hD11.alloc _).of fun k hk => hgrow.block k (by have := hD11.lt; simp; omega) (fun e => by have := (hown11.lt _ e.symm).1; omega)
      have hG8 := gtrans_own (gtrans hG11 (World.grownBy_alloc _ _ _)) hgrow (fun j he => (hown11.lt _ he).1)
      obtain ⟨g8, cp8, rfl⟩ : ∃ g cp, v' = .slice (some ⟨g, 0, none⟩) (ss.length + 1) cp := by
        rcases hown8.2 with ⟨h, h0⟩ | ⟨g, cap, cur, h, _⟩
        · omega
        · exact ⟨_, _, h⟩
      have hown9 : w8.ownsRow w.heap.size 9 1 (.slice (some ⟨g8, 0, none⟩) (ss ++ [s2]).length cp8) (ss ++ [s2]).length ((ss ++ [s2]).map Value.string) := by
        rw [List.length_append, List.map_append]
        exact hown8
      clear hown11 hgrow hG11 hD11 hown8
      go_wp2
      go_ret
      refine ⟨ss ++ [s2], q2, g8, cp8, by simp, by simp; omega, fun s hs => ?_, by omega, by omega, hD8, hG8, hown9⟩
      rcases List.mem_append.1 hs with h | h
      · exact HSZ.out s h
      · simp at h; subst h; omega
    · have hyq : (y == 0) = false := by simpa using hy
      clear hy
      go_wp2
      go_ret
      exact ⟨ss, _, g, cp, rfl, by omega, HSZ.out, by omega, by omega, hD10, hG10, hown10⟩
  · skip
    go_wp2_with fail
    refine (l91Word_any B a len cap zs _ _ (by omega) hD).mono ?_
    rintro e W9 ⟨s, q2, rfl, z2, p2, r2, hDu, hGu⟩
    replace hG := gtrans hG hGu
    have hG0s := hG.size
    have hown : (W9.alloc (.cells #[.string s] 9 (0, 0))).ownsRow W9.heap.size 9 1 (.slice (some ⟨W9.heap.size, 0, none⟩) 1 1) 1 [.string s] := own_newS W9 W9.heap.size (Nat.le_refl _) ([s] : List ByteArray) #[.string s] rfl (by simp)
    replace hD := hDu.alloc (.cells #[.string s] 9 (0, 0))
    replace hG := gb_allocK hG (.cells #[.string s] 9 (0, 0))
    have hsz : ∀ x ∈ ([s] : List ByteArray), x.size ≤ 81 := fun x hx => by simp at hx; subst hx; omega
    clear hDu hGu
    have hown0 := own_low hown hG0s
    have hneo := own_ne hown0 hBw
    have HSZ := Lib.hid hsz
    clear hown hsz hG0s
    go_wp2_with fail
    refine (pick_any B a len cap zs _ 12 _ (by omega) (by omega) hD).mono ?_
    rintro e W10 ⟨y, rfl, y0, y1, hD10, hG10'⟩
    have hown10 := hown0.kept hG10' hneo
    have hG10 := gtrans hG hG10'
    clear hG hG10' hD hown0
    by_cases hy : y = 0
    · subst hy
      go_wp2_with fail
      refine (l91Word_any B a len cap zs _ _ (by omega) hD10).mono ?_
      rintro e W11 ⟨s2, q2, rfl, z2, p2, r2, hD11, hG11'⟩
      have hown11 := hown10.kept hG11' hneo
      have hG11 := gtrans hG10 hG11'
      have hbw := hG11.size
      clear hG10 hG11' hD10 hown10
      go_wp2_with (at_builtin; refine wpList_append_own _ rfl _ _ 25 rfl w.heap.size 9 i0 (.string ByteArray.empty) 1 16 Tryz.underlying25 hi hz0 hz1 hz2 rfl (by decide) _ _ _ rfl (hown11.alloc _) ⟨W11.heap.size, 0, none⟩ 1 1 [.string s2] rfl rfl ?c1 ?c2 ?c3 ?c4 ?c5 ?_)
      case c1 => exact one_new _ _ _
      case c2 => intro u hu; simp at hu; subst hu; rfl
      case c3 => unfold maxLen; omega
      case c4 => omega
      case c5 => simp; omega
      intro v' w8 hown8 hgrow _
      have hD8 : Dw B a len cap zs w8 q2 := (hD11.alloc _).of fun k hk => hgrow.block k (by have := hD11.lt; simp; omega) (fun e => by have := (hown11.lt _ e.symm).1; omega)
      have hG8 := gtrans_own (gtrans hG11 (World.grownBy_alloc _ _ _)) hgrow (fun j he => (hown11.lt _ he).1)
      obtain ⟨g8, cp8, rfl⟩ : ∃ g cp, v' = .slice (some ⟨g, 0, none⟩) (1 + 1) cp := by
        rcases hown8.2 with ⟨h, h0⟩ | ⟨g, cap, cur, h, _⟩
        · omega
        · exact ⟨_, _, h⟩
      have hown9 : w8.ownsRow w.heap.size 9 1 (.slice (some ⟨g8, 0, none⟩) ([s] ++ [s2]).length cp8) ([s] ++ [s2]).length (([s] ++ [s2]).map Value.string) := by
        skip
        exact hown8
      clear hown11 hgrow hG11 hD11 hown8
      go_wp2
      go_ret
      refine ⟨[s] ++ [s2], q2, g8, cp8, by simp, by simp, fun s hs => ?_, by omega, by omega, hD8, hG8, hown9⟩
      rcases List.mem_append.1 hs with h | h
      · exact HSZ.out s h
      · simp at h; subst h; omega
    · have hyq : (y == 0) = false := by simpa using hy
      clear hy
      go_wp2
      go_ret
      exact ⟨[s], _, W9.heap.size, 1, rfl, by simp, HSZ.out, by omega, by omega, hD10, hG10, hown10⟩
  · skip
    go_wp2_with fail
    refine (pick_any B a len cap zs _ 3 _ (by omega) (by omega) (hD.alloc (.cells #[.int .i64 11, .int .i64 22, .int .i64 33] 3 (0, 0)))).mono ?_
    rintro e wpu ⟨u, rfl, xa, xb, hDu, hGu⟩
    have hne : w1.heap.size ≠ B := by have := hD.lt; omega
    have hc : ∀ j : Nat, j < 3 → wpu.cell? ⟨w1.heap.size, j, none⟩ = some (.int .i64 (([11, 22, 33] : List Int).getD j 0)) := fun j hj => hGu.cell (lit_cell [11, 22, 33] 3 w1 j (by simpa using hj)) (by simpa using hne)
    have hlt9 : w1.heap.size < wpu.heap.size := Nat.lt_of_lt_of_le (by simp) hGu.size
    replace hG := gtrans (gb_allocK hG (.cells #[.int .i64 11, .int .i64 22, .int .i64 33] 3 (0, 0))) hGu
    replace hD := hDu
    clear hGu hDu
    obtain ⟨k, rfl⟩ := Int.eq_ofNat_of_zero_le xa
    have hr1 : IntKind.i64.wrap (1 + (k : Int)) = ((k + 1 : Nat) : Int) := by rw [IntWalk.i64_in _ (by omega)]; omega
    have HIR : Hid (IR wpu (some ⟨w1.heap.size, 0, none⟩) (k + 1) (([11, 22, 33] : List Int).take (k + 1))) := Lib.hid ⟨by rw [List.length_take]; simp; omega, fun _ => ⟨w1.heap.size, 0, rfl, hlt9, fun j hj => by
      rw [Nat.zero_add, hc j (by omega)]
      rw [List.getD_eq_getElem?_getD, List.getD_eq_getElem?_getD, List.getElem?_take_of_lt hj]⟩⟩
    have HRG : Hid (∀ j, j < k + 1 → 1 ≤ (([11, 22, 33] : List Int).take (k + 1)).getD j 0 ∧ (([11, 22, 33] : List Int).take (k + 1)).getD j 0 ≤ 1073741788) := Lib.hid fun j hj => by
      rw [List.getD_eq_getElem?_getD, List.getElem?_take_of_lt hj]
      match j, (show j < 3 by omega) with
      | 0, _ => exact ⟨by decide, by decide⟩
      | 1, _ => exact ⟨by decide, by decide⟩
      | 2, _ => exact ⟨by decide, by decide⟩
    have h3 : (k : Int) + 1 ≤ 3 := by omega
    clear hc hlt9 hne
    have hG0s := hG.size
    go_wp2_with fail
    refine (OpenMany_any (some ⟨w1.heap.size, 0, none⟩) (k + 1) 3 _ t _ HIR.out HRG.out (by omega) (by omega) ht).mono ?_
    rintro e W9 ⟨ss, g, cp, rfl, hl5, hsz, hb9, hown⟩
    replace hG := gtrans hG (gb_belK hb9 B)
    replace hD := hD.belK hb9
    clear hb9
    clear hr1
    have hown0 := own_low hown hG0s
    have hneo := own_ne hown0 hBw
    have HSZ := Lib.hid hsz
    clear hown hsz hG0s
    go_wp2_with fail
    refine (pick_any B a len cap zs _ 12 _ (by omega) (by omega) hD).mono ?_
    rintro e W10 ⟨y, rfl, y0, y1, hD10, hG10'⟩
    have hown10 := hown0.kept hG10' hneo
    have hG10 := gtrans hG hG10'
    clear hG hG10' hD hown0
    by_cases hy : y = 0
    · subst hy
      go_wp2_with fail
      refine (l91Word_any B a len cap zs _ _ (by omega) hD10).mono ?_
      rintro e W11 ⟨s2, q2, rfl, z2, p2, r2, hD11, hG11'⟩
      have hown11 := hown10.kept hG11' hneo
      have hG11 := gtrans hG10 hG11'
      have hbw := hG11.size
      clear hG10 hG11' hD10 hown10
      go_wp2_with (at_builtin; refine wpList_append_own _ rfl _ _ 25 rfl w.heap.size 9 i0 (.string ByteArray.empty) 1 16 Tryz.underlying25 hi hz0 hz1 hz2 rfl (by decide) _ _ _ rfl (hown11.alloc _) ⟨W11.heap.size, 0, none⟩ 1 1 [.string s2] rfl rfl ?c1 ?c2 ?c3 ?c4 ?c5 ?_)
      case c1 => exact one_new _ _ _
      case c2 => intro u hu; simp at hu; subst hu; rfl
      case c3 => unfold maxLen; omega
      case c4 => omega
      case c5 => simp; omega
      intro v' w8 hown8 hgrow _
      have hD8 : Dw B a len cap zs w8 q2 := (hD11.alloc _).of fun k hk => hgrow.block k (by have := hD11.lt; simp; omega) (fun e => by have := (hown11.lt _ e.symm).1; omega)
      have hG8 := gtrans_own (gtrans hG11 (World.grownBy_alloc _ _ _)) hgrow (fun j he => (hown11.lt _ he).1)
      obtain ⟨g8, cp8, rfl⟩ : ∃ g cp, v' = .slice (some ⟨g, 0, none⟩) (ss.length + 1) cp := by
        rcases hown8.2 with ⟨h, h0⟩ | ⟨g, cap, cur, h, _⟩
        · omega
        · exact ⟨_, _, h⟩
      have hown9 : w8.ownsRow w.heap.size 9 1 (.slice (some ⟨g8, 0, none⟩) (ss ++ [s2]).length cp8) (ss ++ [s2]).length ((ss ++ [s2]).map Value.string) := by
        rw [List.length_append, List.map_append]
        exact hown8
      clear hown11 hgrow hG11 hD11 hown8
      go_wp2
      go_ret
      refine ⟨ss ++ [s2], q2, g8, cp8, by simp, by simp; omega, fun s hs => ?_, by omega, by omega, hD8, hG8, hown9⟩
      rcases List.mem_append.1 hs with h | h
      · exact HSZ.out s h
      · simp at h; subst h; omega
    · have hyq : (y == 0) = false := by simpa using hy
      clear hy
      go_wp2
      go_ret
      exact ⟨ss, _, g, cp, rfl, by omega, HSZ.out, by omega, by omega, hD10, hG10, hown10⟩
  · skip
    go_wp2_with fail
    refine (l91Word_any B a len cap zs _ _ (by omega) hD).mono ?_
    rintro e wpu ⟨s, q2, rfl, z2, p2, r2, hDu, hGu⟩
    replace hG := gtrans hG hGu
    replace hD := hDu
    clear hDu hGu
    have hG0s := hG.size
    go_wp2_with fail
    refine (OpenPayee_any 11 s t _ (by omega) (by omega) ht (by omega)).mono ?_
    rintro e W9 ⟨ss, g, cp, rfl, hl5, hsz, hb9, hown⟩
    replace hG := gtrans hG (gb_belK hb9 B)
    replace hD := hD.belK hb9
    clear hb9
    have hown0 := own_low hown hG0s
    have hneo := own_ne hown0 hBw
    have HSZ := Lib.hid hsz
    clear hown hsz hG0s
    go_wp2_with fail
    refine (pick_any B a len cap zs _ 12 _ (by omega) (by omega) hD).mono ?_
    rintro e W10 ⟨y, rfl, y0, y1, hD10, hG10'⟩
    have hown10 := hown0.kept hG10' hneo
    have hG10 := gtrans hG hG10'
    clear hG hG10' hD hown0
    by_cases hy : y = 0
    · subst hy
      go_wp2_with fail
      refine (l91Word_any B a len cap zs _ _ (by omega) hD10).mono ?_
      rintro e W11 ⟨s2, q2, rfl, z2, p2, r2, hD11, hG11'⟩
      have hown11 := hown10.kept hG11' hneo
      have hG11 := gtrans hG10 hG11'
      have hbw := hG11.size
      clear hG10 hG11' hD10 hown10
      go_wp2_with (at_builtin; refine wpList_append_own _ rfl _ _ 25 rfl w.heap.size 9 i0 (.string ByteArray.empty) 1 16 Tryz.underlying25 hi hz0 hz1 hz2 rfl (by decide) _ _ _ rfl (hown11.alloc _) ⟨W11.heap.size, 0, none⟩ 1 1 [.string s2] rfl rfl ?c1 ?c2 ?c3 ?c4 ?c5 ?_)
      case c1 => exact one_new _ _ _
      case c2 => intro u hu; simp at hu; subst hu; rfl
      case c3 => unfold maxLen; omega
      case c4 => omega
      case c5 => simp; omega
      intro v' w8 hown8 hgrow _
      have hD8 : Dw B a len cap zs w8 q2 := (hD11.alloc _).of fun k hk => hgrow.block k (by have := hD11.lt; simp; omega) (fun e => by have := (hown11.lt _ e.symm).1; omega)
      have hG8 := gtrans_own (gtrans hG11 (World.grownBy_alloc _ _ _)) hgrow (fun j he => (hown11.lt _ he).1)
      obtain ⟨g8, cp8, rfl⟩ : ∃ g cp, v' = .slice (some ⟨g, 0, none⟩) (ss.length + 1) cp := by
        rcases hown8.2 with ⟨h, h0⟩ | ⟨g, cap, cur, h, _⟩
        · omega
        · exact ⟨_, _, h⟩
      have hown9 : w8.ownsRow w.heap.size 9 1 (.slice (some ⟨g8, 0, none⟩) (ss ++ [s2]).length cp8) (ss ++ [s2]).length ((ss ++ [s2]).map Value.string) := by
        rw [List.length_append, List.map_append]
        exact hown8
      clear hown11 hgrow hG11 hD11 hown8
      go_wp2
      go_ret
      refine ⟨ss ++ [s2], q2, g8, cp8, by simp, by simp; omega, fun s hs => ?_, by omega, by omega, hD8, hG8, hown9⟩
      rcases List.mem_append.1 hs with h | h
      · exact HSZ.out s h
      · simp at h; subst h; omega
    · have hyq : (y == 0) = false := by simpa using hy
      clear hy
      go_wp2
      go_ret
      exact ⟨ss, _, g, cp, rfl, by omega, HSZ.out, by omega, by omega, hD10, hG10, hown10⟩
  · skip
    go_wp2_with fail
    refine (pick_any B a len cap zs _ 4 _ (by omega) (by omega) hD).mono ?_
    rintro e wpu ⟨u, rfl, xa, xb, hDu, hGu⟩
    replace hG := gtrans hG hGu
    replace hD := hDu
    clear hGu hDu
    have hr1 : IntKind.i64.wrap (1 + u) = 1 + u := IntWalk.i64_in _ (by omega)
    have hr2 : IntKind.i64.wrap (11 * (1 + u)) = 11 * (1 + u) := IntWalk.i64_in _ (by omega)
    have hG0s := hG.size
    go_wp2_with fail
    refine (OpenLast_any (11 * (1 + u)) t _ (by omega) (by omega) ht).mono ?_
    rintro e W9 ⟨ss, g, cp, rfl, hl5, hsz, hb9, hown⟩
    replace hG := gtrans hG (gb_belK hb9 B)
    replace hD := hD.belK hb9
    clear hb9
    clear hr1 hr2
    have hown0 := own_low hown hG0s
    have hneo := own_ne hown0 hBw
    have HSZ := Lib.hid hsz
    clear hown hsz hG0s
    go_wp2_with fail
    refine (pick_any B a len cap zs _ 12 _ (by omega) (by omega) hD).mono ?_
    rintro e W10 ⟨y, rfl, y0, y1, hD10, hG10'⟩
    have hown10 := hown0.kept hG10' hneo
    have hG10 := gtrans hG hG10'
    clear hG hG10' hD hown0
    by_cases hy : y = 0
    · subst hy
      go_wp2_with fail
      refine (l91Word_any B a len cap zs _ _ (by omega) hD10).mono ?_
      rintro e W11 ⟨s2, q2, rfl, z2, p2, r2, hD11, hG11'⟩
      have hown11 := hown10.kept hG11' hneo
      have hG11 := gtrans hG10 hG11'
      have hbw := hG11.size
      clear hG10 hG11' hD10 hown10
      go_wp2_with (at_builtin; refine wpList_append_own _ rfl _ _ 25 rfl w.heap.size 9 i0 (.string ByteArray.empty) 1 16 Tryz.underlying25 hi hz0 hz1 hz2 rfl (by decide) _ _ _ rfl (hown11.alloc _) ⟨W11.heap.size, 0, none⟩ 1 1 [.string s2] rfl rfl ?c1 ?c2 ?c3 ?c4 ?c5 ?_)
      case c1 => exact one_new _ _ _
      case c2 => intro u hu; simp at hu; subst hu; rfl
      case c3 => unfold maxLen; omega
      case c4 => omega
      case c5 => simp; omega
      intro v' w8 hown8 hgrow _
      have hD8 : Dw B a len cap zs w8 q2 := (hD11.alloc _).of fun k hk => hgrow.block k (by have := hD11.lt; simp; omega) (fun e => by have := (hown11.lt _ e.symm).1; omega)
      have hG8 := gtrans_own (gtrans hG11 (World.grownBy_alloc _ _ _)) hgrow (fun j he => (hown11.lt _ he).1)
      obtain ⟨g8, cp8, rfl⟩ : ∃ g cp, v' = .slice (some ⟨g, 0, none⟩) (ss.length + 1) cp := by
        rcases hown8.2 with ⟨h, h0⟩ | ⟨g, cap, cur, h, _⟩
        · omega
        · exact ⟨_, _, h⟩
      have hown9 : w8.ownsRow w.heap.size 9 1 (.slice (some ⟨g8, 0, none⟩) (ss ++ [s2]).length cp8) (ss ++ [s2]).length ((ss ++ [s2]).map Value.string) := by
        rw [List.length_append, List.map_append]
        exact hown8
      clear hown11 hgrow hG11 hD11 hown8
      go_wp2
      go_ret
      refine ⟨ss ++ [s2], q2, g8, cp8, by simp, by simp; omega, fun s hs => ?_, by omega, by omega, hD8, hG8, hown9⟩
      rcases List.mem_append.1 hs with h | h
      · exact HSZ.out s h
      · simp at h; subst h; omega
    · have hyq : (y == 0) = false := by simpa using hy
      clear hy
      go_wp2
      go_ret
      exact ⟨ss, _, g, cp, rfl, by omega, HSZ.out, by omega, by omega, hD10, hG10, hown10⟩
  · skip
    have hG0s := hG.size
    go_wp2_with fail
    refine (OpenRevoked_any 44 t _ (by omega) (by omega) ht).mono ?_
    rintro e W9 ⟨ss, g, cp, rfl, hl5, hsz, hb9, hown⟩
    replace hG := gtrans hG (gb_belK hb9 B)
    replace hD := hD.belK hb9
    clear hb9
    have hown0 := own_low hown hG0s
    have hneo := own_ne hown0 hBw
    have HSZ := Lib.hid hsz
    clear hown hsz hG0s
    go_wp2_with fail
    refine (pick_any B a len cap zs _ 12 _ (by omega) (by omega) hD).mono ?_
    rintro e W10 ⟨y, rfl, y0, y1, hD10, hG10'⟩
    have hown10 := hown0.kept hG10' hneo
    have hG10 := gtrans hG hG10'
    clear hG hG10' hD hown0
    by_cases hy : y = 0
    · subst hy
      go_wp2_with fail
      refine (l91Word_any B a len cap zs _ _ (by omega) hD10).mono ?_
      rintro e W11 ⟨s2, q2, rfl, z2, p2, r2, hD11, hG11'⟩
      have hown11 := hown10.kept hG11' hneo
      have hG11 := gtrans hG10 hG11'
      have hbw := hG11.size
      clear hG10 hG11' hD10 hown10
      go_wp2_with (at_builtin; refine wpList_append_own _ rfl _ _ 25 rfl w.heap.size 9 i0 (.string ByteArray.empty) 1 16 Tryz.underlying25 hi hz0 hz1 hz2 rfl (by decide) _ _ _ rfl (hown11.alloc _) ⟨W11.heap.size, 0, none⟩ 1 1 [.string s2] rfl rfl ?c1 ?c2 ?c3 ?c4 ?c5 ?_)
      case c1 => exact one_new _ _ _
      case c2 => intro u hu; simp at hu; subst hu; rfl
      case c3 => unfold maxLen; omega
      case c4 => omega
      case c5 => simp; omega
      intro v' w8 hown8 hgrow _
      have hD8 : Dw B a len cap zs w8 q2 := (hD11.alloc _).of fun k hk => hgrow.block k (by have := hD11.lt; simp; omega) (fun e => by have := (hown11.lt _ e.symm).1; omega)
      have hG8 := gtrans_own (gtrans hG11 (World.grownBy_alloc _ _ _)) hgrow (fun j he => (hown11.lt _ he).1)
      obtain ⟨g8, cp8, rfl⟩ : ∃ g cp, v' = .slice (some ⟨g, 0, none⟩) (ss.length + 1) cp := by
        rcases hown8.2 with ⟨h, h0⟩ | ⟨g, cap, cur, h, _⟩
        · omega
        · exact ⟨_, _, h⟩
      have hown9 : w8.ownsRow w.heap.size 9 1 (.slice (some ⟨g8, 0, none⟩) (ss ++ [s2]).length cp8) (ss ++ [s2]).length ((ss ++ [s2]).map Value.string) := by
        rw [List.length_append, List.map_append]
        exact hown8
      clear hown11 hgrow hG11 hD11 hown8
      go_wp2
      go_ret
      refine ⟨ss ++ [s2], q2, g8, cp8, by simp, by simp; omega, fun s hs => ?_, by omega, by omega, hD8, hG8, hown9⟩
      rcases List.mem_append.1 hs with h | h
      · exact HSZ.out s h
      · simp at h; subst h; omega
    · have hyq : (y == 0) = false := by simpa using hy
      clear hy
      go_wp2
      go_ret
      exact ⟨ss, _, g, cp, rfl, by omega, HSZ.out, by omega, by omega, hD10, hG10, hown10⟩
end Go.Proofs.YtoocibabceeagabGreat

/-
  Drawing for chapter 11: what Unlock is asked.
-/
namespace Go.Proofs.YtoocibabceeagabGreat
open Go.RowKit

/-- Drawing a lock, a witness and what a script is run with. -/
def UnlQ (B : Nat) (a : Option Addr) (len cap : Nat) (zs : List Int) (w : World) (e : Ending) (w' : World) : Prop :=
  ∃ (s : ByteArray) (ss : List ByteArray) (g cp : Nat) (T : ByteArray) (h k : Int) (q : Nat), e = .returned (.tuple #[.string s, .slice (some ⟨g, 0, none⟩) ss.length cp, .agg #[.string T, .int .i64 h, .int .i64 k]]) ∧ s.size ≤ 5000 ∧ ss.length ≤ 6 ∧ (∀ x ∈ ss, x.size ≤ 81) ∧ T.size ≤ 5 ∧
    0 ≤ h ∧ h < 32 ∧ -2 ≤ k ∧ k < 32 ∧ Dw B a len cap zs w' q ∧ w.grownBy w' (some B) ∧ SR w' (some ⟨g, 0, none⟩) ss.length ss ∧ w.heap.size ≤ g
set_option maxRecDepth 100000 in
set_option maxHeartbeats 6400000 in
theorem l93Unlock_any (B : Nat) (a : Option Addr) (len cap : Nat) (zs : List Int) (p : Nat) (w : World) (hp : p ≤ 100000000) (hD0 : Dw B a len cap zs w p) :
    Calls Tryz.prog 73 #[.pointer (some ⟨B, 0, none⟩)] w (UnlQ B a len cap zs w) := by
  have hBlt := hD0.lt
  have hRB : w.heap.size ≠ B := by omega
  have vR0 : Bk w.heap.size 35 #[.string ⟨#[]⟩, .int .i64 0, .int .i64 0] (w.alloc (.cells #[.string ⟨#[]⟩, .int .i64 0, .int .i64 0] 35 (0, 0))) := Bk.new _ _ _
  have hG0 : w.grownBy (w.alloc (.cells #[.string ⟨#[]⟩, .int .i64 0, .int .i64 0] 35 (0, 0))) (some B) := World.grownBy_alloc w _ (some B)
  go_enter Tryz.func73, Tryz.ntmps73
  go_wp2_with fail
  refine (l91Lock_any B a len cap zs _ _ (by omega) (hD0.alloc (.cells #[.string ⟨#[]⟩, .int .i64 0, .int .i64 0] 35 (0, 0)))).mono ?_
  rintro e W1 ⟨s, q1, rfl, hs, qa, qb, hD1, hG1'⟩
  have vR1 := vR0.gbK hG1' hRB
  have hG1 := gtrans hG0 hG1'
  clear vR0 hG0 hG1' hD0
  go_wp2_with fail
  refine (l91Env_any B a len cap zs _ _ (by omega) hD1).mono ?_
  rintro e W2 ⟨T, h, k, q2, rfl, t0, t1, t2, t3, t4, qa2, qb2, hD2, hG2'⟩
  have vR2 := ((vR1.gbK hG2' hRB).alloc (.cells #[.string T, .int .i64 h, .int .i64 k] 35 (0, 0))).drew
  have vE2 : Bk W2.heap.size 35 #[.string T, .int .i64 h, .int .i64 k] (W2.alloc (.cells #[.string T, .int .i64 h, .int .i64 k] 35 (0, 0))).drew := (Bk.new _ _ _).drew
  have hEB : W2.heap.size ≠ B := by have := hD2.lt; omega
  have hER : W2.heap.size ≠ w.heap.size := by have := (vR1.gbK hG2' hRB).lt; omega
  have hG2 : w.grownBy (W2.alloc (.cells #[.string T, .int .i64 h, .int .i64 k] 35 (0, 0))).drew (some B) := grownBy_drew (gb_allocK (gtrans hG1 hG2') (.cells #[.string T, .int .i64 h, .int .i64 k] 35 (0, 0)))
  have hDd : Dw B a len cap zs (W2.alloc (.cells #[.string T, .int .i64 h, .int .i64 k] 35 (0, 0))).drew q2 := (hD2.alloc _).of fun _ _ => rfl
  have hRlt := vR2.lt
  have hSof : ∀ W, Bk W2.heap.size 35 #[.string T, .int .i64 h, .int .i64 k] W → W.cell? ⟨W2.heap.size, 0, none⟩ = some (.string T) ∧ W.cell? ⟨W2.heap.size, 1, none⟩ = some (.int .i64 h) ∧ W.cell? ⟨W2.heap.size, 2, none⟩ = some (.int .i64 k) := fun W h => ⟨h.cell 0, h.cell 1, h.cell 2⟩
  have hS0 := hSof _ vE2
  clear vR1 hG1 hG2' hD1 hD2
  go_wp2_with fail
  go_region_held3 (fun W => W.cell? ⟨W2.heap.size, 0, none⟩ = some (.string T) ∧ W.cell? ⟨W2.heap.size, 1, none⟩ = some (.int .i64 h) ∧ W.cell? ⟨W2.heap.size, 2, none⟩ = some (.int .i64 k)) (first | with_reducible exact hS0 | with_reducible exact hS1 | with_reducible exact hS2)
    (first
      | (go_at_call 112; refine (l91Witness_any B a len cap zs q2 T _ (by omega) (by omega) hDd).mono ?_; rintro e W3 ⟨ss, q3, g, cp, rfl, hl, hsz, qa3, qb3, hD3, hG3', hown⟩; have hS1 := hSof _ (vE2.gbK hG3' hEB); have vR3 := vR2.gbK hG3' hRB; obtain ⟨r0, r1, r2⟩ := Bk.c3w vR3; have f0 := vR3.fro 0; have f1 := vR3.fro 1; have f2 := vR3.fro 2; have hS2 := hSof _ ((((vE2.gbK hG3' hEB).oset w.heap.size 0 (.string T) hER).oset w.heap.size 1 (.int .i64 h) hER).oset w.heap.size 2 (.int .i64 k) hER)))
  have hR := Bk.store3w vR3 (.string T) (.int .i64 h) (.int .i64 k)
  have hDz := ((hD3.osetK w.heap.size 0 (.string T) hBlt).osetK w.heap.size 1 (.int .i64 h) hBlt).osetK w.heap.size 2 (.int .i64 k) hBlt
  have hG3 := gtrans hG2 hG3'
  have hGz := gb_setK (gb_setK (gb_setK hG3 w.heap.size 0 (.string T) (Nat.le_refl _)) w.heap.size 1 (.int .i64 h) (Nat.le_refl _)) w.heap.size 2 (.int .i64 k) (Nat.le_refl _)
  have hgr : W3.grownBy (((W3.setCell ⟨w.heap.size, 0, none⟩ (.string T)).setCell ⟨w.heap.size, 1, none⟩ (.int .i64 h)).setCell ⟨w.heap.size, 2, none⟩ (.int .i64 k)) (some w.heap.size) := gtrans (gtrans (gb_set1 _ _ _ _) (gb_set1 _ _ _ _)) (gb_set1 _ _ _ _)
  have hgl := (hown.lt g rfl).1
  have hne : w.heap.size ≠ g := fun he => by subst he; exact absurd hgl (by omega)
  have hw0 : w.heap.size ≤ g := by omega
  have hsr := (SR.own hown).2.grown hgr (fun _ b off he => by cases he; simp; omega)
  clear hS0 hS1 hS2 r0 r1 r2 f0 f1 f2 hSof hG3' hG3 hG2 hown hgr vR2 vE2 hDd hD3
  go_wp2
  refine bodyPost_ret (results_ttc (P := Tryz.prog) rfl _ _ w.heap.size 35 _ (0, 0) _ rfl hR.held Tryz.underlying35 rfl (by kernel_rfl)) rfl ?_
  exact ⟨s, ss, g, cp, T, h, k, q3, rfl, hs, hl, hsz, t0, t1, t2, t3, t4, hDz, hGz, hsr, hw0⟩
/-- Drawing what Unlock is asked. -/
def DrawUnl (w : World) (e : Ending) (w' : World) : Prop :=
  ∃ (s : ByteArray) (ss : List ByteArray) (g cp : Nat) (T : ByteArray) (h k : Int), e = .returned (.tuple #[.string s, .slice (some ⟨g, 0, none⟩) ss.length cp, .agg #[.string T, .int .i64 h, .int .i64 k]]) ∧ s.size ≤ 5000 ∧ ss.length ≤ 6 ∧ (∀ x ∈ ss, x.size ≤ 81) ∧ T.size ≤ 5 ∧
    0 ≤ h ∧ h < 32 ∧ -2 ≤ k ∧ k < 32 ∧ SR w' (some ⟨g, 0, none⟩) ss.length ss ∧ Below w.heap.size w w'
set_option maxRecDepth 100000 in
set_option maxHeartbeats 3200000 in
theorem drawUnlock_any (a : Option Addr) (len cap : Nat) (zs : List Int) (w : World) (hr : IsRow .u8 w a len cap zs) (hlm : len ≤ 1048576) :
    Calls Tryz.prog 43 #[.slice a len cap] w (DrawUnl w) := by
  have vR0 : Bk w.heap.size 35 #[.string ⟨#[]⟩, .int .i64 0, .int .i64 0] (w.alloc (.cells #[.string ⟨#[]⟩, .int .i64 0, .int .i64 0] 35 (0, 0))) := Bk.new _ _ _
  have hb0 : Below w.heap.size w (w.alloc (.cells #[.string ⟨#[]⟩, .int .i64 0, .int .i64 0] 35 (0, 0))) := below_alloc (Below.refl _ _) _
  have hr1 := hr.below hb0
  clear hr
  go_enter Tryz.func43, Tryz.ntmps43
  go_wp2_with fail
  refine (l6Open_any a len cap zs _ hr1 hlm).mono ?_
  rintro e W1 ⟨B, a', l', c', zs', rfl, hB, hD, hb1⟩
  have vR1 := vR0.below hb1
  have hRB : w.heap.size ≠ B := by simp at hB; omega
  have hBw : w.heap.size ≤ B := by simp at hB; omega
  have hb1' := hb0.trans (hb1.mono hb0.size)
  have hRlt := vR1.lt
  clear hr1 vR0 hb0 hb1 hB
  go_wp2_with fail
  refine (l93Unlock_any B a' l' c' zs' 0 _ (by omega) hD).mono ?_
  rintro e W3 ⟨s, ss, g, cp, T, h, k, q, rfl, hs, hl, hsz, t0, t1, t2, t3, t4, hD3, hG3, hsr, hgl⟩
  have vR3 := vR1.gbK hG3 hRB
  have hbel := Below.grown hb1' hG3 hb1'.size (fun j hj => by cases hj; exact hBw)
  clear vR1 hG3 hb1' hD hD3
  obtain ⟨r0, r1, r2⟩ := Bk.c3w vR3
  have f0 := vR3.fro 0
  have f1 := vR3.fro 1
  have f2 := vR3.fro 2
  have hR := Bk.store3w vR3 (.string T) (.int .i64 h) (.int .i64 k)
  have hgr : W3.grownBy (((W3.setCell ⟨w.heap.size, 0, none⟩ (.string T)).setCell ⟨w.heap.size, 1, none⟩ (.int .i64 h)).setCell ⟨w.heap.size, 2, none⟩ (.int .i64 k)) (some w.heap.size) := gtrans (gtrans (gb_set1 _ _ _ _) (gb_set1 _ _ _ _)) (gb_set1 _ _ _ _)
  have HSR := Lib.hid (hsr.grown hgr (fun _ b off he => by cases he; simp; omega))
  have hbz := Below.grown hbel hgr hbel.size (fun j hj => by cases hj; exact Nat.le_refl _)
  have HSZ := Lib.hid hsz
  clear hsr hbel hgr hsz
  go_wp2
  refine bodyPost_ret (results_ttc (P := Tryz.prog) rfl _ _ w.heap.size 35 _ (0, 0) _ rfl hR.held Tryz.underlying35 rfl (by kernel_rfl)) rfl ?_
  exact ⟨s, ss, g, cp, T, h, k, rfl, hs, hl, HSZ.out, t0, t1, t2, t3, t4, HSR.out, hbz⟩
end Go.Proofs.YtoocibabceeagabGreat
