/-
  Locks of the model: LockMany; the drawing of a lock.
-/
import Derived.Test.YtohameoomlehlaaGreatZa
import Derived.Test.YtohameoomlehlaaGreatYl
import Derived.Test.YtohameoomlehlaaGreatDs
import Derived.Test.YtohameoomlehlaaGreatOf
namespace Go.Proofs.YtohameoomlehlaaGreat
open Go.RowKit

set_option maxRecDepth 100000 in
set_option maxHeartbeats 6400000 in
theorem LockMany_any (need : Int) (g n cap : Nat) (zs : List Int) (w : World) (hn0 : 1 ≤ n) (hn : n ≤ 3) (hg : g < w.heap.size) (hc : ∀ j, j < n → w.cell? ⟨g, j, none⟩ = some (.int .i64 (zs.getD j 0))) :
    Calls Tryz.prog 82 #[.int .i64 need, .slice (some ⟨g, 0, none⟩) n cap] w (LockR w) := by
  obtain ⟨i0, hi, hz0, hz1, hz2⟩ := info_parts info_op
  have H1 : (decide ((1 : Int) ≤ (n : Int)) && decide ((n : Int) ≤ 5)) = true := by simp; omega
  have hb0 := Below.refl w.heap.size w
  go_enter Tryz.func82, Tryz.ntmps82
  go_wp2_with fail
  refine (l6In_any (n : Int) 1 5 _).mono ?_
  rintro e w1 ⟨rfl, hw1⟩
  rw [H1]
  subst hw1
  go_wp2_with fail
  refine (l6In_any need 1 (n : Int) _).mono ?_
  rintro e w2 ⟨rfl, hw2⟩
  subst hw2
  obtain ⟨f, HF⟩ : ∃ g, Hid ((decide (1 ≤ need) && decide (need ≤ (n : Int))) = g) := ⟨_, Lib.hid rfl⟩
  rw [HF.out]
  clear HF H1
  cases f
  · go_wp2
    go_ret2
    exact ⟨⟨#[]⟩, false, rfl, by decide, hb0⟩
  have hown0 : (w.alloc (.cells #[] 114 (0, 0))).ownsRow w.heap.size 114 4 (.slice (some ⟨w.heap.size, 0, none⟩) 0 0) 0 (Jo.cells []) := World.ownsRow_made _ _ _ (Nat.le_refl _) (by decide) rfl
  have hbel0 : Below w.heap.size w (w.alloc (.cells #[] 114 (0, 0))) := hb0.alloc (Nat.le_refl _) _
  have HC : Hid (∀ W, Below w.heap.size w W → ∀ j, j < n → W.cell? ⟨g, j, none⟩ = some (.int .i64 (zs.getD j 0))) := Lib.hid fun W hb j hj => (World.cell?_of_block (w := w) (a := ⟨g, j, none⟩) (hb.block g hg)).trans (hc j hj)
  clear hc hb0
  go_wp2
  go_loopw [6, 7] (fun v i wr => ∃ (k : Nat) (l : List Jo), k ≤ n ∧ i = .int .i64 (k : Int) ∧ Hid (wr.ownsRow w.heap.size 114 4 v k (Jo.cells l)) ∧ Hid (l.length = k) ∧ Below w.heap.size w wr)
    (fun _ i _ => n - (intOf i).toNat)
  case atStart => exact ⟨0, [], by omega, rfl, Lib.hid hown0, Lib.hid rfl, hbel0⟩
  case round =>
    obtain ⟨k, l, hk, rfl, HOWN, HLEN, hbel⟩ := hrel
    clear hown0 hbel0
    have hbs := hbel.size
    obtain ⟨va, vc, rfl⟩ : ∃ va vc, u6 = .slice va k vc := by
      rcases HOWN.out.2 with ⟨h1, h2⟩ | ⟨g, cap', cur, h1, _⟩
      · exact ⟨none, 0, by rw [h1, h2]⟩
      · exact ⟨_, _, h1⟩
    by_cases hlt : k < n
    · have ck := HC.out wr hbel k hlt
      have hbd := @Gr.kok_bd (zs.getD k 0)
      obtain ⟨z, HZ⟩ : ∃ z, Hid (zs.getD k 0 = z) := ⟨_, Lib.hid rfl⟩
      rw [HZ.out] at ck hbd
      clear HZ
      go_wp2_with fail
      refine (specKeyOk_any z _).mono ?_
      rintro e w3 ⟨rfl, hw3⟩
      rw [← hw3] at hbel HOWN ck hbs
      clear hw3
      obtain ⟨f, HF⟩ : ∃ f, Hid (Gr.kok z = f) := ⟨_, Lib.hid rfl⟩
      rw [HF.out] at hbd ⊢
      clear HF
      cases f
      · clear hbd
        go_wp2
        go_ret2
        exact ⟨⟨#[]⟩, false, rfl, by decide, hbel⟩
      replace hbd := hbd rfl
      obtain ⟨z0, z1⟩ := hbd
      go_wp2_with fail
      refine (l12Push_any z _ z0 z1).mono ?_
      rintro e w4 ⟨rfl, hb4⟩
      obtain ⟨t, HT⟩ : ∃ t, Hid (Dg.bytes z = t) := ⟨_, Lib.hid rfl⟩
      rw [HT.out]
      have hbel4 := below_aft9 hbel hb4
      have hsz := hbel4.size
      have HO4 := Lib.hid (HOWN.out.kept (row := none) ⟨hb4.os, hb4.tape, hb4.output, hb4.size, fun q hq _ => hb4.block q hq⟩ (Classical.em _))
      have S1 := Lib.hid (four_newZ w4 (.int .i64 0) (.int .i64 0) (.int .i64 0) (.string t) 114 w4.heap.size rfl)
      clear HT hb4 HOWN hbel ck z0 z1
      go_wp2_with (at_builtin; refine wpList_append_own _ rfl _ _ 116 rfl w.heap.size 114 i0 (.agg #[.int .i64 0, .int .i64 0, .int .i64 0, .string ⟨#[]⟩]) 4 40 Tryz.underlying116 hi hz0 hz1 hz2 rfl (by decide) _ _ _ rfl (HO4.out.alloc (.cells #[.int .i64 0, .int .i64 0, .int .i64 0, .string t] 114 (0, 0))) ⟨w4.heap.size, 0, none⟩ 1 1 [.int .i64 0, .int .i64 0, .int .i64 0, .string t] rfl rfl ?_ ?_ ?_ ?_ ?_ ?_)
      any_goals first | exact S1.out | (intro u hu; simp at hu; rcases hu with rfl | rfl | rfl | rfl <;> rfl) | (unfold maxLen; omega) | omega | exact Nat.le_trans hsz (by simp) | (simp; omega)
      intro v' w5 hown5 hgrow _
      have hown6 : Hid (w5.ownsRow w.heap.size 114 4 v' (k + 1) (Jo.cells (l ++ [(⟨0, 0, 0, t⟩ : Jo)]))) := Lib.hid (by
        rw [Jo.cells_append]
        exact hown5)
      have hl6 : Hid ((l ++ [(⟨0, 0, 0, t⟩ : Jo)]).length = k + 1) := Lib.hid (by rw [List.length_append, HLEN.out]; rfl)
      have hbel5 : Below w.heap.size w w5 := (hbel4.alloc hsz (.cells #[.int .i64 0, .int .i64 0, .int .i64 0, .string t] 114 (0, 0))).grown hgrow (Nat.le_trans hsz (by simp)) (fun q hq => (HO4.out.lt _ hq).1)
      clear hown5 hgrow HO4 S1
      go_wp2
      go_roundw
      case rel => exact ⟨k + 1, _, by omega, by simp, hown6, hl6, hbel5⟩
      case measure => simp [intOf]; omega
    · obtain rfl : k = n := by omega
      have S1 := Lib.hid (four_newZ wr (.int .i64 12) (.int .i64 need) (.int .i64 (k : Int)) (.string ⟨#[]⟩) 114 wr.heap.size rfl)
      go_wp2_with (at_builtin; refine wpList_append_own _ rfl _ _ 116 rfl w.heap.size 114 i0 (.agg #[.int .i64 0, .int .i64 0, .int .i64 0, .string ⟨#[]⟩]) 4 40 Tryz.underlying116 hi hz0 hz1 hz2 rfl (by decide) _ _ _ rfl (HOWN.out.alloc (.cells #[.int .i64 12, .int .i64 need, .int .i64 (k : Int), .string ⟨#[]⟩] 114 (0, 0))) ⟨wr.heap.size, 0, none⟩ 1 1 [.int .i64 12, .int .i64 need, .int .i64 (k : Int), .string ⟨#[]⟩] rfl rfl ?_ ?_ ?_ ?_ ?_ ?_)
      any_goals first | exact S1.out | (intro u hu; simp at hu; rcases hu with rfl | rfl | rfl | rfl <;> rfl) | (unfold maxLen; omega) | omega | exact Nat.le_trans hbs (by simp) | (simp; omega)
      intro v' w5 hown5 hgrow _
      have hown6 : w5.ownsRow w.heap.size 114 4 v' (k + 1) (Jo.cells (l ++ [(⟨12, need, (k : Int), ⟨#[]⟩⟩ : Jo)])) := by
        rw [Jo.cells_append]
        exact hown5
      have hbel5 : Below w.heap.size w w5 := (hbel.alloc hbs (.cells #[.int .i64 12, .int .i64 need, .int .i64 (k : Int), .string ⟨#[]⟩] 114 (0, 0))).grown hgrow (Nat.le_trans hbs (by simp)) (fun q hq => (HOWN.out.lt _ hq).1)
      obtain ⟨va2, vc2, rfl⟩ : ∃ va vc, v' = .slice va (k + 1) vc := by
        rcases hown6.2 with ⟨h1, h2⟩ | ⟨g, cap', cur, h1, _⟩
        · omega
        · exact ⟨_, _, h1⟩
      have hol := (OL.own hown6).2
      clear hown5 hown6 hgrow HOWN S1
      go_wp2_with fail
      refine (l12Lock_any va2 (k + 1) vc2 _ w5 hol (by omega)).mono ?_
      rintro e w6 ⟨s, ok, rfl, hs, hb6⟩
      replace hb6 := below_aft9 hbel5 hb6
      clear hbel5 hol
      go_wp2
      go_ret2
      exact ⟨s, ok, rfl, hs, hb6⟩
set_option maxRecDepth 100000 in
set_option maxHeartbeats 6400000 in
theorem l91Lock_any (B : Nat) (a : Option Addr) (len cap : Nat) (zs : List Int) (p : Nat) (w : World) (hp : p ≤ 500000000) (hD0 : Dw B a len cap zs w p) :
    Calls Tryz.prog 66 #[.pointer (some ⟨B, 0, none⟩)] w (StrR B a len cap zs p 100 5000 w) := by
  go_enter Tryz.func66, Tryz.ntmps66
  go_wp2_with fail
  refine (pick_any B a len cap zs _ 7 _ (by omega) (by omega) hD0).mono ?_
  rintro e w1 ⟨v, rfl, a1, b1, hD, hG⟩
  clear hD0
  have hv : v = 0 ∨ v = 1 ∨ v = 2 ∨ v = 3 ∨ v = 4 ∨ v = 5 ∨ v = 6 := by omega
  clear a1 b1
  rcases hv with rfl | rfl | rfl | rfl | rfl | rfl | rfl
  · skip
    go_wp2_with fail
    refine (pick_any B a len cap zs _ 3 _ (by omega) (by omega) hD).mono ?_
    rintro e wpu ⟨u, rfl, ua, ub, hDu, hGu⟩
    replace hG := gtrans hG hGu
    replace hD := hDu
    clear hGu hDu
    have hr1 : IntKind.i64.wrap (1 + u) = 1 + u := IntWalk.i64_in _ (by omega)
    have hr2 : IntKind.i64.wrap (11 * (1 + u)) = 11 * (1 + u) := IntWalk.i64_in _ (by omega)
    go_wp2_with fail
    refine (l4Base_any (11 * (1 + u)) _ (by omega)).mono ?_
    rintro e wbx ⟨rfl, hwbx⟩
    rw [← hwbx] at hD hG
    clear hwbx
    obtain ⟨x, HXx⟩ : ∃ y, Hid (Gr.pw 2147483579 4 (11 * (1 + u)) = y) := ⟨_, Lib.hid rfl⟩
    rw [HXx.out]
    clear HXx
    go_wp2_with fail
    refine (LockKey_any x _).mono ?_
    rintro e w6 ⟨s, ok, rfl, hs, hb6⟩
    replace hG := gtrans hG (gb_belK hb6 B)
    replace hD := hD.belK hb6
    clear hb6
    go_wp2_with fail
    refine (l91Seldom_any B a len cap zs _ s _ (by omega) (by omega) hD).mono ?_
    rintro e w9 ⟨t, q9, rfl, ht, q90, q91, hD9, hG9⟩
    go_wp2
    go_ret
    exact ⟨t, q9, rfl, by omega, by omega, by omega, hD9, gtrans hG hG9⟩
  · skip
    go_wp2_with fail
    refine (pick_any B a len cap zs _ 3 _ (by omega) (by omega) hD).mono ?_
    rintro e wpu ⟨u, rfl, ua, ub, hDu, hGu⟩
    replace hG := gtrans hG hGu
    replace hD := hDu
    clear hGu hDu
    have hr1 : IntKind.i64.wrap (1 + u) = 1 + u := IntWalk.i64_in _ (by omega)
    have hr2 : IntKind.i64.wrap (11 * (1 + u)) = 11 * (1 + u) := IntWalk.i64_in _ (by omega)
    go_wp2_with fail
    refine (l4Base_any (11 * (1 + u)) _ (by omega)).mono ?_
    rintro e wbx ⟨rfl, hwbx⟩
    rw [← hwbx] at hD hG
    clear hwbx
    obtain ⟨x, HXx⟩ : ∃ y, Hid (Gr.pw 2147483579 4 (11 * (1 + u)) = y) := ⟨_, Lib.hid rfl⟩
    rw [HXx.out]
    clear HXx
    go_wp2_with fail
    refine (LockKey_any x _).mono ?_
    rintro e w6 ⟨s, ok, rfl, hs, hb6⟩
    replace hG := gtrans hG (gb_belK hb6 B)
    replace hD := hD.belK hb6
    clear hb6
    go_wp2_with fail
    refine (l91Seldom_any B a len cap zs _ s _ (by omega) (by omega) hD).mono ?_
    rintro e w9 ⟨t, q9, rfl, ht, q90, q91, hD9, hG9⟩
    go_wp2
    go_ret
    exact ⟨t, q9, rfl, by omega, by omega, by omega, hD9, gtrans hG hG9⟩
  · skip
    go_wp2_with fail
    refine (l91Word_any B a len cap zs _ _ (by omega) hD).mono ?_
    rintro e w2 ⟨s1, q1, rfl, hs1, q10, q11, hD2, hG2⟩
    replace hG := gtrans hG hG2
    replace hD := hD2
    clear hG2 hD2
    have hbd := Dg.of_bd s1
    go_wp2_with fail
    refine (specDigest_any s1 _ (by omega)).mono ?_
    rintro e w3 ⟨rfl, hb3⟩
    replace hG := gtrans hG (gb_belK hb3 B)
    replace hD := hD.belK hb3
    obtain ⟨d, HX⟩ : ∃ y, Hid (Dg.of s1 = y) := ⟨_, Lib.hid rfl⟩
    rw [HX.out] at hbd ⊢
    clear HX hb3
    obtain ⟨hd0, hd1⟩ := hbd
    go_wp2_with fail
    refine (LockDigest_any d _ hd0 hd1).mono ?_
    rintro e w6 ⟨s, ok, rfl, hs, hb6⟩
    replace hG := gtrans hG (gb_belK hb6 B)
    replace hD := hD.belK hb6
    clear hb6
    go_wp2_with fail
    refine (l91Seldom_any B a len cap zs _ s _ (by omega) (by omega) hD).mono ?_
    rintro e w9 ⟨t, q9, rfl, ht, q90, q91, hD9, hG9⟩
    go_wp2
    go_ret
    exact ⟨t, q9, rfl, by omega, by omega, by omega, hD9, gtrans hG hG9⟩
  · skip
    go_wp2_with fail
    refine (pick_any B a len cap zs _ 3 _ (by omega) (by omega) hD).mono ?_
    rintro e wpu ⟨u, rfl, ua, ub, hDu, hGu⟩
    replace hG := gtrans hG hGu
    replace hD := hDu
    clear hGu hDu
    have hu : u = 0 ∨ u = 1 ∨ u = 2 := by omega
    clear ua ub
    rcases hu with rfl | rfl | rfl
    · have hr0 : IntKind.i64.wrap (1 + 0) = 1 := by decide
      have hsl : ∀ g0 W, (Instr.slice 96 (.slice (some ⟨g0, 0, none⟩) 3 3) none (some (.int .i64 (1))) none).run Tryz.prog W = .ok (.slice (some ⟨g0, 0, none⟩) 1 3) W := fun g0 W => by
        simp [Instr.slice, Instr.sliceBounds, Instr.sliceBound, asIntOf, run_underlying Tryz.underlying96, Addr.add]
      go_wp2_with fail
      refine (pick_any B a len cap zs _ 1 _ (by omega) (by omega) hD).mono ?_
      rintro e wpy ⟨y, rfl, ya, yb, hDy, hGy⟩
      replace hG := gtrans hG hGy
      replace hD := hDy
      clear hGy hDy
      have hr1 : IntKind.i64.wrap (1 + y) = 1 + y := IntWalk.i64_in _ (by omega)
      go_wp2_with fail
      refine (l4Base_any 11 _ (by omega)).mono ?_
      rintro e wbx1 ⟨rfl, hwbx1⟩
      rw [← hwbx1] at hD hG
      clear hwbx1
      obtain ⟨x1, HXx1⟩ : ∃ y, Hid (Gr.pw 2147483579 4 11 = y) := ⟨_, Lib.hid rfl⟩
      rw [HXx1.out]
      clear HXx1
      go_wp2_with fail
      refine (l4Base_any 22 _ (by omega)).mono ?_
      rintro e wbx2 ⟨rfl, hwbx2⟩
      rw [← hwbx2] at hD hG
      clear hwbx2
      obtain ⟨x2, HXx2⟩ : ∃ y, Hid (Gr.pw 2147483579 4 22 = y) := ⟨_, Lib.hid rfl⟩
      rw [HXx2.out]
      clear HXx2
      go_wp2_with fail
      refine (l4Base_any 33 _ (by omega)).mono ?_
      rintro e wbx3 ⟨rfl, hwbx3⟩
      rw [← hwbx3] at hD hG
      clear hwbx3
      obtain ⟨x3, HXx3⟩ : ∃ y, Hid (Gr.pw 2147483579 4 33 = y) := ⟨_, Lib.hid rfl⟩
      rw [HXx3.out]
      clear HXx3
      obtain ⟨W, HW⟩ : ∃ W, Hid (wbx3 = W) := ⟨_, Lib.hid rfl⟩
      have hD7 := hD.alloc (.cells #[.int .i64 x1, .int .i64 x2, .int .i64 x3] 3 (0, 0))
      have hG7 := gtrans hG (World.grownBy_alloc wbx3 (.cells #[.int .i64 x1, .int .i64 x2, .int .i64 x3] 3 (0, 0)) (some B))
      have hcs : ∀ j, j < 1 → (wbx3.alloc (.cells #[.int .i64 x1, .int .i64 x2, .int .i64 x3] 3 (0, 0))).cell? ⟨wbx3.heap.size, j, none⟩ = some (.int .i64 (([x1, x2, x3] : List Int).getD j 0)) := fun j hj => (World.cell?_alloc_mark wbx3 _ _ _ j).trans (by
        match j, hj with
        | 0, _ => rfl)
      have hlc := LockMany_any (1 + y) wbx3.heap.size 1 3 [x1, x2, x3] _ (by omega) (by omega) (by simp) hcs
      clear hcs HW hD hG
      go_wp2_with fail
      refine hlc.mono ?_
      rintro e w6 ⟨s, ok, rfl, hs, hb6⟩
      have hG := gtrans hG7 (gb_belK hb6 B)
      have hD := hD7.belK hb6
      clear hb6 hG7 hD7 hlc hsl
      go_wp2_with fail
      refine (l91Seldom_any B a len cap zs _ s _ (by omega) (by omega) hD).mono ?_
      rintro e w9 ⟨t, q9, rfl, ht, q90, q91, hD9, hG9⟩
      go_wp2
      go_ret
      exact ⟨t, q9, rfl, by omega, by omega, by omega, hD9, gtrans hG hG9⟩
    · have hr0 : IntKind.i64.wrap (1 + 1) = 2 := by decide
      have hsl : ∀ g0 W, (Instr.slice 96 (.slice (some ⟨g0, 0, none⟩) 3 3) none (some (.int .i64 (2))) none).run Tryz.prog W = .ok (.slice (some ⟨g0, 0, none⟩) 2 3) W := fun g0 W => by
        simp [Instr.slice, Instr.sliceBounds, Instr.sliceBound, asIntOf, run_underlying Tryz.underlying96, Addr.add]
      go_wp2_with fail
      refine (pick_any B a len cap zs _ 2 _ (by omega) (by omega) hD).mono ?_
      rintro e wpy ⟨y, rfl, ya, yb, hDy, hGy⟩
      replace hG := gtrans hG hGy
      replace hD := hDy
      clear hGy hDy
      have hr1 : IntKind.i64.wrap (1 + y) = 1 + y := IntWalk.i64_in _ (by omega)
      go_wp2_with fail
      refine (l4Base_any 11 _ (by omega)).mono ?_
      rintro e wbx1 ⟨rfl, hwbx1⟩
      rw [← hwbx1] at hD hG
      clear hwbx1
      obtain ⟨x1, HXx1⟩ : ∃ y, Hid (Gr.pw 2147483579 4 11 = y) := ⟨_, Lib.hid rfl⟩
      rw [HXx1.out]
      clear HXx1
      go_wp2_with fail
      refine (l4Base_any 22 _ (by omega)).mono ?_
      rintro e wbx2 ⟨rfl, hwbx2⟩
      rw [← hwbx2] at hD hG
      clear hwbx2
      obtain ⟨x2, HXx2⟩ : ∃ y, Hid (Gr.pw 2147483579 4 22 = y) := ⟨_, Lib.hid rfl⟩
      rw [HXx2.out]
      clear HXx2
      go_wp2_with fail
      refine (l4Base_any 33 _ (by omega)).mono ?_
      rintro e wbx3 ⟨rfl, hwbx3⟩
      rw [← hwbx3] at hD hG
      clear hwbx3
      obtain ⟨x3, HXx3⟩ : ∃ y, Hid (Gr.pw 2147483579 4 33 = y) := ⟨_, Lib.hid rfl⟩
      rw [HXx3.out]
      clear HXx3
      obtain ⟨W, HW⟩ : ∃ W, Hid (wbx3 = W) := ⟨_, Lib.hid rfl⟩
      have hD7 := hD.alloc (.cells #[.int .i64 x1, .int .i64 x2, .int .i64 x3] 3 (0, 0))
      have hG7 := gtrans hG (World.grownBy_alloc wbx3 (.cells #[.int .i64 x1, .int .i64 x2, .int .i64 x3] 3 (0, 0)) (some B))
      have hcs : ∀ j, j < 2 → (wbx3.alloc (.cells #[.int .i64 x1, .int .i64 x2, .int .i64 x3] 3 (0, 0))).cell? ⟨wbx3.heap.size, j, none⟩ = some (.int .i64 (([x1, x2, x3] : List Int).getD j 0)) := fun j hj => (World.cell?_alloc_mark wbx3 _ _ _ j).trans (by
        match j, hj with
        | 0, _ => rfl
        | 1, _ => rfl)
      have hlc := LockMany_any (1 + y) wbx3.heap.size 2 3 [x1, x2, x3] _ (by omega) (by omega) (by simp) hcs
      clear hcs HW hD hG
      go_wp2_with fail
      refine hlc.mono ?_
      rintro e w6 ⟨s, ok, rfl, hs, hb6⟩
      have hG := gtrans hG7 (gb_belK hb6 B)
      have hD := hD7.belK hb6
      clear hb6 hG7 hD7 hlc hsl
      go_wp2_with fail
      refine (l91Seldom_any B a len cap zs _ s _ (by omega) (by omega) hD).mono ?_
      rintro e w9 ⟨t, q9, rfl, ht, q90, q91, hD9, hG9⟩
      go_wp2
      go_ret
      exact ⟨t, q9, rfl, by omega, by omega, by omega, hD9, gtrans hG hG9⟩
    · have hr0 : IntKind.i64.wrap (1 + 2) = 3 := by decide
      have hsl : ∀ g0 W, (Instr.slice 96 (.slice (some ⟨g0, 0, none⟩) 3 3) none (some (.int .i64 (3))) none).run Tryz.prog W = .ok (.slice (some ⟨g0, 0, none⟩) 3 3) W := fun g0 W => by
        simp [Instr.slice, Instr.sliceBounds, Instr.sliceBound, asIntOf, run_underlying Tryz.underlying96, Addr.add]
      go_wp2_with fail
      refine (pick_any B a len cap zs _ 3 _ (by omega) (by omega) hD).mono ?_
      rintro e wpy ⟨y, rfl, ya, yb, hDy, hGy⟩
      replace hG := gtrans hG hGy
      replace hD := hDy
      clear hGy hDy
      have hr1 : IntKind.i64.wrap (1 + y) = 1 + y := IntWalk.i64_in _ (by omega)
      go_wp2_with fail
      refine (l4Base_any 11 _ (by omega)).mono ?_
      rintro e wbx1 ⟨rfl, hwbx1⟩
      rw [← hwbx1] at hD hG
      clear hwbx1
      obtain ⟨x1, HXx1⟩ : ∃ y, Hid (Gr.pw 2147483579 4 11 = y) := ⟨_, Lib.hid rfl⟩
      rw [HXx1.out]
      clear HXx1
      go_wp2_with fail
      refine (l4Base_any 22 _ (by omega)).mono ?_
      rintro e wbx2 ⟨rfl, hwbx2⟩
      rw [← hwbx2] at hD hG
      clear hwbx2
      obtain ⟨x2, HXx2⟩ : ∃ y, Hid (Gr.pw 2147483579 4 22 = y) := ⟨_, Lib.hid rfl⟩
      rw [HXx2.out]
      clear HXx2
      go_wp2_with fail
      refine (l4Base_any 33 _ (by omega)).mono ?_
      rintro e wbx3 ⟨rfl, hwbx3⟩
      rw [← hwbx3] at hD hG
      clear hwbx3
      obtain ⟨x3, HXx3⟩ : ∃ y, Hid (Gr.pw 2147483579 4 33 = y) := ⟨_, Lib.hid rfl⟩
      rw [HXx3.out]
      clear HXx3
      obtain ⟨W, HW⟩ : ∃ W, Hid (wbx3 = W) := ⟨_, Lib.hid rfl⟩
      have hD7 := hD.alloc (.cells #[.int .i64 x1, .int .i64 x2, .int .i64 x3] 3 (0, 0))
      have hG7 := gtrans hG (World.grownBy_alloc wbx3 (.cells #[.int .i64 x1, .int .i64 x2, .int .i64 x3] 3 (0, 0)) (some B))
      have hcs : ∀ j, j < 3 → (wbx3.alloc (.cells #[.int .i64 x1, .int .i64 x2, .int .i64 x3] 3 (0, 0))).cell? ⟨wbx3.heap.size, j, none⟩ = some (.int .i64 (([x1, x2, x3] : List Int).getD j 0)) := fun j hj => (World.cell?_alloc_mark wbx3 _ _ _ j).trans (by
        match j, hj with
        | 0, _ => rfl
        | 1, _ => rfl
        | 2, _ => rfl)
      have hlc := LockMany_any (1 + y) wbx3.heap.size 3 3 [x1, x2, x3] _ (by omega) (by omega) (by simp) hcs
      clear hcs HW hD hG
      go_wp2_with fail
      refine hlc.mono ?_
      rintro e w6 ⟨s, ok, rfl, hs, hb6⟩
      have hG := gtrans hG7 (gb_belK hb6 B)
      have hD := hD7.belK hb6
      clear hb6 hG7 hD7 hlc hsl
      go_wp2_with fail
      refine (l91Seldom_any B a len cap zs _ s _ (by omega) (by omega) hD).mono ?_
      rintro e w9 ⟨t, q9, rfl, ht, q90, q91, hD9, hG9⟩
      go_wp2
      go_ret
      exact ⟨t, q9, rfl, by omega, by omega, by omega, hD9, gtrans hG hG9⟩
  · skip
    go_wp2_with fail
    refine (l91Word_any B a len cap zs _ _ (by omega) hD).mono ?_
    rintro e w2 ⟨s1, q1, rfl, hs1, q10, q11, hD2, hG2⟩
    replace hG := gtrans hG hG2
    replace hD := hD2
    clear hG2 hD2
    have hbd := Dg.of_bd s1
    go_wp2_with fail
    refine (specDigest_any s1 _ (by omega)).mono ?_
    rintro e w3 ⟨rfl, hb3⟩
    replace hG := gtrans hG (gb_belK hb3 B)
    replace hD := hD.belK hb3
    obtain ⟨d, HX⟩ : ∃ y, Hid (Dg.of s1 = y) := ⟨_, Lib.hid rfl⟩
    rw [HX.out] at hbd ⊢
    clear HX hb3
    obtain ⟨hd0, hd1⟩ := hbd
    go_wp2_with fail
    refine (l4Base_any 11 _ (by omega)).mono ?_
    rintro e wbx1 ⟨rfl, hwbx1⟩
    rw [← hwbx1] at hD hG
    clear hwbx1
    obtain ⟨x1, HXx1⟩ : ∃ y, Hid (Gr.pw 2147483579 4 11 = y) := ⟨_, Lib.hid rfl⟩
    rw [HXx1.out]
    clear HXx1
    go_wp2_with fail
    refine (pick_any B a len cap zs _ 20 _ (by omega) (by omega) hD).mono ?_
    rintro e wpu ⟨u, rfl, ua, ub, hDu, hGu⟩
    replace hG := gtrans hG hGu
    replace hD := hDu
    clear hGu hDu
    go_wp2_with fail
    refine (l4Base_any 22 _ (by omega)).mono ?_
    rintro e wbx2 ⟨rfl, hwbx2⟩
    rw [← hwbx2] at hD hG
    clear hwbx2
    obtain ⟨x2, HXx2⟩ : ∃ y, Hid (Gr.pw 2147483579 4 22 = y) := ⟨_, Lib.hid rfl⟩
    rw [HXx2.out]
    clear HXx2
    go_wp2_with fail
    refine (LockTimed_any d x1 u x2 _ hd0 hd1).mono ?_
    rintro e w6 ⟨s, ok, rfl, hs, hb6⟩
    replace hG := gtrans hG (gb_belK hb6 B)
    replace hD := hD.belK hb6
    clear hb6
    go_wp2_with fail
    refine (l91Seldom_any B a len cap zs _ s _ (by omega) (by omega) hD).mono ?_
    rintro e w9 ⟨t, q9, rfl, ht, q90, q91, hD9, hG9⟩
    go_wp2
    go_ret
    exact ⟨t, q9, rfl, by omega, by omega, by omega, hD9, gtrans hG hG9⟩
  · skip
    go_wp2_with fail
    refine (l4Base_any 44 _ (by omega)).mono ?_
    rintro e wbx1 ⟨rfl, hwbx1⟩
    rw [← hwbx1] at hD hG
    clear hwbx1
    obtain ⟨x1, HXx1⟩ : ∃ y, Hid (Gr.pw 2147483579 4 44 = y) := ⟨_, Lib.hid rfl⟩
    rw [HXx1.out]
    clear HXx1
    go_wp2_with fail
    refine (pick_any B a len cap zs _ 9 _ (by omega) (by omega) hD).mono ?_
    rintro e wpu ⟨u, rfl, ua, ub, hDu, hGu⟩
    replace hG := gtrans hG hGu
    replace hD := hDu
    clear hGu hDu
    have hr1 : IntKind.i64.wrap (1 + u) = 1 + u := IntWalk.i64_in _ (by omega)
    go_wp2_with fail
    refine (l4Base_any 11 _ (by omega)).mono ?_
    rintro e wbx2 ⟨rfl, hwbx2⟩
    rw [← hwbx2] at hD hG
    clear hwbx2
    obtain ⟨x2, HXx2⟩ : ∃ y, Hid (Gr.pw 2147483579 4 11 = y) := ⟨_, Lib.hid rfl⟩
    rw [HXx2.out]
    clear HXx2
    go_wp2_with fail
    refine (LockRevocable_any x1 (1 + u) x2 _).mono ?_
    rintro e w6 ⟨s, ok, rfl, hs, hb6⟩
    replace hG := gtrans hG (gb_belK hb6 B)
    replace hD := hD.belK hb6
    clear hb6
    go_wp2_with fail
    refine (l91Seldom_any B a len cap zs _ s _ (by omega) (by omega) hD).mono ?_
    rintro e w9 ⟨t, q9, rfl, ht, q90, q91, hD9, hG9⟩
    go_wp2
    go_ret
    exact ⟨t, q9, rfl, by omega, by omega, by omega, hD9, gtrans hG hG9⟩
  · skip
    go_wp2_with fail
    refine (l91Bytes_any B a len cap zs _ _ (by omega) hD).mono ?_
    rintro e w2 ⟨s0, q1, rfl, hs0, q10, q11, hD2, hG2⟩
    replace hG := gtrans hG hG2
    have hD4 := hD2.alloc (.cells ((([⟨#[]⟩, ⟨#[11]⟩, ⟨#[120]⟩, s0] : List ByteArray).map Value.string).toArray) 9)
    clear hD hG2
    go_wp2_with fail
    refine (pick_any B a len cap zs _ 4 _ (by omega) (by omega) hD4).mono ?_
    rintro e w4 ⟨u, rfl, a4, b4, hD5, hG5⟩
    obtain ⟨k, rfl⟩ := Int.eq_ofNat_of_zero_le a4
    have hk : k < 4 := by omega
    have hne : w2.heap.size ≠ B := by have := hD2.lt; omega
    obtain ⟨s, hs, hsz2⟩ : ∃ s : ByteArray, ([⟨#[]⟩, ⟨#[11]⟩, ⟨#[120]⟩, s0] : List ByteArray)[k]? = some s ∧ s.size ≤ 30 := by
      match k, hk with
      | 0, _ => exact ⟨_, rfl, by decide⟩
      | 1, _ => exact ⟨_, rfl, by decide⟩
      | 2, _ => exact ⟨_, rfl, by decide⟩
      | 3, _ => exact ⟨s0, rfl, hs0⟩
    have hc : w4.cell? ⟨w2.heap.size, k, none⟩ = some (.string s) := hG5.cell (lit_cellV _ _ _ _ _ (by rw [List.getElem?_map, hs]; rfl)) (by simpa using hne)
    replace hG := gtrans hG (gtrans (World.grownBy_alloc _ _ _) hG5)
    have hD := hD5
    clear hs hD2 hD4 hG5 hD5
    go_wp2_with fail
    refine (l91Seldom_any B a len cap zs _ s _ (by omega) (by omega) hD).mono ?_
    rintro e w9 ⟨t, q9, rfl, ht, q90, q91, hD9, hG9⟩
    go_wp2
    go_ret
    exact ⟨t, q9, rfl, by omega, by omega, by omega, hD9, gtrans hG hG9⟩
end Go.Proofs.YtohameoomlehlaaGreat
