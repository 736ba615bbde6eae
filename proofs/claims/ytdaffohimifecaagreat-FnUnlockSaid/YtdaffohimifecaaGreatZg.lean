/-
  Drawing for chapter 11: witnesses; what Unlock is asked.
-/
import Derived.Test.YtdaffohimifecaaGreatZf
import Derived.Test.YtdaffohimifecaaGreatZb
import Derived.Deep.RegionHeld3
namespace Go.Proofs.YtdaffohimifecaaGreat
open Go.RowKit

/-- Drawing a witness. -/
def StackQ (B : Nat) (a : Option Addr) (len cap : Nat) (zs : List Int) (p c : Nat) (m L : Nat) (w : World) (e : Ending) (w' : World) : Prop :=
  ∃ (ss : List ByteArray) (q g cp : Nat), e = .returned (.slice (some ⟨g, 0, none⟩) ss.length cp) ∧ ss.length ≤ m ∧ (∀ s ∈ ss, s.size ≤ L) ∧ p ≤ q ∧ q ≤ p + c ∧ Dw B a len cap zs w' q ∧ w.grownBy w' (some B) ∧
    w'.ownsRow w.heap.size 9 1 (.slice (some ⟨g, 0, none⟩) ss.length cp) ss.length (ss.map Value.string)
set_option maxRecDepth 100000 in
set_option maxHeartbeats 12800000 in
theorem l91Witness_any (B : Nat) (a : Option Addr) (len cap : Nat) (zs : List Int) (p : Nat) (t : ByteArray) (w : World) (ht : t.size ≤ 1048576) (hp : p ≤ 300000000) (hD0 : Dw B a len cap zs w p) :
    Calls Tryz.prog 79 #[.pointer (some ⟨B, 0, none⟩), .string t] w (StackQ B a len cap zs p 20 6 81 w) := by
  obtain ⟨i0, hi, hz0, hz1, hz2⟩ := info_parts info_str
  have hBw := hD0.lt
  go_enter Tryz.func79, Tryz.ntmps79
  go_wp2_with fail
  refine (pick_any B a len cap zs _ 6 _ (by omega) (by omega) (hD0.alloc (.cells #[] 9 (0, 0)))).mono ?_
  rintro e w1 ⟨v, rfl, a1, b1, hD, hG1⟩
  have hG := gtrans (World.grownBy_alloc w (.cells #[] 9 (0, 0)) (some B)) hG1
  have hv : v = 0 ∨ v = 1 ∨ v = 2 ∨ v = 3 ∨ v = 4 ∨ v = 5 := by omega
  clear a1 b1 hD0 hG1
  rcases hv with rfl | rfl | rfl | rfl | rfl | rfl
  · skip
    go_wp2_with fail
    refine (pick_any B a len cap zs _ 4 _ (by omega) (by omega) hD).mono ?_
    rintro e wpu ⟨u, rfl, xa, xb, hDu, hGu⟩
    replace hG := gtrans hG hGu
    replace hD := hDu
    clear hGu hDu
    have hr1 : IntKind.i64.wrap (1 + u) = 1 + u := IntWalk.i64_in _ (by omega)
    have hr2 : IntKind.i64.wrap (11 * (1 + u)) = 11 * (1 + u) := IntWalk.i64_in _ (by omega)
    have hG0s := hG.size
    go_wp2_with fail
    refine (OpenKey_any (11 * (1 + u)) t _ (by omega) (by omega) ht).mono ?_
    rintro e W9 ⟨ss, g, cp, rfl, hl5, hsz, hb9, hown⟩
    replace hG := gtrans hG (gb_belK hb9 B)
    replace hD := hD.belK hb9
    clear hb9
    clear hr1 hr2
    have hown0 := own_low hown hG0s
    have hneo := own_ne hown0 hBw
    have HSZ := Lib.hid hsz
    clear hown hsz hG0s
    go_wp2_with fail
    refine (pick_any B a len cap zs _ 12 _ (by omega) (by omega) hD).mono ?_
    rintro e W10 ⟨y, rfl, y0, y1, hD10, hG10'⟩
    have hown10 := hown0.kept hG10' hneo
    have hG10 := gtrans hG hG10'
    clear hG hG10' hD hown0
    by_cases hy : y = 0
    · subst hy
      go_wp2_with fail
      refine (l91Word_any B a len cap zs _ _ (by omega) hD10).mono ?_
      rintro e W11 ⟨s2, q2, rfl, z2, p2, r2, hD11, hG11'⟩
      have hown11 := hown10.kept hG11' hneo
      have hG11 := gtrans hG10 hG11'
      have hbw := hG11.size
      clear hG10 hG11' hD10 hown10
      go_wp2_with (at_builtin; refine wpList_append_own _ rfl _ _ 24 rfl w.heap.size 9 i0 (.string ByteArray.empty) 1 16 Tryz.underlying24 hi hz0 hz1 hz2 rfl (by decide) _ _ _ rfl (hown11.alloc _) ⟨W11.heap.size, 0, none⟩ 1 1 [.string s2] rfl rfl ?c1 ?c2 ?c3 ?c4 ?c5 ?_)
      case c1 => exact one_new _ _ _
      case c2 => intro u hu; simp at hu; subst hu; rfl
      case c3 => unfold maxLen; omega
      case c4 => omega
      case c5 => simp; omega
      intro v' w8 hown8 hgrow _
      have hD8 : Dw B a len cap zs w8 q2 := (hD11.alloc _).of fun k hk => hgrow.block k (by have := hD11.lt; simp; omega) (fun e => by have := (hown11.lt _ e.symm).1; omega)
      have hG8 := gtrans_own (gtrans hG11 (World.grownBy_alloc _ _ _)) hgrow (fun j he => (hown11.lt _ he).1)
      obtain ⟨g8, cp8, rfl⟩ : ∃ g cp, v' = .slice (some ⟨g, 0, none⟩) (ss.length + 1) cp := by
        rcases hown8.2 with ⟨h, h0⟩ | ⟨g, cap, cur, h, _⟩
        · omega
        · exact ⟨_, _, h⟩
      have hown9 : w8.ownsRow w.heap.size 9 1 (.slice (some ⟨g8, 0, none⟩) (ss ++ [s2]).length cp8) (ss ++ [s2]).length ((ss ++ [s2]).map Value.string) := by
        rw [List.length_append, List.map_append]
        exact hown8
      clear hown11 hgrow hG11 hD11 hown8
      go_wp2
      go_ret
      refine ⟨ss ++ [s2], q2, g8, cp8, by simp, by simp; omega, fun s hs => ?_, by omega, by omega, hD8, hG8, hown9⟩
      rcases List.mem_append.1 hs with h | h
      · exact HSZ.out s h
      · simp at h; subst h; omega
    · have hyq : (y == 0) = false := by simpa using hy
      clear hy
      go_wp2
      go_ret
      exact ⟨ss, _, g, cp, rfl, by omega, HSZ.out, by omega, by omega, hD10, hG10, hown10⟩
  · skip
    go_wp2_with fail
    refine (l91Word_any B a len cap zs _ _ (by omega) hD).mono ?_
    rintro e W9 ⟨s, q2, rfl, z2, p2, r2, hDu, hGu⟩
    replace hG := gtrans hG hGu
    have hG0s := hG.size
    have hown : (W9.alloc (.cells #[.string s] 9 (0, 0))).ownsRow W9.heap.size 9 1 (.slice (some ⟨W9.heap.size, 0, none⟩) 1 1) 1 [.string s] := own_newS W9 W9.heap.size (Nat.le_refl _) ([s] : List ByteArray) #[.string s] rfl (by simp)
    replace hD := hDu.alloc (.cells #[.string s] 9 (0, 0))
    replace hG := gb_allocK hG (.cells #[.string s] 9 (0, 0))
    have hsz : ∀ x ∈ ([s] : List ByteArray), x.size ≤ 81 := fun x hx => by simp at hx; subst hx; omega
    clear hDu hGu
    have hown0 := own_low hown hG0s
    have hneo := own_ne hown0 hBw
    have HSZ := Lib.hid hsz
    clear hown hsz hG0s
    go_wp2_with fail
    refine (pick_any B a len cap zs _ 12 _ (by omega) (by omega) hD).mono ?_
    rintro e W10 ⟨y, rfl, y0, y1, hD10, hG10'⟩
    have hown10 := hown0.kept hG10' hneo
    have hG10 := gtrans hG hG10'
    clear hG hG10' hD hown0
    by_cases hy : y = 0
    · subst hy
      go_wp2_with fail
      refine (l91Word_any B a len cap zs _ _ (by omega) hD10).mono ?_
      rintro e W11 ⟨s2, q2, rfl, z2, p2, r2, hD11, hG11'⟩
      have hown11 := hown10.kept hG11' hneo
      have hG11 := gtrans hG10 hG11'
      have hbw := hG11.size
      clear hG10 hG11' hD10 hown10
      go_wp2_with (at_builtin; refine wpList_append_own _ rfl _ _ 24 rfl w.heap.size 9 i0 (.string ByteArray.empty) 1 16 Tryz.underlying24 hi hz0 hz1 hz2 rfl (by decide) _ _ _ rfl (hown11.alloc _) ⟨W11.heap.size, 0, none⟩ 1 1 [.string s2] rfl rfl ?c1 ?c2 ?c3 ?c4 ?c5 ?_)
      case c1 => exact one_new _ _ _
      case c2 => intro u hu; simp at hu; subst hu; rfl
      case c3 => unfold maxLen; omega
      case c4 => omega
      case c5 => simp; omega
      intro v' w8 hown8 hgrow _
      have hD8 : Dw B a len cap zs w8 q2 := (hD11.alloc _).of fun k hk => hgrow.block k (by have := hD11.lt; simp; omega) (fun e => by have := (hown11.lt _ e.symm).1; omega)
      have hG8 := gtrans_own (gtrans hG11 (World.grownBy_alloc _ _ _)) hgrow (fun j he => (hown11.lt _ he).1)
      obtain ⟨g8, cp8, rfl⟩ : ∃ g cp, v' = .slice (some ⟨g, 0, none⟩) (1 + 1) cp := by
        rcases hown8.2 with ⟨h, h0⟩ | ⟨g, cap, cur, h, _⟩
        · omega
        · exact ⟨_, _, h⟩
      have hown9 : w8.ownsRow w.heap.size 9 1 (.slice (some ⟨g8, 0, none⟩) ([s] ++ [s2]).length cp8) ([s] ++ [s2]).length (([s] ++ [s2]).map Value.string) := by
        skip
        exact hown8
      clear hown11 hgrow hG11 hD11 hown8
      go_wp2
      go_ret
      refine ⟨[s] ++ [s2], q2, g8, cp8, by simp, by simp, fun s hs => ?_, by omega, by omega, hD8, hG8, hown9⟩
      rcases List.mem_append.1 hs with h | h
      · exact HSZ.out s h
      · simp at h; subst h; omega
    · have hyq : (y == 0) = false := by simpa using hy
      clear hy
      go_wp2
      go_ret
      exact ⟨[s], _, W9.heap.size, 1, rfl, by simp, HSZ.out, by omega, by omega, hD10, hG10, hown10⟩
  · skip
    go_wp2_with fail
    refine (pick_any B a len cap zs _ 3 _ (by omega) (by omega) (hD.alloc (.cells #[.int .i64 11, .int .i64 22, .int .i64 33] 3 (0, 0)))).mono ?_
    rintro e wpu ⟨u, rfl, xa, xb, hDu, hGu⟩
    have hne : w1.heap.size ≠ B := by have := hD.lt; omega
    have hc : ∀ j : Nat, j < 3 → wpu.cell? ⟨w1.heap.size, j, none⟩ = some (.int .i64 (([11, 22, 33] : List Int).getD j 0)) := fun j hj => hGu.cell (lit_cell [11, 22, 33] 3 w1 j (by simpa using hj)) (by simpa using hne)
    have hlt9 : w1.heap.size < wpu.heap.size := Nat.lt_of_lt_of_le (by simp) hGu.size
    replace hG := gtrans (gb_allocK hG (.cells #[.int .i64 11, .int .i64 22, .int .i64 33] 3 (0, 0))) hGu
    replace hD := hDu
    clear hGu hDu
    obtain ⟨k, rfl⟩ := Int.eq_ofNat_of_zero_le xa
    have hr1 : IntKind.i64.wrap (1 + (k : Int)) = ((k + 1 : Nat) : Int) := by rw [IntWalk.i64_in _ (by omega)]; omega
    have HIR : Hid (IR wpu (some ⟨w1.heap.size, 0, none⟩) (k + 1) (([11, 22, 33] : List Int).take (k + 1))) := Lib.hid ⟨by rw [List.length_take]; simp; omega, fun _ => ⟨w1.heap.size, 0, rfl, hlt9, fun j hj => by
      rw [Nat.zero_add, hc j (by omega)]
      rw [List.getD_eq_getElem?_getD, List.getD_eq_getElem?_getD, List.getElem?_take_of_lt hj]⟩⟩
    have HRG : Hid (∀ j, j < k + 1 → 1 ≤ (([11, 22, 33] : List Int).take (k + 1)).getD j 0 ∧ (([11, 22, 33] : List Int).take (k + 1)).getD j 0 ≤ 1073741788) := Lib.hid fun j hj => by
      rw [List.getD_eq_getElem?_getD, List.getElem?_take_of_lt hj]
      match j, (show j < 3 by omega) with
      | 0, _ => exact ⟨by decide, by decide⟩
      | 1, _ => exact ⟨by decide, by decide⟩
      | 2, _ => exact ⟨by decide, by decide⟩
    have h3 : (k : Int) + 1 ≤ 3 := by omega
    clear hc hlt9 hne
    have hG0s := hG.size
    go_wp2_with fail
    refine (OpenMany_any (some ⟨w1.heap.size, 0, none⟩) (k + 1) 3 _ t _ HIR.out HRG.out (by omega) (by omega) ht).mono ?_
    rintro e W9 ⟨ss, g, cp, rfl, hl5, hsz, hb9, hown⟩
    replace hG := gtrans hG (gb_belK hb9 B)
    replace hD := hD.belK hb9
    clear hb9
    clear hr1
    have hown0 := own_low hown hG0s
    have hneo := own_ne hown0 hBw
    have HSZ := Lib.hid hsz
    clear hown hsz hG0s
    go_wp2_with fail
    refine (pick_any B a len cap zs _ 12 _ (by omega) (by omega) hD).mono ?_
    rintro e W10 ⟨y, rfl, y0, y1, hD10, hG10'⟩
    have hown10 := hown0.kept hG10' hneo
    have hG10 := gtrans hG hG10'
    clear hG hG10' hD hown0
    by_cases hy : y = 0
    · subst hy
      go_wp2_with fail
      refine (l91Word_any B a len cap zs _ _ (by omega) hD10).mono ?_
      rintro e W11 ⟨s2, q2, rfl, z2, p2, r2, hD11, hG11'⟩
      have hown11 := hown10.kept hG11' hneo
      have hG11 := gtrans hG10 hG11'
      have hbw := hG11.size
      clear hG10 hG11' hD10 hown10
      go_wp2_with (at_builtin; refine wpList_append_own _ rfl _ _ 24 rfl w.heap.size 9 i0 (.string ByteArray.empty) 1 16 Tryz.underlying24 hi hz0 hz1 hz2 rfl (by decide) _ _ _ rfl (hown11.alloc _) ⟨W11.heap.size, 0, none⟩ 1 1 [.string s2] rfl rfl ?c1 ?c2 ?c3 ?c4 ?c5 ?_)
      case c1 => exact one_new _ _ _
      case c2 => intro u hu; simp at hu; subst hu; rfl
      case c3 => unfold maxLen; omega
      case c4 => omega
      case c5 => simp; omega
      intro v' w8 hown8 hgrow _
      have hD8 : Dw B a len cap zs w8 q2 := (hD11.alloc _).of fun k hk => hgrow.block k (by have := hD11.lt; simp; omega) (fun e => by have := (hown11.lt _ e.symm).1; omega)
      have hG8 := gtrans_own (gtrans hG11 (World.grownBy_alloc _ _ _)) hgrow (fun j he => (hown11.lt _ he).1)
      obtain ⟨g8, cp8, rfl⟩ : ∃ g cp, v' = .slice (some ⟨g, 0, none⟩) (ss.length + 1) cp := by
        rcases hown8.2 with ⟨h, h0⟩ | ⟨g, cap, cur, h, _⟩
        · omega
        · exact ⟨_, _, h⟩
      have hown9 : w8.ownsRow w.heap.size 9 1 (.slice (some ⟨g8, 0, none⟩) (ss ++ [s2]).length cp8) (ss ++ [s2]).length ((ss ++ [s2]).map Value.string) := by
        rw [List.length_append, List.map_append]
        exact hown8
      clear hown11 hgrow hG11 hD11 hown8
      go_wp2
      go_ret
      refine ⟨ss ++ [s2], q2, g8, cp8, by simp, by simp; omega, fun s hs => ?_, by omega, by omega, hD8, hG8, hown9⟩
      rcases List.mem_append.1 hs with h | h
      · exact HSZ.out s h
      · simp at h; subst h; omega
    · have hyq : (y == 0) = false := by simpa using hy
      clear hy
      go_wp2
      go_ret
      exact ⟨ss, _, g, cp, rfl, by omega, HSZ.out, by omega, by omega, hD10, hG10, hown10⟩
  · skip
    go_wp2_with fail
    refine (l91Word_any B a len cap zs _ _ (by omega) hD).mono ?_
    rintro e wpu ⟨s, q2, rfl, z2, p2, r2, hDu, hGu⟩
    replace hG := gtrans hG hGu
    replace hD := hDu
    clear hDu hGu
    have hG0s := hG.size
    go_wp2_with fail
    refine (OpenPayee_any 11 s t _ (by omega) (by omega) ht (by omega)).mono ?_
    rintro e W9 ⟨ss, g, cp, rfl, hl5, hsz, hb9, hown⟩
    replace hG := gtrans hG (gb_belK hb9 B)
    replace hD := hD.belK hb9
    clear hb9
    have hown0 := own_low hown hG0s
    have hneo := own_ne hown0 hBw
    have HSZ := Lib.hid hsz
    clear hown hsz hG0s
    go_wp2_with fail
    refine (pick_any B a len cap zs _ 12 _ (by omega) (by omega) hD).mono ?_
    rintro e W10 ⟨y, rfl, y0, y1, hD10, hG10'⟩
    have hown10 := hown0.kept hG10' hneo
    have hG10 := gtrans hG hG10'
    clear hG hG10' hD hown0
    by_cases hy : y = 0
    · subst hy
      go_wp2_with fail
      refine (l91Word_any B a len cap zs _ _ (by omega) hD10).mono ?_
      rintro e W11 ⟨s2, q2, rfl, z2, p2, r2, hD11, hG11'⟩
      have hown11 := hown10.kept hG11' hneo
      have hG11 := gtrans hG10 hG11'
      have hbw := hG11.size
      clear hG10 hG11' hD10 hown10
      go_wp2_with (at_builtin; refine wpList_append_own _ rfl _ _ 24 rfl w.heap.size 9 i0 (.string ByteArray.empty) 1 16 Tryz.underlying24 hi hz0 hz1 hz2 rfl (by decide) _ _ _ rfl (hown11.alloc _) ⟨W11.heap.size, 0, none⟩ 1 1 [.string s2] rfl rfl ?c1 ?c2 ?c3 ?c4 ?c5 ?_)
      case c1 => exact one_new _ _ _
      case c2 => intro u hu; simp at hu; subst hu; rfl
      case c3 => unfold maxLen; omega
      case c4 => omega
      case c5 => simp; omega
      intro v' w8 hown8 hgrow _
      have hD8 : Dw B a len cap zs w8 q2 := (hD11.alloc _).of fun k hk => hgrow.block k (by have := hD11.lt; simp; omega) (fun e => by have := (hown11.lt _ e.symm).1; omega)
      have hG8 := gtrans_own (gtrans hG11 (World.grownBy_alloc _ _ _)) hgrow (fun j he => (hown11.lt _ he).1)
      obtain ⟨g8, cp8, rfl⟩ : ∃ g cp, v' = .slice (some ⟨g, 0, none⟩) (ss.length + 1) cp := by
        rcases hown8.2 with ⟨h, h0⟩ | ⟨g, cap, cur, h, _⟩
        · omega
        · exact ⟨_, _, h⟩
      have hown9 : w8.ownsRow w.heap.size 9 1 (.slice (some ⟨g8, 0, none⟩) (ss ++ [s2]).length cp8) (ss ++ [s2]).length ((ss ++ [s2]).map Value.string) := by
        rw [List.length_append, List.map_append]
        exact hown8
      clear hown11 hgrow hG11 hD11 hown8
      go_wp2
      go_ret
      refine ⟨ss ++ [s2], q2, g8, cp8, by simp, by simp; omega, fun s hs => ?_, by omega, by omega, hD8, hG8, hown9⟩
      rcases List.mem_append.1 hs with h | h
      · exact HSZ.out s h
      · simp at h; subst h; omega
    · have hyq : (y == 0) = false := by simpa using hy
      clear hy
      go_wp2
      go_ret
      exact ⟨ss, _, g, cp, rfl, by omega, HSZ.out, by omega, by omega, hD10, hG10, hown10⟩
  · skip
    go_wp2_with fail
    refine (pick_any B a len cap zs _ 4 _ (by omega) (by omega) hD).mono ?_
    rintro e wpu ⟨u, rfl, xa, xb, hDu, hGu⟩
    replace hG := gtrans hG hGu
    replace hD := hDu
    clear hGu hDu
    have hr1 : IntKind.i64.wrap (1 + u) = 1 + u := IntWalk.i64_in _ (by omega)
    have hr2 : IntKind.i64.wrap (11 * (1 + u)) = 11 * (1 + u) := IntWalk.i64_in _ (by omega)
    have hG0s := hG.size
    go_wp2_with fail
    refine (OpenLast_any (11 * (1 + u)) t _ (by omega) (by omega) ht).mono ?_
    rintro e W9 ⟨ss, g, cp, rfl, hl5, hsz, hb9, hown⟩
    replace hG := gtrans hG (gb_belK hb9 B)
    replace hD := hD.belK hb9
    clear hb9
    clear hr1 hr2
    have hown0 := own_low hown hG0s
    have hneo := own_ne hown0 hBw
    have HSZ := Lib.hid hsz
    clear hown hsz hG0s
    go_wp2_with fail
    refine (pick_any B a len cap zs _ 12 _ (by omega) (by omega) hD).mono ?_
    rintro e W10 ⟨y, rfl, y0, y1, hD10, hG10'⟩
    have hown10 := hown0.kept hG10' hneo
    have hG10 := gtrans hG hG10'
    clear hG hG10' hD hown0
    by_cases hy : y = 0
    · subst hy
      go_wp2_with fail
      refine (l91Word_any B a len cap zs _ _ (by omega) hD10).mono ?_
      rintro e W11 ⟨s2, q2, rfl, z2, p2, r2, hD11, hG11'⟩
      have hown11 := hown10.kept hG11' hneo
      have hG11 := gtrans hG10 hG11'
      have hbw := hG11.size
      clear hG10 hG11' hD10 hown10
      go_wp2_with (at_builtin; refine wpList_append_own _ rfl _ _ 24 rfl w.heap.size 9 i0 (.string ByteArray.empty) 1 16 Tryz.underlying24 hi hz0 hz1 hz2 rfl (by decide) _ _ _ rfl (hown11.alloc _) ⟨W11.heap.size, 0, none⟩ 1 1 [.string s2] rfl rfl ?c1 ?c2 ?c3 ?c4 ?c5 ?_)
      case c1 => exact one_new _ _ _
      case c2 => intro u hu; simp at hu; subst hu; rfl
      case c3 => unfold maxLen; omega
      case c4 => omega
      case c5 => simp; omega
      intro v' w8 hown8 hgrow _
      have hD8 : Dw B a len cap zs w8 q2 := (hD11.alloc _).of fun k hk => hgrow.block k (by have := hD11.lt; simp; omega) (fun e => by have := (hown11.lt _ e.symm).1; omega)
      have hG8 := gtrans_own (gtrans hG11 (World.grownBy_alloc _ _ _)) hgrow (fun j he => (hown11.lt _ he).1)
      obtain ⟨g8, cp8, rfl⟩ : ∃ g cp, v' = .slice (some ⟨g, 0, none⟩) (ss.length + 1) cp := by
        rcases hown8.2 with ⟨h, h0⟩ | ⟨g, cap, cur, h, _⟩
        · omega
        · exact ⟨_, _, h⟩
      have hown9 : w8.ownsRow w.heap.size 9 1 (.slice (some ⟨g8, 0, none⟩) (ss ++ [s2]).length cp8) (ss ++ [s2]).length ((ss ++ [s2]).map Value.string) := by
        rw [List.length_append, List.map_append]
        exact hown8
      clear hown11 hgrow hG11 hD11 hown8
      go_wp2
      go_ret
      refine ⟨ss ++ [s2], q2, g8, cp8, by simp, by simp; omega, fun s hs => ?_, by omega, by omega, hD8, hG8, hown9⟩
      rcases List.mem_append.1 hs with h | h
      · exact HSZ.out s h
      · simp at h; subst h; omega
    · have hyq : (y == 0) = false := by simpa using hy
      clear hy
      go_wp2
      go_ret
      exact ⟨ss, _, g, cp, rfl, by omega, HSZ.out, by omega, by omega, hD10, hG10, hown10⟩
  · skip
    have hG0s := hG.size
    go_wp2_with fail
    refine (OpenRevoked_any 44 t _ (by omega) (by omega) ht).mono ?_
    rintro e W9 ⟨ss, g, cp, rfl, hl5, hsz, hb9, hown⟩
    replace hG := gtrans hG (gb_belK hb9 B)
    replace hD := hD.belK hb9
    clear hb9
    have hown0 := own_low hown hG0s
    have hneo := own_ne hown0 hBw
    have HSZ := Lib.hid hsz
    clear hown hsz hG0s
    go_wp2_with fail
    refine (pick_any B a len cap zs _ 12 _ (by omega) (by omega) hD).mono ?_
    rintro e W10 ⟨y, rfl, y0, y1, hD10, hG10'⟩
    have hown10 := hown0.kept hG10' hneo
    have hG10 := gtrans hG hG10'
    clear hG hG10' hD hown0
    by_cases hy : y = 0
    · subst hy
      go_wp2_with fail
      refine (l91Word_any B a len cap zs _ _ (by omega) hD10).mono ?_
      rintro e W11 ⟨s2, q2, rfl, z2, p2, r2, hD11, hG11'⟩
      have hown11 := hown10.kept hG11' hneo
      have hG11 := gtrans hG10 hG11'
      have hbw := hG11.size
      clear hG10 hG11' hD10 hown10
      go_wp2_with (at_builtin; refine wpList_append_own _ rfl _ _ 24 rfl w.heap.size 9 i0 (.string ByteArray.empty) 1 16 Tryz.underlying24 hi hz0 hz1 hz2 rfl (by decide) _ _ _ rfl (hown11.alloc _) ⟨W11.heap.size, 0, none⟩ 1 1 [.string s2] rfl rfl ?c1 ?c2 ?c3 ?c4 ?c5 ?_)
      case c1 => exact one_new _ _ _
      case c2 => intro u hu; simp at hu; subst hu; rfl
      case c3 => unfold maxLen; omega
      case c4 => omega
      case c5 => simp; omega
      intro v' w8 hown8 hgrow _
      have hD8 : Dw B a len cap zs w8 q2 := (hD11.alloc _).of fun k hk => hgrow.block k (by have := hD11.lt; simp; omega) (fun e => by have := (hown11.lt _ e.symm).1; omega)
      have hG8 := gtrans_own (gtrans hG11 (World.grownBy_alloc _ _ _)) hgrow (fun j he => (hown11.lt _ he).1)
      obtain ⟨g8, cp8, rfl⟩ : ∃ g cp, v' = .slice (some ⟨g, 0, none⟩) (ss.length + 1) cp := by
        rcases hown8.2 with ⟨h, h0⟩ | ⟨g, cap, cur, h, _⟩
        · omega
        · exact ⟨_, _, h⟩
      have hown9 : w8.ownsRow w.heap.size 9 1 (.slice (some ⟨g8, 0, none⟩) (ss ++ [s2]).length cp8) (ss ++ [s2]).length ((ss ++ [s2]).map Value.string) := by
        rw [List.length_append, List.map_append]
        exact hown8
      clear hown11 hgrow hG11 hD11 hown8
      go_wp2
      go_ret
      refine ⟨ss ++ [s2], q2, g8, cp8, by simp, by simp; omega, fun s hs => ?_, by omega, by omega, hD8, hG8, hown9⟩
      rcases List.mem_append.1 hs with h | h
      · exact HSZ.out s h
      · simp at h; subst h; omega
    · have hyq : (y == 0) = false := by simpa using hy
      clear hy
      go_wp2
      go_ret
      exact ⟨ss, _, g, cp, rfl, by omega, HSZ.out, by omega, by omega, hD10, hG10, hown10⟩
end Go.Proofs.YtdaffohimifecaaGreat
