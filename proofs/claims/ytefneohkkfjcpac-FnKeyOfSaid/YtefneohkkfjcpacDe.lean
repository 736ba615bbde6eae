/-
  Drawing for chapter 4: elements, scalars, secrets, keys.
-/
import Derived.Test.YtefneohkkfjcpacGe
import Derived.Test.YtefneohkkfjcpacDr
import Derived.Deep.RegionWith
import Derived.Deep.DeepMust
namespace Go.Proofs.Ytefneohkkfjcpac
open Go.RowKit

set_option maxRecDepth 100000 in
set_option maxHeartbeats 1600000 in
theorem l91Element_any (B : Nat) (a : Option Addr) (len cap : Nat) (zs : List Int) (p : Nat) (w : World) (hp : p ≤ 800000000) (hD0 : Dw B a len cap zs w p) :
    Calls Try.prog 25 #[.pointer (some ⟨B, 0, none⟩)] w (NumR B a len cap zs p 5 (-1) 2147483579 w) := by
  go_enter Try.func25, Try.ntmps25
  go_wp2_with fail
  refine (pick_any B a len cap zs _ 12 _ (by omega) (by omega) hD0).mono ?_
  rintro e w1 ⟨v1, rfl, a1, b1, hD1, hG1⟩
  by_cases h0 : v1 = 0
  · have h1 : (v1 == 0) = true := by simpa using h0
    clear h0
    go_wp2_with fail
    have hD5 := hD1.alloc (.cells (([0, 1, -1, 2, 3, 2147483579, 2147483578, 5] : List Int).map (Value.int .i64)).toArray 3)
    refine (pick_any B a len cap zs _ 8 _ (by omega) (by omega) hD5).mono ?_
    rintro e w5 ⟨v5, rfl, a5, b5, hD6, hG6⟩
    have hne : w1.heap.size ≠ B := by have := hD1.lt; omega
    have hcell : ∀ k, k < 8 → w5.cell? ⟨w1.heap.size, k, none⟩ = some (.int .i64 (([0, 1, -1, 2, 3, 2147483579, 2147483578, 5] : List Int).getD k 0)) :=
      fun k hk => hG6.cell (lit_cell _ _ _ _ hk) (by simpa using hne)
    have hbd := getD_bd ([0, 1, -1, 2, 3, 2147483579, 2147483578, 5] : List Int) (-1) 2147483579 (by simp)
    obtain ⟨k, rfl⟩ := Int.eq_ofNat_of_zero_le a5
    have hc := hcell k (by omega)
    have hb := hbd k (by simp; omega)
    generalize ([0, 1, -1, 2, 3, 2147483579, 2147483578, 5] : List Int).getD k 0 = v at hc hb
    clear hcell hbd
    go_wp2
    go_ret
    exact ⟨_, _, rfl, hb.1, hb.2, by omega, by omega, hD6, gtrans hG1 (gtrans (World.grownBy_alloc _ _ _) hG6)⟩
  · have h1 : (v1 == 0) = false := by simpa using h0
    clear h0
    go_wp2_with fail
    refine (l91Digest_any B a len cap zs _ _ (by omega) hD1).mono ?_
    rintro e w2 ⟨v2, q2, rfl, a2, b2, p2, r2, hD2, hG2⟩
    go_wp2_with fail
    refine (l4Base_any v2 _ (by omega)).mono ?_
    have HB := Gr.pw_bd 2147483579 4 v2 (by omega)
    generalize Gr.pw 2147483579 4 v2 = y at HB ⊢
    obtain ⟨y0, y1⟩ := HB
    rintro e w3 ⟨rfl, rfl⟩
    go_wp2
    go_ret
    exact ⟨_, _, rfl, by omega, by omega, by omega, by omega, hD2, gtrans hG1 hG2⟩
set_option maxRecDepth 100000 in
set_option maxHeartbeats 1600000 in
theorem l91Scalar_any (B : Nat) (a : Option Addr) (len cap : Nat) (zs : List Int) (p : Nat) (w : World) (hp : p ≤ 800000000) (hD0 : Dw B a len cap zs w p) :
    Calls Try.prog 29 #[.pointer (some ⟨B, 0, none⟩)] w (NumR B a len cap zs p 14 (-1) 1073741789 w) := by
  go_enter Try.func29, Try.ntmps29
  go_wp2_with fail
  refine (pick_any B a len cap zs _ 256 _ (by omega) (by omega) hD0).mono ?_
  rintro e w1 ⟨v1, rfl, a1, b1, hD1, hG1⟩
  go_wp2_with fail
  refine (l91Digest_any B a len cap zs _ _ (by omega) hD1).mono ?_
  rintro e w2 ⟨v2, q2, rfl, a2, b2, p2, r2, hD2, hG2⟩
  go_wp2_with fail
  refine (l91Digest_any B a len cap zs _ _ (by omega) hD2).mono ?_
  rintro e w3 ⟨v3, q3, rfl, a3, b3, p3, r3, hD3, hG3⟩
  go_wp2_with fail
  refine (l91Digest_any B a len cap zs _ _ (by omega) hD3).mono ?_
  rintro e w4 ⟨v4, q4, rfl, a4, b4, p4, r4, hD4, hG4⟩
  go_wp2_with fail
  have hD5 := hD4.alloc (.cells (([0, 1, 2, 1073741788, 1073741789, -1, v1, v2 % 1073741789, v3 % 1073741789, v4 % 1073741789] : List Int).map (Value.int .i64)).toArray 3)
  refine (pick_any B a len cap zs _ 10 _ (by omega) (by omega) hD5).mono ?_
  rintro e w5 ⟨v5, rfl, a5, b5, hD6, hG6⟩
  have hne : w4.heap.size ≠ B := by have := hD4.lt; omega
  have hcell : ∀ k, k < 10 → w5.cell? ⟨w4.heap.size, k, none⟩ = some (.int .i64 (([0, 1, 2, 1073741788, 1073741789, -1, v1, v2 % 1073741789, v3 % 1073741789, v4 % 1073741789] : List Int).getD k 0)) :=
    fun k hk => hG6.cell (lit_cell _ _ _ _ hk) (by simpa using hne)
  have hbd := getD_bd ([0, 1, 2, 1073741788, 1073741789, -1, v1, v2 % 1073741789, v3 % 1073741789, v4 % 1073741789] : List Int) (-1) 1073741789 (by simp; omega)
  obtain ⟨k, rfl⟩ := Int.eq_ofNat_of_zero_le a5
  have hc := hcell k (by omega)
  have hb := hbd k (by simp; omega)
  generalize ([0, 1, 2, 1073741788, 1073741789, -1, v1, v2 % 1073741789, v3 % 1073741789, v4 % 1073741789] : List Int).getD k 0 = v at hc hb
  clear hcell hbd
  go_wp2
  go_ret
  exact ⟨_, _, rfl, hb.1, hb.2, by omega, by omega, hD6, gtrans (gtrans (gtrans (gtrans hG1 hG2) hG3) hG4) (gtrans (World.grownBy_alloc _ _ _) hG6)⟩
set_option maxRecDepth 100000 in
set_option maxHeartbeats 1600000 in
theorem l91Secret_any (B : Nat) (a : Option Addr) (len cap : Nat) (zs : List Int) (p : Nat) (w : World) (hp : p ≤ 800000000) (hD0 : Dw B a len cap zs w p) :
    Calls Try.prog 18 #[.pointer (some ⟨B, 0, none⟩)] w (NumR B a len cap zs p 3 (-1) 1073741789 w) := by
  go_enter Try.func18, Try.ntmps18
  go_wp2_with fail
  refine (pick_any B a len cap zs _ 30 _ (by omega) (by omega) hD0).mono ?_
  rintro e w1 ⟨v1, rfl, a1, b1, hD1, hG1⟩
  by_cases h0 : v1 = 0
  · have h1 : (v1 == 0) = true := by simpa using h0
    clear h0
    go_wp2_with fail
    have hD5 := hD1.alloc (.cells (([0, -1, 1073741789, 1073741788, 1] : List Int).map (Value.int .i64)).toArray 3)
    refine (pick_any B a len cap zs _ 5 _ (by omega) (by omega) hD5).mono ?_
    rintro e w5 ⟨v5, rfl, a5, b5, hD6, hG6⟩
    have hne : w1.heap.size ≠ B := by have := hD1.lt; omega
    have hcell : ∀ k, k < 5 → w5.cell? ⟨w1.heap.size, k, none⟩ = some (.int .i64 (([0, -1, 1073741789, 1073741788, 1] : List Int).getD k 0)) :=
      fun k hk => hG6.cell (lit_cell _ _ _ _ hk) (by simpa using hne)
    have hbd := getD_bd ([0, -1, 1073741789, 1073741788, 1] : List Int) (-1) 1073741789 (by simp)
    obtain ⟨k, rfl⟩ := Int.eq_ofNat_of_zero_le a5
    have hc := hcell k (by omega)
    have hb := hbd k (by simp; omega)
    generalize ([0, -1, 1073741789, 1073741788, 1] : List Int).getD k 0 = v at hc hb
    clear hcell hbd
    go_wp2
    go_ret
    exact ⟨_, _, rfl, hb.1, hb.2, by omega, by omega, hD6, gtrans hG1 (gtrans (World.grownBy_alloc _ _ _) hG6)⟩
  · have h1 : (v1 == 0) = false := by simpa using h0
    clear h0
    go_wp2_with fail
    refine (pick_any B a len cap zs _ 250 _ (by omega) (by omega) hD1).mono ?_
    rintro e w2 ⟨v2, rfl, a2, b2, hD2, hG2⟩
    go_wp2_with fail
    have hD5 := hD2.alloc (.cells (([11, 22, 33, 44, 55, 1 + v2] : List Int).map (Value.int .i64)).toArray 3)
    refine (pick_any B a len cap zs _ 6 _ (by omega) (by omega) hD5).mono ?_
    rintro e w5 ⟨v5, rfl, a5, b5, hD6, hG6⟩
    have hne : w2.heap.size ≠ B := by have := hD2.lt; omega
    have hcell : ∀ k, k < 6 → w5.cell? ⟨w2.heap.size, k, none⟩ = some (.int .i64 (([11, 22, 33, 44, 55, 1 + v2] : List Int).getD k 0)) :=
      fun k hk => hG6.cell (lit_cell _ _ _ _ hk) (by simpa using hne)
    have hbd := getD_bd ([11, 22, 33, 44, 55, 1 + v2] : List Int) (-1) 1073741789 (by simp; omega)
    obtain ⟨k, rfl⟩ := Int.eq_ofNat_of_zero_le a5
    have hc := hcell k (by omega)
    have hb := hbd k (by simp; omega)
    generalize ([11, 22, 33, 44, 55, 1 + v2] : List Int).getD k 0 = v at hc hb
    clear hcell hbd
    go_wp2
    go_ret
    exact ⟨_, _, rfl, hb.1, hb.2, by omega, by omega, hD6, gtrans (gtrans hG1 hG2) (gtrans (World.grownBy_alloc _ _ _) hG6)⟩
set_option maxRecDepth 100000 in
set_option maxHeartbeats 1600000 in
theorem l91Key_any (B : Nat) (a : Option Addr) (len cap : Nat) (zs : List Int) (p : Nat) (w : World) (hp : p ≤ 800000000) (hD0 : Dw B a len cap zs w p) :
    Calls Try.prog 24 #[.pointer (some ⟨B, 0, none⟩)] w (NumR B a len cap zs p 2 (-1) 2147483579 w) := by
  go_enter Try.func24, Try.ntmps24
  go_wp2_with fail
  refine (pick_any B a len cap zs _ 30 _ (by omega) (by omega) hD0).mono ?_
  rintro e w1 ⟨v1, rfl, a1, b1, hD1, hG1⟩
  by_cases h0 : v1 = 0
  · have h1 : (v1 == 0) = true := by simpa using h0
    clear h0
    go_wp2_with fail
    have hD5 := hD1.alloc (.cells (([0, 1, -1, 2, 2147483579, 2147483578] : List Int).map (Value.int .i64)).toArray 3)
    refine (pick_any B a len cap zs _ 6 _ (by omega) (by omega) hD5).mono ?_
    rintro e w5 ⟨v5, rfl, a5, b5, hD6, hG6⟩
    have hne : w1.heap.size ≠ B := by have := hD1.lt; omega
    have hcell : ∀ k, k < 6 → w5.cell? ⟨w1.heap.size, k, none⟩ = some (.int .i64 (([0, 1, -1, 2, 2147483579, 2147483578] : List Int).getD k 0)) :=
      fun k hk => hG6.cell (lit_cell _ _ _ _ hk) (by simpa using hne)
    have hbd := getD_bd ([0, 1, -1, 2, 2147483579, 2147483578] : List Int) (-1) 2147483579 (by simp)
    obtain ⟨k, rfl⟩ := Int.eq_ofNat_of_zero_le a5
    have hc := hcell k (by omega)
    have hb := hbd k (by simp; omega)
    generalize ([0, 1, -1, 2, 2147483579, 2147483578] : List Int).getD k 0 = v at hc hb
    clear hcell hbd
    go_wp2
    go_ret
    exact ⟨_, _, rfl, hb.1, hb.2, by omega, by omega, hD6, gtrans hG1 (gtrans (World.grownBy_alloc _ _ _) hG6)⟩
  · have h1 : (v1 == 0) = false := by simpa using h0
    clear h0
    go_wp2_with fail
    refine (pick_any B a len cap zs _ 60 _ (by omega) (by omega) hD1).mono ?_
    rintro e w2 ⟨v2, rfl, a2, b2, hD2, hG2⟩
    go_wp2_with fail
    refine (l4Base_any (1 + v2) _ (by omega)).mono ?_
    have HB := Gr.pw_bd 2147483579 4 (1 + v2) (by omega)
    generalize Gr.pw 2147483579 4 (1 + v2) = y at HB ⊢
    obtain ⟨y0, y1⟩ := HB
    rintro e w3 ⟨rfl, rfl⟩
    go_wp2
    go_ret
    exact ⟨_, _, rfl, by omega, by omega, by omega, by omega, hD2, gtrans hG1 hG2⟩
set_option maxRecDepth 100000 in
set_option maxHeartbeats 1600000 in
theorem drawKeyOk_any (a : Option Addr) (len cap : Nat) (zs : List Int) (w : World) (hr : IsRow .u8 w a len cap zs) (hlm : len ≤ 1048576) :
    Calls Try.prog 11 #[.slice a len cap] w (DrawNum w) := by
  go_enter Try.func11, Try.ntmps11
  go_wp2_with fail
  refine (l6Open_any a len cap zs _ hr hlm).mono ?_
  rintro e w0 ⟨B, a', l', c', zs', rfl, hB, hD0, hb0⟩
  clear hr
  go_wp2_with fail
  refine (l91Key_any B a' l' c' zs' _ _ (by omega) hD0).mono ?_
  rintro e w1 ⟨v1, q1, rfl, a1, b1, p1, r1, hD1, hG1⟩
  go_wp2_with fail
  refine (l91Element_any B a' l' c' zs' _ _ (by omega) hD1).mono ?_
  rintro e w2 ⟨v2, q2, rfl, a2, b2, p2, r2, hD2, hG2⟩
  go_wp2_with fail
  refine (l91Num_any B a' l' c' zs' _ _ (by omega) hD2).mono ?_
  rintro e w3 ⟨v3, q3, rfl, a3, b3, p3, r3, hD3, hG3⟩
  go_wp2_with fail
  have hD5 := hD3.alloc (.cells (([v1, v2, v3] : List Int).map (Value.int .i64)).toArray 3)
  refine (pick_any B a' l' c' zs' _ 3 _ (by omega) (by omega) hD5).mono ?_
  rintro e w5 ⟨v5, rfl, a5, b5, hD6, hG6⟩
  have hne : w3.heap.size ≠ B := by have := hD3.lt; omega
  have hcell : ∀ k, k < 3 → w5.cell? ⟨w3.heap.size, k, none⟩ = some (.int .i64 (([v1, v2, v3] : List Int).getD k 0)) :=
    fun k hk => hG6.cell (lit_cell _ _ _ _ hk) (by simpa using hne)
  have hbd := getD_bd ([v1, v2, v3] : List Int) (-1) 4294967296 (by simp; omega)
  obtain ⟨k, rfl⟩ := Int.eq_ofNat_of_zero_le a5
  have hc := hcell k (by omega)
  have hb := hbd k (by simp; omega)
  generalize ([v1, v2, v3] : List Int).getD k 0 = v at hc hb
  clear hcell hbd
  go_wp2
  go_ret
  exact ⟨_, rfl, hb.1, hb.2, Below.grown hb0 (gtrans (gtrans (gtrans hG1 hG2) hG3) (gtrans (World.grownBy_alloc _ _ _) hG6)) hb0.size (fun j hj => by cases hj; exact hB)⟩
set_option maxRecDepth 100000 in
set_option maxHeartbeats 1600000 in
theorem drawKeyOf_any (a : Option Addr) (len cap : Nat) (zs : List Int) (w : World) (hr : IsRow .u8 w a len cap zs) (hlm : len ≤ 1048576) :
    Calls Try.prog 6 #[.slice a len cap] w (DrawNum w) := by
  go_enter Try.func6, Try.ntmps6
  go_wp2_with fail
  refine (l6Open_any a len cap zs _ hr hlm).mono ?_
  rintro e w0 ⟨B, a', l', c', zs', rfl, hB, hD0, hb0⟩
  clear hr
  go_wp2_with fail
  refine (l91Secret_any B a' l' c' zs' _ _ (by omega) hD0).mono ?_
  rintro e w1 ⟨v1, q1, rfl, a1, b1, p1, r1, hD1, hG1⟩
  go_wp2
  go_ret
  exact ⟨v1, rfl, by omega, by omega, Below.grown hb0 hG1 hb0.size (fun j hj => by cases hj; exact hB)⟩
/-- Drawing two numbers out of a code. -/
def DrawNum2 (w : World) (e : Ending) (w' : World) : Prop := ∃ u v : Int, e = .returned (.tuple #[.int .i64 u, .int .i64 v]) ∧ -1 ≤ u ∧ u ≤ 4294967296 ∧ -1 ≤ v ∧ v ≤ 4294967296 ∧ Below w.heap.size w w'
set_option maxRecDepth 100000 in
set_option maxHeartbeats 1600000 in
theorem drawGroupPow_any (a : Option Addr) (len cap : Nat) (zs : List Int) (w : World) (hr : IsRow .u8 w a len cap zs) (hlm : len ≤ 1048576) :
    Calls Try.prog 14 #[.slice a len cap] w (DrawNum2 w) := by
  go_enter Try.func14, Try.ntmps14
  go_wp2_with fail
  refine (l6Open_any a len cap zs _ hr hlm).mono ?_
  rintro e w0 ⟨B, a', l', c', zs', rfl, hB, hD0, hb0⟩
  clear hr
  have hBlt := hD0.lt
  go_wp2
  go_region_with (first
    | (go_at_call 25; refine (l91Element_any B a' l' c' zs' 0 _ (by omega) (by exact ⟨hD0.held, hD0.row, hD0.byt, hD0.len⟩)).mono ?_; rintro e w1 ⟨v1, q1, rfl, h1, k1, p1, r1, hD1, hG1⟩)
    | (go_at_call 29; refine (l91Scalar_any B a' l' c' zs' q1 _ (by omega) hD1).mono ?_; rintro e w2 ⟨v2, q2, rfl, h2, k2, p2, r2, hD2, hG2⟩)
    | (go_at_call_of 27 (Value.int .i64 9); refine (pick_any B a' l' c' zs' q2 9 _ (by omega) (by omega) hD2).mono ?_; rintro e w3 ⟨v3, rfl, h3, k3, hD3, hG3⟩)
    | (go_at_call 26; refine (l91Num_any B a' l' c' zs' (q2 + 1) _ (by omega) hD3).mono ?_; rintro e w4 ⟨v4, q4, rfl, h4, k4, p4, r4, hD4, hG4⟩)
    | (go_at_call_of 27 (Value.int .i64 4); refine (pick_any B a' l' c' zs' q4 4 _ (by omega) (by omega) (by exact hD4.alloc _)).mono ?_; rintro e w5 ⟨x, rfl, x0, x1, hD5, hG5⟩
       have hne : w4.heap.size ≠ B := by have := hD4.lt; omega
       obtain ⟨k, rfl⟩ := Int.eq_ofNat_of_zero_le x0
       have hc := hG5.cell (lit_cell [v2, v3, -1, v4] 3 w4 k (by simp; omega)) (by simpa using hne)
       have hb := getD_bd ([v2, v3, -1, v4] : List Int) (-1) 4294967296 (by simp; omega) k (by simp; omega)
       generalize ([v2, v3, -1, v4] : List Int).getD k 0 = u at hc hb)
    | (go_at_call_of 27 (Value.int .i64 4); refine (pick_any B a' l' c' zs' q4 4 _ (by omega) (by omega) hD4).mono ?_; rintro e w5 ⟨x, rfl, x0, x1, hE5, hH5⟩
       have hne : w5.heap.size ≠ B := by have := hE5.lt; omega
       obtain ⟨k, rfl⟩ := Int.eq_ofNat_of_zero_le x0
       have hlit : ∀ W : World, (W.alloc (.cells #[.int .i64 v2, .int .i64 v3, .int .i64 (-1), .int .i64 v4] 3)).cell? ⟨W.heap.size, k, none⟩ = some (.int .i64 (([v2, v3, -1, v4] : List Int).getD k 0)) := fun W => lit_cell [v2, v3, -1, v4] 3 W k (by simp; omega)
       have hb := getD_bd ([v2, v3, -1, v4] : List Int) (-1) 4294967296 (by simp; omega) k (by simp; omega)
       generalize ([v2, v3, -1, v4] : List Int).getD k 0 = u at hlit hb))
  all_goals
    have hG0 := gtrans (gtrans (gtrans (gtrans ((show w0.grownBy w0.drew (some B) from grownBy_drewN (World.grownBy.refl w0 (some B)) 1)) hG1) hG2) hG3) hG4
    first
      | (have hbel := Below.grown hb0 (gtrans (gtrans hG0 (World.grownBy_alloc _ _ _)) hG5) hb0.size (fun j hj => by cases hj; exact hB)
         clear hb0 hG0 hG1 hG2 hG3 hG4 hG5 hD0 hD1 hD2 hD3 hD4 hD5
         go_wp2
         go_ret2
         exact ⟨v1, u, rfl, by omega, by omega, by omega, by omega, hbel⟩)
      | (have hbel := (Below.grown hb0 (gtrans hG0 hH5) hb0.size (fun j hj => by cases hj; exact hB)).alloc (Nat.le_trans hb0.size (gtrans hG0 hH5).size) (.cells #[.int .i64 v2, .int .i64 v3, .int .i64 (-1), .int .i64 v4] 3)
         clear hb0 hG0 hG1 hG2 hG3 hG4 hH5 hD0 hD1 hD2 hD3 hD4 hE5
         go_wp2
         go_ret2
         exact ⟨v1, u, rfl, by omega, by omega, by omega, by omega, hbel⟩)
end Go.Proofs.Ytefneohkkfjcpac
