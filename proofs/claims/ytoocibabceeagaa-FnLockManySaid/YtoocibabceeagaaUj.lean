/-
  Drawing for chapter 12: what the locks' functions are asked.
-/
import Derived.Test.YtoocibabceeagaaDe
import Derived.Test.YtoocibabceeagaaDz
import Derived.Test.YtoocibabceeagaaZb
import Derived.Deep.RegionWith
namespace Go.Proofs.Ytoocibabceeagaa
open Go.RowKit

set_option maxRecDepth 100000 in
set_option maxHeartbeats 6400000 in
theorem drawLockKey_any (a : Option Addr) (len cap : Nat) (zs : List Int) (w : World) (hr : IsRow .u8 w a len cap zs) (hlm : len ≤ 1048576) :
    Calls Try.prog 15 #[.slice a len cap] w (DrawNum w) := by
  go_enter Try.func15, Try.ntmps15
  go_wp2_with fail
  refine (l6Open_any a len cap zs _ hr hlm).mono ?_
  rintro e w0 ⟨B, a', l', c', zs', rfl, hB, hD0, hb0⟩
  clear hr
  go_wp2_with fail
  refine (l91Key_any B a' l' c' zs' _ _ (by omega) hD0).mono ?_
  rintro e w1 ⟨v1, q1, rfl, a1, b1, p1, r1, hD1, hG1⟩
  go_wp2
  go_ret
  exact ⟨v1, rfl, by omega, by omega, Below.grown hb0 hG1 hb0.size (fun j hj => by cases hj; exact hB)⟩
set_option maxRecDepth 100000 in
set_option maxHeartbeats 6400000 in
theorem drawLockDigest_any (a : Option Addr) (len cap : Nat) (zs : List Int) (w : World) (hr : IsRow .u8 w a len cap zs) (hlm : len ≤ 1048576) :
    Calls Try.prog 19 #[.slice a len cap] w (DrawNum w) := by
  go_enter Try.func19, Try.ntmps19
  go_wp2_with fail
  refine (l6Open_any a len cap zs _ hr hlm).mono ?_
  rintro e w0 ⟨B, a', l', c', zs', rfl, hB, hD0, hb0⟩
  clear hr
  go_wp2_with fail
  refine (l91Num_any B a' l' c' zs' _ _ (by omega) hD0).mono ?_
  rintro e w1 ⟨v1, q1, rfl, a1, b1, p1, r1, hD1, hG1⟩
  go_wp2
  go_ret
  exact ⟨v1, rfl, by omega, by omega, Below.grown hb0 hG1 hb0.size (fun j hj => by cases hj; exact hB)⟩
set_option maxRecDepth 100000 in
set_option maxHeartbeats 6400000 in
theorem drawLockName_any (a : Option Addr) (len cap : Nat) (zs : List Int) (w : World) (hr : IsRow .u8 w a len cap zs) (hlm : len ≤ 1048576) :
    Calls Try.prog 31 #[.slice a len cap] w (fun e w' => ∃ s : ByteArray, e = .returned (.string s) ∧ s.size ≤ 6000 ∧ Below w.heap.size w w') := by
  go_enter Try.func31, Try.ntmps31
  go_wp2_with fail
  refine (l6Open_any a len cap zs _ hr hlm).mono ?_
  rintro e w0 ⟨B, a', l', c', zs', rfl, hB, hD0, hb0⟩
  clear hr
  go_wp2_with fail
  refine (l93Lock_any B a' l' c' zs' _ _ (by omega) hD0).mono ?_
  rintro e w2 ⟨s, q, rfl, hs, _, _, _, hG2⟩
  have hbel := Below.grown hb0 hG2 hb0.size (fun j hj => by cases hj; exact hB)
  go_wp2
  go_ret
  exact ⟨s, rfl, hs, hbel⟩
/-- Drawing a number and a list of numbers. -/
def DrawMany (w : World) (e : Ending) (w' : World) : Prop := ∃ (need : Int) (ws : List Int) (g cp : Nat), e = .returned (.tuple #[.int .i64 need, .slice (some ⟨g, 0, none⟩) ws.length cp]) ∧ ws.length ≤ 6 ∧ IR w' (some ⟨g, 0, none⟩) ws.length ws ∧ Below w.heap.size w w'
set_option maxRecDepth 100000 in
set_option maxHeartbeats 6400000 in
theorem drawLockMany_any (a : Option Addr) (len cap : Nat) (zs : List Int) (w : World) (hr : IsRow .u8 w a len cap zs) (hlm : len ≤ 1048576) :
    Calls Try.prog 22 #[.slice a len cap] w (DrawMany w) := by
  go_enter Try.func22, Try.ntmps22
  go_wp2_with fail
  refine (l6Open_any a len cap zs _ hr hlm).mono ?_
  rintro e w0 ⟨B, a', l', c', zs', rfl, hB, hD0, hb0⟩
  clear hr
  go_wp2_with fail
  refine (pick_any B a' l' c' zs' _ 7 _ (by omega) (by omega) hD0).mono ?_
  rintro e w1 ⟨v1, rfl, a1, b1, hD1, hG1⟩
  go_wp2_with fail
  refine (l91Keys_any B a' l' c' zs' _ 6 _ (by omega) (by omega) hD1).mono ?_
  rintro e w2 ⟨ws, g, cp, q2, rfl, hl, hbd, hown, _, _, hD2, hG2⟩
  have hbel := Below.grown hb0 (gtrans hG1 hG2) hb0.size (fun j hj => by cases hj; exact hB)
  have HIR := Lib.hid (IR.own hown).2
  clear hown hbd
  go_wp2
  go_ret2
  exact ⟨v1, ws, g, cp, rfl, hl, HIR.out, hbel⟩
theorem results_tmp4U {fn : Func} {t u v x : Tmp} (h : fn.results = #[.tmp t, .tmp u, .tmp v, .tmp x]) (tmps : Array Value) (P : Program) (w : World) :
    (results fn tmps).run P w = .ok (.tuple #[tmps.getD t undef, tmps.getD u undef, tmps.getD v undef, tmps.getD x undef]) w := by
  simp [results, h]
/-- Drawing four numbers. -/
def DrawFour (w : World) (e : Ending) (w' : World) : Prop := ∃ x y z u : Int, e = .returned (.tuple #[.int .i64 x, .int .i64 y, .int .i64 z, .int .i64 u]) ∧ Below w.heap.size w w'
set_option maxRecDepth 100000 in
set_option maxHeartbeats 6400000 in
theorem drawLockTimed_any (a : Option Addr) (len cap : Nat) (zs : List Int) (w : World) (hr : IsRow .u8 w a len cap zs) (hlm : len ≤ 1048576) :
    Calls Try.prog 25 #[.slice a len cap] w (DrawFour w) := by
  go_enter Try.func25, Try.ntmps25
  go_wp2_with fail
  refine (l6Open_any a len cap zs _ hr hlm).mono ?_
  rintro e w0 ⟨B, a', l', c', zs', rfl, hB, hD0, hb0⟩
  clear hr
  have hlit : ∀ (W : World) (x3 : Int) (k : Nat), k < 4 → (W.alloc (.cells #[.int .i64 (x3), .int .i64 (-1), .int .i64 (9999), .int .i64 (10000)] 3 (0, 0))).cell? ⟨W.heap.size, k, none⟩ = some (.int .i64 (([x3, -1, 9999, 10000] : List Int).getD k 0)) := fun W x3 k hk => (World.cell?_alloc_mark W _ _ _ k).trans (by
    match k, hk with
    | 0, _ => rfl
    | 1, _ => rfl
    | 2, _ => rfl
    | 3, _ => rfl)
  have HLIT := Lib.hid hlit
  have hBl := hD0.lt
  clear hlit
  go_wp2
  go_region_with (first
    | (go_at_call 37; refine (l91Key_any B a' l' c' zs' (q2 + 1 + 1) _ (by omega) (by exact hD4)).mono ?_; rintro e w5 ⟨y9, q9, rfl, y90, y91, qa9, qb9, hD9, hG9⟩
       have hc9 := hG9.cell hc4 (by simpa using hne)
       have hK9 := gtrans hK4 hG9)
    | (go_at_call 37; refine (l91Key_any B a' l' c' zs' (q2 + 1 + 1) _ (by omega) (by exact hE4.alloc _)).mono ?_; rintro e w5 ⟨y9, q9, rfl, y90, y91, qa9, qb9, hD9, hG9⟩
       have hne : w4.heap.size ≠ B := by have := hE4.lt; omega
       have hc9 : w5.cell? ⟨w4.heap.size, k, none⟩ = some (.int .i64 z) := by rw [← HZ.out]; exact hG9.cell (HLIT.out w4 x3 k hk4) (by simpa using hne)
       have hK9 := gtrans (gb_allocK hK4 (.cells #[.int .i64 (x3), .int .i64 (-1), .int .i64 (9999), .int .i64 (10000)] 3 (0, 0))) hG9)
    | (go_at_call 37; refine (l91Key_any B a' l' c' zs' (q2 + 1 + 1) _ (by omega) (by exact hE4)).mono ?_; rintro e w5 ⟨y9, q9, rfl, y90, y91, qa9, qb9, hE9, hG9⟩
       have hc9 : (w5.alloc (.cells #[.int .i64 (x3), .int .i64 (-1), .int .i64 (9999), .int .i64 (10000)] 3 (0, 0))).cell? ⟨w5.heap.size, k, none⟩ = some (.int .i64 z) := by rw [← HZ.out]; exact HLIT.out w5 x3 k hk4
       have hD9 := hE9.alloc (.cells #[.int .i64 (x3), .int .i64 (-1), .int .i64 (9999), .int .i64 (10000)] 3 (0, 0))
       have hK9 := gb_allocK (gtrans hK4 hG9) (.cells #[.int .i64 (x3), .int .i64 (-1), .int .i64 (9999), .int .i64 (10000)] 3 (0, 0)))
    | (go_at_call 47; refine (l91Num_any B a' l' c' zs' 0 _ (by omega) (by exact hD0.of fun _ _ => rfl)).mono ?_; rintro e w1 ⟨x1, q1, rfl, x10, x11, qa1, qb1, hF1, hG1⟩
       have hK1 : w0.grownBy w1 (some B) := gtrans (grownBy_drew (World.grownBy.refl _ _)) hG1
       clear hG1)
    | (go_at_call 37; refine (l91Key_any B a' l' c' zs' q1 _ (by omega) (by exact hF1)).mono ?_; rintro e w2 ⟨x2, q2, rfl, x20, x21, qa2, qb2, hF2, hG2⟩
       have hK2 := gtrans hK1 hG2
       clear hG2)
    | (go_at_call_of 50 (Value.int .i64 50); refine (pick_any B a' l' c' zs' q2 50 _ (by omega) (by omega) (by exact hF2)).mono ?_; rintro e w3 ⟨x3, rfl, x30, x31, hF3, hG3⟩
       have hK3 := gtrans hK2 hG3)
    | (go_at_call_of 50 (Value.int .i64 8); refine (pick_any B a' l' c' zs' (q2 + 1) 8 _ (by omega) (by omega) (by exact hF3.alloc _)).mono ?_; rintro e w4 ⟨x4, rfl, x40, x41, hD4, hG4⟩
       obtain ⟨k, hk⟩ := Int.eq_ofNat_of_zero_le (show 0 ≤ x4 / 5 by omega)
       have hk4 : k < 4 := by omega
       have t1 : x4.tdiv 5 = (k : Int) := by rw [Int.tdiv_eq_ediv_of_nonneg x40]; exact hk
       have t2 : (k : Int).tmod 4 = (k : Int) := by rw [Int.tmod_eq_emod_of_nonneg (by omega)]; omega
       have t3 : IntKind.i64.wrap (k : Int) = (k : Int) := IntWalk.i64_in _ (by omega)
       have t4 : (k : Int) % 4 = (k : Int) := by omega
       obtain ⟨z, HZ⟩ : ∃ z, Hid (([x3, -1, 9999, 10000] : List Int).getD k 0 = z) := ⟨_, Lib.hid rfl⟩
       have hne : w3.heap.size ≠ B := by have := hF3.lt; omega
       have hc4 : w4.cell? ⟨w3.heap.size, k, none⟩ = some (.int .i64 z) := by rw [← HZ.out]; exact hG4.cell (HLIT.out w3 x3 k hk4) (by simpa using hne)
       have hK4 := gtrans (gb_allocK hK3 (.cells #[.int .i64 (x3), .int .i64 (-1), .int .i64 (9999), .int .i64 (10000)] 3 (0, 0))) hG4)
    | (go_at_call_of 50 (Value.int .i64 8); refine (pick_any B a' l' c' zs' (q2 + 1) 8 _ (by omega) (by omega) (by exact hF3)).mono ?_; rintro e w4 ⟨x4, rfl, x40, x41, hE4, hG4⟩
       obtain ⟨k, hk⟩ := Int.eq_ofNat_of_zero_le (show 0 ≤ x4 / 5 by omega)
       have hk4 : k < 4 := by omega
       have t1 : x4.tdiv 5 = (k : Int) := by rw [Int.tdiv_eq_ediv_of_nonneg x40]; exact hk
       have t2 : (k : Int).tmod 4 = (k : Int) := by rw [Int.tmod_eq_emod_of_nonneg (by omega)]; omega
       have t3 : IntKind.i64.wrap (k : Int) = (k : Int) := IntWalk.i64_in _ (by omega)
       have t4 : (k : Int) % 4 = (k : Int) := by omega
       obtain ⟨z, HZ⟩ : ∃ z, Hid (([x3, -1, 9999, 10000] : List Int).getD k 0 = z) := ⟨_, Lib.hid rfl⟩
       have hK4 := gtrans hK3 hG4))
  all_goals
    have hbel := Below.grown hb0 hK9 hb0.size (fun j hj => by cases hj; exact hB)
    have hv : ∀ hh : k < 4, ([.int .i64 x3, .int .i64 (-1), .int .i64 9999, .int .i64 10000] : List Value)[k]'hh = .int .i64 z := fun hh => by
      rw [← HZ.out]
      match k, hh with
      | 0, _ => rfl
      | 1, _ => rfl
      | 2, _ => rfl
      | 3, _ => rfl
    go_wp2
    refine bodyPost_ret (results_tmp4U rfl _ _ _) rfl ?_
    first
      | exact ⟨_, _, _, _, rfl, hbel⟩
      | (refine ⟨x1, x2, z, y9, ?_, hbel⟩
         show Ending.returned (.tuple #[.int .i64 x1, .int .i64 x2, ([.int .i64 x3, .int .i64 (-1), .int .i64 9999, .int .i64 10000] : List Value)[k]'hk4, .int .i64 y9]) = _
         rw [hv hk4])
/-- Drawing three numbers. -/
def DrawThree (w : World) (e : Ending) (w' : World) : Prop := ∃ x y z : Int, e = .returned (.tuple #[.int .i64 x, .int .i64 y, .int .i64 z]) ∧ Below w.heap.size w w'
set_option maxRecDepth 100000 in
set_option maxHeartbeats 6400000 in
theorem drawLockRevocable_any (a : Option Addr) (len cap : Nat) (zs : List Int) (w : World) (hr : IsRow .u8 w a len cap zs) (hlm : len ≤ 1048576) :
    Calls Try.prog 28 #[.slice a len cap] w (DrawThree w) := by
  go_enter Try.func28, Try.ntmps28
  go_wp2_with fail
  refine (l6Open_any a len cap zs _ hr hlm).mono ?_
  rintro e w0 ⟨B, a', l', c', zs', rfl, hB, hD0, hb0⟩
  clear hr
  have hlit : ∀ (W : World) (x3 : Int) (k : Nat), k < 4 → (W.alloc (.cells #[.int .i64 (1 + x3), .int .i64 (0), .int .i64 (99), .int .i64 (100)] 3 (0, 0))).cell? ⟨W.heap.size, k, none⟩ = some (.int .i64 (([1 + x3, 0, 99, 100] : List Int).getD k 0)) := fun W x3 k hk => (World.cell?_alloc_mark W _ _ _ k).trans (by
    match k, hk with
    | 0, _ => rfl
    | 1, _ => rfl
    | 2, _ => rfl
    | 3, _ => rfl)
  have HLIT := Lib.hid hlit
  have hBl := hD0.lt
  clear hlit
  go_wp2
  go_region_with (first
    | (go_at_call 37; refine (l91Key_any B a' l' c' zs' (q1 + 1 + 1) _ (by omega) (by exact hD4)).mono ?_; rintro e w4 ⟨y9, q9, rfl, y90, y91, qa9, qb9, hD9, hG9⟩
       have hc9 := hG9.cell hc4 (by simpa using hne)
       have hK9 := gtrans hK4 hG9)
    | (go_at_call 37; refine (l91Key_any B a' l' c' zs' (q1 + 1 + 1) _ (by omega) (by exact hE4.alloc _)).mono ?_; rintro e w4 ⟨y9, q9, rfl, y90, y91, qa9, qb9, hD9, hG9⟩
       have hne : w3.heap.size ≠ B := by have := hE4.lt; omega
       have hc9 : w4.cell? ⟨w3.heap.size, k, none⟩ = some (.int .i64 z) := by rw [← HZ.out]; exact hG9.cell (HLIT.out w3 x3 k hk4) (by simpa using hne)
       have hK9 := gtrans (gb_allocK hK4 (.cells #[.int .i64 (1 + x3), .int .i64 (0), .int .i64 (99), .int .i64 (100)] 3 (0, 0))) hG9)
    | (go_at_call 37; refine (l91Key_any B a' l' c' zs' (q1 + 1 + 1) _ (by omega) (by exact hE4)).mono ?_; rintro e w4 ⟨y9, q9, rfl, y90, y91, qa9, qb9, hE9, hG9⟩
       have hc9 : (w4.alloc (.cells #[.int .i64 (1 + x3), .int .i64 (0), .int .i64 (99), .int .i64 (100)] 3 (0, 0))).cell? ⟨w4.heap.size, k, none⟩ = some (.int .i64 z) := by rw [← HZ.out]; exact HLIT.out w4 x3 k hk4
       have hD9 := hE9.alloc (.cells #[.int .i64 (1 + x3), .int .i64 (0), .int .i64 (99), .int .i64 (100)] 3 (0, 0))
       have hK9 := gb_allocK (gtrans hK4 hG9) (.cells #[.int .i64 (1 + x3), .int .i64 (0), .int .i64 (99), .int .i64 (100)] 3 (0, 0)))
    | (go_at_call 37; refine (l91Key_any B a' l' c' zs' 0 _ (by omega) (by exact hD0.of fun _ _ => rfl)).mono ?_; rintro e w1 ⟨x2, q1, rfl, x20, x21, qa1, qb1, hF1, hG1⟩
       have hK1 : w0.grownBy w1 (some B) := gtrans (grownBy_drew (World.grownBy.refl _ _)) hG1
       clear hG1)
    | (go_at_call_of 50 (Value.int .i64 50); refine (pick_any B a' l' c' zs' q1 50 _ (by omega) (by omega) (by exact hF1)).mono ?_; rintro e w2 ⟨x3, rfl, x30, x31, hF2, hG2⟩
       have hK2 := gtrans hK1 hG2
       have hw3 : IntKind.i64.wrap (1 + x3) = 1 + x3 := IntWalk.i64_in _ (by omega))
    | (go_at_call_of 50 (Value.int .i64 8); refine (pick_any B a' l' c' zs' (q1 + 1) 8 _ (by omega) (by omega) (by exact hF2.alloc _)).mono ?_; rintro e w3 ⟨x4, rfl, x40, x41, hD4, hG4⟩
       obtain ⟨k, hk⟩ := Int.eq_ofNat_of_zero_le (show 0 ≤ x4 / 5 by omega)
       have hk4 : k < 4 := by omega
       have t1 : x4.tdiv 5 = (k : Int) := by rw [Int.tdiv_eq_ediv_of_nonneg x40]; exact hk
       have t2 : (k : Int).tmod 4 = (k : Int) := by rw [Int.tmod_eq_emod_of_nonneg (by omega)]; omega
       have t3 : IntKind.i64.wrap (k : Int) = (k : Int) := IntWalk.i64_in _ (by omega)
       have t4 : (k : Int) % 4 = (k : Int) := by omega
       obtain ⟨z, HZ⟩ : ∃ z, Hid (([1 + x3, 0, 99, 100] : List Int).getD k 0 = z) := ⟨_, Lib.hid rfl⟩
       have hne : w2.heap.size ≠ B := by have := hF2.lt; omega
       have hc4 : w3.cell? ⟨w2.heap.size, k, none⟩ = some (.int .i64 z) := by rw [← HZ.out]; exact hG4.cell (HLIT.out w2 x3 k hk4) (by simpa using hne)
       have hK4 := gtrans (gb_allocK hK2 (.cells #[.int .i64 (1 + x3), .int .i64 (0), .int .i64 (99), .int .i64 (100)] 3 (0, 0))) hG4)
    | (go_at_call_of 50 (Value.int .i64 8); refine (pick_any B a' l' c' zs' (q1 + 1) 8 _ (by omega) (by omega) (by exact hF2)).mono ?_; rintro e w3 ⟨x4, rfl, x40, x41, hE4, hG4⟩
       obtain ⟨k, hk⟩ := Int.eq_ofNat_of_zero_le (show 0 ≤ x4 / 5 by omega)
       have hk4 : k < 4 := by omega
       have t1 : x4.tdiv 5 = (k : Int) := by rw [Int.tdiv_eq_ediv_of_nonneg x40]; exact hk
       have t2 : (k : Int).tmod 4 = (k : Int) := by rw [Int.tmod_eq_emod_of_nonneg (by omega)]; omega
       have t3 : IntKind.i64.wrap (k : Int) = (k : Int) := IntWalk.i64_in _ (by omega)
       have t4 : (k : Int) % 4 = (k : Int) := by omega
       obtain ⟨z, HZ⟩ : ∃ z, Hid (([1 + x3, 0, 99, 100] : List Int).getD k 0 = z) := ⟨_, Lib.hid rfl⟩
       have hK4 := gtrans hK2 hG4))
  all_goals
    have hbel := Below.grown hb0 hK9 hb0.size (fun j hj => by cases hj; exact hB)
    have hv : ∀ hh : k < 4, ([.int .i64 (1 + x3), .int .i64 0, .int .i64 99, .int .i64 100] : List Value)[k]'hh = .int .i64 z := fun hh => by
      rw [← HZ.out]
      match k, hh with
      | 0, _ => rfl
      | 1, _ => rfl
      | 2, _ => rfl
      | 3, _ => rfl
    go_wp2
    go_ret3
    first
      | exact ⟨_, _, _, rfl, hbel⟩
      | (refine ⟨x2, z, y9, ?_, hbel⟩
         show Ending.returned (.tuple #[.int .i64 x2, ([.int .i64 (1 + x3), .int .i64 0, .int .i64 99, .int .i64 100] : List Value)[k]'hk4, .int .i64 y9]) = _
         rw [hv hk4])
end Go.Proofs.Ytoocibabceeagaa
