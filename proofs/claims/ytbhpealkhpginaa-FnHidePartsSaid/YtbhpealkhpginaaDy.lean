/-
  Drawing for chapter 8: what the laws are asked.
-/
import Derived.Test.YtbhpealkhpginaaDq
import Derived.Test.YtbhpealkhpginaaDz
namespace Go.Proofs.Ytbhpealkhpginaa
open Go.RowKit

set_option maxRecDepth 100000 in
set_option maxHeartbeats 800000 in
theorem drawJoinParts_any (a : Option Addr) (len cap : Nat) (zs : List Int) (w : World) (hr : IsRow .u8 w a len cap zs) (hlm : len ≤ 1048576) :
    Calls Try.prog 17 #[.slice a len cap] w fun e w' => ∃ (l : List (Int × Int)) (g cp : Nat), e = .returned (.slice (some ⟨g, 0, none⟩) l.length cp) ∧ l.length ≤ 7 ∧ Po.Bd l ∧ w'.ownsRow w.heap.size 35 2 (.slice (some ⟨g, 0, none⟩) l.length cp) l.length (Po.enc l) ∧ Below w.heap.size w w' := by
  go_enter Try.func17, Try.ntmps17
  go_wp2_with fail
  refine (l6Open_any a len cap zs _ hr hlm).mono ?_
  rintro e w0 ⟨B, a', l', c', zs', rfl, hB, hD0, hb0⟩
  clear hr
  go_wp2_with fail
  refine (l91Parts_any B a' l' c' zs' _ _ (by omega) hD0).mono ?_
  rintro e w1 ⟨l, g, cp, q1, rfl, n0, n1, h1, p1, p2, hD1, hG1⟩
  have hle := hb0.size
  go_wp2
  go_ret
  exact ⟨l, g, cp, rfl, n0, n1, ownsRow_base h1 hle, Below.grown hb0 hG1 hb0.size (fun j hj => by cases hj; exact hB)⟩
set_option maxRecDepth 100000 in
set_option maxHeartbeats 800000 in
theorem drawPartAt_any (a : Option Addr) (len cap : Nat) (zs : List Int) (w : World) (hr : IsRow .u8 w a len cap zs) (hlm : len ≤ 1048576) :
    Calls Try.prog 19 #[.slice a len cap] w fun e w' => ∃ (l : List (Int × Int)) (g cp : Nat) (x : Int), e = .returned (.tuple #[.slice (some ⟨g, 0, none⟩) l.length cp, .int .i64 x]) ∧ 1 ≤ x ∧ x ≤ 14 ∧ l.length ≤ 7 ∧ Po.Bd l ∧ w'.ownsRow w.heap.size 35 2 (.slice (some ⟨g, 0, none⟩) l.length cp) l.length (Po.enc l) ∧ Below w.heap.size w w' := by
  go_enter Try.func19, Try.ntmps19
  go_wp2_with fail
  refine (l6Open_any a len cap zs _ hr hlm).mono ?_
  rintro e w0 ⟨B, a', l', c', zs', rfl, hB, hD0, hb0⟩
  clear hr
  go_wp2_with fail
  refine (l91Parts_any B a' l' c' zs' _ _ (by omega) hD0).mono ?_
  rintro e w1 ⟨l, g, cp, q1, rfl, n0, n1, h1, p1, p2, hD1, hG1⟩
  have hBw := hD0.lt
  have hne := own_ne h1 hBw
  go_wp2_with fail
  refine (pick_any B a' l' c' zs' _ 14 _ (by omega) (by omega) hD1).mono ?_
  rintro e w2 ⟨v, rfl, v0, v1, hD2, hG2⟩
  have h2 := h1.kept hG2 hne
  have hG := gtrans hG1 hG2
  have hle := hb0.size
  clear h1 hG1 hG2 hD1
  go_wp2
  go_ret2
  exact ⟨l, g, cp, 1 + v, rfl, by omega, by omega, n0, n1, ownsRow_base h2 hle, Below.grown hb0 hG hb0.size (fun j hj => by cases hj; exact hB)⟩
set_option maxRecDepth 100000 in
set_option maxHeartbeats 800000 in
theorem drawHideParts_any (a : Option Addr) (len cap : Nat) (zs : List Int) (w : World) (hr : IsRow .u8 w a len cap zs) (hlm : len ≤ 1048576) :
    Calls Try.prog 22 #[.slice a len cap] w fun e w' => ∃ (l : List (Int × Int)) (g cp : Nat) (x s : Int), e = .returned (.tuple #[.slice (some ⟨g, 0, none⟩) l.length cp, .int .i64 x, .int .i64 s]) ∧ 1 ≤ x ∧ x ≤ 14 ∧ -4294967296 ≤ s ∧ s ≤ 4294967296 ∧ l.length ≤ 7 ∧ Po.Bd l ∧ w'.ownsRow w.heap.size 35 2 (.slice (some ⟨g, 0, none⟩) l.length cp) l.length (Po.enc l) ∧ Below w.heap.size w w' := by
  go_enter Try.func22, Try.ntmps22
  go_wp2_with fail
  refine (l6Open_any a len cap zs _ hr hlm).mono ?_
  rintro e w0 ⟨B, a', l', c', zs', rfl, hB, hD0, hb0⟩
  clear hr
  go_wp2_with fail
  refine (l91Parts_any B a' l' c' zs' _ _ (by omega) hD0).mono ?_
  rintro e w1 ⟨l, g, cp, q1, rfl, n0, n1, h1, p1, p2, hD1, hG1⟩
  have hBw := hD0.lt
  have hne := own_ne h1 hBw
  go_wp2_with fail
  refine (pick_any B a' l' c' zs' _ 14 _ (by omega) (by omega) hD1).mono ?_
  rintro e w2 ⟨v, rfl, v0, v1, hD2, hG2⟩
  have h2 := h1.kept hG2 hne
  go_wp2_with fail
  refine (l91Scalar_any B a' l' c' zs' _ _ (by omega) hD2).mono ?_
  rintro e w3 ⟨s, q3, rfl, s0, s1, p3, r3, hD3, hG3⟩
  have h3 := h2.kept hG3 hne
  have hG := gtrans (gtrans hG1 hG2) hG3
  have hle := hb0.size
  clear h1 hG1 hG2 hD1 h2 hG3
  go_wp2
  go_ret3
  exact ⟨l, g, cp, 1 + v, s, rfl, by omega, by omega, by omega, by omega, n0, n1, ownsRow_base h3 hle, Below.grown hb0 hG hb0.size (fun j hj => by cases hj; exact hB)⟩
set_option maxRecDepth 100000 in
set_option maxHeartbeats 800000 in
theorem drawSplitSecret_any (a : Option Addr) (len cap : Nat) (zs : List Int) (w : World) (hr : IsRow .u8 w a len cap zs) (hlm : len ≤ 1048576) :
    Calls Try.prog 12 #[.slice a len cap] w fun e w' => ∃ (s : Int) (ws : List Int) (g cp : Nat) (n : Int), e = .returned (.tuple #[.int .i64 s, .slice (some ⟨g, 0, none⟩) ws.length cp, .int .i64 n]) ∧ 1 ≤ n ∧ n ≤ 13 ∧ -4294967296 ≤ s ∧ s ≤ 4294967296 ∧ ws.length ≤ 4 ∧ (∀ x ∈ ws, -1 ≤ x ∧ x ≤ 1073741789) ∧ w'.ownsRow w.heap.size 3 1 (.slice (some ⟨g, 0, none⟩) ws.length cp) ws.length (ws.map (Value.int .i64)) ∧ Below w.heap.size w w' := by
  go_enter Try.func12, Try.ntmps12
  go_wp2_with fail
  refine (l6Open_any a len cap zs _ hr hlm).mono ?_
  rintro e w0 ⟨B, a', l', c', zs', rfl, hB, hD0, hb0⟩
  clear hr
  go_wp2_with fail
  refine (l91Scalar_any B a' l' c' zs' _ _ (by omega) hD0).mono ?_
  rintro e w1 ⟨s, q1, rfl, s0, s1, p1, r1, hD1, hG1⟩
  have hBw := hD1.lt
  go_wp2_with fail
  refine (l91Secrets_any B a' l' c' zs' _ 4 _ (by omega) (by omega) hD1).mono ?_
  rintro e w2 ⟨ws, g, cp, q2, rfl, n0, n1, h2, p2, r2, hD2, hG2⟩
  have hne := own_ne h2 hBw
  go_wp2_with fail
  refine (pick_any B a' l' c' zs' _ 13 _ (by omega) (by omega) hD2).mono ?_
  rintro e w3 ⟨v, rfl, v0, v1, hD3, hG3⟩
  have h3 := h2.kept hG3 hne
  have hle := Nat.le_trans hb0.size hG1.size
  have hG := gtrans (gtrans hG1 hG2) hG3
  clear h2 hG1 hG2 hG3 hD1 hD2
  go_wp2
  go_ret3
  exact ⟨s, ws, g, cp, 1 + v, rfl, by omega, by omega, by omega, by omega, n0, n1, ownsRow_base h3 hle, Below.grown hb0 hG hb0.size (fun j hj => by cases hj; exact hB)⟩
end Go.Proofs.Ytbhpealkhpginaa
