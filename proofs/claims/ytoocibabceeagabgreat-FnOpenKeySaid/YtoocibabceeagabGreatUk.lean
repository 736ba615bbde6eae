/-
  Drawing for chapter 12: what the witnesses' functions are asked.
-/
import Derived.Test.YtoocibabceeagabGreatDz
import Derived.Test.YtoocibabceeagabGreatDs
namespace Go.Proofs.YtoocibabceeagabGreat
open Go.RowKit

theorem drawLockKeyU_any (a : Option Addr) (len cap : Nat) (zs : List Int) (w : World) (hr : IsRow .u8 w a len cap zs) (hlm : len ≤ 1048576) :
    Calls Tryz.prog 41 #[.slice a len cap] w (DrawNum w) := by
  go_enter Tryz.func41, Tryz.ntmps41
  go_wp2_with fail
  refine (l6Open_any a len cap zs _ hr hlm).mono ?_
  rintro e w0 ⟨B, a', l', c', zs', rfl, hB, hD0, hb0⟩
  clear hr
  go_wp2_with fail
  refine (l91Key_any B a' l' c' zs' _ _ (by omega) hD0).mono ?_
  rintro e w1 ⟨v1, q1, rfl, a1, b1, p1, r1, hD1, hG1⟩
  go_wp2
  go_ret
  exact ⟨v1, rfl, by omega, by omega, Below.grown hb0 hG1 hb0.size (fun j hj => by cases hj; exact hB)⟩
/-- Drawing a number and a word. -/
def DrawNW (w : World) (e : Ending) (w' : World) : Prop := ∃ (x : Int) (t : ByteArray), e = .returned (.tuple #[.int .i64 x, .string t]) ∧ -1 ≤ x ∧ x ≤ 1073741789 ∧ t.size ≤ 5 ∧ Below w.heap.size w w'
set_option maxRecDepth 100000 in
set_option maxHeartbeats 6400000 in
theorem drawOpenKey_any (a : Option Addr) (len cap : Nat) (zs : List Int) (w : World) (hr : IsRow .u8 w a len cap zs) (hlm : len ≤ 1048576) :
    Calls Tryz.prog 11 #[.slice a len cap] w (DrawNW w) := by
  go_enter Tryz.func11, Tryz.ntmps11
  go_wp2_with fail
  refine (l6Open_any a len cap zs _ hr hlm).mono ?_
  rintro e w0 ⟨B, a', l', c', zs', rfl, hB, hD0, hb0⟩
  clear hr
  go_wp2_with fail
  refine (l91Secret_any B a' l' c' zs' _ _ (by omega) hD0).mono ?_
  rintro e w1 ⟨x, q1, rfl, x0, x1, qa1, qb1, hD1, hG1⟩
  go_wp2_with fail
  refine (l91Word_any B a' l' c' zs' _ _ (by omega) hD1).mono ?_
  rintro e w2 ⟨t, q2, rfl, hs2, qa2, qb2, hD2, hG2⟩
  have hbel := Below.grown hb0 (gtrans hG1 hG2) hb0.size (fun j hj => by cases hj; exact hB)
  go_wp2
  go_ret2
  exact ⟨x, t, rfl, x0, x1, hs2, hbel⟩
set_option maxRecDepth 100000 in
set_option maxHeartbeats 6400000 in
theorem drawOpenLast_any (a : Option Addr) (len cap : Nat) (zs : List Int) (w : World) (hr : IsRow .u8 w a len cap zs) (hlm : len ≤ 1048576) :
    Calls Tryz.prog 30 #[.slice a len cap] w (DrawNW w) := by
  go_enter Tryz.func30, Tryz.ntmps30
  go_wp2_with fail
  refine (l6Open_any a len cap zs _ hr hlm).mono ?_
  rintro e w0 ⟨B, a', l', c', zs', rfl, hB, hD0, hb0⟩
  clear hr
  go_wp2_with fail
  refine (l91Secret_any B a' l' c' zs' _ _ (by omega) hD0).mono ?_
  rintro e w1 ⟨x, q1, rfl, x0, x1, qa1, qb1, hD1, hG1⟩
  go_wp2_with fail
  refine (l91Word_any B a' l' c' zs' _ _ (by omega) hD1).mono ?_
  rintro e w2 ⟨t, q2, rfl, hs2, qa2, qb2, hD2, hG2⟩
  have hbel := Below.grown hb0 (gtrans hG1 hG2) hb0.size (fun j hj => by cases hj; exact hB)
  go_wp2
  go_ret2
  exact ⟨x, t, rfl, x0, x1, hs2, hbel⟩
set_option maxRecDepth 100000 in
set_option maxHeartbeats 6400000 in
theorem drawOpenRevoked_any (a : Option Addr) (len cap : Nat) (zs : List Int) (w : World) (hr : IsRow .u8 w a len cap zs) (hlm : len ≤ 1048576) :
    Calls Tryz.prog 34 #[.slice a len cap] w (DrawNW w) := by
  go_enter Tryz.func34, Tryz.ntmps34
  go_wp2_with fail
  refine (l6Open_any a len cap zs _ hr hlm).mono ?_
  rintro e w0 ⟨B, a', l', c', zs', rfl, hB, hD0, hb0⟩
  clear hr
  go_wp2_with fail
  refine (l91Secret_any B a' l' c' zs' _ _ (by omega) hD0).mono ?_
  rintro e w1 ⟨x, q1, rfl, x0, x1, qa1, qb1, hD1, hG1⟩
  go_wp2_with fail
  refine (l91Word_any B a' l' c' zs' _ _ (by omega) hD1).mono ?_
  rintro e w2 ⟨t, q2, rfl, hs2, qa2, qb2, hD2, hG2⟩
  have hbel := Below.grown hb0 (gtrans hG1 hG2) hb0.size (fun j hj => by cases hj; exact hB)
  go_wp2
  go_ret2
  exact ⟨x, t, rfl, x0, x1, hs2, hbel⟩
/-- Drawing a number and two words. -/
def DrawNWW (w : World) (e : Ending) (w' : World) : Prop := ∃ (x : Int) (p t : ByteArray), e = .returned (.tuple #[.int .i64 x, .string p, .string t]) ∧ -1 ≤ x ∧ x ≤ 1073741789 ∧ p.size ≤ 5 ∧ t.size ≤ 5 ∧ Below w.heap.size w w'
set_option maxRecDepth 100000 in
set_option maxHeartbeats 6400000 in
theorem drawOpenPayee_any (a : Option Addr) (len cap : Nat) (zs : List Int) (w : World) (hr : IsRow .u8 w a len cap zs) (hlm : len ≤ 1048576) :
    Calls Tryz.prog 24 #[.slice a len cap] w (DrawNWW w) := by
  go_enter Tryz.func24, Tryz.ntmps24
  go_wp2_with fail
  refine (l6Open_any a len cap zs _ hr hlm).mono ?_
  rintro e w0 ⟨B, a', l', c', zs', rfl, hB, hD0, hb0⟩
  clear hr
  go_wp2_with fail
  refine (l91Secret_any B a' l' c' zs' _ _ (by omega) hD0).mono ?_
  rintro e w1 ⟨x, q1, rfl, x0, x1, qa1, qb1, hD1, hG1⟩
  go_wp2_with fail
  refine (l91Word_any B a' l' c' zs' _ _ (by omega) hD1).mono ?_
  rintro e w2 ⟨t, q2, rfl, hs2, qa2, qb2, hD2, hG2⟩
  go_wp2_with fail
  refine (l91Word_any B a' l' c' zs' _ _ (by omega) hD2).mono ?_
  rintro e w3 ⟨u, q3, rfl, hs3, qa3, qb3, hD3, hG3⟩
  have hbel := Below.grown hb0 (gtrans (gtrans hG1 hG2) hG3) hb0.size (fun j hj => by cases hj; exact hB)
  go_wp2
  go_ret3
  exact ⟨x, t, u, rfl, x0, x1, hs2, hs3, hbel⟩
/-- Drawing numbers and a word. -/
def DrawNsW (w : World) (e : Ending) (w' : World) : Prop := ∃ (ws : List Int) (g cp : Nat) (t : ByteArray), e = .returned (.tuple #[.slice (some ⟨g, 0, none⟩) ws.length cp, .string t]) ∧ ws.length ≤ 6 ∧ IR w' (some ⟨g, 0, none⟩) ws.length ws ∧ t.size ≤ 5 ∧ Below w.heap.size w w'
set_option maxRecDepth 100000 in
set_option maxHeartbeats 6400000 in
theorem drawOpenMany_any (a : Option Addr) (len cap : Nat) (zs : List Int) (w : World) (hr : IsRow .u8 w a len cap zs) (hlm : len ≤ 1048576) :
    Calls Tryz.prog 20 #[.slice a len cap] w (DrawNsW w) := by
  go_enter Tryz.func20, Tryz.ntmps20
  go_wp2_with fail
  refine (l6Open_any a len cap zs _ hr hlm).mono ?_
  rintro e w0 ⟨B, a', l', c', zs', rfl, hB, hD0, hb0⟩
  clear hr
  go_wp2_with fail
  refine (l91Secrets_any B a' l' c' zs' _ 6 _ (by omega) (by omega) hD0).mono ?_
  rintro e w1 ⟨ws, g, cp, q1, rfl, hl, hbd, hown, qa1, qb1, hD1, hG1⟩
  have hgB : g ≠ B := by
    have h1 := (hown.lt g rfl).1
    have h2 := hD0.lt
    omega
  have HIR0 := Lib.hid (IR.own hown).2
  clear hown hbd
  go_wp2_with fail
  refine (l91Word_any B a' l' c' zs' _ _ (by omega) hD1).mono ?_
  rintro e w2 ⟨t, q2, rfl, hs2, qa2, qb2, hD2, hG2⟩
  have HIR := Lib.hid (HIR0.out.grown hG2 (fun _ b off he => by cases he; simpa using hgB))
  have hbel := Below.grown hb0 (gtrans hG1 hG2) hb0.size (fun j hj => by cases hj; exact hB)
  clear HIR0
  go_wp2
  go_ret2
  exact ⟨ws, g, cp, t, rfl, hl, HIR.out, hs2, hbel⟩
end Go.Proofs.YtoocibabceeagabGreat
