/-
  Drawing for chapter 4: elements, scalars, secrets, keys.
-/
import Derived.Test.YtpldoffjclmacabGe
import Derived.Test.YtpldoffjclmacabDr
import Derived.Deep.RegionWith
import Derived.Deep.DeepMust
namespace Go.Proofs.Ytpldoffjclmacab
open Go.RowKit

set_option maxRecDepth 100000 in
set_option maxHeartbeats 1600000 in
theorem l91Element_any (B : Nat) (a : Option Addr) (len cap : Nat) (zs : List Int) (p : Nat) (w : World) (hp : p ≤ 800000000) (hD0 : Dw B a len cap zs w p) :
    Calls Try.prog 27 #[.pointer (some ⟨B, 0, none⟩)] w (NumR B a len cap zs p 5 (-1) 2147483579 w) := by
  go_enter Try.func27, Try.ntmps27
  go_wp2_with fail
  refine (pick_any B a len cap zs _ 12 _ (by omega) (by omega) hD0).mono ?_
  rintro e w1 ⟨v1, rfl, a1, b1, hD1, hG1⟩
  by_cases h0 : v1 = 0
  · have h1 : (v1 == 0) = true := by simpa using h0
    clear h0
    go_wp2_with fail
    have hD5 := hD1.alloc (.cells (([0, 1, -1, 2, 3, 2147483579, 2147483578, 5] : List Int).map (Value.int .i64)).toArray 3)
    refine (pick_any B a len cap zs _ 8 _ (by omega) (by omega) hD5).mono ?_
    rintro e w5 ⟨v5, rfl, a5, b5, hD6, hG6⟩
    have hne : w1.heap.size ≠ B := by have := hD1.lt; omega
    have hcell : ∀ k, k < 8 → w5.cell? ⟨w1.heap.size, k, none⟩ = some (.int .i64 (([0, 1, -1, 2, 3, 2147483579, 2147483578, 5] : List Int).getD k 0)) :=
      fun k hk => hG6.cell (lit_cell _ _ _ _ hk) (by simpa using hne)
    have hbd := getD_bd ([0, 1, -1, 2, 3, 2147483579, 2147483578, 5] : List Int) (-1) 2147483579 (by simp)
    obtain ⟨k, rfl⟩ := Int.eq_ofNat_of_zero_le a5
    have hc := hcell k (by omega)
    have hb := hbd k (by simp; omega)
    generalize ([0, 1, -1, 2, 3, 2147483579, 2147483578, 5] : List Int).getD k 0 = v at hc hb
    clear hcell hbd
    go_wp2
    go_ret
    exact ⟨_, _, rfl, hb.1, hb.2, by omega, by omega, hD6, gtrans hG1 (gtrans (World.grownBy_alloc _ _ _) hG6)⟩
  · have h1 : (v1 == 0) = false := by simpa using h0
    clear h0
    go_wp2_with fail
    refine (l91Digest_any B a len cap zs _ _ (by omega) hD1).mono ?_
    rintro e w2 ⟨v2, q2, rfl, a2, b2, p2, r2, hD2, hG2⟩
    go_wp2_with fail
    refine (l4Base_any v2 _ (by omega)).mono ?_
    have HB := Gr.pw_bd 2147483579 4 v2 (by omega)
    generalize Gr.pw 2147483579 4 v2 = y at HB ⊢
    obtain ⟨y0, y1⟩ := HB
    rintro e w3 ⟨rfl, rfl⟩
    go_wp2
    go_ret
    exact ⟨_, _, rfl, by omega, by omega, by omega, by omega, hD2, gtrans hG1 hG2⟩
set_option maxRecDepth 100000 in
set_option maxHeartbeats 1600000 in
theorem l91Scalar_any (B : Nat) (a : Option Addr) (len cap : Nat) (zs : List Int) (p : Nat) (w : World) (hp : p ≤ 800000000) (hD0 : Dw B a len cap zs w p) :
    Calls Try.prog 28 #[.pointer (some ⟨B, 0, none⟩)] w (NumR B a len cap zs p 14 (-1) 1073741789 w) := by
  go_enter Try.func28, Try.ntmps28
  go_wp2_with fail
  refine (pick_any B a len cap zs _ 256 _ (by omega) (by omega) hD0).mono ?_
  rintro e w1 ⟨v1, rfl, a1, b1, hD1, hG1⟩
  go_wp2_with fail
  refine (l91Digest_any B a len cap zs _ _ (by omega) hD1).mono ?_
  rintro e w2 ⟨v2, q2, rfl, a2, b2, p2, r2, hD2, hG2⟩
  go_wp2_with fail
  refine (l91Digest_any B a len cap zs _ _ (by omega) hD2).mono ?_
  rintro e w3 ⟨v3, q3, rfl, a3, b3, p3, r3, hD3, hG3⟩
  go_wp2_with fail
  refine (l91Digest_any B a len cap zs _ _ (by omega) hD3).mono ?_
  rintro e w4 ⟨v4, q4, rfl, a4, b4, p4, r4, hD4, hG4⟩
  go_wp2_with fail
  have hD5 := hD4.alloc (.cells (([0, 1, 2, 1073741788, 1073741789, -1, v1, v2 % 1073741789, v3 % 1073741789, v4 % 1073741789] : List Int).map (Value.int .i64)).toArray 3)
  refine (pick_any B a len cap zs _ 10 _ (by omega) (by omega) hD5).mono ?_
  rintro e w5 ⟨v5, rfl, a5, b5, hD6, hG6⟩
  have hne : w4.heap.size ≠ B := by have := hD4.lt; omega
  have hcell : ∀ k, k < 10 → w5.cell? ⟨w4.heap.size, k, none⟩ = some (.int .i64 (([0, 1, 2, 1073741788, 1073741789, -1, v1, v2 % 1073741789, v3 % 1073741789, v4 % 1073741789] : List Int).getD k 0)) :=
    fun k hk => hG6.cell (lit_cell _ _ _ _ hk) (by simpa using hne)
  have hbd := getD_bd ([0, 1, 2, 1073741788, 1073741789, -1, v1, v2 % 1073741789, v3 % 1073741789, v4 % 1073741789] : List Int) (-1) 1073741789 (by simp; omega)
  obtain ⟨k, rfl⟩ := Int.eq_ofNat_of_zero_le a5
  have hc := hcell k (by omega)
  have hb := hbd k (by simp; omega)
  generalize ([0, 1, 2, 1073741788, 1073741789, -1, v1, v2 % 1073741789, v3 % 1073741789, v4 % 1073741789] : List Int).getD k 0 = v at hc hb
  clear hcell hbd
  go_wp2
  go_ret
  exact ⟨_, _, rfl, hb.1, hb.2, by omega, by omega, hD6, gtrans (gtrans (gtrans (gtrans hG1 hG2) hG3) hG4) (gtrans (World.grownBy_alloc _ _ _) hG6)⟩
/-- Drawing two numbers out of a code. -/
def DrawNum2 (w : World) (e : Ending) (w' : World) : Prop := ∃ u v : Int, e = .returned (.tuple #[.int .i64 u, .int .i64 v]) ∧ -1 ≤ u ∧ u ≤ 4294967296 ∧ -1 ≤ v ∧ v ≤ 4294967296 ∧ Below w.heap.size w w'
end Go.Proofs.Ytpldoffjclmacab
