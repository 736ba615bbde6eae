/-
  Drawing for chapter 4: elements, scalars, secrets, keys.
-/
import Derived.Test.YtoocibabceeagaaGk
import Derived.Test.YtoocibabceeagaaDr
import Derived.Deep.RegionWith
import Derived.Deep.DeepMust
namespace Go.Proofs.Ytoocibabceeagaa
open Go.RowKit

set_option maxRecDepth 100000 in
set_option maxHeartbeats 1600000 in
theorem l91Key_any (B : Nat) (a : Option Addr) (len cap : Nat) (zs : List Int) (p : Nat) (w : World) (hp : p ≤ 800000000) (hD0 : Dw B a len cap zs w p) :
    Calls Try.prog 37 #[.pointer (some ⟨B, 0, none⟩)] w (NumR B a len cap zs p 2 (-1) 2147483579 w) := by
  go_enter Try.func37, Try.ntmps37
  go_wp2_with fail
  refine (pick_any B a len cap zs _ 30 _ (by omega) (by omega) hD0).mono ?_
  rintro e w1 ⟨v1, rfl, a1, b1, hD1, hG1⟩
  by_cases h0 : v1 = 0
  · have h1 : (v1 == 0) = true := by simpa using h0
    clear h0
    go_wp2_with fail
    have hD5 := hD1.alloc (.cells (([0, 1, -1, 2, 2147483579, 2147483578] : List Int).map (Value.int .i64)).toArray 3)
    refine (pick_any B a len cap zs _ 6 _ (by omega) (by omega) hD5).mono ?_
    rintro e w5 ⟨v5, rfl, a5, b5, hD6, hG6⟩
    have hne : w1.heap.size ≠ B := by have := hD1.lt; omega
    have hcell : ∀ k, k < 6 → w5.cell? ⟨w1.heap.size, k, none⟩ = some (.int .i64 (([0, 1, -1, 2, 2147483579, 2147483578] : List Int).getD k 0)) :=
      fun k hk => hG6.cell (lit_cell _ _ _ _ hk) (by simpa using hne)
    have hbd := getD_bd ([0, 1, -1, 2, 2147483579, 2147483578] : List Int) (-1) 2147483579 (by simp)
    obtain ⟨k, rfl⟩ := Int.eq_ofNat_of_zero_le a5
    have hc := hcell k (by omega)
    have hb := hbd k (by simp; omega)
    generalize ([0, 1, -1, 2, 2147483579, 2147483578] : List Int).getD k 0 = v at hc hb
    clear hcell hbd
    go_wp2
    go_ret
    exact ⟨_, _, rfl, hb.1, hb.2, by omega, by omega, hD6, gtrans hG1 (gtrans (World.grownBy_alloc _ _ _) hG6)⟩
  · have h1 : (v1 == 0) = false := by simpa using h0
    clear h0
    go_wp2_with fail
    refine (pick_any B a len cap zs _ 60 _ (by omega) (by omega) hD1).mono ?_
    rintro e w2 ⟨v2, rfl, a2, b2, hD2, hG2⟩
    go_wp2_with fail
    refine (l4Base_any (1 + v2) _ (by omega)).mono ?_
    have HB := Gr.pw_bd 2147483579 4 (1 + v2) (by omega)
    generalize Gr.pw 2147483579 4 (1 + v2) = y at HB ⊢
    obtain ⟨y0, y1⟩ := HB
    rintro e w3 ⟨rfl, rfl⟩
    go_wp2
    go_ret
    exact ⟨_, _, rfl, by omega, by omega, by omega, by omega, hD2, gtrans hG1 hG2⟩
/-- Drawing two numbers out of a code. -/
def DrawNum2 (w : World) (e : Ending) (w' : World) : Prop := ∃ u v : Int, e = .returned (.tuple #[.int .i64 u, .int .i64 v]) ∧ -1 ≤ u ∧ u ≤ 4294967296 ∧ -1 ≤ v ∧ v ≤ 4294967296 ∧ Below w.heap.size w w'
end Go.Proofs.Ytoocibabceeagaa
