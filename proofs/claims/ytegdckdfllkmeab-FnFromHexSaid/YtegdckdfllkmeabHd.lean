/-
  The drawing of FromHex's argument.
-/
import Derived.Test.YtegdckdfllkmeabHo
import Derived.Test.YtegdckdfllkmeabDs
namespace Go.Proofs.Ytegdckdfllkmeab
open Go.RowKit
set_option maxRecDepth 100000 in
set_option maxHeartbeats 1600000 in
theorem drawFromHex_any (a : Option Addr) (len cap : Nat) (zs : List Int) (w : World) (hr : IsRow .u8 w a len cap zs) (hlm : len ≤ 1048576) :
    Calls Try.prog 14 #[.slice a len cap] w (DrawStr 65 w) := by
  go_enter Try.func14, Try.ntmps14
  go_wp2_with fail
  refine (l6Open_any a len cap zs _ hr hlm).mono ?_
  rintro e w1 ⟨B, a', l', c', zs', rfl, hB, hD, hb1⟩
  clear hr
  go_wp2_with fail
  refine (l91Bytes_any B a' l' c' zs' _ _ (by omega) hD).mono ?_
  rintro e w2 ⟨s0, q2, rfl, z2, p2, r2, hD2, hG2⟩
  clear hD
  go_wp2_with fail
  refine (specHexOf_any s0 _ (by omega)).mono ?_
  rintro e w3 ⟨rfl, hb3⟩
  have hD3 := hD2.of (w' := w3) (fun k hk => hb3.block k (by have := hD2.lt; omega))
  have hG3 : w1.grownBy w3 (some B) := gtrans hG2 ⟨hb3.os, hb3.tape, hb3.output, hb3.size, fun k hk _ => hb3.block k hk⟩
  have hz3 : (strOfNums (Hx.of s0 s0.size)).size ≤ 60 := by rw [strOfNums_size, Hx.of_len]; omega
  generalize strOfNums (Hx.of s0 s0.size) = t0 at hz3 ⊢
  clear hD2 hG2 hb3
  go_wp2_with fail
  refine (l91Bytes_any B a' l' c' zs' _ _ (by omega) hD3).mono ?_
  rintro e w4 ⟨s1, q4, rfl, z4, p4, r4, hD4, hG4⟩
  have hG4 := gtrans hG3 hG4
  clear hD3 hG3
  go_wp2_with fail
  refine (specHexOf_any s1 _ (by omega)).mono ?_
  rintro e w5 ⟨rfl, hb5⟩
  have hD5 := hD4.of (w' := w5) (fun k hk => hb5.block k (by have := hD4.lt; omega))
  have hG5 : w1.grownBy w5 (some B) := gtrans hG4 ⟨hb5.os, hb5.tape, hb5.output, hb5.size, fun k hk _ => hb5.block k hk⟩
  have hz5 : (strOfNums (Hx.of s1 s1.size)).size ≤ 60 := by rw [strOfNums_size, Hx.of_len]; omega
  generalize strOfNums (Hx.of s1 s1.size) = t1 at hz5 ⊢
  clear hD4 hG4 hb5
  go_wp2_with fail
  refine (l91Seldom_any B a' l' c' zs' _ t1 _ (by omega) (by omega) hD5).mono ?_
  rintro e w6 ⟨t2, q6, rfl, z6, p6, r6, hD6, hG6⟩
  have hG6 := gtrans hG5 hG6
  clear hD5 hG5
  go_wp2_with fail
  refine (l91Word_any B a' l' c' zs' _ _ (by omega) hD6).mono ?_
  rintro e w7 ⟨t3, q7, rfl, z7, p7, r7, hD7, hG7⟩
  have hG7 := gtrans hG6 hG7
  clear hD6 hG6
  have hD8 := hD7.alloc (.cells (([.string t0, .string t2, .string t3] : List Value)).toArray 9)
  go_wp2_with fail
  refine (pick_any B a' l' c' zs' _ 3 _ (by omega) (by omega) hD8).mono ?_
  rintro e w9 ⟨v, rfl, v0, v1, hD9, hG9⟩
  have hne : w7.heap.size ≠ B := by have := hD7.lt; omega
  have hcell : ∀ k v, (([.string t0, .string t2, .string t3] : List Value))[k]? = some v → w9.cell? ⟨w7.heap.size, k, none⟩ = some v := fun k v hk => hG9.cell (lit_cellV _ _ _ _ _ hk) (by simpa using hne)
  have hG := gtrans hG7 (gtrans (World.grownBy_alloc _ (.cells (([.string t0, .string t2, .string t3] : List Value)).toArray 9) _) hG9)
  have hbel := Below.grown hb1 hG hb1.size (fun j hj => by cases hj; exact hB)
  clear hG7 hG9 hD7 hD8 hD9 hb1 hG
  obtain ⟨k, rfl⟩ := Int.eq_ofNat_of_zero_le v0
  obtain ⟨t, ht, hzt⟩ : ∃ t : ByteArray, (([.string t0, .string t2, .string t3] : List Value))[k]? = some (.string t) ∧ t.size ≤ 65 := by
    match k, v1 with
    | 0, _ => exact ⟨t0, rfl, by omega⟩
    | 1, _ => exact ⟨t2, rfl, by omega⟩
    | 2, _ => exact ⟨t3, rfl, by omega⟩
  have hc := hcell k _ ht
  clear hcell ht
  go_wp2
  go_ret
  exact ⟨t, rfl, hzt, hbel⟩
end Go.Proofs.Ytegdckdfllkmeab
