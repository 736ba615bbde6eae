/-
  Drawing for chapter 2: numbers and strings for DigestBytes, BytesDigest, DigestPair.
-/
import Derived.Test.YtlhcanokimjonabDg
import Derived.Test.YtlhcanokimjonabDs
namespace Go.Proofs.Ytlhcanokimjonab
open Go.RowKit

set_option maxRecDepth 100000 in
set_option maxHeartbeats 800000 in
theorem drawDigestBytes_any (a : Option Addr) (len cap : Nat) (zs : List Int) (w : World) (hr : IsRow .u8 w a len cap zs) (hlm : len ≤ 1048576) :
    Calls Try.prog 9 #[.slice a len cap] w (DrawNum w) := by
  go_enter Try.func9, Try.ntmps9
  go_wp2_with fail
  refine (l6Open_any a len cap zs _ hr hlm).mono ?_
  rintro e w1 ⟨B, a', l', c', zs', rfl, hB, hD, hb1⟩
  go_wp2_with fail
  refine (l91Num_any B a' l' c' zs' 0 _ (by omega) hD).mono ?_
  rintro e w2 ⟨v, q, rfl, h1, h2, _, _, _, hG⟩
  go_wp2
  go_ret
  exact ⟨v, rfl, h1, h2, Below.grown hb1 hG hb1.size (fun j hj => by cases hj; exact hB)⟩
set_option maxRecDepth 100000 in
set_option maxHeartbeats 1600000 in
theorem drawBytesDigest_any (a : Option Addr) (len cap : Nat) (zs : List Int) (w : World) (hr : IsRow .u8 w a len cap zs) (hlm : len ≤ 1048576) :
    Calls Try.prog 13 #[.slice a len cap] w (DrawStr 30 w) := by
  go_enter Try.func13, Try.ntmps13
  go_wp2_with fail
  refine (l6Open_any a len cap zs _ hr hlm).mono ?_
  rintro e w1 ⟨B, a', l', c', zs', rfl, hB, hD, hb1⟩
  clear hr
  go_wp2_with fail
  refine (l91Digest_any B a' l' c' zs' 0 _ (by omega) hD).mono ?_
  rintro e w2 ⟨v, q2, rfl, h1, h2, p2, r2, hD2, hG2⟩
  go_wp2_with fail
  refine (l2Bytes_any v _ h1 h2).mono ?_
  rintro e w3 ⟨rfl, hb3⟩
  have hD3 := hD2.of (w' := w3) (fun k hk => hb3.block k (by have := hD2.lt; omega))
  have hG3 : w1.grownBy w3 (some B) := gtrans hG2 ⟨hb3.os, hb3.tape, hb3.output, hb3.size, fun k hk _ => hb3.block k hk⟩
  have hsz := Dg.bytes_size v
  generalize Dg.bytes v = s1 at hsz ⊢
  clear hD hD2 hG2 hb3
  go_wp2_with fail
  refine (l91Bytes_any B a' l' c' zs' _ _ (by omega) hD3).mono ?_
  rintro e w6 ⟨s3, q6, rfl, z6, p6, r6, hD6, hG6⟩
  have hG6 := gtrans hG3 hG6
  clear hD3 hG3
  have hD7 := hD6.alloc (.cells (([.string s1, .string s3] : List Value)).toArray 9)
  go_wp2_with fail
  refine (pick_any B a' l' c' zs' _ 4 _ (by omega) (by omega) hD7).mono ?_
  rintro e w8 ⟨x, rfl, x0, x1, hD8, hG8⟩
  have hne : w6.heap.size ≠ B := by have := hD6.lt; omega
  have hcell : ∀ k v, (([.string s1, .string s3] : List Value))[k]? = some v → w8.cell? ⟨w6.heap.size, k, none⟩ = some v := fun k v hk => hG8.cell (lit_cellV _ _ _ _ _ hk) (by simpa using hne)
  have hG := gtrans hG6 (gtrans (World.grownBy_alloc _ (.cells (([.string s1, .string s3] : List Value)).toArray 9) _) hG8)
  have hbel := Below.grown hb1 hG hb1.size (fun j hj => by cases hj; exact hB)
  clear hG6 hG8 hD6 hD7 hD8 hb1 hG
  by_cases hx : x < 3
  · have e0 : x / 3 = 0 := by omega
    have c0 := hcell 0 _ rfl
    clear hcell
    go_wp2
    go_ret
    exact ⟨_, rfl, by omega, hbel⟩
  · have e1 : x / 3 = 1 := by omega
    have c1 := hcell 1 _ rfl
    clear hcell
    go_wp2
    go_ret
    exact ⟨_, rfl, z6, hbel⟩
/-- Drawing two numbers out of a code. -/
def DrawNums (w : World) (e : Ending) (w' : World) : Prop := ∃ u v : Int, e = .returned (.tuple #[.int .i64 u, .int .i64 v]) ∧ -1 ≤ u ∧ u ≤ 4294967296 ∧ -1 ≤ v ∧ v ≤ 4294967296 ∧ Below w.heap.size w w'
set_option maxRecDepth 100000 in
set_option maxHeartbeats 1600000 in
theorem drawDigestPair_any (a : Option Addr) (len cap : Nat) (zs : List Int) (w : World) (hr : IsRow .u8 w a len cap zs) (hlm : len ≤ 1048576) :
    Calls Try.prog 15 #[.slice a len cap] w (DrawNums w) := by
  go_enter Try.func15, Try.ntmps15
  go_wp2_with fail
  refine (l6Open_any a len cap zs _ hr hlm).mono ?_
  rintro e w1 ⟨B, a', l', c', zs', rfl, hB, hD, hb1⟩
  clear hr
  have hBlt := hD.lt
  go_wp2
  go_region_with (first
    | (go_at_call 35; refine (l91Digest_any B a' l' c' zs' 0 _ (by omega) (by exact ⟨hD.held, hD.row, hD.byt, hD.len⟩)).mono ?_; rintro e w2 ⟨v2, q2, rfl, h2, k2, p2, r2, hD2, hG2⟩)
    | (go_at_call 37; refine (pick_any B a' l' c' zs' q3 2 _ (by omega) (by omega) (by exact hD3.alloc _)).mono ?_; rintro e w5 ⟨x, rfl, x0, x1, hD5, hG5⟩
       have hne : w3.heap.size ≠ B := by have := hD3.lt; omega
       obtain ⟨k, rfl⟩ := Int.eq_ofNat_of_zero_le x0
       have hc := hG5.cell (lit_cell [v2, v3] 3 w3 k (by simp; omega)) (by simpa using hne)
       have hb := getD_bd ([v2, v3] : List Int) (-1) 4294967296 (by simp; omega) k (by simp; omega)
       generalize ([v2, v3] : List Int).getD k 0 = u at hc hb)
    | (go_at_call 37; refine (pick_any B a' l' c' zs' q3 2 _ (by omega) (by omega) hD3).mono ?_; rintro e w5 ⟨x, rfl, x0, x1, hE5, hH5⟩
       have hne : w5.heap.size ≠ B := by have := hE5.lt; omega
       obtain ⟨k, rfl⟩ := Int.eq_ofNat_of_zero_le x0
       have hlit : ∀ W : World, (W.alloc (.cells #[.int .i64 v2, .int .i64 v3] 3)).cell? ⟨W.heap.size, k, none⟩ = some (.int .i64 (([v2, v3] : List Int).getD k 0)) := fun W => lit_cell [v2, v3] 3 W k (by simp; omega)
       have hb := getD_bd ([v2, v3] : List Int) (-1) 4294967296 (by simp; omega) k (by simp; omega)
       generalize ([v2, v3] : List Int).getD k 0 = u at hlit hb)
    | (go_at_call 31; refine (l91Num_any B a' l' c' zs' (q3 + 1) _ (by omega) hD5).mono ?_; rintro e w6 ⟨v6, q6, rfl, h6, k6, p6, r6, hD6, hG6⟩
       have hc6 := hG6.cell hc (by simpa using hne))
    | (go_at_call 31; refine (l91Num_any B a' l' c' zs' (q3 + 1) _ (by omega) (by exact hE5.alloc _)).mono ?_; rintro e w6 ⟨v6, q6, rfl, h6, k6, p6, r6, hD6, hG6⟩
       have hc6 := hG6.cell (hlit w5) (by simpa using hne))
    | (go_at_call 31; refine (l91Num_any B a' l' c' zs' (q3 + 1) _ (by omega) hE5).mono ?_; rintro e w6 ⟨v6, q6, rfl, h6, k6, p6, r6, hD6, hG6⟩)
    | (go_at_call 31; refine (l91Num_any B a' l' c' zs' q2 _ (by omega) hD2).mono ?_; rintro e w3 ⟨v3, q3, rfl, h3, k3, p3, r3, hD3, hG3⟩))
  all_goals
    have hG0 := gtrans (gtrans (grownBy_drew (World.grownBy.refl w1 (some B))) hG2) hG3
    first
      | (have hbel := Below.grown hb1 (gtrans (gtrans hG0 (World.grownBy_alloc _ _ _)) (gtrans hG5 hG6)) hb1.size (fun j hj => by cases hj; exact hB)
         clear hb1 hG0 hG2 hG3 hG5 hG6 hD hD2 hD3 hD5 hD6
         go_wp2
         go_ret2
         exact ⟨u, v6, rfl, hb.1, hb.2, h6, k6, hbel⟩)
      | (have hbel := Below.grown hb1 (gtrans (gtrans hG0 hH5) (gtrans (World.grownBy_alloc _ _ _) hG6)) hb1.size (fun j hj => by cases hj; exact hB)
         clear hb1 hG0 hG2 hG3 hH5 hG6 hD hD2 hD3 hE5 hD6
         go_wp2
         go_ret2
         exact ⟨u, v6, rfl, hb.1, hb.2, h6, k6, hbel⟩)
      | (have hbel := (Below.grown hb1 (gtrans (gtrans hG0 hH5) hG6) hb1.size (fun j hj => by cases hj; exact hB)).alloc (Nat.le_trans hb1.size (gtrans (gtrans hG0 hH5) hG6).size) (.cells #[.int .i64 v2, .int .i64 v3] 3)
         clear hb1 hG0 hG2 hG3 hH5 hG6 hD hD2 hD3 hE5 hD6
         go_wp2
         go_ret2
         exact ⟨u, v6, rfl, hb.1, hb.2, h6, k6, hbel⟩)
end Go.Proofs.Ytlhcanokimjonab
