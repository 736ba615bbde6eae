/-
  Drawing for chapter 10: items, signatures.
-/
import Derived.Test.YtpldoffjclmacabDf
import Derived.Test.YtpldoffjclmacabOg2
import Derived.Test.YtpldoffjclmacabYa
namespace Go.Proofs.Ytpldoffjclmacab
open Go.RowKit

def DrawSg (w : World) (e : Ending) (w' : World) : Prop := ∃ (R S : Int), e = .returned (.agg #[.int .i64 R, .int .i64 S]) ∧ Below w.heap.size w w'
set_option maxRecDepth 100000 in
set_option maxHeartbeats 3200000 in
theorem drawSigItem_any (a : Option Addr) (len cap : Nat) (zs : List Int) (w : World) (hr : IsRow .u8 w a len cap zs) (hlm : len ≤ 1048576) :
    Calls Try.prog 7 #[.slice a len cap] w (DrawSg w) := by
  have hX0 : Bk w.heap.size 24 #[.int .i64 0, .int .i64 0] (w.alloc (.cells #[.int .i64 0, .int .i64 0] 24 (0, 0))) := Bk.new _ _ _
  have hb0 : Below w.heap.size w (w.alloc (.cells #[.int .i64 0, .int .i64 0] 24 (0, 0))) := (Below.refl _ _).alloc (Nat.le_refl _) _
  have hr0 := hr.below hb0
  clear hr
  go_enter Try.func7, Try.ntmps7
  go_wp2_with fail
  refine (l6Open_any a len cap zs _ hr0 hlm).mono ?_
  rintro e w1 ⟨B, a', l', c', zs', rfl, hB, hD, hb1⟩
  have hX1 := hX0.below hb1
  have hbb1 := below_aft9 hb0 hb1
  have hBn : w.heap.size < B := by simp at hB; omega
  go_wp2_with fail
  refine (l91Word_any B a' l' c' zs' _ _ (by omega) hD).mono ?_
  rintro e w2 ⟨t, q2, rfl, ht, p2, r2, hD2, hG2⟩
  go_wp2_with fail
  refine (l91Sig_any B a' l' c' zs' _ 11 t _ (by omega) hD2 (by decide) (by decide) (by omega)).mono ?_
  rintro e w3 ⟨R, S, q3, rfl, _, _, _, _, _, _, _, hG3⟩
  have hG := gtrans hG2 hG3
  have hbel := Below.grown hbb1 hG hbb1.size (fun j hj => by cases hj; omega)
  have hX3 := hX1.gb hG (by omega)
  obtain ⟨c0, c1⟩ := Bk.c2 hX3
  obtain ⟨f0, f1⟩ := hX3.f2
  have hX4 := Bk.store2 hX3 (.int .i64 R) (.int .i64 S)
  have hbel4 := below_store2 hbel w.heap.size (Nat.le_refl _) (.int .i64 R) (.int .i64 S)
  clear hX0 hb0 hb1 hX1 hbb1 hD hD2 hG2 hG3 hG hbel hX3
  go_wp2
  refine bodyPost_ret (results_cell_row (P := Try.prog) rfl _ _ w.heap.size 24 _ (0, 0) _ rfl hX4.held Try.underlying24 rfl (by kernel_rfl)) rfl ?_
  exact ⟨R, S, rfl, hbel4⟩
set_option maxRecDepth 100000 in
set_option maxHeartbeats 3200000 in
theorem drawItemSig_any (a : Option Addr) (len cap : Nat) (zs : List Int) (w : World) (hr : IsRow .u8 w a len cap zs) (hlm : len ≤ 1048576) :
    Calls Try.prog 11 #[.slice a len cap] w (DrawStr 30 w) := by
  go_enter Try.func11, Try.ntmps11
  go_wp2_with fail
  refine (l6Open_any a len cap zs _ hr hlm).mono ?_
  rintro e w1 ⟨B, a', l', c', zs', rfl, hB, hD, hb1⟩
  clear hr
  go_wp2_with fail
  refine (l91Word_any B a' l' c' zs' _ _ (by omega) hD).mono ?_
  rintro e w2 ⟨t, q2, rfl, ht, p2, r2, hD2, hG2⟩
  go_wp2_with fail
  refine (l91Sig_any B a' l' c' zs' _ 11 t _ (by omega) hD2 (by decide) (by decide) (by omega)).mono ?_
  rintro e w2 ⟨R, S, q3, rfl, _, _, _, _, _, _, hD3, hG3⟩
  have hG3 := gtrans hG2 hG3
  have hlt3 := hD3.lt
  have hsz := Jo.item_len R S
  have hsz : (Jo.item R S).size ≤ 8 := by rw [hsz]; split <;> omega
  clear hD hD2 hG2
  go_wp2_with fail
  refine (specSigItem_any R S _).mono ?_
  rintro e w3 ⟨rfl, hb3⟩
  have hD3 := hD3.below hb3
  have hG3 : w1.grownBy w3 (some B) := gtrans hG3 (below_gb hb3 B)
  generalize Jo.item R S = s1 at hsz ⊢
  clear hb3 hlt3
  go_wp2_with fail
  refine (l91Bytes_any B a' l' c' zs' _ _ (by omega) hD3).mono ?_
  rintro e w6 ⟨s3, q6, rfl, z6, p6, r6, hD6, hG6⟩
  have hG6 := gtrans hG3 hG6
  clear hD3 hG3
  have hD7 := hD6.alloc (.cells (([.string s1, .string s3] : List Value)).toArray 9)
  go_wp2_with fail
  refine (pick_any B a' l' c' zs' _ 4 _ (by omega) (by omega) hD7).mono ?_
  rintro e w8 ⟨x, rfl, x0, x1, hD8, hG8⟩
  have hne : w6.heap.size ≠ B := by have := hD6.lt; omega
  have hcell : ∀ k v, (([.string s1, .string s3] : List Value))[k]? = some v → w8.cell? ⟨w6.heap.size, k, none⟩ = some v := fun k v hk => hG8.cell (lit_cellV _ _ _ _ _ hk) (by simpa using hne)
  have hG := gtrans hG6 (gtrans (World.grownBy_alloc _ (.cells (([.string s1, .string s3] : List Value)).toArray 9) _) hG8)
  have hbel := Below.grown hb1 hG hb1.size (fun j hj => by cases hj; exact hB)
  clear hG6 hG8 hD6 hD7 hD8 hb1 hG
  by_cases hx : x < 3
  · have e0 : x / 3 = 0 := by omega
    have c0 := hcell 0 _ rfl
    clear hcell
    go_wp2
    go_ret
    exact ⟨_, rfl, by omega, hbel⟩
  · have e1 : x / 3 = 1 := by omega
    have c1 := hcell 1 _ rfl
    clear hcell
    go_wp2
    go_ret
    exact ⟨_, rfl, z6, hbel⟩
end Go.Proofs.Ytpldoffjclmacab
