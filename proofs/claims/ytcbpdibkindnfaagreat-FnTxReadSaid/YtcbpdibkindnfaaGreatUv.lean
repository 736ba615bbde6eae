/-
  Drawing for chapter 13: an output.
-/
import Derived.Test.YtcbpdibkindnfaaGreatZb
import Derived.Test.YtcbpdibkindnfaaGreatTk
import Derived.Deep.RegionWith
import Derived.Laws.Rows
namespace Go.Proofs.YtcbpdibkindnfaaGreat
open Go.RowKit

theorem Bk.store2v {B : Nat} {t : TypeId} {u0 u1 : Value} {w : World} (h : Bk B t #[u0, u1] w) (v0 v1 : Value) : Bk B t #[v0, v1] ((w.setCell ⟨B, 0, none⟩ v0).setCell ⟨B, 1, none⟩ v1) := by
  have h0 : Bk B t #[v0, u1] (w.setCell ⟨B, 0, none⟩ v0) := h.set 0 v0
  have h1 : Bk B t #[v0, v1] ((w.setCell ⟨B, 0, none⟩ v0).setCell ⟨B, 1, none⟩ v1) := h0.set 1 v1
  exact h1
theorem Bk.c2v {B : Nat} {t : TypeId} {u0 u1 : Value} {w : World} (h : Bk B t #[u0, u1] w) : (w.cell? ⟨B, 0, none⟩ = some u0 ∧ w.cell? ⟨B, 1, none⟩ = some u1) ∧ w.frozen? ⟨B, 0, none⟩ = false ∧ w.frozen? ⟨B, 1, none⟩ = false := ⟨⟨h.cell 0, h.cell 1⟩, h.fro 0, h.fro 1⟩
theorem mul_bd13 {x y : Int} {m k : Nat} (hx : 0 ≤ x ∧ x ≤ (m : Int)) (hy : 0 ≤ y ∧ y ≤ (k : Int)) : 0 ≤ x * y ∧ x * y ≤ (m : Int) * (k : Int) :=
  ⟨Int.mul_nonneg hx.1 hy.1, Int.mul_le_mul hx.2 hy.2 hy.1 (by omega)⟩
/-- Drawing an output. -/
def OutR (B : Nat) (a : Option Addr) (len cap : Nat) (zs : List Int) (p : Nat) (w : World) (e : Ending) (w' : World) : Prop :=
  ∃ (am : Int) (s : ByteArray) (q : Nat), e = .returned (.agg #[.int .i64 am, .string s]) ∧ -1 ≤ am ∧ am ≤ 1000001 ∧ s.size ≤ 5000 ∧ p ≤ q ∧ q ≤ p + 103 ∧ Dw B a len cap zs w' q ∧ w.grownBy w' (some B)
set_option maxRecDepth 100000 in
set_option maxHeartbeats 3200000 in
theorem l92Out_any (B : Nat) (a : Option Addr) (len cap : Nat) (zs : List Int) (p : Nat) (w : World) (hp : p ≤ 490000000) (hD0 : Dw B a len cap zs w p) :
    Calls Tryz.prog 33 #[.pointer (some ⟨B, 0, none⟩)] w (OutR B a len cap zs p w) := by
  have hBlt := hD0.lt
  have hRB : w.heap.size ≠ B := by omega
  have hE0 : Dw B a len cap zs (w.alloc (.cells #[.int .i64 0, .string ⟨#[]⟩] 66 (0, 0))) p := hD0.alloc _
  have vR0 : Bk w.heap.size 66 #[.int .i64 0, .string ⟨#[]⟩] (w.alloc (.cells #[.int .i64 0, .string ⟨#[]⟩] 66 (0, 0))) := Bk.new _ _ _
  have hG0 : w.grownBy (w.alloc (.cells #[.int .i64 0, .string ⟨#[]⟩] 66 (0, 0))) (some B) := World.grownBy_alloc w _ (some B)
  clear hD0
  go_enter Tryz.func33, Tryz.ntmps33
  go_wp2_with fail
  refine (pick_any B a len cap zs p 40 _ (by omega) (by omega) hE0).mono ?_
  rintro e wp ⟨v, rfl, v0, v1, hDp, hGp⟩
  have vRp := vR0.gbK hGp hRB
  have hKp := gtrans hG0 hGp
  clear vR0 hE0 hG0 hGp v0 v1
  by_cases hv : v = 0
  · subst hv
    have hpk : ∀ k : Nat, (k : Int) < 4 → ∃ am : Int, ([.int .i64 0, .int .i64 (-1), .int .i64 1000000, .int .i64 1000001] : List Value)[k]? = some (.int .i64 am) ∧ -1 ≤ am ∧ am ≤ 1000001 := fun k hk => by
      match k, hk with
      | 0, _ => exact ⟨_, rfl, by omega, by omega⟩
      | 1, _ => exact ⟨_, rfl, by omega, by omega⟩
      | 2, _ => exact ⟨_, rfl, by omega, by omega⟩
      | 3, _ => exact ⟨_, rfl, by omega, by omega⟩
    have hlit : ∀ (W : World) (k : Nat) (u : Value), ([.int .i64 0, .int .i64 (-1), .int .i64 1000000, .int .i64 1000001] : List Value)[k]? = some u → (W.alloc (.cells #[.int .i64 0, .int .i64 (-1), .int .i64 1000000, .int .i64 1000001] 3)).cell? ⟨W.heap.size, k, none⟩ = some u := fun W k u h => lit_cellV [.int .i64 0, .int .i64 (-1), .int .i64 1000000, .int .i64 1000001] 3 W k _ h
    have HLIT := Lib.hid hlit
    have HPK := Lib.hid hpk
    clear hlit hpk
    go_wp2
    go_region_with (first
      | (go_at_call 30; refine (pick_any B a len cap zs (p + 1) 4 _ (by omega) (by omega) (by exact (hDp.alloc (.cells #[.int .i64 0, .int .i64 (-1), .int .i64 1000000, .int .i64 1000001] 3)).of fun _ _ => rfl)).mono ?_; rintro e w1 ⟨x1, rfl, x10, x11, hD1, hG1⟩
         obtain ⟨k, rfl⟩ := Int.eq_ofNat_of_zero_le x10
         obtain ⟨am, hs, am0, am1⟩ := HPK.out k x11
         have hne : wp.heap.size ≠ B := by have := hDp.lt; omega
         have hc1 : w1.cell? ⟨wp.heap.size, k, none⟩ = some (.int .i64 am) := hG1.cell (by exact HLIT.out wp k _ hs) (by simpa using hne)
         have vR1 := (vRp.alloc (.cells #[.int .i64 0, .int .i64 (-1), .int .i64 1000000, .int .i64 1000001] 3)).drew.gbK hG1 hRB
         have hK1 := gtrans (grownBy_drew (gb_allocK hKp (.cells #[.int .i64 0, .int .i64 (-1), .int .i64 1000000, .int .i64 1000001] 3))) hG1)
      | (go_at_call 30; refine (pick_any B a len cap zs (p + 1) 4 _ (by omega) (by omega) (by exact hDp.of fun _ _ => rfl)).mono ?_; rintro e w1 ⟨x1, rfl, x10, x11, hF1, hG1⟩
         obtain ⟨k, rfl⟩ := Int.eq_ofNat_of_zero_le x10
         obtain ⟨am, hs, am0, am1⟩ := HPK.out k x11
         have hlit1 := fun W => HLIT.out W k _ hs
         have vR1 := vRp.drew.gbK hG1 hRB
         have hK1 := gtrans (grownBy_drew hKp) hG1)
      | (go_at_call 62; refine (l91Lock_any B a len cap zs (p + 1 + 1) _ (by omega) (by exact hD1)).mono ?_; rintro e w2 ⟨s, q, rfl, hsz, q0, q1, hD2, hG2⟩
         have hc2 := hG2.cell hc1 (by simpa using hne)
         have vR2 := vR1.gbK hG2 hRB
         have hK2 := gtrans hK1 hG2
         obtain ⟨⟨r0, r1⟩, f0, f1⟩ := Bk.c2v vR2)
      | (go_at_call 62; refine (l91Lock_any B a len cap zs (p + 1 + 1) _ (by omega) (by exact hF1.alloc _)).mono ?_; rintro e w2 ⟨s, q, rfl, hsz, q0, q1, hD2, hG2⟩
         have hne : w1.heap.size ≠ B := by have := hF1.lt; omega
         have hc2 := hG2.cell (hlit1 w1) (by simpa using hne)
         have vR2 := (vR1.alloc _).gbK hG2 hRB
         have hK2 := gtrans (gb_allocK hK1 _) hG2
         obtain ⟨⟨r0, r1⟩, f0, f1⟩ := Bk.c2v vR2)
      | (go_at_call 62; refine (l91Lock_any B a len cap zs (p + 1 + 1) _ (by omega) (by exact hF1)).mono ?_; rintro e w2 ⟨s, q, rfl, hsz, q0, q1, hF2, hG2⟩
         have vR2 := (vR1.gbK hG2 hRB).alloc (.cells #[.int .i64 0, .int .i64 (-1), .int .i64 1000000, .int .i64 1000001] 3)
         have hD2 := hF2.alloc (.cells #[.int .i64 0, .int .i64 (-1), .int .i64 1000000, .int .i64 1000001] 3)
         have hK2 := gb_allocK (gtrans hK1 hG2) (.cells #[.int .i64 0, .int .i64 (-1), .int .i64 1000000, .int .i64 1000001] 3)
         obtain ⟨⟨r0, r1⟩, f0, f1⟩ := Bk.c2v vR2))
    all_goals
      have hR := Bk.store2v vR2 (.int .i64 am) (.string s)
      have hDz := (hD2.osetK w.heap.size 0 (.int .i64 am) hBlt).osetK w.heap.size 1 (.string s) hBlt
      have hGz := gb_setK (gb_setK hK2 w.heap.size 0 (.int .i64 am) (Nat.le_refl _)) w.heap.size 1 (.string s) (Nat.le_refl _)
      go_wp2
      refine bodyPost_ret (results_cell_row (P := Tryz.prog) rfl _ _ w.heap.size 66 _ (0, 0) _ rfl hR.held Tryz.underlying66 rfl (by kernel_rfl)) rfl ?_
      exact ⟨am, s, _, rfl, am0, am1, hsz, by omega, by omega, hDz, hGz⟩
  · have hvq : (v == 0) = false := by simpa using hv
    clear hv
    go_wp2_with fail
    refine (pick_any B a len cap zs _ 256 _ (by omega) (by omega) hDp).mono ?_
    rintro e w1 ⟨x, rfl, x0, x1, hD1, hG1⟩
    have vR1 := vRp.gbK hG1 hRB
    have hK1 := gtrans hKp hG1
    clear hDp vRp hKp hG1
    go_wp2_with fail
    refine (pick_any B a len cap zs _ 16 _ (by omega) (by omega) hD1).mono ?_
    rintro e w2 ⟨y, rfl, y0, y1, hD2, hG2⟩
    have vR2 := vR1.gbK hG2 hRB
    have hK2 := gtrans hK1 hG2
    obtain ⟨z0, z1⟩ := mul_bd13 (m := 255) (k := 15) ⟨x0, by omega⟩ ⟨y0, by omega⟩
    have hw1 : IntKind.i64.wrap (x * y) = x * y := IntWalk.i64_in _ (by omega)
    have hw2 : IntKind.i64.wrap (1 + x * y) = 1 + x * y := IntWalk.i64_in _ (by omega)
    clear hD1 vR1 hK1 hG2
    go_wp2_with fail
    refine (l91Lock_any B a len cap zs _ _ (by omega) hD2).mono ?_
    rintro e w3 ⟨s, q, rfl, hsz, q0, q1, hD3, hG3⟩
    have vR3 := vR2.gbK hG3 hRB
    have hK3 := gtrans hK2 hG3
    obtain ⟨⟨r0, r1⟩, f0, f1⟩ := Bk.c2v vR3
    have hR := Bk.store2v vR3 (.int .i64 (1 + x * y)) (.string s)
    have hDz := (hD3.osetK w.heap.size 0 (.int .i64 (1 + x * y)) hBlt).osetK w.heap.size 1 (.string s) hBlt
    have hGz := gb_setK (gb_setK hK3 w.heap.size 0 (.int .i64 (1 + x * y)) (Nat.le_refl _)) w.heap.size 1 (.string s) (Nat.le_refl _)
    clear hD2 vR2 hK2 hG3
    go_wp2
    refine bodyPost_ret (results_cell_row (P := Tryz.prog) rfl _ _ w.heap.size 66 _ (0, 0) _ rfl hR.held Tryz.underlying66 rfl (by kernel_rfl)) rfl ?_
    exact ⟨1 + x * y, s, _, rfl, by omega, by omega, hsz, by omega, by omega, hDz, hGz⟩
end Go.Proofs.YtcbpdibkindnfaaGreat
