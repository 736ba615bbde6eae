/-
  Drawing coins.
-/
import Derived.Test.YtohameoomlehlaaGreatCe
import Derived.Test.YtohameoomlehlaaGreatYl
import Derived.Test.YtohameoomlehlaaGreatZb
namespace Go.Proofs.YtohameoomlehlaaGreat
open Go.RowKit

/-- What drawn coins keep to. -/
structure Co.Dr (c : Co) : Prop where
  tx : -1 ≤ c.tx ∧ c.tx ≤ 4294967296
  out : -1 ≤ c.out ∧ c.out ≤ 6
  amt : 0 ≤ c.amt ∧ c.amt ≤ 1000001
  lock : c.lock.size ≤ 5000
  ht : 0 ≤ c.ht ∧ c.ht ≤ 8
theorem mul_bdC {x y : Int} {m k : Nat} (hx : 0 ≤ x ∧ x ≤ (m : Int)) (hy : 0 ≤ y ∧ y ≤ (k : Int)) : 0 ≤ x * y ∧ x * y ≤ (m : Int) * (k : Int) :=
  ⟨Int.mul_nonneg hx.1 hy.1, Int.mul_le_mul hx.2 hy.2 hy.1 (by omega)⟩
/-- While a coin is drawn: the result's block, the coin's block, the reader. -/
structure TC (B : Nat) (a : Option Addr) (len cap : Nat) (zs : List Int) (w : World) (T : Nat) (u0 u1 u2 u3 u4 u5 : Value) (q : Nat) (wr : World) : Prop where
  bl : B < w.heap.size
  tr : w.heap.size < T
  rb : Bk w.heap.size 48 #[.int .i64 0, .int .i64 0, .int .i64 0, .string ⟨#[]⟩, .int .i64 0, .bool false] wr
  tb : Bk T 48 #[u0, u1, u2, u3, u4, u5] wr
  dw : Dw B a len cap zs wr q
  gr : w.grownBy wr (some B)
section
variable {B : Nat} {a : Option Addr} {len cap : Nat} {zs : List Int} {w : World} {T : Nat} {u0 u1 u2 u3 u4 u5 : Value} {q : Nat} {wr : World} (h : TC B a len cap zs w T u0 u1 u2 u3 u4 u5 q wr)
include h
theorem TC.draw {w2 : World} {q2 : Nat} (hD : Dw B a len cap zs w2 q2) (hG : wr.grownBy w2 (some B)) : TC B a len cap zs w T u0 u1 u2 u3 u4 u5 q2 w2 :=
  ⟨h.bl, h.tr, h.rb.gbK hG (by have := h.bl; omega), h.tb.gbK hG (by have := h.bl; have := h.tr; omega), hD, gtrans h.gr hG⟩
theorem TC.alloc (o : Obj) : TC B a len cap zs w T u0 u1 u2 u3 u4 u5 q (wr.alloc o) := ⟨h.bl, h.tr, h.rb.alloc o, h.tb.alloc o, h.dw.alloc o, gb_allocK h.gr o⟩
theorem TC.drew : TC B a len cap zs w T u0 u1 u2 u3 u4 u5 q wr.drew := ⟨h.bl, h.tr, h.rb.drew, h.tb.drew, h.dw.of fun _ _ => rfl, grownBy_drew h.gr⟩
theorem TC.cells : (wr.cell? ⟨T, 0, none⟩ = some u0 ∧ wr.cell? ⟨T, 1, none⟩ = some u1 ∧ wr.cell? ⟨T, 2, none⟩ = some u2 ∧ wr.cell? ⟨T, 3, none⟩ = some u3 ∧ wr.cell? ⟨T, 4, none⟩ = some u4 ∧ wr.cell? ⟨T, 5, none⟩ = some u5) ∧ wr.frozen? ⟨T, 0, none⟩ = false ∧ wr.frozen? ⟨T, 1, none⟩ = false ∧ wr.frozen? ⟨T, 2, none⟩ = false ∧ wr.frozen? ⟨T, 3, none⟩ = false ∧ wr.frozen? ⟨T, 4, none⟩ = false ∧ wr.frozen? ⟨T, 5, none⟩ = false := ⟨Bk.c6 h.tb, Bk.f6 h.tb⟩
theorem TC.rcells : (wr.cell? ⟨w.heap.size, 0, none⟩ = some (.int .i64 0) ∧ wr.cell? ⟨w.heap.size, 1, none⟩ = some (.int .i64 0) ∧ wr.cell? ⟨w.heap.size, 2, none⟩ = some (.int .i64 0) ∧ wr.cell? ⟨w.heap.size, 3, none⟩ = some (.string ⟨#[]⟩) ∧ wr.cell? ⟨w.heap.size, 4, none⟩ = some (.int .i64 0) ∧ wr.cell? ⟨w.heap.size, 5, none⟩ = some (.bool false)) ∧ wr.frozen? ⟨w.heap.size, 0, none⟩ = false ∧ wr.frozen? ⟨w.heap.size, 1, none⟩ = false ∧ wr.frozen? ⟨w.heap.size, 2, none⟩ = false ∧ wr.frozen? ⟨w.heap.size, 3, none⟩ = false ∧ wr.frozen? ⟨w.heap.size, 4, none⟩ = false ∧ wr.frozen? ⟨w.heap.size, 5, none⟩ = false := ⟨Bk.c6 h.rb, Bk.f6 h.rb⟩
theorem TC.put (i : Nat) (v : Value) {v0 v1 v2 v3 v4 v5 : Value} (hb : Bk T 48 #[v0, v1, v2, v3, v4, v5] (wr.setCell ⟨T, i, none⟩ v)) : TC B a len cap zs w T v0 v1 v2 v3 v4 v5 q (wr.setCell ⟨T, i, none⟩ v) :=
  ⟨h.bl, h.tr, h.rb.oset T i v (by have := h.tr; omega), hb, h.dw.osetK T i v (by have := h.bl; have := h.tr; omega), gb_setK h.gr T i v (Nat.le_of_lt h.tr)⟩
theorem TC.put0 (v : Value) : TC B a len cap zs w T v u1 u2 u3 u4 u5 q (wr.setCell ⟨T, 0, none⟩ v) := h.put 0 v (h.tb.set 0 v)
theorem TC.put1 (v : Value) : TC B a len cap zs w T u0 v u2 u3 u4 u5 q (wr.setCell ⟨T, 1, none⟩ v) := h.put 1 v (h.tb.set 1 v)
theorem TC.put2 (v : Value) : TC B a len cap zs w T u0 u1 v u3 u4 u5 q (wr.setCell ⟨T, 2, none⟩ v) := h.put 2 v (h.tb.set 2 v)
end
/-- Drawing a coin. -/
def CoinDr (B : Nat) (a : Option Addr) (len cap : Nat) (zs : List Int) (p : Nat) (w : World) (e : Ending) (w' : World) : Prop :=
  ∃ (c : Co) (q : Nat), e = .returned (.agg #[.int .i64 c.tx, .int .i64 c.out, .int .i64 c.amt, .string c.lock, .int .i64 c.ht, .bool c.rew]) ∧ Hid c.Dr ∧ p ≤ q ∧ q ≤ p + 110 ∧ Dw B a len cap zs w' q ∧ w.grownBy w' (some B)
/-- The end of the drawing: the coin is put into the result's block. -/
theorem CoinDr.mk {B : Nat} {a : Option Addr} {len cap : Nat} {zs : List Int} {p q : Nat} {w wr : World} {T : Nat} {tx out amt : Int} {lock : ByteArray} {ht : Int} {rew : Bool} (h : TC B a len cap zs w T (.int .i64 tx) (.int .i64 out) (.int .i64 amt) (.string lock) (.int .i64 ht) (.bool rew) q wr) (hd : Co.Dr ⟨tx, out, amt, lock, ht, rew⟩) (hp : p ≤ q) (hq : q ≤ p + 110) :
    CoinDr B a len cap zs p w (.returned (.agg #[.int .i64 tx, .int .i64 out, .int .i64 amt, .string lock, .int .i64 ht, .bool rew])) ((((((wr.setCell ⟨w.heap.size, 0, none⟩ (.int .i64 tx)).setCell ⟨w.heap.size, 1, none⟩ (.int .i64 out)).setCell ⟨w.heap.size, 2, none⟩ (.int .i64 amt)).setCell ⟨w.heap.size, 3, none⟩ (.string lock)).setCell ⟨w.heap.size, 4, none⟩ (.int .i64 ht)).setCell ⟨w.heap.size, 5, none⟩ (.bool rew)) :=
  ⟨⟨tx, out, amt, lock, ht, rew⟩, q, rfl, Lib.hid hd, hp, hq, (((((h.dw.osetK _ 0 _ h.bl).osetK _ 1 _ h.bl).osetK _ 2 _ h.bl).osetK _ 3 _ h.bl).osetK _ 4 _ h.bl).osetK _ 5 _ h.bl,
   gb_setK (gb_setK (gb_setK (gb_setK (gb_setK (gb_setK h.gr _ 0 _ (Nat.le_refl _)) _ 1 _ (Nat.le_refl _)) _ 2 _ (Nat.le_refl _)) _ 3 _ (Nat.le_refl _)) _ 4 _ (Nat.le_refl _)) _ 5 _ (Nat.le_refl _)⟩
set_option maxRecDepth 100000 in
set_option maxHeartbeats 6400000 in
theorem l92Coin_any (B : Nat) (a : Option Addr) (len cap : Nat) (zs : List Int) (p : Nat) (w : World) (hp : p ≤ 400000000) (hD0 : Dw B a len cap zs w p) :
    Calls Tryz.prog 43 #[.pointer (some ⟨B, 0, none⟩)] w (CoinDr B a len cap zs p w) := by
  have hBlt := hD0.lt
  have hRB : w.heap.size ≠ B := by omega
  have hE0 : Dw B a len cap zs (w.alloc (.cells #[.int .i64 0, .int .i64 0, .int .i64 0, .string ⟨#[]⟩, .int .i64 0, .bool false] 48 (0, 0))) p := hD0.alloc _
  have vR0 : Bk w.heap.size 48 #[.int .i64 0, .int .i64 0, .int .i64 0, .string ⟨#[]⟩, .int .i64 0, .bool false] (w.alloc (.cells #[.int .i64 0, .int .i64 0, .int .i64 0, .string ⟨#[]⟩, .int .i64 0, .bool false] 48 (0, 0))) := Bk.new _ _ _
  have hG0 : w.grownBy (w.alloc (.cells #[.int .i64 0, .int .i64 0, .int .i64 0, .string ⟨#[]⟩, .int .i64 0, .bool false] 48 (0, 0))) (some B) := World.grownBy_alloc w _ (some B)
  clear hD0
  go_enter Tryz.func43, Tryz.ntmps43

  go_wp2_with fail
  refine (pick_any B a len cap zs p 20 _ (by omega) (by omega) hE0).mono ?_
  rintro e w1 ⟨xt, rfl, xt0, xt1, hD1, hG1⟩
  have vR1 := vR0.gbK hG1 hRB
  have hK1 := gtrans hG0 hG1
  clear hE0 vR0 hG0 hG1
  go_wp2_with fail
  refine (pick_any B a len cap zs (p + 1) 4 _ (by omega) (by omega) hD1).mono ?_
  rintro e w2 ⟨xo, rfl, xo0, xo1, hD2, hG2⟩
  have vR2 := vR1.gbK hG2 hRB
  have hK2 := gtrans hK1 hG2
  clear hD1 vR1 hK1 hG2
  go_wp2_with fail
  refine (pick_any B a len cap zs (p + 1 + 1) 256 _ (by omega) (by omega) hD2).mono ?_
  rintro e w3 ⟨xa, rfl, xa0, xa1, hD3, hG3⟩
  have vR3 := vR2.gbK hG3 hRB
  have hK3 := gtrans hK2 hG3
  clear hD2 vR2 hK2 hG3
  go_wp2_with fail
  refine (pick_any B a len cap zs (p + 1 + 1 + 1) 16 _ (by omega) (by omega) hD3).mono ?_
  rintro e w4 ⟨xb, rfl, xb0, xb1, hD4, hG4⟩
  have vR4 := vR3.gbK hG4 hRB
  have hK4 := gtrans hK3 hG4
  clear hD3 vR3 hK3 hG4
  obtain ⟨z0, z1⟩ := mul_bdC (m := 255) (k := 15) ⟨xa0, by omega⟩ ⟨xb0, by omega⟩
  obtain ⟨M, hM⟩ : ∃ x, xa * xb = x := ⟨_, rfl⟩
  rw [hM] at z0 z1
  have hw1 : IntKind.i64.wrap (xa * xb) = M := by rw [hM]; exact IntWalk.i64_in _ (by omega)
  clear hM
  go_wp2_with fail
  refine (l91Lock_any B a len cap zs (p + 1 + 1 + 1 + 1) _ (by omega) hD4).mono ?_
  rintro e w5 ⟨s, q5, rfl, hs, hq0, hq1, hD5, hG5⟩
  have vR5 := vR4.gbK hG5 hRB
  have hK5 := gtrans hK4 hG5
  clear hD4 vR4 hK4 hG5
  go_wp2_with fail
  refine (pick_any B a len cap zs q5 9 _ (by omega) (by omega) hD5).mono ?_
  rintro e w6 ⟨xh, rfl, xh0, xh1, hD6, hG6⟩
  have vR6 := vR5.gbK hG6 hRB
  have hK6 := gtrans hK5 hG6
  clear hD5 vR5 hK5 hG6
  go_wp2_with fail
  refine (pick_any B a len cap zs (q5 + 1) 4 _ (by omega) (by omega) hD6).mono ?_
  rintro e w7 ⟨xr, rfl, xr0, xr1, hD7, hG7⟩
  have vR7 := vR6.gbK hG7 hRB
  have hK7 := gtrans hK6 hG7
  clear hD6 vR6 hK6 hG7
  obtain ⟨RW, hRW⟩ : ∃ x, (xr == 0) = x := ⟨_, rfl⟩
  have h8 : TC B a len cap zs w w7.heap.size (.int .i64 xt) (.int .i64 xo) (.int .i64 (1 + M)) (.string s) (.int .i64 xh) (.bool RW) (q5 + 1 + 1) (w7.alloc (.cells #[.int .i64 xt, .int .i64 xo, .int .i64 (1 + M), .string s, .int .i64 xh, .bool RW] 48 (0, 0))) :=
    ⟨hBlt, vR7.lt, vR7.alloc _, Bk.new _ _ _, hD7.alloc _, gb_allocK hK7 _⟩
  have hdr : ∀ t o m : Int, (-1 ≤ t ∧ t ≤ 4294967296) → (-1 ≤ o ∧ o ≤ 6) → (0 ≤ m ∧ m ≤ 1000001) → Co.Dr ⟨t, o, m, s, xh, RW⟩ := fun t o m h1 h2 h3 => ⟨h1, h2, h3, hs, ⟨xh0, by show xh ≤ 8; omega⟩⟩
  have HDR := Lib.hid hdr
  clear vR7 hD7 hK7 hdr hs
  go_wp2_with fail
  refine (pick_any B a len cap zs (q5 + 1 + 1) 60 _ (by omega) (by omega) h8.dw).mono ?_
  rintro e w9 ⟨v, rfl, v0, v1, hD9, hG9⟩
  have h9 := h8.draw hD9 hG9
  clear h8 hD9 hG9 hw1 hRW
  by_cases hv0 : v = 0
  · subst hv0
    have hpk : ∀ k : Nat, (k : Int) < 3 → ∃ y : Int, ([.int .i64 (-1), .int .i64 4294967295, .int .i64 4294967296] : List Value)[k]? = some (.int .i64 y) ∧ -1 ≤ y ∧ y ≤ 4294967296 := fun k hk => by
      match k, hk with
      | 0, _ => exact ⟨_, rfl, by omega, by omega⟩
      | 1, _ => exact ⟨_, rfl, by omega, by omega⟩
      | 2, _ => exact ⟨_, rfl, by omega, by omega⟩
    have HPK := Lib.hid hpk
    clear hpk
    go_wp2_with fail
    refine (pick_any B a len cap zs (q5 + 1 + 1 + 1) 3 _ (by omega) (by omega) (h9.dw.alloc _)).mono ?_
    rintro e w10 ⟨x1, rfl, x10, x11, hD10, hG10⟩
    obtain ⟨k, rfl⟩ := Int.eq_ofNat_of_zero_le x10
    obtain ⟨y, hy, hy0, hy1⟩ := HPK.out k x11
    have hne : w9.heap.size ≠ B := by have := h9.dw.lt; omega
    have hc1 : w10.cell? ⟨w9.heap.size, k, none⟩ = some (.int .i64 y) := hG10.cell (lit_cellV [.int .i64 (-1), .int .i64 4294967295, .int .i64 4294967296] 3 w9 k _ hy) (by simpa using hne)
    have h10 := (h9.alloc (.cells #[.int .i64 (-1), .int .i64 4294967295, .int .i64 4294967296] 3)).draw hD10 hG10
    obtain ⟨_, f0, f1, f2, f3, f4, f5⟩ := h10.cells
    obtain ⟨⟨e0, e1, e2, e3, e4, e5⟩, _⟩ := h10.cells
    have h11 := h10.put0 (.int .i64 y)
    clear h9 h10 hD10 hG10 HPK hy hne
    obtain ⟨⟨c0, c1, c2, c3, c4, c5⟩, _, _, _, _, _, _⟩ := h11.cells
    obtain ⟨⟨y0, y1, y2, y3, y4, y5⟩, z0, z1, z2, z3, z4, z5⟩ := h11.rcells
    have hR := Bk.store6 h11.rb (.int .i64 y) (.int .i64 xo) (.int .i64 (1 + M)) (.string s) (.int .i64 xh) (.bool RW)
    have hfin := CoinDr.mk (p := p) h11 (HDR.out y xo (1 + M) (by omega) (by omega) (by omega)) (by omega) (by omega)
    clear h11
    go_wp2
    refine bodyPost_ret (results_cell_row (P := Tryz.prog) rfl _ _ w.heap.size 48 _ (0, 0) _ rfl hR.held Tryz.underlying48 rfl (by kernel_rfl)) rfl ?_
    exact hfin
  by_cases hv1 : v = 1
  · subst hv1
    have hpk : ∀ k : Nat, (k : Int) < 3 → ∃ y : Int, ([.int .i64 0, .int .i64 1000000, .int .i64 1000001] : List Value)[k]? = some (.int .i64 y) ∧ 0 ≤ y ∧ y ≤ 1000001 := fun k hk => by
      match k, hk with
      | 0, _ => exact ⟨_, rfl, by omega, by omega⟩
      | 1, _ => exact ⟨_, rfl, by omega, by omega⟩
      | 2, _ => exact ⟨_, rfl, by omega, by omega⟩
    have HPK := Lib.hid hpk
    clear hpk
    go_wp2_with fail
    refine (pick_any B a len cap zs (q5 + 1 + 1 + 1) 3 _ (by omega) (by omega) (h9.dw.alloc _)).mono ?_
    rintro e w10 ⟨x1, rfl, x10, x11, hD10, hG10⟩
    obtain ⟨k, rfl⟩ := Int.eq_ofNat_of_zero_le x10
    obtain ⟨y, hy, hy0, hy1⟩ := HPK.out k x11
    have hne : w9.heap.size ≠ B := by have := h9.dw.lt; omega
    have hc1 : w10.cell? ⟨w9.heap.size, k, none⟩ = some (.int .i64 y) := hG10.cell (lit_cellV [.int .i64 0, .int .i64 1000000, .int .i64 1000001] 3 w9 k _ hy) (by simpa using hne)
    have h10 := (h9.alloc (.cells #[.int .i64 0, .int .i64 1000000, .int .i64 1000001] 3)).draw hD10 hG10
    obtain ⟨_, f0, f1, f2, f3, f4, f5⟩ := h10.cells
    obtain ⟨⟨e0, e1, e2, e3, e4, e5⟩, _⟩ := h10.cells
    have h11 := h10.put2 (.int .i64 y)
    clear h9 h10 hD10 hG10 HPK hy hne
    obtain ⟨⟨c0, c1, c2, c3, c4, c5⟩, _, _, _, _, _, _⟩ := h11.cells
    obtain ⟨⟨y0, y1, y2, y3, y4, y5⟩, z0, z1, z2, z3, z4, z5⟩ := h11.rcells
    have hR := Bk.store6 h11.rb (.int .i64 xt) (.int .i64 xo) (.int .i64 y) (.string s) (.int .i64 xh) (.bool RW)
    have hfin := CoinDr.mk (p := p) h11 (HDR.out xt xo y (by omega) (by omega) (by omega)) (by omega) (by omega)
    clear h11
    go_wp2
    refine bodyPost_ret (results_cell_row (P := Tryz.prog) rfl _ _ w.heap.size 48 _ (0, 0) _ rfl hR.held Tryz.underlying48 rfl (by kernel_rfl)) rfl ?_
    exact hfin
  by_cases hv2 : v = 2
  · subst hv2
    have hpk : ∀ k : Nat, (k : Int) < 3 → ∃ y : Int, ([.int .i64 (-1), .int .i64 5, .int .i64 6] : List Value)[k]? = some (.int .i64 y) ∧ -1 ≤ y ∧ y ≤ 6 := fun k hk => by
      match k, hk with
      | 0, _ => exact ⟨_, rfl, by omega, by omega⟩
      | 1, _ => exact ⟨_, rfl, by omega, by omega⟩
      | 2, _ => exact ⟨_, rfl, by omega, by omega⟩
    have HPK := Lib.hid hpk
    clear hpk
    go_wp2_with fail
    refine (pick_any B a len cap zs (q5 + 1 + 1 + 1) 3 _ (by omega) (by omega) (h9.dw.alloc _)).mono ?_
    rintro e w10 ⟨x1, rfl, x10, x11, hD10, hG10⟩
    obtain ⟨k, rfl⟩ := Int.eq_ofNat_of_zero_le x10
    obtain ⟨y, hy, hy0, hy1⟩ := HPK.out k x11
    have hne : w9.heap.size ≠ B := by have := h9.dw.lt; omega
    have hc1 : w10.cell? ⟨w9.heap.size, k, none⟩ = some (.int .i64 y) := hG10.cell (lit_cellV [.int .i64 (-1), .int .i64 5, .int .i64 6] 3 w9 k _ hy) (by simpa using hne)
    have h10 := (h9.alloc (.cells #[.int .i64 (-1), .int .i64 5, .int .i64 6] 3)).draw hD10 hG10
    obtain ⟨_, f0, f1, f2, f3, f4, f5⟩ := h10.cells
    obtain ⟨⟨e0, e1, e2, e3, e4, e5⟩, _⟩ := h10.cells
    have h11 := h10.put1 (.int .i64 y)
    clear h9 h10 hD10 hG10 HPK hy hne
    obtain ⟨⟨c0, c1, c2, c3, c4, c5⟩, _, _, _, _, _, _⟩ := h11.cells
    obtain ⟨⟨y0, y1, y2, y3, y4, y5⟩, z0, z1, z2, z3, z4, z5⟩ := h11.rcells
    have hR := Bk.store6 h11.rb (.int .i64 xt) (.int .i64 y) (.int .i64 (1 + M)) (.string s) (.int .i64 xh) (.bool RW)
    have hfin := CoinDr.mk (p := p) h11 (HDR.out xt y (1 + M) (by omega) (by omega) (by omega)) (by omega) (by omega)
    clear h11
    go_wp2
    refine bodyPost_ret (results_cell_row (P := Tryz.prog) rfl _ _ w.heap.size 48 _ (0, 0) _ rfl hR.held Tryz.underlying48 rfl (by kernel_rfl)) rfl ?_
    exact hfin
  have q0 : (v == 0) = false := by simpa using hv0
  have q1 : (v == 1) = false := by simpa using hv1
  have q2 : (v == 2) = false := by simpa using hv2
  clear hv0 hv1 hv2
  obtain ⟨⟨c0, c1, c2, c3, c4, c5⟩, _, _, _, _, _, _⟩ := h9.cells
  obtain ⟨⟨y0, y1, y2, y3, y4, y5⟩, z0, z1, z2, z3, z4, z5⟩ := h9.rcells
  have hR := Bk.store6 h9.rb (.int .i64 xt) (.int .i64 xo) (.int .i64 (1 + M)) (.string s) (.int .i64 xh) (.bool RW)
  have hfin := CoinDr.mk (p := p) h9 (HDR.out xt xo (1 + M) (by omega) (by omega) (by omega)) (by omega) (by omega)
  clear h9
  go_wp2
  refine bodyPost_ret (results_cell_row (P := Tryz.prog) rfl _ _ w.heap.size 48 _ (0, 0) _ rfl hR.held Tryz.underlying48 rfl (by kernel_rfl)) rfl ?_
  exact hfin
/-- Drawing coins. -/
def CoinsDr (B : Nat) (a : Option Addr) (len cap : Nat) (zs : List Int) (p : Nat) (w : World) (e : Ending) (w' : World) : Prop :=
  ∃ (v : Value) (l : List Co) (q : Nat), e = .returned v ∧ Hid (l.length ≤ 8 ∧ ∀ c ∈ l, c.Dr) ∧ Hid (OwnC w.heap.size w' v l) ∧ p ≤ q ∧ q ≤ p + 1000 ∧ Dw B a len cap zs w' q ∧ w.grownBy w' (some B)
theorem Co.put_mem {l : List Co} {k : Nat} {c x : Co} (h : x ∈ Co.put l k c) : x = c ∨ x ∈ l := by
  unfold Co.put at h
  rcases List.mem_append.1 h with h | h
  · exact .inr (List.mem_of_mem_take h)
  · rcases List.mem_cons.1 h with h | h
    · exact .inl h
    · exact .inr (List.mem_of_mem_drop h)
set_option maxRecDepth 100000 in
set_option maxHeartbeats 6400000 in
theorem l92Coins_any (B : Nat) (a : Option Addr) (len cap : Nat) (zs : List Int) (p : Nat) (w : World) (hp : p ≤ 300000000) (hD0 : Dw B a len cap zs w p) :
    Calls Tryz.prog 23 #[.pointer (some ⟨B, 0, none⟩)] w (CoinsDr B a len cap zs p w) := by
  obtain ⟨i0, hi, hz0, hz1, hz2⟩ := info_parts info_coin
  have hBlt := hD0.lt
  have HO0 : Hid (OwnC w.heap.size (w.alloc (.cells #[] 48 (0, 0))) (.slice (some ⟨w.heap.size, 0, none⟩) 0 0) []) := Lib.hid (by
    have := World.ownsRow_made (e := 48) (size := 6) (base := w.heap.size) w #[] 0 (Nat.le_refl _) (by decide) rfl
    simpa [OwnC, Co.cs] using this)
  have hE0 : Dw B a len cap zs (w.alloc (.cells #[] 48 (0, 0))) p := hD0.alloc _
  have hG0 : w.grownBy (w.alloc (.cells #[] 48 (0, 0))) (some B) := World.grownBy_alloc w _ (some B)
  clear hD0
  go_enter Tryz.func23, Tryz.ntmps23
  go_wp2_with fail
  refine (pick_any B a len cap zs p 8 _ (by omega) (by omega) hE0).mono ?_
  rintro e w1 ⟨kk, rfl, kk0, kk1, hD1, hG1⟩
  obtain ⟨n, rfl⟩ := Int.eq_ofNat_of_zero_le kk0
  have HO1 := Lib.hid (HO0.out.kept hG1 hBlt)
  have hK1 := gtrans hG0 hG1
  clear hE0 hG0 hG1 HO0
  go_wp2
  go_loopw [3, 4] (fun v i wr => ∃ (k : Nat) (l : List Co) (q : Nat), k ≤ n ∧ i = .int .i64 (k : Int) ∧ Hid (l.length + k ≤ n ∧ ∀ c ∈ l, c.Dr) ∧ Hid (OwnC w.heap.size wr v l) ∧ p ≤ q ∧ q ≤ p + 1 + 110 * (n - k) ∧ Dw B a len cap zs wr q ∧ w.grownBy wr (some B))
    (fun _ i _ => (intOf i).toNat)
  case atStart => exact ⟨n, [], p + 1, by omega, rfl, Lib.hid ⟨by simp, fun c hc => by cases hc⟩, HO1, by omega, by omega, hD1, hK1⟩
  case round =>
    obtain ⟨k, l, q, hk, rfl, HL, HO, hq0, hq1, hD, hK⟩ := hrel
    clear HO1 hD1 hK1
    by_cases hlt : 0 < k
    · have hd : decide (0 < k) = true := decide_eq_true hlt
      go_wp2_with fail
      refine (l92Coin_any B a len cap zs q wr (by omega) hD).mono ?_
      rintro e w2 ⟨⟨tx, out, amt, lock, ht, rew⟩, q2, rfl, HDR, hq2, hq3, hD2, hG2⟩
      simp only
      have HO2 := Lib.hid ((HO.out.kept hG2 hBlt).alloc (.cells #[.int .i64 tx, .int .i64 out, .int .i64 amt, .string lock, .int .i64 ht, .bool rew] 48 (0, 0)))
      have hK2 := gb_allocK (gtrans hK hG2) (.cells #[.int .i64 tx, .int .i64 out, .int .i64 amt, .string lock, .int .i64 ht, .bool rew] 48 (0, 0))
      have hE2 := hD2.alloc (.cells #[.int .i64 tx, .int .i64 out, .int .i64 amt, .string lock, .int .i64 ht, .bool rew] 48 (0, 0))
      have v2 : Bk w2.heap.size 48 #[.int .i64 tx, .int .i64 out, .int .i64 amt, .string lock, .int .i64 ht, .bool rew] (w2.alloc (.cells #[.int .i64 tx, .int .i64 out, .int .i64 amt, .string lock, .int .i64 ht, .bool rew] 48 (0, 0))) := Bk.new _ _ _
      obtain ⟨c0, c1, c2, c3, c4, c5⟩ := Bk.c6 v2
      clear hD hK hG2 hD2 HO
      have hcs := l14Ok_any tx out amt lock ht rew (w2.alloc (.cells #[.int .i64 tx, .int .i64 out, .int .i64 amt, .string lock, .int .i64 ht, .bool rew] 48 (0, 0)))
      obtain ⟨OK, hOK⟩ : ∃ x, Co.ok ⟨tx, out, amt, lock, ht, rew⟩ = x := ⟨_, rfl⟩
      rw [hOK] at hcs
      clear hOK
      go_wp2_with fail
      refine hcs.mono ?_
      rintro e w3 ⟨rfl, hx⟩
      have v3 := v2.below hx
      have HO3 := Lib.hid (HO2.out.below hx)
      have hD3 := hE2.of (w' := w3) (fun j hj => hx.block j (by have := hE2.lt; omega))
      have hK3 : w.grownBy w3 (some B) := gtrans hK2 ⟨hx.os, hx.tape, hx.output, hx.size, fun j hj _ => hx.block j hj⟩
      clear hx hcs v2 HO2 hE2 hK2 c0 c1 c2 c3 c4 c5
      cases OK
      · clear v3
        go_wp2
        go_roundw
        case rel => exact ⟨k - 1, l, q2, by omega, by rw [Int.ofNat_sub hlt]; rfl, Lib.hid ⟨by have := HL.out.1; omega, HL.out.2⟩, HO3, by omega, by omega, hD3, hK3⟩
        case measure => simp [intOf]; omega
      obtain ⟨c0, c1, c2, c3, c4, c5⟩ := Bk.c6 v3
      obtain ⟨va, vc, hva, hvc, hcl⟩ := HO3.out.coL
      have hl9 := HL.out.1
      have hcs := l14Has_any w.heap.size va l.length vc l tx out w3 hcl (by omega)
      have hadd := fun W (hW : Below w3.heap.size w3 W) => l14Add_any w.heap.size va l.length vc l tx out amt lock ht rew W (hcl.below hW) (by omega)
      obtain ⟨HAS, hHAS⟩ : ∃ x, Co.has l tx out = x := ⟨_, rfl⟩
      rw [hHAS] at hcs
      have HLP : Hid ((Co.put l (Co.at_ l tx out) ⟨tx, out, amt, lock, ht, rew⟩).length = l.length + 1 ∧ ∀ c ∈ Co.put l (Co.at_ l tx out) ⟨tx, out, amt, lock, ht, rew⟩, c.Dr) := Lib.hid ⟨Co.put_length (Co.at_spec l tx out).1 _, fun c hc => (Co.put_mem hc).elim (fun h => h ▸ HDR.out) (HL.out.2 c)⟩
      obtain ⟨P, hP⟩ : ∃ x, Co.put l (Co.at_ l tx out) ⟨tx, out, amt, lock, ht, rew⟩ = x := ⟨_, rfl⟩
      rw [hP] at HLP
      simp only [hP] at hadd
      obtain ⟨n9, hn9⟩ : ∃ x, l.length = x := ⟨_, rfl⟩
      rw [hn9] at hva hcs hl9 HLP
      simp only [hn9] at hadd
      have HADD := Lib.hid hadd
      have HO4 := Lib.hid (show OwnC w.heap.size w3 (.slice va n9 vc) l from hva ▸ HO3.out)
      subst hva
      have HL9 := Lib.hid hn9
      clear hHAS hP hn9 hadd hcl HO3 hvc HDR
      go_wp2_with fail
      refine hcs.mono ?_
      rintro e w4 ⟨rfl, hx⟩
      have v4 := v3.below hx
      have HO5 := Lib.hid (HO4.out.below hx)
      have hD4 := hD3.of (w' := w4) (fun j hj => hx.block j (by have := hD3.lt; omega))
      have hK4 : w.grownBy w4 (some B) := gtrans hK3 ⟨hx.os, hx.tape, hx.output, hx.size, fun j hj _ => hx.block j hj⟩
      have hcs2 := HADD.out w4 hx
      clear hx hcs v3 HO4 hD3 hK3 c0 c1 c2 c3 c4 c5 HADD
      cases HAS
      case true =>
        clear v4 hcs2
        go_wp2
        go_roundw
        case rel => exact ⟨k - 1, l, q2, by omega, by rw [Int.ofNat_sub hlt]; rfl, Lib.hid ⟨by have := HL.out.1; omega, HL.out.2⟩, HO5, by omega, by omega, hD4, hK4⟩
        case measure => simp [intOf]; omega
      obtain ⟨c0, c1, c2, c3, c4, c5⟩ := Bk.c6 v4
      go_wp2_with fail
      refine hcs2.mono ?_
      rintro e w5 ⟨vv, rfl, HV, hx⟩
      have HO6 := Lib.hid (HV.out.base hK4.size)
      have hD5 := hD4.of (w' := w5) (fun j hj => hx.block j (by have := hD4.lt; omega))
      have hK5 : w.grownBy w5 (some B) := gtrans hK4 ⟨hx.os, hx.tape, hx.output, hx.size, fun j hj _ => hx.block j hj⟩
      clear hx hcs2 v4 HO5 hD4 hK4 c0 c1 c2 c3 c4 c5 HV
      go_wp2
      go_roundw
      case rel => exact ⟨k - 1, P, q2, by omega, by rw [Int.ofNat_sub hlt]; rfl, Lib.hid ⟨by have := HLP.out.1; omega, HLP.out.2⟩, HO6, by omega, by omega, hD5, hK5⟩
      case measure => simp [intOf]; omega
    · have hd : decide (0 < k) = false := decide_eq_false hlt
      go_wp2_with fail
      refine (pick_any B a len cap zs q 30 wr (by omega) (by omega) hD).mono ?_
      rintro e w2 ⟨x, rfl, x0, x1, hD2, hG2⟩
      have HO2 := Lib.hid (HO.out.kept hG2 hBlt)
      have hK2 := gtrans hK hG2
      have hl8 := HL.out.1
      clear hD hK hG2 HO
      by_cases hx0 : x = 0
      · subst hx0
        go_wp2_with fail
        refine (l92Coin_any B a len cap zs (q + 1) w2 (by omega) hD2).mono ?_
        rintro e w3 ⟨⟨x0, x1, x2, x3, x4, x5⟩, q3, rfl, HDR, hq2, hq3, hD3, hG3⟩
        simp only
        have HO3 := Lib.hid (HO2.out.kept hG3 hBlt)
        have hK3 := gtrans hK2 hG3
        have hsz5 := hK3.size
        have hown4 := HO3.out.row
        clear hD2 hK2 hG3 HO2
        go_wp2_with (at_builtin; refine wpList_append_own _ rfl _ _ 24 rfl w.heap.size 48 i0 (.agg #[.int .i64 0, .int .i64 0, .int .i64 0, .string ⟨#[]⟩, .int .i64 0, .bool false]) 6 56 Tryz.underlying24 hi hz0 hz1 hz2 rfl (by decide) _ _ _ rfl (hown4.alloc (.cells #[.int .i64 x0, .int .i64 x1, .int .i64 x2, .string x3, .int .i64 x4, .bool x5] 48 (0, 0))) ⟨w3.heap.size, 0, none⟩ 1 1 [.int .i64 x0, .int .i64 x1, .int .i64 x2, .string x3, .int .i64 x4, .bool x5] rfl rfl ?_ ?_ ?_ ?_ ?_ ?_)
        any_goals first | exact newsC _ [.int .i64 x0, .int .i64 x1, .int .i64 x2, .string x3, .int .i64 x4, .bool x5] _ | (intro u hu; simp at hu; rcases hu with rfl | rfl | rfl | rfl | rfl | rfl <;> rfl) | (unfold maxLen; omega) | omega | exact Nat.le_trans hsz5 (by simp) | (simp; omega)
        intro v5 w5 hown5 hgrow5 _
        have HO5 : Hid (OwnC w.heap.size w5 v5 (l ++ [(⟨x0, x1, x2, x3, x4, x5⟩ : Co)])) := Lib.hid (OwnC.push hown5)
        have hD5 : Dw B a len cap zs w5 q3 := (hD3.alloc _).of fun j hj => hgrow5.block j (by have := hD3.lt; simp; omega) (fun e => by have := (hown4.lt _ e.symm).1; omega)
        have hK5 := gtrans_own (gb_allocK hK3 (.cells #[.int .i64 x0, .int .i64 x1, .int .i64 x2, .string x3, .int .i64 x4, .bool x5] 48 (0, 0))) hgrow5 (fun j he => (hown4.lt _ he).1)
        clear hown4 hown5 hgrow5 hD3 hK3 HO3
        go_wp2
        go_ret
        exact ⟨v5, _, q3, rfl, Lib.hid ⟨by simp; omega, fun c hc => (List.mem_append.1 hc).elim (HL.out.2 c) (fun h => by rw [List.mem_singleton] at h; subst h; exact HDR.out)⟩, HO5, by omega, by omega, hD5, hK5⟩
      · have hx1 : (x == 0) = false := by simpa using hx0
        clear hx0
        go_wp2
        go_ret
        exact ⟨_, l, q + 1, rfl, Lib.hid ⟨by omega, HL.out.2⟩, HO2, by omega, by omega, hD2, hK2⟩
end Go.Proofs.YtohameoomlehlaaGreat
