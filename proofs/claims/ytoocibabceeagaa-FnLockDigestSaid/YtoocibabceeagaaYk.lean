/-
  Drawing for chapter 10: operations.
-/
import Derived.Test.YtoocibabceeagaaDr
import Derived.Test.YtoocibabceeagaaDs
import Derived.Test.YtoocibabceeagaaDg
import Derived.Test.YtoocibabceeagaaGk
import Derived.Test.YtoocibabceeagaaOb
import Derived.Test.YtoocibabceeagaaOc
namespace Go.Proofs.Ytoocibabceeagaa
open Go.RowKit

theorem Bk.gbK {D : Nat} {t : TypeId} {cs : Array Value} {w w' : World} (h : Bk D t cs w) {B : Nat} (hg : w.grownBy w' (some B)) (hne : D ≠ B) : Bk D t cs w' := ⟨(hg.block D h.lt (by simpa using hne)).trans h.held⟩
theorem gb_setK {w w' : World} {B : Nat} (h : w.grownBy w' (some B)) (D i : Nat) (v : Value) (hD : w.heap.size ≤ D) : w.grownBy (w'.setCell ⟨D, i, none⟩ v) (some B) :=
  ⟨h.os, h.tape, h.output, by simpa [World.setCell] using h.size, fun k hk hne => (Below.heap_setCell _ _ _ _ (show k ≠ D by omega)).trans (h.block k hk hne)⟩
theorem gb_allocK {w w' : World} {B : Nat} (h : w.grownBy w' (some B)) (o : Obj) : w.grownBy (w'.alloc o) (some B) := gtrans h (World.grownBy_alloc w' o (some B))
theorem gb_belK {w w' : World} (hb : Below w.heap.size w w') (B : Nat) : w.grownBy w' (some B) := ⟨hb.os, hb.tape, hb.output, hb.size, fun k hk _ => hb.block k hk⟩
theorem Dw.osetK {B : Nat} {a : Option Addr} {len cap : Nat} {zs : List Int} {w : World} {p : Nat} (h : Dw B a len cap zs w p) (D i : Nat) (v : Value) (hD : B < D) : Dw B a len cap zs (w.setCell ⟨D, i, none⟩ v) p :=
  h.of fun k hk => Below.heap_setCell _ _ _ _ (show k ≠ D by omega)
theorem Dw.belK {B : Nat} {a : Option Addr} {len cap : Nat} {zs : List Int} {w w' : World} {p : Nat} (h : Dw B a len cap zs w p) (hb : Below w.heap.size w w') : Dw B a len cap zs w' p :=
  h.of fun k hk => hb.block k (by have := h.lt; omega)
/-- Drawing an operation. -/
def OpR (B : Nat) (a : Option Addr) (len cap : Nat) (zs : List Int) (p : Nat) (w : World) (e : Ending) (w' : World) : Prop :=
  ∃ (C A D : Int) (t : ByteArray) (q : Nat), e = .returned (.agg #[.int .i64 C, .int .i64 A, .int .i64 D, .string t]) ∧ 0 ≤ C ∧ C < 15 ∧ t.size ≤ 30 ∧ p ≤ q ∧ q ≤ p + 60 ∧ Dw B a len cap zs w' q ∧ w.grownBy w' (some B)
set_option maxRecDepth 100000 in
set_option maxHeartbeats 3200000 in
theorem l91Op_any (B : Nat) (a : Option Addr) (len cap : Nat) (zs : List Int) (p : Nat) (w : World) (hp : p ≤ 700000000) (hD0 : Dw B a len cap zs w p) :
    Calls Try.prog 104 #[.pointer (some ⟨B, 0, none⟩)] w (OpR B a len cap zs p w) := by
  have hBlt := hD0.lt
  have hRB : w.heap.size ≠ B := by omega
  have vR0 := Bk.new w 54 #[.int .i64 0, .int .i64 0, .int .i64 0, .string ⟨#[]⟩]
  have hE0 := hD0.alloc (.cells #[.int .i64 0, .int .i64 0, .int .i64 0, .string ⟨#[]⟩] 54 (0, 0))
  have hG0 := World.grownBy_alloc w (.cells #[.int .i64 0, .int .i64 0, .int .i64 0, .string ⟨#[]⟩] 54 (0, 0)) (some B)
  obtain ⟨pv0, pv1⟩ := Gr.pw_bd 2147483579 4 11 (by decide)
  obtain ⟨dv0, dv1⟩ := Dg.of_bd ⟨#[99, 111, 105, 110]⟩
  obtain ⟨PV, HPV⟩ : ∃ z, Hid (Gr.pw 2147483579 4 11 = z) := ⟨_, Lib.hid rfl⟩
  obtain ⟨DV, HDV⟩ : ∃ z, Hid (Dg.of ⟨#[99, 111, 105, 110]⟩ = z) := ⟨_, Lib.hid rfl⟩
  have hconB := fun W => l4Base_any 11 W (by omega)
  have hconD := fun W => specDigest_any ⟨#[99, 111, 105, 110]⟩ W (by decide)
  rw [HPV.out] at pv0 pv1
  rw [HDV.out] at dv0 dv1
  simp only [HPV.out] at hconB
  simp only [HDV.out] at hconD
  have hc1 := fun W => l2Bytes_any PV W (by omega) (by omega)
  have hc2 := fun W => l2Bytes_any DV W (by omega) (by omega)
  have s1 := Dg.bytes_size PV
  have s2 := Dg.bytes_size DV
  obtain ⟨P1, HP1⟩ : ∃ z, Hid (Dg.bytes PV = z) := ⟨_, Lib.hid rfl⟩
  obtain ⟨P2, HP2⟩ : ∃ z, Hid (Dg.bytes DV = z) := ⟨_, Lib.hid rfl⟩
  rw [HP1.out] at s1
  rw [HP2.out] at s2
  simp only [HP1.out] at hc1
  simp only [HP2.out] at hc2
  clear HPV HDV HP1 HP2
  go_enter Try.func104, Try.ntmps104
  go_wp2_with fail
  refine (pick_any B a len cap zs _ 15 _ (by omega) (by omega) hE0).mono ?_
  rintro e w1 ⟨c, rfl, c0, c1, hD1', hG1'⟩
  have vR1 := (vR0.gbK hG1' hRB).alloc (.cells #[.int .i64 c, .int .i64 0, .int .i64 0, .string ⟨#[]⟩] 54 (0, 0))
  have vX1 := Bk.new w1 54 #[.int .i64 c, .int .i64 0, .int .i64 0, .string ⟨#[]⟩]
  have hD1 := hD1'.alloc (.cells #[.int .i64 c, .int .i64 0, .int .i64 0, .string ⟨#[]⟩] 54 (0, 0))
  have hG1 := gb_allocK (gtrans hG0 hG1') (.cells #[.int .i64 c, .int .i64 0, .int .i64 0, .string ⟨#[]⟩] 54 (0, 0))
  have hsz1 : w.heap.size < w1.heap.size := by have := hG1'.size; simp at this; omega
  have hXB : w1.heap.size ≠ B := by omega
  have hBX : B < w1.heap.size := by omega
  have hRX : w.heap.size ≠ w1.heap.size := by omega
  have hwX : w.heap.size ≤ w1.heap.size := by omega
  clear hD0 hE0 vR0 hG0 hD1' hG1'
  by_cases k0 : c = 0
  · subst k0
    go_wp2_with fail
    refine (l91Word_any B a len cap zs _ _ (by omega) hD1).mono ?_
    rintro e w2 ⟨t1, q2, rfl, ht1, p2, r2, hD2, hG2⟩
    have vX2 := vX1.gbK hG2 hXB
    have vR2 := vR1.gbK hG2 hRB
    have hG2 := gtrans hG1 hG2
    clear hD1 vX1 vR1 hG1
    go_wp2_with fail
    refine (hconB _).mono ?_
    rintro e w3 ⟨rfl, rfl⟩
    go_wp2_with fail
    refine (hc1 _).mono ?_
    rintro e w4 ⟨rfl, hb4⟩
    have hD4 := hD2.belK hb4
    have vX4 := vX2.below hb4
    have vR4 := vR2.below hb4
    have hG4 := gtrans hG2 (gb_belK hb4 B)
    clear hD2 vX2 vR2 hG2 hb4
    go_wp2_with fail
    refine (hconD _).mono ?_
    rintro e w5 ⟨rfl, hb5⟩
    have hD5 := hD4.belK hb5
    have vX5 := vX4.below hb5
    have vR5 := vR4.below hb5
    have hG5 := gtrans hG4 (gb_belK hb5 B)
    clear hD4 vX4 vR4 hG4 hb5
    go_wp2_with fail
    refine (hc2 _).mono ?_
    rintro e w6 ⟨rfl, hb6⟩
    have hD6 := hD5.belK hb6
    have vX6 := vX5.below hb6
    have vR6 := vR5.below hb6
    have hG6 := gtrans hG5 (gb_belK hb6 B)
    clear hD5 vX5 vR5 hG5 hb6
    go_wp2_with fail
    refine (l91Bytes_any B a len cap zs _ _ (by omega) hD6).mono ?_
    rintro e w7 ⟨t2, q7, rfl, ht2, p7, r7, hD7', hG7'⟩
    have vX7 := (vX6.gbK hG7' hXB).alloc (.cells (([.string t1, .string P1, .string P2, .string t2] : List Value)).toArray 9)
    have vR7 := (vR6.gbK hG7' hRB).alloc (.cells (([.string t1, .string P1, .string P2, .string t2] : List Value)).toArray 9)
    have hD7 := hD7'.alloc (.cells (([.string t1, .string P1, .string P2, .string t2] : List Value)).toArray 9)
    have hG7 := gb_allocK (gtrans hG6 hG7') (.cells (([.string t1, .string P1, .string P2, .string t2] : List Value)).toArray 9)
    have hw7B : w7.heap.size ≠ B := by have := hD7'.lt; omega
    clear hD6 vX6 vR6 hG6 hD7' hG7'
    go_wp2_with fail
    refine (pick_any B a len cap zs _ 4 _ (by omega) (by omega) hD7).mono ?_
    rintro e w8 ⟨x, rfl, x0, x1, hD8', hG8'⟩
    obtain ⟨n, rfl⟩ := Int.eq_ofNat_of_zero_le x0
    obtain ⟨S, hS, hSz⟩ : ∃ S, w8.cell? ⟨w7.heap.size, n, none⟩ = some (.string S) ∧ S.size ≤ 30 := by
      have hcell : ∀ k v, (([.string t1, .string P1, .string P2, .string t2] : List Value))[k]? = some v → w8.cell? ⟨w7.heap.size, k, none⟩ = some v := fun k v hk => hG8'.cell (lit_cellV _ _ _ _ _ hk) (by simpa using hw7B)
      rcases n with _ | _ | _ | _ | n
      · exact ⟨_, hcell 0 _ rfl, by omega⟩
      · exact ⟨_, hcell 1 _ rfl, by omega⟩
      · exact ⟨_, hcell 2 _ rfl, by omega⟩
      · exact ⟨_, hcell 3 _ rfl, ht2⟩
      · omega
    have vX8 := vX7.gbK hG8' hXB
    obtain ⟨f0, f1, f2, f3⟩ := vX8.f4
    have x3 : w8.cell? ⟨w1.heap.size, 3, none⟩ = some (.string ⟨#[]⟩) := vX8.cell 3
    have vX9 : Bk w1.heap.size 54 #[.int .i64 0, .int .i64 0, .int .i64 0, .string S] _ := vX8.set 3 (.string S)
    have vR8 := (vR7.gbK hG8' hRB).oset w1.heap.size 3 (.string S) hRX
    have hD8 := hD8'.osetK w1.heap.size 3 (.string S) hBX
    have hG8 := gb_setK (gtrans hG7 hG8') w1.heap.size 3 (.string S) hwX
    clear hD7 vX7 vR7 hG7 hD8' hG8' vX8 hconB hconD hc1 hc2
    go_wp2_with fail
    refine (pick_any B a len cap zs _ 60 _ (by omega) (by omega) hD8).mono ?_
    rintro e wk ⟨kk, rfl, kk0, kk1, hDk, hGk⟩
    have vXk := vX9.gbK hGk hXB
    have vRk := vR8.gbK hGk hRB
    have hGk := gtrans hG8 hGk
    clear vX9 vR8 hD8 hG8
    by_cases kz : kk = 0
    · have kq : (kk == 0) = true := by simpa using kz
      have hDl := hDk.alloc (.cells (([-1, 6, 10000, 100] : List Int).map (Value.int .i64)).toArray 3)
      have hGl := gb_allocK hGk (.cells (([-1, 6, 10000, 100] : List Int).map (Value.int .i64)).toArray 3)
      have vXl := vXk.alloc (.cells (([-1, 6, 10000, 100] : List Int).map (Value.int .i64)).toArray 3)
      have vRl := vRk.alloc (.cells (([-1, 6, 10000, 100] : List Int).map (Value.int .i64)).toArray 3)
      have hwB : wk.heap.size ≠ B := by have := hDk.lt; omega
      clear kz
      go_wp2_with fail
      refine (pick_any B a len cap zs _ 4 _ (by omega) (by omega) hDl).mono ?_
      rintro e wm ⟨km, rfl, km0, km1, hDm, hGm⟩
      obtain ⟨n, rfl⟩ := Int.eq_ofNat_of_zero_le km0
      obtain ⟨A2, hA2⟩ : ∃ v, wm.cell? ⟨wk.heap.size, n, none⟩ = some (.int .i64 v) := ⟨_, hGm.cell (lit_cell [-1, 6, 10000, 100] _ wk n (by simp; omega)) (by simpa using hwB)⟩
      have vXm := vXl.gbK hGm hXB
      obtain ⟨f0, f1, f2, f3⟩ := vXm.f4
      have x1 : wm.cell? ⟨w1.heap.size, 1, none⟩ = some (.int .i64 0) := vXm.cell 1
      have vXn : Bk w1.heap.size 54 #[.int .i64 0, .int .i64 A2, .int .i64 0, .string S] _ := vXm.set 1 (.int .i64 A2)
      have vRn := (vRl.gbK hGm hRB).oset w1.heap.size 1 (.int .i64 A2) hRX
      have hDn := hDm.osetK w1.heap.size 1 (.int .i64 A2) hBX
      have hGn := gb_setK (gtrans hGl hGm) w1.heap.size 1 (.int .i64 A2) hwX
      clear hDk hGk hDl hGl vXl vRl vXk vRk hDm hGm vXm hwB
      obtain ⟨y0, y1, y2, y3⟩ := Bk.c4 vXn
      obtain ⟨r0, r1, r2, r3⟩ := Bk.c4 vRn
      obtain ⟨z0, z1, z2, z3⟩ := vRn.f4
      have vR9 := Bk.store4 vRn (.int .i64 0) (.int .i64 A2) (.int .i64 0) (.string S)
      have hG9 := gb_setK (gb_setK (gb_setK (gb_setK hGn w.heap.size 0 (.int .i64 0) (Nat.le_refl _)) w.heap.size 1 (.int .i64 A2) (Nat.le_refl _)) w.heap.size 2 (.int .i64 0) (Nat.le_refl _)) w.heap.size 3 (.string S) (Nat.le_refl _)
      have hD9 := (((Dw.osetK hDn w.heap.size 0 (.int .i64 0) hBlt).osetK w.heap.size 1 (.int .i64 A2) hBlt).osetK w.heap.size 2 (.int .i64 0) hBlt).osetK w.heap.size 3 (.string S) hBlt
      clear vXn vRn hDn hGn
      go_wp2
      refine bodyPost_ret (results_cell_row (P := Try.prog) rfl _ _ w.heap.size 54 _ (0, 0) _ rfl vR9.held Try.underlying54 rfl (by kernel_rfl)) rfl ?_
      exact ⟨_, _, _, _, _, rfl, by omega, by omega, by first | omega | assumption | decide, by omega, by omega, hD9, hG9⟩
    · have kq : (kk == 0) = false := by simpa using kz
      clear kz
      obtain ⟨y0, y1, y2, y3⟩ := Bk.c4 vXk
      obtain ⟨r0, r1, r2, r3⟩ := Bk.c4 vRk
      obtain ⟨z0, z1, z2, z3⟩ := vRk.f4
      have vR9 := Bk.store4 vRk (.int .i64 0) (.int .i64 0) (.int .i64 0) (.string S)
      have hG9 := gb_setK (gb_setK (gb_setK (gb_setK hGk w.heap.size 0 (.int .i64 0) (Nat.le_refl _)) w.heap.size 1 (.int .i64 0) (Nat.le_refl _)) w.heap.size 2 (.int .i64 0) (Nat.le_refl _)) w.heap.size 3 (.string S) (Nat.le_refl _)
      have hD9 := (((Dw.osetK hDk w.heap.size 0 (.int .i64 0) hBlt).osetK w.heap.size 1 (.int .i64 0) hBlt).osetK w.heap.size 2 (.int .i64 0) hBlt).osetK w.heap.size 3 (.string S) hBlt
      clear vXk vRk hDk hGk
      go_wp2
      refine bodyPost_ret (results_cell_row (P := Try.prog) rfl _ _ w.heap.size 54 _ (0, 0) _ rfl vR9.held Try.underlying54 rfl (by kernel_rfl)) rfl ?_
      exact ⟨_, _, _, _, _, rfl, by omega, by omega, by first | omega | assumption | decide, by omega, by omega, hD9, hG9⟩
  have q0 : (c == 0) = false := by simpa using k0
  clear hconB hconD hc1 hc2
  by_cases k12 : c = 12
  · subst k12
    go_wp2_with fail
    refine (pick_any B a len cap zs _ 5 _ (by omega) (by omega) hD1).mono ?_
    rintro e w2 ⟨x, rfl, x0, x1, hD2', hG2'⟩
    have vX2 := vX1.gbK hG2' hXB
    obtain ⟨f0, f1, f2, f3⟩ := vX2.f4
    have x3 : w2.cell? ⟨w1.heap.size, 2, none⟩ = some (.int .i64 0) := vX2.cell 2
    have vX3 : Bk w1.heap.size 54 #[.int .i64 12, .int .i64 0, .int .i64 (1 + x), .string ⟨#[]⟩] _ := vX2.set 2 (.int .i64 (1 + x))
    have vR3 := (vR1.gbK hG2' hRB).oset w1.heap.size 2 (.int .i64 (1 + x)) hRX
    have hD3 := hD2'.osetK w1.heap.size 2 (.int .i64 (1 + x)) hBX
    have hG3 := gb_setK (gtrans hG1 hG2') w1.heap.size 2 (.int .i64 (1 + x)) hwX
    have hw1 : IntKind.i64.wrap (1 + x) = 1 + x := IntWalk.i64_in _ (by omega)
    obtain ⟨y0, y1, y2, y3⟩ := Bk.c4 vX3
    clear hD1 vX1 vR1 hG1 hD2' hG2' vX2
    go_wp2_with fail
    refine (pick_any B a len cap zs _ (1 + x) _ (by omega) (by omega) hD3).mono ?_
    rintro e w4 ⟨y, rfl, yy0, yy1, hD4', hG4'⟩
    have vX4 := vX3.gbK hG4' hXB
    obtain ⟨g0, g1, g2, g3⟩ := vX4.f4
    have x4 : w4.cell? ⟨w1.heap.size, 1, none⟩ = some (.int .i64 0) := vX4.cell 1
    have vX5 : Bk w1.heap.size 54 #[.int .i64 12, .int .i64 (1 + y), .int .i64 (1 + x), .string ⟨#[]⟩] _ := vX4.set 1 (.int .i64 (1 + y))
    have vR5 := (vR3.gbK hG4' hRB).oset w1.heap.size 1 (.int .i64 (1 + y)) hRX
    have hD5 := hD4'.osetK w1.heap.size 1 (.int .i64 (1 + y)) hBX
    have hG5 := gb_setK (gtrans hG3 hG4') w1.heap.size 1 (.int .i64 (1 + y)) hwX
    have hw2 : IntKind.i64.wrap (1 + y) = 1 + y := IntWalk.i64_in _ (by omega)
    clear vX3 vR3 hD3 hG3 hD4' hG4' vX4 f0 f1 f2 f3 x3 y0 y1 y2 y3
    go_wp2_with fail
    refine (pick_any B a len cap zs _ 60 _ (by omega) (by omega) hD5).mono ?_
    rintro e wk ⟨kk, rfl, kk0, kk1, hDk, hGk⟩
    have vXk := vX5.gbK hGk hXB
    have vRk := vR5.gbK hGk hRB
    have hGk := gtrans hG5 hGk
    clear vX5 vR5 hD5 hG5
    by_cases kz : kk = 0
    · have kq : (kk == 0) = true := by simpa using kz
      have hDl := hDk.alloc (.cells (([-1, 6, 10000, 100] : List Int).map (Value.int .i64)).toArray 3)
      have hGl := gb_allocK hGk (.cells (([-1, 6, 10000, 100] : List Int).map (Value.int .i64)).toArray 3)
      have vXl := vXk.alloc (.cells (([-1, 6, 10000, 100] : List Int).map (Value.int .i64)).toArray 3)
      have vRl := vRk.alloc (.cells (([-1, 6, 10000, 100] : List Int).map (Value.int .i64)).toArray 3)
      have hwB : wk.heap.size ≠ B := by have := hDk.lt; omega
      clear kz
      go_wp2_with fail
      refine (pick_any B a len cap zs _ 4 _ (by omega) (by omega) hDl).mono ?_
      rintro e wm ⟨km, rfl, km0, km1, hDm, hGm⟩
      obtain ⟨n, rfl⟩ := Int.eq_ofNat_of_zero_le km0
      obtain ⟨A2, hA2⟩ : ∃ v, wm.cell? ⟨wk.heap.size, n, none⟩ = some (.int .i64 v) := ⟨_, hGm.cell (lit_cell [-1, 6, 10000, 100] _ wk n (by simp; omega)) (by simpa using hwB)⟩
      have vXm := vXl.gbK hGm hXB
      obtain ⟨f0, f1, f2, f3⟩ := vXm.f4
      have x1 : wm.cell? ⟨w1.heap.size, 1, none⟩ = some (.int .i64 (1 + y)) := vXm.cell 1
      have vXn : Bk w1.heap.size 54 #[.int .i64 12, .int .i64 A2, .int .i64 (1 + x), .string ⟨#[]⟩] _ := vXm.set 1 (.int .i64 A2)
      have vRn := (vRl.gbK hGm hRB).oset w1.heap.size 1 (.int .i64 A2) hRX
      have hDn := hDm.osetK w1.heap.size 1 (.int .i64 A2) hBX
      have hGn := gb_setK (gtrans hGl hGm) w1.heap.size 1 (.int .i64 A2) hwX
      clear hDk hGk hDl hGl vXl vRl vXk vRk hDm hGm vXm hwB
      obtain ⟨y0, y1, y2, y3⟩ := Bk.c4 vXn
      obtain ⟨r0, r1, r2, r3⟩ := Bk.c4 vRn
      obtain ⟨z0, z1, z2, z3⟩ := vRn.f4
      have vR9 := Bk.store4 vRn (.int .i64 12) (.int .i64 A2) (.int .i64 (1 + x)) (.string ⟨#[]⟩)
      have hG9 := gb_setK (gb_setK (gb_setK (gb_setK hGn w.heap.size 0 (.int .i64 12) (Nat.le_refl _)) w.heap.size 1 (.int .i64 A2) (Nat.le_refl _)) w.heap.size 2 (.int .i64 (1 + x)) (Nat.le_refl _)) w.heap.size 3 (.string ⟨#[]⟩) (Nat.le_refl _)
      have hD9 := (((Dw.osetK hDn w.heap.size 0 (.int .i64 12) hBlt).osetK w.heap.size 1 (.int .i64 A2) hBlt).osetK w.heap.size 2 (.int .i64 (1 + x)) hBlt).osetK w.heap.size 3 (.string ⟨#[]⟩) hBlt
      clear vXn vRn hDn hGn
      go_wp2
      refine bodyPost_ret (results_cell_row (P := Try.prog) rfl _ _ w.heap.size 54 _ (0, 0) _ rfl vR9.held Try.underlying54 rfl (by kernel_rfl)) rfl ?_
      exact ⟨_, _, _, _, _, rfl, by omega, by omega, by first | omega | assumption | decide, by omega, by omega, hD9, hG9⟩
    · have kq : (kk == 0) = false := by simpa using kz
      clear kz
      obtain ⟨y0, y1, y2, y3⟩ := Bk.c4 vXk
      obtain ⟨r0, r1, r2, r3⟩ := Bk.c4 vRk
      obtain ⟨z0, z1, z2, z3⟩ := vRk.f4
      have vR9 := Bk.store4 vRk (.int .i64 12) (.int .i64 (1 + y)) (.int .i64 (1 + x)) (.string ⟨#[]⟩)
      have hG9 := gb_setK (gb_setK (gb_setK (gb_setK hGk w.heap.size 0 (.int .i64 12) (Nat.le_refl _)) w.heap.size 1 (.int .i64 (1 + y)) (Nat.le_refl _)) w.heap.size 2 (.int .i64 (1 + x)) (Nat.le_refl _)) w.heap.size 3 (.string ⟨#[]⟩) (Nat.le_refl _)
      have hD9 := (((Dw.osetK hDk w.heap.size 0 (.int .i64 12) hBlt).osetK w.heap.size 1 (.int .i64 (1 + y)) hBlt).osetK w.heap.size 2 (.int .i64 (1 + x)) hBlt).osetK w.heap.size 3 (.string ⟨#[]⟩) hBlt
      clear vXk vRk hDk hGk
      go_wp2
      refine bodyPost_ret (results_cell_row (P := Try.prog) rfl _ _ w.heap.size 54 _ (0, 0) _ rfl vR9.held Try.underlying54 rfl (by kernel_rfl)) rfl ?_
      exact ⟨_, _, _, _, _, rfl, by omega, by omega, by first | omega | assumption | decide, by omega, by omega, hD9, hG9⟩
  have q12 : (c == 12) = false := by simpa using k12
  by_cases k13 : c = 13
  · subst k13
    go_wp2_with fail
    refine (pick_any B a len cap zs _ 30 _ (by omega) (by omega) hD1).mono ?_
    rintro e w2 ⟨x, rfl, x0, x1, hD2', hG2'⟩
    have vX2 := vX1.gbK hG2' hXB
    obtain ⟨f0, f1, f2, f3⟩ := vX2.f4
    have x3 : w2.cell? ⟨w1.heap.size, 1, none⟩ = some (.int .i64 0) := vX2.cell 1
    have vX3 : Bk w1.heap.size 54 #[.int .i64 13, .int .i64 x, .int .i64 0, .string ⟨#[]⟩] _ := vX2.set 1 (.int .i64 x)
    have vR3 := (vR1.gbK hG2' hRB).oset w1.heap.size 1 (.int .i64 x) hRX
    have hD3 := hD2'.osetK w1.heap.size 1 (.int .i64 x) hBX
    have hG3 := gb_setK (gtrans hG1 hG2') w1.heap.size 1 (.int .i64 x) hwX
    clear hD1 vX1 vR1 hG1 hD2' hG2' vX2
    go_wp2_with fail
    refine (pick_any B a len cap zs _ 60 _ (by omega) (by omega) hD3).mono ?_
    rintro e wk ⟨kk, rfl, kk0, kk1, hDk, hGk⟩
    have vXk := vX3.gbK hGk hXB
    have vRk := vR3.gbK hGk hRB
    have hGk := gtrans hG3 hGk
    clear vX3 vR3 hD3 hG3
    by_cases kz : kk = 0
    · have kq : (kk == 0) = true := by simpa using kz
      have hDl := hDk.alloc (.cells (([-1, 6, 10000, 100] : List Int).map (Value.int .i64)).toArray 3)
      have hGl := gb_allocK hGk (.cells (([-1, 6, 10000, 100] : List Int).map (Value.int .i64)).toArray 3)
      have vXl := vXk.alloc (.cells (([-1, 6, 10000, 100] : List Int).map (Value.int .i64)).toArray 3)
      have vRl := vRk.alloc (.cells (([-1, 6, 10000, 100] : List Int).map (Value.int .i64)).toArray 3)
      have hwB : wk.heap.size ≠ B := by have := hDk.lt; omega
      clear kz
      go_wp2_with fail
      refine (pick_any B a len cap zs _ 4 _ (by omega) (by omega) hDl).mono ?_
      rintro e wm ⟨km, rfl, km0, km1, hDm, hGm⟩
      obtain ⟨n, rfl⟩ := Int.eq_ofNat_of_zero_le km0
      obtain ⟨A2, hA2⟩ : ∃ v, wm.cell? ⟨wk.heap.size, n, none⟩ = some (.int .i64 v) := ⟨_, hGm.cell (lit_cell [-1, 6, 10000, 100] _ wk n (by simp; omega)) (by simpa using hwB)⟩
      have vXm := vXl.gbK hGm hXB
      obtain ⟨f0, f1, f2, f3⟩ := vXm.f4
      have x1 : wm.cell? ⟨w1.heap.size, 1, none⟩ = some (.int .i64 x) := vXm.cell 1
      have vXn : Bk w1.heap.size 54 #[.int .i64 13, .int .i64 A2, .int .i64 0, .string ⟨#[]⟩] _ := vXm.set 1 (.int .i64 A2)
      have vRn := (vRl.gbK hGm hRB).oset w1.heap.size 1 (.int .i64 A2) hRX
      have hDn := hDm.osetK w1.heap.size 1 (.int .i64 A2) hBX
      have hGn := gb_setK (gtrans hGl hGm) w1.heap.size 1 (.int .i64 A2) hwX
      clear hDk hGk hDl hGl vXl vRl vXk vRk hDm hGm vXm hwB
      obtain ⟨y0, y1, y2, y3⟩ := Bk.c4 vXn
      obtain ⟨r0, r1, r2, r3⟩ := Bk.c4 vRn
      obtain ⟨z0, z1, z2, z3⟩ := vRn.f4
      have vR9 := Bk.store4 vRn (.int .i64 13) (.int .i64 A2) (.int .i64 0) (.string ⟨#[]⟩)
      have hG9 := gb_setK (gb_setK (gb_setK (gb_setK hGn w.heap.size 0 (.int .i64 13) (Nat.le_refl _)) w.heap.size 1 (.int .i64 A2) (Nat.le_refl _)) w.heap.size 2 (.int .i64 0) (Nat.le_refl _)) w.heap.size 3 (.string ⟨#[]⟩) (Nat.le_refl _)
      have hD9 := (((Dw.osetK hDn w.heap.size 0 (.int .i64 13) hBlt).osetK w.heap.size 1 (.int .i64 A2) hBlt).osetK w.heap.size 2 (.int .i64 0) hBlt).osetK w.heap.size 3 (.string ⟨#[]⟩) hBlt
      clear vXn vRn hDn hGn
      go_wp2
      refine bodyPost_ret (results_cell_row (P := Try.prog) rfl _ _ w.heap.size 54 _ (0, 0) _ rfl vR9.held Try.underlying54 rfl (by kernel_rfl)) rfl ?_
      exact ⟨_, _, _, _, _, rfl, by omega, by omega, by first | omega | assumption | decide, by omega, by omega, hD9, hG9⟩
    · have kq : (kk == 0) = false := by simpa using kz
      clear kz
      obtain ⟨y0, y1, y2, y3⟩ := Bk.c4 vXk
      obtain ⟨r0, r1, r2, r3⟩ := Bk.c4 vRk
      obtain ⟨z0, z1, z2, z3⟩ := vRk.f4
      have vR9 := Bk.store4 vRk (.int .i64 13) (.int .i64 x) (.int .i64 0) (.string ⟨#[]⟩)
      have hG9 := gb_setK (gb_setK (gb_setK (gb_setK hGk w.heap.size 0 (.int .i64 13) (Nat.le_refl _)) w.heap.size 1 (.int .i64 x) (Nat.le_refl _)) w.heap.size 2 (.int .i64 0) (Nat.le_refl _)) w.heap.size 3 (.string ⟨#[]⟩) (Nat.le_refl _)
      have hD9 := (((Dw.osetK hDk w.heap.size 0 (.int .i64 13) hBlt).osetK w.heap.size 1 (.int .i64 x) hBlt).osetK w.heap.size 2 (.int .i64 0) hBlt).osetK w.heap.size 3 (.string ⟨#[]⟩) hBlt
      clear vXk vRk hDk hGk
      go_wp2
      refine bodyPost_ret (results_cell_row (P := Try.prog) rfl _ _ w.heap.size 54 _ (0, 0) _ rfl vR9.held Try.underlying54 rfl (by kernel_rfl)) rfl ?_
      exact ⟨_, _, _, _, _, rfl, by omega, by omega, by first | omega | assumption | decide, by omega, by omega, hD9, hG9⟩
  have q13 : (c == 13) = false := by simpa using k13
  by_cases k14 : c = 14
  · subst k14
    go_wp2_with fail
    refine (pick_any B a len cap zs _ 30 _ (by omega) (by omega) hD1).mono ?_
    rintro e w2 ⟨x, rfl, x0, x1, hD2', hG2'⟩
    have vX2 := vX1.gbK hG2' hXB
    obtain ⟨f0, f1, f2, f3⟩ := vX2.f4
    have x3 : w2.cell? ⟨w1.heap.size, 1, none⟩ = some (.int .i64 0) := vX2.cell 1
    have vX3 : Bk w1.heap.size 54 #[.int .i64 14, .int .i64 (1 + x), .int .i64 0, .string ⟨#[]⟩] _ := vX2.set 1 (.int .i64 (1 + x))
    have vR3 := (vR1.gbK hG2' hRB).oset w1.heap.size 1 (.int .i64 (1 + x)) hRX
    have hD3 := hD2'.osetK w1.heap.size 1 (.int .i64 (1 + x)) hBX
    have hG3 := gb_setK (gtrans hG1 hG2') w1.heap.size 1 (.int .i64 (1 + x)) hwX
    have hw1 : IntKind.i64.wrap (1 + x) = 1 + x := IntWalk.i64_in _ (by omega)
    clear hD1 vX1 vR1 hG1 hD2' hG2' vX2
    go_wp2_with fail
    refine (pick_any B a len cap zs _ 60 _ (by omega) (by omega) hD3).mono ?_
    rintro e wk ⟨kk, rfl, kk0, kk1, hDk, hGk⟩
    have vXk := vX3.gbK hGk hXB
    have vRk := vR3.gbK hGk hRB
    have hGk := gtrans hG3 hGk
    clear vX3 vR3 hD3 hG3
    by_cases kz : kk = 0
    · have kq : (kk == 0) = true := by simpa using kz
      have hDl := hDk.alloc (.cells (([-1, 6, 10000, 100] : List Int).map (Value.int .i64)).toArray 3)
      have hGl := gb_allocK hGk (.cells (([-1, 6, 10000, 100] : List Int).map (Value.int .i64)).toArray 3)
      have vXl := vXk.alloc (.cells (([-1, 6, 10000, 100] : List Int).map (Value.int .i64)).toArray 3)
      have vRl := vRk.alloc (.cells (([-1, 6, 10000, 100] : List Int).map (Value.int .i64)).toArray 3)
      have hwB : wk.heap.size ≠ B := by have := hDk.lt; omega
      clear kz
      go_wp2_with fail
      refine (pick_any B a len cap zs _ 4 _ (by omega) (by omega) hDl).mono ?_
      rintro e wm ⟨km, rfl, km0, km1, hDm, hGm⟩
      obtain ⟨n, rfl⟩ := Int.eq_ofNat_of_zero_le km0
      obtain ⟨A2, hA2⟩ : ∃ v, wm.cell? ⟨wk.heap.size, n, none⟩ = some (.int .i64 v) := ⟨_, hGm.cell (lit_cell [-1, 6, 10000, 100] _ wk n (by simp; omega)) (by simpa using hwB)⟩
      have vXm := vXl.gbK hGm hXB
      obtain ⟨f0, f1, f2, f3⟩ := vXm.f4
      have x1 : wm.cell? ⟨w1.heap.size, 1, none⟩ = some (.int .i64 (1 + x)) := vXm.cell 1
      have vXn : Bk w1.heap.size 54 #[.int .i64 14, .int .i64 A2, .int .i64 0, .string ⟨#[]⟩] _ := vXm.set 1 (.int .i64 A2)
      have vRn := (vRl.gbK hGm hRB).oset w1.heap.size 1 (.int .i64 A2) hRX
      have hDn := hDm.osetK w1.heap.size 1 (.int .i64 A2) hBX
      have hGn := gb_setK (gtrans hGl hGm) w1.heap.size 1 (.int .i64 A2) hwX
      clear hDk hGk hDl hGl vXl vRl vXk vRk hDm hGm vXm hwB
      obtain ⟨y0, y1, y2, y3⟩ := Bk.c4 vXn
      obtain ⟨r0, r1, r2, r3⟩ := Bk.c4 vRn
      obtain ⟨z0, z1, z2, z3⟩ := vRn.f4
      have vR9 := Bk.store4 vRn (.int .i64 14) (.int .i64 A2) (.int .i64 0) (.string ⟨#[]⟩)
      have hG9 := gb_setK (gb_setK (gb_setK (gb_setK hGn w.heap.size 0 (.int .i64 14) (Nat.le_refl _)) w.heap.size 1 (.int .i64 A2) (Nat.le_refl _)) w.heap.size 2 (.int .i64 0) (Nat.le_refl _)) w.heap.size 3 (.string ⟨#[]⟩) (Nat.le_refl _)
      have hD9 := (((Dw.osetK hDn w.heap.size 0 (.int .i64 14) hBlt).osetK w.heap.size 1 (.int .i64 A2) hBlt).osetK w.heap.size 2 (.int .i64 0) hBlt).osetK w.heap.size 3 (.string ⟨#[]⟩) hBlt
      clear vXn vRn hDn hGn
      go_wp2
      refine bodyPost_ret (results_cell_row (P := Try.prog) rfl _ _ w.heap.size 54 _ (0, 0) _ rfl vR9.held Try.underlying54 rfl (by kernel_rfl)) rfl ?_
      exact ⟨_, _, _, _, _, rfl, by omega, by omega, by first | omega | assumption | decide, by omega, by omega, hD9, hG9⟩
    · have kq : (kk == 0) = false := by simpa using kz
      clear kz
      obtain ⟨y0, y1, y2, y3⟩ := Bk.c4 vXk
      obtain ⟨r0, r1, r2, r3⟩ := Bk.c4 vRk
      obtain ⟨z0, z1, z2, z3⟩ := vRk.f4
      have vR9 := Bk.store4 vRk (.int .i64 14) (.int .i64 (1 + x)) (.int .i64 0) (.string ⟨#[]⟩)
      have hG9 := gb_setK (gb_setK (gb_setK (gb_setK hGk w.heap.size 0 (.int .i64 14) (Nat.le_refl _)) w.heap.size 1 (.int .i64 (1 + x)) (Nat.le_refl _)) w.heap.size 2 (.int .i64 0) (Nat.le_refl _)) w.heap.size 3 (.string ⟨#[]⟩) (Nat.le_refl _)
      have hD9 := (((Dw.osetK hDk w.heap.size 0 (.int .i64 14) hBlt).osetK w.heap.size 1 (.int .i64 (1 + x)) hBlt).osetK w.heap.size 2 (.int .i64 0) hBlt).osetK w.heap.size 3 (.string ⟨#[]⟩) hBlt
      clear vXk vRk hDk hGk
      go_wp2
      refine bodyPost_ret (results_cell_row (P := Try.prog) rfl _ _ w.heap.size 54 _ (0, 0) _ rfl vR9.held Try.underlying54 rfl (by kernel_rfl)) rfl ?_
      exact ⟨_, _, _, _, _, rfl, by omega, by omega, by first | omega | assumption | decide, by omega, by omega, hD9, hG9⟩
  have q14 : (c == 14) = false := by simpa using k14
  go_wp2_with fail
  refine (pick_any B a len cap zs _ 60 _ (by omega) (by omega) hD1).mono ?_
  rintro e wk ⟨kk, rfl, kk0, kk1, hDk, hGk⟩
  have vXk := vX1.gbK hGk hXB
  have vRk := vR1.gbK hGk hRB
  have hGk := gtrans hG1 hGk
  clear vX1 vR1 hD1 hG1
  by_cases kz : kk = 0
  · have kq : (kk == 0) = true := by simpa using kz
    have hDl := hDk.alloc (.cells (([-1, 6, 10000, 100] : List Int).map (Value.int .i64)).toArray 3)
    have hGl := gb_allocK hGk (.cells (([-1, 6, 10000, 100] : List Int).map (Value.int .i64)).toArray 3)
    have vXl := vXk.alloc (.cells (([-1, 6, 10000, 100] : List Int).map (Value.int .i64)).toArray 3)
    have vRl := vRk.alloc (.cells (([-1, 6, 10000, 100] : List Int).map (Value.int .i64)).toArray 3)
    have hwB : wk.heap.size ≠ B := by have := hDk.lt; omega
    clear kz
    go_wp2_with fail
    refine (pick_any B a len cap zs _ 4 _ (by omega) (by omega) hDl).mono ?_
    rintro e wm ⟨km, rfl, km0, km1, hDm, hGm⟩
    obtain ⟨n, rfl⟩ := Int.eq_ofNat_of_zero_le km0
    obtain ⟨A2, hA2⟩ : ∃ v, wm.cell? ⟨wk.heap.size, n, none⟩ = some (.int .i64 v) := ⟨_, hGm.cell (lit_cell [-1, 6, 10000, 100] _ wk n (by simp; omega)) (by simpa using hwB)⟩
    have vXm := vXl.gbK hGm hXB
    obtain ⟨f0, f1, f2, f3⟩ := vXm.f4
    have x1 : wm.cell? ⟨w1.heap.size, 1, none⟩ = some (.int .i64 0) := vXm.cell 1
    have vXn : Bk w1.heap.size 54 #[.int .i64 c, .int .i64 A2, .int .i64 0, .string ⟨#[]⟩] _ := vXm.set 1 (.int .i64 A2)
    have vRn := (vRl.gbK hGm hRB).oset w1.heap.size 1 (.int .i64 A2) hRX
    have hDn := hDm.osetK w1.heap.size 1 (.int .i64 A2) hBX
    have hGn := gb_setK (gtrans hGl hGm) w1.heap.size 1 (.int .i64 A2) hwX
    clear hDk hGk hDl hGl vXl vRl vXk vRk hDm hGm vXm hwB
    obtain ⟨y0, y1, y2, y3⟩ := Bk.c4 vXn
    obtain ⟨r0, r1, r2, r3⟩ := Bk.c4 vRn
    obtain ⟨z0, z1, z2, z3⟩ := vRn.f4
    have vR9 := Bk.store4 vRn (.int .i64 c) (.int .i64 A2) (.int .i64 0) (.string ⟨#[]⟩)
    have hG9 := gb_setK (gb_setK (gb_setK (gb_setK hGn w.heap.size 0 (.int .i64 c) (Nat.le_refl _)) w.heap.size 1 (.int .i64 A2) (Nat.le_refl _)) w.heap.size 2 (.int .i64 0) (Nat.le_refl _)) w.heap.size 3 (.string ⟨#[]⟩) (Nat.le_refl _)
    have hD9 := (((Dw.osetK hDn w.heap.size 0 (.int .i64 c) hBlt).osetK w.heap.size 1 (.int .i64 A2) hBlt).osetK w.heap.size 2 (.int .i64 0) hBlt).osetK w.heap.size 3 (.string ⟨#[]⟩) hBlt
    clear vXn vRn hDn hGn
    go_wp2
    refine bodyPost_ret (results_cell_row (P := Try.prog) rfl _ _ w.heap.size 54 _ (0, 0) _ rfl vR9.held Try.underlying54 rfl (by kernel_rfl)) rfl ?_
    exact ⟨_, _, _, _, _, rfl, by omega, by omega, by first | omega | assumption | decide, by omega, by omega, hD9, hG9⟩
  · have kq : (kk == 0) = false := by simpa using kz
    clear kz
    obtain ⟨y0, y1, y2, y3⟩ := Bk.c4 vXk
    obtain ⟨r0, r1, r2, r3⟩ := Bk.c4 vRk
    obtain ⟨z0, z1, z2, z3⟩ := vRk.f4
    have vR9 := Bk.store4 vRk (.int .i64 c) (.int .i64 0) (.int .i64 0) (.string ⟨#[]⟩)
    have hG9 := gb_setK (gb_setK (gb_setK (gb_setK hGk w.heap.size 0 (.int .i64 c) (Nat.le_refl _)) w.heap.size 1 (.int .i64 0) (Nat.le_refl _)) w.heap.size 2 (.int .i64 0) (Nat.le_refl _)) w.heap.size 3 (.string ⟨#[]⟩) (Nat.le_refl _)
    have hD9 := (((Dw.osetK hDk w.heap.size 0 (.int .i64 c) hBlt).osetK w.heap.size 1 (.int .i64 0) hBlt).osetK w.heap.size 2 (.int .i64 0) hBlt).osetK w.heap.size 3 (.string ⟨#[]⟩) hBlt
    clear vXk vRk hDk hGk
    go_wp2
    refine bodyPost_ret (results_cell_row (P := Try.prog) rfl _ _ w.heap.size 54 _ (0, 0) _ rfl vR9.held Try.underlying54 rfl (by kernel_rfl)) rfl ?_
    exact ⟨_, _, _, _, _, rfl, by omega, by omega, by first | omega | assumption | decide, by omega, by omega, hD9, hG9⟩
end Go.Proofs.Ytoocibabceeagaa
