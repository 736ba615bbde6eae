/-
  Drawing for chapter 5: two signed messages.
-/
import Derived.Test.YtnjgdbfiebaomaaDf
import Derived.Deep.RegionHeld3
namespace Go.Proofs.Ytnjgdbfiebaomaa
open Go.RowKit

theorem dw_drew {B : Nat} {a : Option Addr} {len cap : Nat} {zs : List Int} {w : World} {p : Nat} (h : Dw B a len cap zs w p) : Dw B a len cap zs w.drew p := ⟨h.held, h.row, h.byt, h.len⟩
/-- What drawing two signed messages does. -/
def TwoR (B : Nat) (a : Option Addr) (len cap : Nat) (zs : List Int) (p : Nat) (c : Nat) (w : World) (e : Ending) (w' : World) : Prop :=
  ∃ (k1 r1 s1 : Int) (t1 : ByteArray) (k2 r2 s2 : Int) (t2 : ByteArray) (q : Nat), e = .returned (.tuple #[.agg #[.int .i64 k1, .string t1, .int .i64 r1, .int .i64 s1], .agg #[.int .i64 k2, .string t2, .int .i64 r2, .int .i64 s2]]) ∧ t1.size ≤ 5 ∧ t2.size ≤ 5 ∧ p ≤ q ∧ q ≤ p + c ∧ Dw B a len cap zs w' q ∧ w.grownBy w' (some B)
/-- Drawing two signed messages. -/
def DrawTwo (w : World) (e : Ending) (w' : World) : Prop :=
  ∃ (k1 r1 s1 : Int) (t1 : ByteArray) (k2 r2 s2 : Int) (t2 : ByteArray), e = .returned (.tuple #[.agg #[.int .i64 k1, .string t1, .int .i64 r1, .int .i64 s1], .agg #[.int .i64 k2, .string t2, .int .i64 r2, .int .i64 s2]]) ∧ t1.size ≤ 5 ∧ t2.size ≤ 5 ∧ Below w.heap.size w w'
set_option maxRecDepth 100000 in
set_option maxHeartbeats 3200000 in
theorem l91Two_any (B : Nat) (a : Option Addr) (len cap : Nat) (zs : List Int) (p : Nat) (w : World) (hp : p ≤ 600000000) (hD : Dw B a len cap zs w p) :
    Calls Try.prog 49 #[.pointer (some ⟨B, 0, none⟩)] w (TwoR B a len cap zs p 40 w) := by
  have hBlt := hD.lt
  have hX1 : Bk w.heap.size 40 #[.int .i64 0, .string ⟨#[]⟩, .int .i64 0, .int .i64 0] ((w.alloc (.cells #[.int .i64 0, .string ⟨#[]⟩, .int .i64 0, .int .i64 0] 40 (0, 0))).alloc (.cells #[.int .i64 0, .string ⟨#[]⟩, .int .i64 0, .int .i64 0] 40 (0, 0))) := (Bk.new _ _ _).alloc _
  have hX2 : Bk (w.heap.size + 1) 40 #[.int .i64 0, .string ⟨#[]⟩, .int .i64 0, .int .i64 0] ((w.alloc (.cells #[.int .i64 0, .string ⟨#[]⟩, .int .i64 0, .int .i64 0] 40 (0, 0))).alloc (.cells #[.int .i64 0, .string ⟨#[]⟩, .int .i64 0, .int .i64 0] 40 (0, 0))) := Bk.new' _ _ _ _ (by simp)
  replace hD := (hD.alloc (.cells #[.int .i64 0, .string ⟨#[]⟩, .int .i64 0, .int .i64 0] 40 (0, 0))).alloc (.cells #[.int .i64 0, .string ⟨#[]⟩, .int .i64 0, .int .i64 0] 40 (0, 0))
  have hG : w.grownBy ((w.alloc (.cells #[.int .i64 0, .string ⟨#[]⟩, .int .i64 0, .int .i64 0] 40 (0, 0))).alloc (.cells #[.int .i64 0, .string ⟨#[]⟩, .int .i64 0, .int .i64 0] 40 (0, 0))) (some B) := gtrans (World.grownBy_alloc _ _ _) (World.grownBy_alloc _ _ _)
  go_enter Try.func49, Try.ntmps49
  go_wp2_with fail
  refine (pick_any B a len cap zs _ 200 _ (by omega) (by omega) hD).mono ?_
  rintro x1 w1 ⟨v1, rfl, a1, b1, hD1, hG1⟩
  replace hX1 := hX1.gb hG1 (by omega)
  replace hX2 := hX2.gb hG1 (by omega)
  replace hG := gtrans hG hG1
  replace hD := hD1
  clear hG1 hD1
  obtain ⟨x, hx⟩ : ∃ x, 1 + v1 = x := ⟨_, rfl⟩
  go_wp2_with fail
  refine (l4Base_any x _ (by omega)).mono ?_
  have hK0 := Sg.gp_bd x
  obtain ⟨K, HK⟩ : ∃ K, Hid (Sg.gp x = K) := ⟨_, Lib.hid rfl⟩
  rw [show Gr.pw 2147483579 4 x = Sg.gp x from rfl, HK.out]
  rw [HK.out] at hK0
  rintro xk wk ⟨rfl, rfl⟩
  go_wp2_with fail
  refine (pick_any B a len cap zs _ 200 _ (by omega) (by omega) hD).mono ?_
  rintro x2 w2 ⟨v2, rfl, a2, b2, hD2, hG2⟩
  replace hX1 := hX1.gb hG2 (by omega)
  replace hX2 := hX2.gb hG2 (by omega)
  replace hG := gtrans hG hG2
  replace hD := hD2
  clear hG2 hD2
  obtain ⟨u, hu⟩ : ∃ u, 1 + v2 = u := ⟨_, rfl⟩
  go_wp2_with fail
  refine (l91Word_any B a len cap zs _ _ (by omega) hD).mono ?_
  rintro x3 w3 ⟨t1, q3, rfl, ht1, p3, r3, hD3, hG3⟩
  replace hX1 := hX1.gb hG3 (by omega)
  replace hX2 := hX2.gb hG3 (by omega)
  have l3 : w.heap.size + 1 < w3.heap.size := hX2.lt
  replace hX1 := hX1.alloc (.cells #[.int .i64 K, .string t1, .int .i64 0, .int .i64 0] 40 (0, 0))
  replace hX2 := hX2.alloc (.cells #[.int .i64 K, .string t1, .int .i64 0, .int .i64 0] 40 (0, 0))
  have hA : Bk w3.heap.size 40 #[.int .i64 K, .string t1, .int .i64 0, .int .i64 0] (w3.alloc (.cells #[.int .i64 K, .string t1, .int .i64 0, .int .i64 0] 40 (0, 0))) := Bk.new _ _ _
  replace hG := gtrans (gtrans hG hG3) (World.grownBy_alloc w3 (.cells #[.int .i64 K, .string t1, .int .i64 0, .int .i64 0] 40 (0, 0)) (some B))
  replace hD := hD3.alloc (.cells #[.int .i64 K, .string t1, .int .i64 0, .int .i64 0] 40 (0, 0))
  clear hG3 hD3
  go_wp2_with fail
  refine (l91Word_any B a len cap zs _ _ (by omega) hD).mono ?_
  rintro x4 w4 ⟨t2, q4, rfl, ht2, p4, r4, hD4, hG4⟩
  replace hX1 := hX1.gb hG4 (by omega)
  replace hX2 := hX2.gb hG4 (by omega)
  replace hA := hA.gb hG4 (by omega)
  have l4 : w3.heap.size < w4.heap.size := hA.lt
  replace hX1 := hX1.alloc (.cells #[.int .i64 K, .string t2, .int .i64 0, .int .i64 0] 40 (0, 0))
  replace hX2 := hX2.alloc (.cells #[.int .i64 K, .string t2, .int .i64 0, .int .i64 0] 40 (0, 0))
  replace hA := hA.alloc (.cells #[.int .i64 K, .string t2, .int .i64 0, .int .i64 0] 40 (0, 0))
  have hB : Bk w4.heap.size 40 #[.int .i64 K, .string t2, .int .i64 0, .int .i64 0] (w4.alloc (.cells #[.int .i64 K, .string t2, .int .i64 0, .int .i64 0] 40 (0, 0))) := Bk.new _ _ _
  replace hG := gtrans (gtrans hG hG4) (World.grownBy_alloc w4 (.cells #[.int .i64 K, .string t2, .int .i64 0, .int .i64 0] 40 (0, 0)) (some B))
  replace hD := hD4.alloc (.cells #[.int .i64 K, .string t2, .int .i64 0, .int .i64 0] 40 (0, 0))
  clear hG4 hD4
  have hconR := fun W => l4Base_any u W (by omega)
  have hR0 := Sg.gp_bd u
  obtain ⟨R, HR⟩ : ∃ R, Hid (Sg.gp u = R) := ⟨_, Lib.hid rfl⟩
  rw [show Gr.pw 2147483579 4 u = Sg.gp u from rfl, HR.out] at hconR
  rw [HR.out] at hR0
  have hcon5 := fun W => l5Challenge_any R K t1 W hR0.1 (by omega) hK0.1 (by omega) (by omega)
  have hcon6 := fun W => l5Challenge_any R K t2 W hR0.1 (by omega) hK0.1 (by omega) (by omega)
  obtain ⟨m0, m1⟩ := Sg.ch_bd R K t1
  obtain ⟨n0, n1⟩ := Sg.ch_bd R K t2
  obtain ⟨C1, HC1⟩ : ∃ C, Hid (Sg.ch R K t1 = C) := ⟨_, Lib.hid rfl⟩
  obtain ⟨C2, HC2⟩ : ∃ C, Hid (Sg.ch R K t2 = C) := ⟨_, Lib.hid rfl⟩
  rw [HC1.out] at hcon5 m0 m1
  rw [HC2.out] at hcon6 n0 n1
  obtain ⟨mm0, mm1⟩ := Gr.mul_bd C1 x 1073741789 m0 m1 (by omega) (by omega) (by omega)
  obtain ⟨nn0, nn1⟩ := Gr.mul_bd C2 x 1073741789 n0 n1 (by omega) (by omega) (by omega)
  have wr1 : IntKind.i64.wrap (C1 * x) = C1 * x := IntWalk.i64_in _ (by omega)
  have wr2 : IntKind.i64.wrap (u + C1 * x) = u + C1 * x := IntWalk.i64_in _ (by omega)
  have wr3 : (u + C1 * x).tmod 1073741789 = (u + C1 * x) % 1073741789 := Int.tmod_eq_emod_of_nonneg (by omega)
  have wr4 : IntKind.i64.wrap (C2 * x) = C2 * x := IntWalk.i64_in _ (by omega)
  have wr5 : IntKind.i64.wrap (u + C2 * x) = u + C2 * x := IntWalk.i64_in _ (by omega)
  have wr6 : (u + C2 * x).tmod 1073741789 = (u + C2 * x) % 1073741789 := Int.tmod_eq_emod_of_nonneg (by omega)
  have hconS := fun W => l5Sign_any x t2 W (by omega) (by omega) (by omega)
  obtain ⟨R9, HR9⟩ : ∃ R, Hid (Sg.sr x t2 = R) := ⟨_, Lib.hid rfl⟩
  obtain ⟨S9, HS9⟩ : ∃ S, Hid (Sg.ss x t2 = S) := ⟨_, Lib.hid rfl⟩
  rw [HR9.out, HS9.out] at hconS
  clear HC1 HC2 HR HK HR9 HS9
  obtain ⟨zz0, hS5, zz2, zz3⟩ := Bk.c4 hA.drew
  clear zz0 zz2 zz3
  go_wp2
  go_region_held3 (fun W => W.cell? ⟨w3.heap.size, 1, none⟩ = some (.string t1)) (first | with_reducible exact hS5 | with_reducible exact hT5 | with_reducible exact hU5)
    (first
      | (go_at_call 58; refine (hconR _).mono ?_; rintro xr wr ⟨rfl, rfl⟩)
      | (go_at_call 33; refine (hcon5 _).mono ?_; rintro x5 w5 ⟨rfl, hb5⟩; have hM5 := hA.drew.below hb5; obtain ⟨z0, hT5, z2, z3⟩ := Bk.c4 hM5; obtain ⟨f0, f1, f2, f3⟩ := hM5.f4; have hN5 : Bk w3.heap.size 40 #[.int .i64 K, .string t1, .int .i64 R, .int .i64 0] _ := hM5.set 2 (.int .i64 R); have hO5 : Bk w3.heap.size 40 #[.int .i64 K, .string t1, .int .i64 R, .int .i64 ((u + C1 * x) % 1073741789)] _ := hN5.set 3 (.int .i64 ((u + C1 * x) % 1073741789)); obtain ⟨y0, hU5, y2, y3⟩ := Bk.c4 hO5))
  replace hA := hO5
  replace hX1 := ((hX1.drew.below hb5).oset w3.heap.size 2 (.int .i64 R) (by omega)).oset w3.heap.size 3 (.int .i64 ((u + C1 * x) % 1073741789)) (by omega)
  replace hX2 := ((hX2.drew.below hb5).oset w3.heap.size 2 (.int .i64 R) (by omega)).oset w3.heap.size 3 (.int .i64 ((u + C1 * x) % 1073741789)) (by omega)
  replace hB := ((hB.drew.below hb5).oset w3.heap.size 2 (.int .i64 R) (by omega)).oset w3.heap.size 3 (.int .i64 ((u + C1 * x) % 1073741789)) (by omega)
  replace hG := gb_set (gb_set (gtrans (grownBy_drew hG) (below_gb hb5 B)) w3.heap.size 2 (.int .i64 R) (by omega)) w3.heap.size 3 (.int .i64 ((u + C1 * x) % 1073741789)) (by omega)
  replace hD := (((hD.drewN 1).below hb5).oset w3.heap.size 2 (.int .i64 R) (by omega)).oset w3.heap.size 3 (.int .i64 ((u + C1 * x) % 1073741789)) (by omega)
  clear hM5 hN5 hO5 hb5 hS5 hT5 hU5 hcon5 z0 z2 z3 f0 f1 f2 f3 y0 y2 y3
  obtain ⟨zz0, hS6, zz2, zz3⟩ := Bk.c4 hB.drew
  clear zz0 zz2 zz3
  go_wp2
  go_region_held3 (fun W => W.cell? ⟨w4.heap.size, 1, none⟩ = some (.string t2)) (first | with_reducible exact hS6 | with_reducible exact hT6 | with_reducible exact hU6)
    (first
      | (go_at_call 58; refine (hconR _).mono ?_; rintro xr wr ⟨rfl, rfl⟩)
      | (go_at_call 33; refine (hcon6 _).mono ?_; rintro x6 w6 ⟨rfl, hb6⟩; have hM6 := hB.drew.below hb6; obtain ⟨z0, hT6, z2, z3⟩ := Bk.c4 hM6; obtain ⟨f0, f1, f2, f3⟩ := hM6.f4; have hN6 : Bk w4.heap.size 40 #[.int .i64 K, .string t2, .int .i64 R, .int .i64 0] _ := hM6.set 2 (.int .i64 R); have hO6 : Bk w4.heap.size 40 #[.int .i64 K, .string t2, .int .i64 R, .int .i64 ((u + C2 * x) % 1073741789)] _ := hN6.set 3 (.int .i64 ((u + C2 * x) % 1073741789)); obtain ⟨y0, hU6, y2, y3⟩ := Bk.c4 hO6))
  replace hB := hO6
  replace hX1 := ((hX1.drew.below hb6).oset w4.heap.size 2 (.int .i64 R) (by omega)).oset w4.heap.size 3 (.int .i64 ((u + C2 * x) % 1073741789)) (by omega)
  replace hX2 := ((hX2.drew.below hb6).oset w4.heap.size 2 (.int .i64 R) (by omega)).oset w4.heap.size 3 (.int .i64 ((u + C2 * x) % 1073741789)) (by omega)
  replace hA := ((hA.drew.below hb6).oset w4.heap.size 2 (.int .i64 R) (by omega)).oset w4.heap.size 3 (.int .i64 ((u + C2 * x) % 1073741789)) (by omega)
  replace hG := gb_set (gb_set (gtrans (grownBy_drew hG) (below_gb hb6 B)) w4.heap.size 2 (.int .i64 R) (by omega)) w4.heap.size 3 (.int .i64 ((u + C2 * x) % 1073741789)) (by omega)
  replace hD := (((hD.drewN 1).below hb6).oset w4.heap.size 2 (.int .i64 R) (by omega)).oset w4.heap.size 3 (.int .i64 ((u + C2 * x) % 1073741789)) (by omega)
  clear hM6 hN6 hO6 hb6 hS6 hT6 hU6 hcon6 z0 z2 z3 f0 f1 f2 f3 y0 y2 y3
  go_wp2_with fail
  refine (pick_any B a len cap zs _ 12 _ (by omega) (by omega) hD).mono ?_
  rintro x7 w7 ⟨v7, rfl, a7, b7, hD7, hG7⟩
  replace hX1 := hX1.gb hG7 (by omega)
  replace hX2 := hX2.gb hG7 (by omega)
  replace hA := hA.gb hG7 (by omega)
  replace hB := hB.gb hG7 (by omega)
  replace hG := gtrans hG hG7
  replace hD := hD7
  clear hG7 hD7
  by_cases h0 : v7 = 0
  · have j0 : (v7 == 0) = true := by simpa using h0
    clear h0
    obtain ⟨y0, y1, y2, y3⟩ := Bk.c4 hB
    go_wp2_with fail
    refine (hconS _).mono ?_
    rintro x8 w8 ⟨rfl, hb8⟩
    have hN := hB.below hb8
    obtain ⟨z0, z1, z2, z3⟩ := Bk.c4 hN
    obtain ⟨f0, f1, f2, f3⟩ := hN.f4
    have hN2 : Bk w4.heap.size 40 #[.int .i64 K, .string t2, .int .i64 R9, .int .i64 ((u + C2 * x) % 1073741789)] _ := hN.set 2 (.int .i64 R9)
    have hN3 : Bk w4.heap.size 40 #[.int .i64 K, .string t2, .int .i64 R9, .int .i64 S9] _ := hN2.set 3 (.int .i64 S9)
    clear y0 y1 y2 y3
    replace hB := hN3
    replace hX1 := ((hX1.below hb8).oset w4.heap.size 2 (.int .i64 R9) (by omega)).oset w4.heap.size 3 (.int .i64 S9) (by omega)
    replace hX2 := ((hX2.below hb8).oset w4.heap.size 2 (.int .i64 R9) (by omega)).oset w4.heap.size 3 (.int .i64 S9) (by omega)
    replace hA := ((hA.below hb8).oset w4.heap.size 2 (.int .i64 R9) (by omega)).oset w4.heap.size 3 (.int .i64 S9) (by omega)
    replace hD := ((hD.below hb8).oset w4.heap.size 2 (.int .i64 R9) (by omega)).oset w4.heap.size 3 (.int .i64 S9) (by omega)
    replace hG := gb_set (gb_set (gtrans hG (below_gb hb8 B)) w4.heap.size 2 (.int .i64 R9) (by omega)) w4.heap.size 3 (.int .i64 S9) (by omega)
    clear hN hN2 hN3 hb8
    go_wp2
    obtain ⟨c0, c1, c2, c3⟩ := Bk.c4 hX1
    obtain ⟨d0, d1, d2, d3⟩ := Bk.c4 hX2
    obtain ⟨e0, e1, e2, e3⟩ := Bk.c4 hA
    obtain ⟨g0, g1, g2, g3⟩ := Bk.c4 hB
    obtain ⟨i0, i1, i2, i3⟩ := hX1.f4
    obtain ⟨j0, j1, j2, j3⟩ := hX2.f4
    have hX3 := Bk.other4 (Bk.store4 hX1 (.int .i64 K) (.string t1) (.int .i64 R) (.int .i64 ((u + C1 * x) % 1073741789))) (w.heap.size + 1) (by omega) (.int .i64 K) (.string t2) (.int .i64 R9) (.int .i64 S9)
    have hX4 := Bk.store4 (Bk.other4 hX2 w.heap.size (by omega) (.int .i64 K) (.string t1) (.int .i64 R) (.int .i64 ((u + C1 * x) % 1073741789))) (.int .i64 K) (.string t2) (.int .i64 R9) (.int .i64 S9)
    have hD9 := ((((((((hD.oset w.heap.size 0 (.int .i64 K) (by omega)).oset w.heap.size 1 (.string t1) (by omega)).oset w.heap.size 2 (.int .i64 R) (by omega)).oset w.heap.size 3 (.int .i64 ((u + C1 * x) % 1073741789)) (by omega)).oset (w.heap.size + 1) 0 (.int .i64 K) (by omega)).oset (w.heap.size + 1) 1 (.string t2) (by omega)).oset (w.heap.size + 1) 2 (.int .i64 R9) (by omega)).oset (w.heap.size + 1) 3 (.int .i64 S9) (by omega))
    have hG9 := (gb_set (gb_set (gb_set (gb_set (gb_set (gb_set (gb_set (gb_set hG w.heap.size 0 (.int .i64 K) (by omega)) w.heap.size 1 (.string t1) (by omega)) w.heap.size 2 (.int .i64 R) (by omega)) w.heap.size 3 (.int .i64 ((u + C1 * x) % 1073741789)) (by omega)) (w.heap.size + 1) 0 (.int .i64 K) (by omega)) (w.heap.size + 1) 1 (.string t2) (by omega)) (w.heap.size + 1) 2 (.int .i64 R9) (by omega)) (w.heap.size + 1) 3 (.int .i64 S9) (by omega))
    clear hX1 hX2 hA hB hD hG
    go_wp2
    go_region
    go_wp2
    refine bodyPost_ret (results_cc (P := Try.prog) (ty := 40) rfl _ _ w.heap.size (w.heap.size + 1) _ _ _ rfl hX3.drew.held rfl hX4.drew.held Try.underlying40 rfl (by kernel_rfl) (by kernel_rfl)) rfl ?_
    exact ⟨_, _, _, _, _, _, _, _, _, rfl, ht1, ht2, by omega, by omega, dw_drew hD9, grownBy_drew hG9⟩
  by_cases h1 : v7 = 1
  · have j0 : (v7 == 0) = false := by simpa using h0
    have j1 : (v7 == 1) = true := by simpa using h1
    clear h0 h1
    go_wp2_with fail
    refine (l91Scalar_any B a len cap zs _ _ (by omega) hD).mono ?_
    rintro x8 w8 ⟨v8, q8, rfl, a8, b8, p8, r8, hD8, hG8⟩
    replace hX1 := hX1.gb hG8 (by omega)
    replace hX2 := hX2.gb hG8 (by omega)
    replace hA := hA.gb hG8 (by omega)
    replace hB := hB.gb hG8 (by omega)
    replace hG := gtrans hG hG8
    replace hD := hD8
    obtain ⟨z0, z1, z2, z3⟩ := Bk.c4 hB
    obtain ⟨f0, f1, f2, f3⟩ := hB.f4
    have hN3 : Bk w4.heap.size 40 #[.int .i64 K, .string t2, .int .i64 R, .int .i64 v8] _ := hB.set 3 (.int .i64 v8)
    replace hB := hN3
    replace hX1 := hX1.oset w4.heap.size 3 (.int .i64 v8) (by omega)
    replace hX2 := hX2.oset w4.heap.size 3 (.int .i64 v8) (by omega)
    replace hA := hA.oset w4.heap.size 3 (.int .i64 v8) (by omega)
    replace hD := hD.oset w4.heap.size 3 (.int .i64 v8) (by omega)
    replace hG := gb_set hG w4.heap.size 3 (.int .i64 v8) (by omega)
    clear hN3 hD8 hG8
    go_wp2
    obtain ⟨c0, c1, c2, c3⟩ := Bk.c4 hX1
    obtain ⟨d0, d1, d2, d3⟩ := Bk.c4 hX2
    obtain ⟨e0, e1, e2, e3⟩ := Bk.c4 hA
    obtain ⟨g0, g1, g2, g3⟩ := Bk.c4 hB
    obtain ⟨i0, i1, i2, i3⟩ := hX1.f4
    obtain ⟨j0, j1, j2, j3⟩ := hX2.f4
    have hX3 := Bk.other4 (Bk.store4 hX1 (.int .i64 K) (.string t1) (.int .i64 R) (.int .i64 ((u + C1 * x) % 1073741789))) (w.heap.size + 1) (by omega) (.int .i64 K) (.string t2) (.int .i64 R) (.int .i64 v8)
    have hX4 := Bk.store4 (Bk.other4 hX2 w.heap.size (by omega) (.int .i64 K) (.string t1) (.int .i64 R) (.int .i64 ((u + C1 * x) % 1073741789))) (.int .i64 K) (.string t2) (.int .i64 R) (.int .i64 v8)
    have hD9 := ((((((((hD.oset w.heap.size 0 (.int .i64 K) (by omega)).oset w.heap.size 1 (.string t1) (by omega)).oset w.heap.size 2 (.int .i64 R) (by omega)).oset w.heap.size 3 (.int .i64 ((u + C1 * x) % 1073741789)) (by omega)).oset (w.heap.size + 1) 0 (.int .i64 K) (by omega)).oset (w.heap.size + 1) 1 (.string t2) (by omega)).oset (w.heap.size + 1) 2 (.int .i64 R) (by omega)).oset (w.heap.size + 1) 3 (.int .i64 v8) (by omega))
    have hG9 := (gb_set (gb_set (gb_set (gb_set (gb_set (gb_set (gb_set (gb_set hG w.heap.size 0 (.int .i64 K) (by omega)) w.heap.size 1 (.string t1) (by omega)) w.heap.size 2 (.int .i64 R) (by omega)) w.heap.size 3 (.int .i64 ((u + C1 * x) % 1073741789)) (by omega)) (w.heap.size + 1) 0 (.int .i64 K) (by omega)) (w.heap.size + 1) 1 (.string t2) (by omega)) (w.heap.size + 1) 2 (.int .i64 R) (by omega)) (w.heap.size + 1) 3 (.int .i64 v8) (by omega))
    clear hX1 hX2 hA hB hD hG
    go_wp2
    go_region
    go_wp2
    refine bodyPost_ret (results_cc (P := Try.prog) (ty := 40) rfl _ _ w.heap.size (w.heap.size + 1) _ _ _ rfl hX3.drew.held rfl hX4.drew.held Try.underlying40 rfl (by kernel_rfl) (by kernel_rfl)) rfl ?_
    exact ⟨_, _, _, _, _, _, _, _, _, rfl, ht1, ht2, by omega, by omega, dw_drew hD9, grownBy_drew hG9⟩
  by_cases h2 : v7 = 2
  · have j0 : (v7 == 0) = false := by simpa using h0
    have j1 : (v7 == 1) = false := by simpa using h1
    have j2 : (v7 == 2) = true := by simpa using h2
    clear h0 h1 h2
    go_wp2_with fail
    refine (l91Key_any B a len cap zs _ _ (by omega) hD).mono ?_
    rintro x8 w8 ⟨v8, q8, rfl, a8, b8, p8, r8, hD8, hG8⟩
    replace hX1 := hX1.gb hG8 (by omega)
    replace hX2 := hX2.gb hG8 (by omega)
    replace hA := hA.gb hG8 (by omega)
    replace hB := hB.gb hG8 (by omega)
    replace hG := gtrans hG hG8
    replace hD := hD8
    obtain ⟨z0, z1, z2, z3⟩ := Bk.c4 hB
    obtain ⟨f0, f1, f2, f3⟩ := hB.f4
    have hN3 : Bk w4.heap.size 40 #[.int .i64 v8, .string t2, .int .i64 R, .int .i64 ((u + C2 * x) % 1073741789)] _ := hB.set 0 (.int .i64 v8)
    replace hB := hN3
    replace hX1 := hX1.oset w4.heap.size 0 (.int .i64 v8) (by omega)
    replace hX2 := hX2.oset w4.heap.size 0 (.int .i64 v8) (by omega)
    replace hA := hA.oset w4.heap.size 0 (.int .i64 v8) (by omega)
    replace hD := hD.oset w4.heap.size 0 (.int .i64 v8) (by omega)
    replace hG := gb_set hG w4.heap.size 0 (.int .i64 v8) (by omega)
    clear hN3 hD8 hG8
    go_wp2
    obtain ⟨c0, c1, c2, c3⟩ := Bk.c4 hX1
    obtain ⟨d0, d1, d2, d3⟩ := Bk.c4 hX2
    obtain ⟨e0, e1, e2, e3⟩ := Bk.c4 hA
    obtain ⟨g0, g1, g2, g3⟩ := Bk.c4 hB
    obtain ⟨i0, i1, i2, i3⟩ := hX1.f4
    obtain ⟨j0, j1, j2, j3⟩ := hX2.f4
    have hX3 := Bk.other4 (Bk.store4 hX1 (.int .i64 K) (.string t1) (.int .i64 R) (.int .i64 ((u + C1 * x) % 1073741789))) (w.heap.size + 1) (by omega) (.int .i64 v8) (.string t2) (.int .i64 R) (.int .i64 ((u + C2 * x) % 1073741789))
    have hX4 := Bk.store4 (Bk.other4 hX2 w.heap.size (by omega) (.int .i64 K) (.string t1) (.int .i64 R) (.int .i64 ((u + C1 * x) % 1073741789))) (.int .i64 v8) (.string t2) (.int .i64 R) (.int .i64 ((u + C2 * x) % 1073741789))
    have hD9 := ((((((((hD.oset w.heap.size 0 (.int .i64 K) (by omega)).oset w.heap.size 1 (.string t1) (by omega)).oset w.heap.size 2 (.int .i64 R) (by omega)).oset w.heap.size 3 (.int .i64 ((u + C1 * x) % 1073741789)) (by omega)).oset (w.heap.size + 1) 0 (.int .i64 v8) (by omega)).oset (w.heap.size + 1) 1 (.string t2) (by omega)).oset (w.heap.size + 1) 2 (.int .i64 R) (by omega)).oset (w.heap.size + 1) 3 (.int .i64 ((u + C2 * x) % 1073741789)) (by omega))
    have hG9 := (gb_set (gb_set (gb_set (gb_set (gb_set (gb_set (gb_set (gb_set hG w.heap.size 0 (.int .i64 K) (by omega)) w.heap.size 1 (.string t1) (by omega)) w.heap.size 2 (.int .i64 R) (by omega)) w.heap.size 3 (.int .i64 ((u + C1 * x) % 1073741789)) (by omega)) (w.heap.size + 1) 0 (.int .i64 v8) (by omega)) (w.heap.size + 1) 1 (.string t2) (by omega)) (w.heap.size + 1) 2 (.int .i64 R) (by omega)) (w.heap.size + 1) 3 (.int .i64 ((u + C2 * x) % 1073741789)) (by omega))
    clear hX1 hX2 hA hB hD hG
    go_wp2
    go_region
    go_wp2
    refine bodyPost_ret (results_cc (P := Try.prog) (ty := 40) rfl _ _ w.heap.size (w.heap.size + 1) _ _ _ rfl hX3.drew.held rfl hX4.drew.held Try.underlying40 rfl (by kernel_rfl) (by kernel_rfl)) rfl ?_
    exact ⟨_, _, _, _, _, _, _, _, _, rfl, ht1, ht2, by omega, by omega, dw_drew hD9, grownBy_drew hG9⟩
  · have j0 : (v7 == 0) = false := by simpa using h0
    have j1 : (v7 == 1) = false := by simpa using h1
    have j2 : (v7 == 2) = false := by simpa using h2
    clear h0 h1 h2
    go_wp2
    obtain ⟨c0, c1, c2, c3⟩ := Bk.c4 hX1
    obtain ⟨d0, d1, d2, d3⟩ := Bk.c4 hX2
    obtain ⟨e0, e1, e2, e3⟩ := Bk.c4 hA
    obtain ⟨g0, g1, g2, g3⟩ := Bk.c4 hB
    obtain ⟨i0, i1, i2, i3⟩ := hX1.f4
    obtain ⟨j0, j1, j2, j3⟩ := hX2.f4
    have hX3 := Bk.other4 (Bk.store4 hX1 (.int .i64 K) (.string t1) (.int .i64 R) (.int .i64 ((u + C1 * x) % 1073741789))) (w.heap.size + 1) (by omega) (.int .i64 K) (.string t2) (.int .i64 R) (.int .i64 ((u + C2 * x) % 1073741789))
    have hX4 := Bk.store4 (Bk.other4 hX2 w.heap.size (by omega) (.int .i64 K) (.string t1) (.int .i64 R) (.int .i64 ((u + C1 * x) % 1073741789))) (.int .i64 K) (.string t2) (.int .i64 R) (.int .i64 ((u + C2 * x) % 1073741789))
    have hD9 := ((((((((hD.oset w.heap.size 0 (.int .i64 K) (by omega)).oset w.heap.size 1 (.string t1) (by omega)).oset w.heap.size 2 (.int .i64 R) (by omega)).oset w.heap.size 3 (.int .i64 ((u + C1 * x) % 1073741789)) (by omega)).oset (w.heap.size + 1) 0 (.int .i64 K) (by omega)).oset (w.heap.size + 1) 1 (.string t2) (by omega)).oset (w.heap.size + 1) 2 (.int .i64 R) (by omega)).oset (w.heap.size + 1) 3 (.int .i64 ((u + C2 * x) % 1073741789)) (by omega))
    have hG9 := (gb_set (gb_set (gb_set (gb_set (gb_set (gb_set (gb_set (gb_set hG w.heap.size 0 (.int .i64 K) (by omega)) w.heap.size 1 (.string t1) (by omega)) w.heap.size 2 (.int .i64 R) (by omega)) w.heap.size 3 (.int .i64 ((u + C1 * x) % 1073741789)) (by omega)) (w.heap.size + 1) 0 (.int .i64 K) (by omega)) (w.heap.size + 1) 1 (.string t2) (by omega)) (w.heap.size + 1) 2 (.int .i64 R) (by omega)) (w.heap.size + 1) 3 (.int .i64 ((u + C2 * x) % 1073741789)) (by omega))
    clear hX1 hX2 hA hB hD hG
    go_wp2
    go_region
    go_wp2
    refine bodyPost_ret (results_cc (P := Try.prog) (ty := 40) rfl _ _ w.heap.size (w.heap.size + 1) _ _ _ rfl hX3.drew.held rfl hX4.drew.held Try.underlying40 rfl (by kernel_rfl) (by kernel_rfl)) rfl ?_
    exact ⟨_, _, _, _, _, _, _, _, _, rfl, ht1, ht2, by omega, by omega, dw_drew hD9, grownBy_drew hG9⟩
set_option maxRecDepth 100000 in
set_option maxHeartbeats 3200000 in
theorem drawSecretFrom_any (a : Option Addr) (len cap : Nat) (zs : List Int) (w : World) (hr : IsRow .u8 w a len cap zs) (hlm : len ≤ 1048576) :
    Calls Try.prog 21 #[.slice a len cap] w (DrawTwo w) := by
  have hX1 : Bk w.heap.size 40 #[.int .i64 0, .string ⟨#[]⟩, .int .i64 0, .int .i64 0] ((w.alloc (.cells #[.int .i64 0, .string ⟨#[]⟩, .int .i64 0, .int .i64 0] 40 (0, 0))).alloc (.cells #[.int .i64 0, .string ⟨#[]⟩, .int .i64 0, .int .i64 0] 40 (0, 0))) := (Bk.new _ _ _).alloc _
  have hX2 : Bk (w.heap.size + 1) 40 #[.int .i64 0, .string ⟨#[]⟩, .int .i64 0, .int .i64 0] ((w.alloc (.cells #[.int .i64 0, .string ⟨#[]⟩, .int .i64 0, .int .i64 0] 40 (0, 0))).alloc (.cells #[.int .i64 0, .string ⟨#[]⟩, .int .i64 0, .int .i64 0] 40 (0, 0))) := Bk.new' _ _ _ _ (by simp)
  have hc0 := below_alloc (below_alloc (Below.refl w.heap.size w) (.cells #[.int .i64 0, .string ⟨#[]⟩, .int .i64 0, .int .i64 0] 40 (0, 0))) (.cells #[.int .i64 0, .string ⟨#[]⟩, .int .i64 0, .int .i64 0] 40 (0, 0))
  go_enter Try.func21, Try.ntmps21
  go_wp2_with fail
  have hr' := hr.below hc0
  refine (l6Open_any a len cap zs _ hr' hlm).mono ?_
  rintro e w0 ⟨B, a', l', c', zs', rfl, hB, hD0, hb0⟩
  clear hr hr'
  replace hX1 := hX1.below hb0
  replace hX2 := hX2.below hb0
  have hc1 := below_after hc0 hb0
  have hlt : w.heap.size + 1 < B := by simp at hB; omega
  clear hc0 hb0
  go_wp2_with fail
  refine (l91Two_any B a' l' c' zs' _ _ (by omega) hD0).mono ?_
  rintro e w1 ⟨k1, r1, s1, t1, k2, r2, s2, t2, q1, rfl, ht1, ht2, p1, p2, hD1, hG1⟩
  replace hX1 := hX1.gb hG1 (by omega)
  replace hX2 := hX2.gb hG1 (by omega)
  have hc2 := Below.grown hc1 hG1 hc1.size (fun j hj => by cases hj; omega)
  obtain ⟨c0, c1, c2, c3⟩ := Bk.c4 hX1
  obtain ⟨d0, d1, d2, d3⟩ := Bk.c4 hX2
  obtain ⟨i0, i1, i2, i3⟩ := hX1.f4
  obtain ⟨j0, j1, j2, j3⟩ := hX2.f4
  have hX3 := Bk.other4 (Bk.store4 hX1 (.int .i64 k1) (.string t1) (.int .i64 r1) (.int .i64 s1)) (w.heap.size + 1) (by omega) (.int .i64 k2) (.string t2) (.int .i64 r2) (.int .i64 s2)
  have hX4 := Bk.store4 (Bk.other4 hX2 w.heap.size (by omega) (.int .i64 k1) (.string t1) (.int .i64 r1) (.int .i64 s1)) (.int .i64 k2) (.string t2) (.int .i64 r2) (.int .i64 s2)
  have hc9 := below_store4 (below_store4 hc2 w.heap.size (by omega) (.int .i64 k1) (.string t1) (.int .i64 r1) (.int .i64 s1)) (w.heap.size + 1) (by omega) (.int .i64 k2) (.string t2) (.int .i64 r2) (.int .i64 s2)
  clear hX1 hX2 hc1 hc2 hD0 hD1 hG1
  go_wp2
  refine bodyPost_ret (results_cc (P := Try.prog) (ty := 40) rfl _ _ w.heap.size (w.heap.size + 1) _ _ _ rfl hX3.held rfl hX4.held Try.underlying40 rfl (by kernel_rfl) (by kernel_rfl)) rfl ?_
  exact ⟨_, _, _, _, _, _, _, _, rfl, ht1, ht2, hc9⟩
end Go.Proofs.Ytnjgdbfiebaomaa
