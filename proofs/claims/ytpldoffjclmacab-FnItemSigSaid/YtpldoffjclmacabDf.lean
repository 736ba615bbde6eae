/-
  Drawing for chapter 5: signatures, signed messages.
-/
import Derived.Test.YtpldoffjclmacabSj
import Derived.Test.YtpldoffjclmacabDe
import Derived.Test.YtpldoffjclmacabDs
namespace Go.Proofs.Ytpldoffjclmacab
open Go.RowKit

theorem Dw.below {B : Nat} {a : Option Addr} {len cap : Nat} {zs : List Int} {w w' : World} {p : Nat} (h : Dw B a len cap zs w p) (hb : Below w.heap.size w w') : Dw B a len cap zs w' p :=
  h.of fun k hk => hb.block k (by have := h.lt; omega)
theorem below_gb {w w' : World} (hb : Below w.heap.size w w') (B : Nat) : w.grownBy w' (some B) := ⟨hb.os, hb.tape, hb.output, hb.size, fun k hk _ => hb.block k hk⟩
theorem Bk.gb {D : Nat} {t : TypeId} {cs : Array Value} {w w' : World} (h : Bk D t cs w) {B : Nat} (hg : w.grownBy w' (some B)) (hne : D ≠ B) : Bk D t cs w' := ⟨(hg.block D h.lt (by simpa using hne)).trans h.held⟩
/-- Drawing a number and a string. -/
def DrawNS (w : World) (e : Ending) (w' : World) : Prop := ∃ (u : Int) (t : ByteArray), e = .returned (.tuple #[.int .i64 u, .string t]) ∧ -1 ≤ u ∧ u ≤ 4294967296 ∧ t.size ≤ 5 ∧ Below w.heap.size w w'
/-- Drawing two numbers and a string. -/
def DrawNNS (w : World) (e : Ending) (w' : World) : Prop := ∃ (u v : Int) (t : ByteArray), e = .returned (.tuple #[.int .i64 u, .int .i64 v, .string t]) ∧ -1 ≤ u ∧ u ≤ 4294967296 ∧ -1 ≤ v ∧ v ≤ 4294967296 ∧ t.size ≤ 5 ∧ Below w.heap.size w w'
theorem gb_set {w w' : World} {B : Nat} (h : w.grownBy w' (some B)) (D i : Nat) (v : Value) (hD : w.heap.size ≤ D) : w.grownBy (w'.setCell ⟨D, i, none⟩ v) (some B) :=
  ⟨h.os, h.tape, h.output, by simpa [World.setCell] using h.size, fun k hk hne => (Below.heap_setCell _ _ _ _ (show k ≠ D by omega)).trans (h.block k hk hne)⟩
theorem Dw.oset {B : Nat} {a : Option Addr} {len cap : Nat} {zs : List Int} {w : World} {p : Nat} (h : Dw B a len cap zs w p) (D i : Nat) (v : Value) (hD : B < D) : Dw B a len cap zs (w.setCell ⟨D, i, none⟩ v) p :=
  h.of fun k hk => Below.heap_setCell _ _ _ _ (show k ≠ D by omega)
/-- What drawing a signature does. -/
def SigR (B : Nat) (a : Option Addr) (len cap : Nat) (zs : List Int) (p : Nat) (c : Nat) (w : World) (e : Ending) (w' : World) : Prop :=
  ∃ (R S : Int) (q : Nat), e = .returned (.agg #[.int .i64 R, .int .i64 S]) ∧ -1 ≤ R ∧ R ≤ 4294967296 ∧ -1 ≤ S ∧ S ≤ 4294967296 ∧ p ≤ q ∧ q ≤ p + c ∧ Dw B a len cap zs w' q ∧ w.grownBy w' (some B)
set_option maxRecDepth 100000 in
set_option maxHeartbeats 1600000 in
theorem l12Secret_any (x : Int) (w : World) (x0 : 1 ≤ x) (x1 : x ≤ 1073741788) :
    Calls Try.prog 26 #[.int .i64 x] w fun e w' => e = .returned (.bool true) ∧ w' = w := by
  have HT : Hid ((decide (1 ≤ x) && decide (x ≤ 1073741788)) = true) := Lib.hid (by simp [x0, x1])
  go_enter Try.func26, Try.ntmps26
  go_wp2_with fail
  refine (l6In_any x 1 1073741788 _).mono ?_
  rw [HT.out]
  rintro e1 w1 ⟨rfl, rfl⟩
  go_wp2
  go_ret
  exact ⟨rfl, rfl⟩
theorem Sg.s_bd (x : Int) (t : ByteArray) : (0 ≤ Sg.sr x t ∧ Sg.sr x t < 2147483579) ∧ 0 ≤ Sg.ss x t ∧ Sg.ss x t < 1073741789 :=
  ⟨Sg.gp_bd _, Int.emod_nonneg _ (by decide), Int.emod_lt_of_pos _ (by decide)⟩
set_option maxRecDepth 100000 in
set_option maxHeartbeats 1600000 in
theorem l91Sig_any (B : Nat) (a : Option Addr) (len cap : Nat) (zs : List Int) (p : Nat) (x : Int) (t : ByteArray) (w : World) (hp : p ≤ 700000000) (hD0 : Dw B a len cap zs w p) (x0 : 1 ≤ x) (x1 : x ≤ 200) (ht : t.size ≤ 1048576) :
    Calls Try.prog 16 #[.pointer (some ⟨B, 0, none⟩), .int .i64 x, .string t] w (SigR B a len cap zs p 16 w) := by
  have hBlt := hD0.lt
  have HM : (Int.tmod x 100000 + 100000) % 100000 = x := by rw [Int.tmod_eq_emod_of_nonneg (by omega)]; omega
  have hcon0 := fun W => l6Mod_any x 100000 W (by omega) (by omega)
  rw [HM] at hcon0
  clear HM
  obtain ⟨⟨u0, u1⟩, v0, v1⟩ := Sg.s_bd (1 + x) t
  obtain ⟨⟨y0, y1⟩, z0, z1⟩ := Sg.s_bd x t
  have hcon1 := fun W => l5Sign_any (1 + x) t W (by omega) (by omega) ht
  have hcon2 := fun W => l5Sign_any x t W (by omega) (by omega) ht
  generalize Sg.sr (1 + x) t = R1 at hcon1 u0 u1
  generalize Sg.ss (1 + x) t = S1 at hcon1 v0 v1
  generalize Sg.sr x t = R2 at hcon2 y0 y1
  generalize Sg.ss x t = S2 at hcon2 z0 z1
  have hX0 : Bk w.heap.size 24 #[.int .i64 0, .int .i64 0] (w.alloc (.cells #[.int .i64 0, .int .i64 0] 24 (0, 0))) := Bk.new _ _ _
  have hE0 := hD0.alloc (.cells #[.int .i64 0, .int .i64 0] 24 (0, 0))
  have hc0 := below_alloc (Below.refl w.heap.size w) (.cells #[.int .i64 0, .int .i64 0] 24 (0, 0))
  go_enter Try.func16, Try.ntmps16
  go_wp2_with fail
  refine (hcon0 _).mono ?_
  rintro e1 w1 ⟨rfl, rfl⟩
  go_wp2_with fail
  refine (hcon1 _).mono ?_
  rintro e1 w1 ⟨rfl, hb1⟩
  have hX1 := (hX0.below hb1).alloc (.cells #[.int .i64 R1, .int .i64 S1] 24 (0, 0))
  have hY1 : Bk w1.heap.size 24 #[.int .i64 R1, .int .i64 S1] (w1.alloc (.cells #[.int .i64 R1, .int .i64 S1] 24 (0, 0))) := Bk.new _ _ _
  have hlt1 : w.heap.size < w1.heap.size := by have := hb1.size; simp at this; omega
  have hc1 := below_alloc (below_after hc0 hb1) (.cells #[.int .i64 R1, .int .i64 S1] 24 (0, 0))
  clear hX0 hE0 hc0 hb1 hcon0 hcon1
  go_wp2_with fail
  refine (l12Secret_any x _ (by omega) (by omega)).mono ?_
  rintro e2 w2 ⟨rfl, rfl⟩
  go_wp2_with fail
  refine (hcon2 _).mono ?_
  rintro e2 w2 ⟨rfl, hb2⟩
  have hX2 := hX1.below hb2
  have hY2 := hY1.below hb2
  have hc2 := below_after hc1 hb2
  clear hX1 hY1 hc1 hb2 hcon2
  obtain ⟨i0, i1⟩ := Bk.c2 hY2
  obtain ⟨f0, f1⟩ := hY2.f2
  have hX3 := Bk.other2 hX2 w1.heap.size (by omega) (.int .i64 R2) (.int .i64 S2)
  have hY3 := Bk.store2 hY2 (.int .i64 R2) (.int .i64 S2)
  have hc3 := below_store2 hc2 w1.heap.size (by omega) (.int .i64 R2) (.int .i64 S2)
  clear hX2 hY2 hc2
  have hD3 := hD0.below hc3
  have hG3 := below_gb hc3 B
  clear hc3
  go_wp2_with fail
  refine (pick_any B a len cap zs _ 8 _ (by omega) (by omega) hD3).mono ?_
  rintro e4 w4 ⟨k, rfl, k0, k1, hD4, hG4⟩
  have hX4 := hX3.gb hG4 (by omega)
  have hY4 := hY3.gb hG4 (by omega)
  replace hG4 := gtrans hG3 hG4
  clear hX3 hY3 hD3 hG3 i0 i1 f0 f1
  obtain ⟨i0, i1⟩ := Bk.c2 hY4
  obtain ⟨f0, f1⟩ := hY4.f2
  by_cases h0 : k = 0
  · have j0 : (k == 0) = true := by simpa using h0
    clear h0
    have hX5 := hX4.oset w1.heap.size 1 (.int .i64 ((S2 + 1) % 1073741789)) (by omega)
    have hY5 : Bk w1.heap.size 24 #[.int .i64 R2, .int .i64 ((S2 + 1) % 1073741789)] _ := hY4.set 1 (.int .i64 ((S2 + 1) % 1073741789))
    have hD5 := hD4.oset w1.heap.size 1 (.int .i64 ((S2 + 1) % 1073741789)) (by omega)
    have hG5 := gb_set hG4 w1.heap.size 1 (.int .i64 ((S2 + 1) % 1073741789)) (by omega)
    have hq0 := Int.emod_nonneg (S2 + 1) (show (1073741789 : Int) ≠ 0 by decide)
    have hq1 := Int.emod_lt_of_pos (S2 + 1) (show (0 : Int) < 1073741789 by decide)
    obtain ⟨n0, n1⟩ := Bk.c2 hX5
    obtain ⟨g0, g1⟩ := hX5.f2
    have hX9 := Bk.store2 hX5 (.int .i64 R2) (.int .i64 ((S2 + 1) % 1073741789))
    have hD9 := (hD5.oset w.heap.size 0 (.int .i64 R2) (by omega)).oset w.heap.size 1 (.int .i64 ((S2 + 1) % 1073741789)) (by omega)
    have hG9 := gb_set (gb_set hG5 w.heap.size 0 (.int .i64 R2) (by omega)) w.heap.size 1 (.int .i64 ((S2 + 1) % 1073741789)) (by omega)
    obtain ⟨o0, o1⟩ := Bk.c2 hY5
    clear hX5 hD5 hG5 hY5
    go_wp2
    refine bodyPost_ret (results_cell_row (P := Try.prog) rfl _ _ w.heap.size 24 _ (0, 0) _ rfl hX9.held Try.underlying24 rfl (by kernel_rfl)) rfl ?_
    exact ⟨_, _, _, rfl, by omega, by omega, by omega, by omega, by omega, by omega, hD9, hG9⟩
  by_cases h1 : k = 1
  · have j0 : (k == 0) = false := by simpa using h0
    have j1 : (k == 1) = true := by simpa using h1
    clear h0 h1
    go_wp2_with fail
    refine (l91Element_any B a len cap zs _ _ (by omega) hD4).mono ?_
    rintro e5 w5 ⟨v5, q5, rfl, a5, b5, p5, r5, hD5', hG5'⟩
    have hY5' := hY4.gb hG5' (by omega)
    obtain ⟨i0, i1⟩ := Bk.c2 hY5'
    obtain ⟨f0, f1⟩ := hY5'.f2
    have hX5 := (hX4.gb hG5' (by omega)).oset w1.heap.size 0 (.int .i64 v5) (by omega)
    have hY5 : Bk w1.heap.size 24 #[.int .i64 v5, .int .i64 S2] _ := hY5'.set 0 (.int .i64 v5)
    have hD5 := hD5'.oset w1.heap.size 0 (.int .i64 v5) (by omega)
    have hG5 := gb_set (gtrans hG4 hG5') w1.heap.size 0 (.int .i64 v5) (by omega)
    clear hY5' hD5' hG5' hX4 hY4 hD4 hG4
    obtain ⟨n0, n1⟩ := Bk.c2 hX5
    obtain ⟨g0, g1⟩ := hX5.f2
    have hX9 := Bk.store2 hX5 (.int .i64 v5) (.int .i64 S2)
    have hD9 := (hD5.oset w.heap.size 0 (.int .i64 v5) (by omega)).oset w.heap.size 1 (.int .i64 S2) (by omega)
    have hG9 := gb_set (gb_set hG5 w.heap.size 0 (.int .i64 v5) (by omega)) w.heap.size 1 (.int .i64 S2) (by omega)
    obtain ⟨o0, o1⟩ := Bk.c2 hY5
    clear hX5 hD5 hG5 hY5
    go_wp2
    refine bodyPost_ret (results_cell_row (P := Try.prog) rfl _ _ w.heap.size 24 _ (0, 0) _ rfl hX9.held Try.underlying24 rfl (by kernel_rfl)) rfl ?_
    exact ⟨_, _, _, rfl, by omega, by omega, by omega, by omega, by omega, by omega, hD9, hG9⟩
  by_cases h2 : k = 2
  · have j0 : (k == 0) = false := by simpa using h0
    have j1 : (k == 1) = false := by simpa using h1
    have j2 : (k == 2) = true := by simpa using h2
    clear h0 h1 h2
    go_wp2_with fail
    refine (l91Scalar_any B a len cap zs _ _ (by omega) hD4).mono ?_
    rintro e5 w5 ⟨v5, q5, rfl, a5, b5, p5, r5, hD5', hG5'⟩
    have hY5' := hY4.gb hG5' (by omega)
    obtain ⟨i0, i1⟩ := Bk.c2 hY5'
    obtain ⟨f0, f1⟩ := hY5'.f2
    have hX5 := (hX4.gb hG5' (by omega)).oset w1.heap.size 1 (.int .i64 v5) (by omega)
    have hY5 : Bk w1.heap.size 24 #[.int .i64 R2, .int .i64 v5] _ := hY5'.set 1 (.int .i64 v5)
    have hD5 := hD5'.oset w1.heap.size 1 (.int .i64 v5) (by omega)
    have hG5 := gb_set (gtrans hG4 hG5') w1.heap.size 1 (.int .i64 v5) (by omega)
    clear hY5' hD5' hG5' hX4 hY4 hD4 hG4
    obtain ⟨n0, n1⟩ := Bk.c2 hX5
    obtain ⟨g0, g1⟩ := hX5.f2
    have hX9 := Bk.store2 hX5 (.int .i64 R2) (.int .i64 v5)
    have hD9 := (hD5.oset w.heap.size 0 (.int .i64 R2) (by omega)).oset w.heap.size 1 (.int .i64 v5) (by omega)
    have hG9 := gb_set (gb_set hG5 w.heap.size 0 (.int .i64 R2) (by omega)) w.heap.size 1 (.int .i64 v5) (by omega)
    obtain ⟨o0, o1⟩ := Bk.c2 hY5
    clear hX5 hD5 hG5 hY5
    go_wp2
    refine bodyPost_ret (results_cell_row (P := Try.prog) rfl _ _ w.heap.size 24 _ (0, 0) _ rfl hX9.held Try.underlying24 rfl (by kernel_rfl)) rfl ?_
    exact ⟨_, _, _, rfl, by omega, by omega, by omega, by omega, by omega, by omega, hD9, hG9⟩
  · have j0 : (k == 0) = false := by simpa using h0
    have j1 : (k == 1) = false := by simpa using h1
    have j2 : (k == 2) = false := by simpa using h2
    clear h0 h1 h2
    obtain ⟨n0, n1⟩ := Bk.c2 hX4
    obtain ⟨g0, g1⟩ := hX4.f2
    have hX9 := Bk.store2 hX4 (.int .i64 R2) (.int .i64 S2)
    have hD9 := (hD4.oset w.heap.size 0 (.int .i64 R2) (by omega)).oset w.heap.size 1 (.int .i64 S2) (by omega)
    have hG9 := gb_set (gb_set hG4 w.heap.size 0 (.int .i64 R2) (by omega)) w.heap.size 1 (.int .i64 S2) (by omega)
    obtain ⟨o0, o1⟩ := Bk.c2 hY4
    clear hX4 hD4 hG4 hY4
    go_wp2
    refine bodyPost_ret (results_cell_row (P := Try.prog) rfl _ _ w.heap.size 24 _ (0, 0) _ rfl hX9.held Try.underlying24 rfl (by kernel_rfl)) rfl ?_
    exact ⟨_, _, _, rfl, by omega, by omega, by omega, by omega, by omega, by omega, hD9, hG9⟩
end Go.Proofs.Ytpldoffjclmacab
