/-
  Drawing for chapter 5: what Verify is asked.
-/
import Derived.Test.YtnjgdbfiebaomaaDf
import Derived.Deep.RegionHeld3
namespace Go.Proofs.Ytnjgdbfiebaomaa
open Go.RowKit

/-- What drawing a key, a message and a signature does. -/
def VerR (B : Nat) (a : Option Addr) (len cap : Nat) (zs : List Int) (p : Nat) (c : Nat) (w : World) (e : Ending) (w' : World) : Prop :=
  ∃ (K R S : Int) (t : ByteArray) (q : Nat), e = .returned (.tuple #[.int .i64 K, .string t, .agg #[.int .i64 R, .int .i64 S]]) ∧ t.size ≤ 5 ∧ -1 ≤ R ∧ R ≤ 4294967296 ∧ -1 ≤ S ∧ S ≤ 4294967296 ∧ p ≤ q ∧ q ≤ p + c ∧ Dw B a len cap zs w' q ∧ w.grownBy w' (some B)
/-- Drawing a key, a message and a signature. -/
def DrawVer (w : World) (e : Ending) (w' : World) : Prop :=
  ∃ (K R S : Int) (t : ByteArray), e = .returned (.tuple #[.int .i64 K, .string t, .agg #[.int .i64 R, .int .i64 S]]) ∧ t.size ≤ 5 ∧ -1 ≤ R ∧ R ≤ 4294967296 ∧ -1 ≤ S ∧ S ≤ 4294967296 ∧ Below w.heap.size w w'
set_option maxRecDepth 100000 in
set_option maxHeartbeats 1600000 in
theorem l93Verify_any (B : Nat) (a : Option Addr) (len cap : Nat) (zs : List Int) (p : Nat) (w : World) (hp : p ≤ 600000000) (hD0 : Dw B a len cap zs w p) :
    Calls Try.prog 46 #[.pointer (some ⟨B, 0, none⟩)] w (VerR B a len cap zs p 50 w) := by
  have hBlt := hD0.lt
  have hX0 : Bk w.heap.size 31 #[.int .i64 0, .int .i64 0] (w.alloc (.cells #[.int .i64 0, .int .i64 0] 31 (0, 0))) := Bk.new _ _ _
  have hE0 := hD0.alloc (.cells #[.int .i64 0, .int .i64 0] 31 (0, 0))
  have hG0 : w.grownBy (w.alloc (.cells #[.int .i64 0, .int .i64 0] 31 (0, 0))) (some B) := World.grownBy_alloc _ _ _
  go_enter Try.func46, Try.ntmps46
  go_wp2_with fail
  refine (pick_any B a len cap zs _ 200 _ (by omega) (by omega) hE0).mono ?_
  rintro x1 w1 ⟨v1, rfl, a1, b1, hD1, hG1⟩
  have hX := hX0.gb hG1 (by omega)
  replace hG1 := gtrans hG0 hG1
  clear hX0 hE0 hG0 hD0
  go_wp2_with fail
  refine (l91Word_any B a len cap zs _ _ (by omega) hD1).mono ?_
  rintro x2 w2 ⟨t, q2, rfl, ht, p2, r2, hD2, hG2⟩
  replace hX := hX.gb hG2 (by omega)
  replace hG2 := gtrans hG1 hG2
  clear hD1 hG1
  go_wp2_with fail
  refine (l91Sig_any B a len cap zs _ (1 + v1) t _ (by omega) hD2 (by omega) (by omega) (by omega)).mono ?_
  rintro x3 w3 ⟨R, S, q3, rfl, R0, R1, S0, S1, p3, r3, hD3, hG3⟩
  have hlt3 : w.heap.size < w3.heap.size := (hX.gb hG3 (by omega)).lt
  replace hX := (hX.gb hG3 (by omega)).alloc (.cells #[.int .i64 R, .int .i64 S] 31 (0, 0))
  replace hG3 := gtrans hG2 hG3
  have hY : Bk w3.heap.size 31 #[.int .i64 R, .int .i64 S] (w3.alloc (.cells #[.int .i64 R, .int .i64 S] 31 (0, 0))) := Bk.new _ _ _
  replace hD3 := hD3.alloc (.cells #[.int .i64 R, .int .i64 S] 31 (0, 0))
  replace hG3 := gtrans hG3 (World.grownBy_alloc w3 (.cells #[.int .i64 R, .int .i64 S] 31 (0, 0)) (some B))
  clear hD2 hG2
  go_wp2_with fail
  refine (pick_any B a len cap zs _ 6 _ (by omega) (by omega) hD3).mono ?_
  rintro x4 w4 ⟨v4, rfl, a4, b4, hD4, hG4⟩
  replace hX := hX.gb hG4 (by omega)
  replace hY := hY.gb hG4 (by omega)
  replace hG4 := gtrans hG3 hG4
  clear hD3 hG3
  obtain ⟨K, HK⟩ : ∃ K, Hid (Gr.pw 2147483579 4 (1 + v1) = K) := ⟨_, Lib.hid rfl⟩
  by_cases h0 : v4 = 0
  · have h1 : (v4 == 0) = true := by simpa using h0
    clear h0
    go_wp2_with fail
    refine (l91Word_any B a len cap zs _ _ (by omega) hD4).mono ?_
    rintro x5 w5 ⟨t', q5, rfl, ht', p5, r5, hD5, hG5⟩
    replace hX := hX.gb hG5 (by omega)
    replace hY := hY.gb hG5 (by omega)
    replace hG5 := gtrans hG4 hG5
    clear hD4 hG4
    go_wp2_with fail
    refine (l4Base_any (1 + v1) _ (by omega)).mono ?_
    rw [HK.out]
    rintro x6 w6 ⟨rfl, rfl⟩
    go_wp2_with fail
    refine (pick_any B a len cap zs _ 10 _ (by omega) (by omega) hD5).mono ?_
    rintro x7 w7 ⟨v7, rfl, a7, b7, hD7, hG7⟩
    replace hX := hX.gb hG7 (by omega)
    replace hY := hY.gb hG7 (by omega)
    replace hG7 := gtrans hG5 hG7
    clear hD5 hG5
    by_cases k0 : v7 = 0
    · have k1 : (v7 == 0) = true := by simpa using k0
      clear k0
      go_wp2_with fail
      refine (l91Key_any B a len cap zs _ _ (by omega) hD7).mono ?_
      rintro x8 w8 ⟨v8, q8, rfl, a8, b8, p8, r8, hD8, hG8⟩
      replace hX := hX.gb hG8 (by omega)
      replace hY := hY.gb hG8 (by omega)
      replace hG8 := gtrans hG7 hG8
      clear hD7 hG7
      obtain ⟨n0, n1⟩ := Bk.c2 hX
      obtain ⟨o0, o1⟩ := Bk.c2 hY
      obtain ⟨g0, g1⟩ := hX.f2
      have hX9 := Bk.store2 hX (.int .i64 R) (.int .i64 S)
      have hD9 := (hD8.oset w.heap.size 0 (.int .i64 R) (by omega)).oset w.heap.size 1 (.int .i64 S) (by omega)
      have hG9 := gb_set (gb_set hG8 w.heap.size 0 (.int .i64 R) (by omega)) w.heap.size 1 (.int .i64 S) (by omega)
      clear hX hY hD8 hG8
      go_wp2
      first | go_region | skip
      go_wp2
      refine bodyPost_ret (results_ttc (P := Try.prog) rfl _ _ w.heap.size 31 _ (0, 0) _ rfl hX9.held Try.underlying31 rfl (by kernel_rfl)) rfl ?_
      exact ⟨_, _, _, _, _, rfl, by omega, by omega, by omega, by omega, by omega, by omega, by omega, hD9.drewN 1, grownBy_drew hG9⟩
    · have k1 : (v7 == 0) = false := by simpa using k0
      clear k0
      obtain ⟨n0, n1⟩ := Bk.c2 hX
      obtain ⟨o0, o1⟩ := Bk.c2 hY
      obtain ⟨g0, g1⟩ := hX.f2
      have hX9 := Bk.store2 hX (.int .i64 R) (.int .i64 S)
      have hD9 := (hD7.oset w.heap.size 0 (.int .i64 R) (by omega)).oset w.heap.size 1 (.int .i64 S) (by omega)
      have hG9 := gb_set (gb_set hG7 w.heap.size 0 (.int .i64 R) (by omega)) w.heap.size 1 (.int .i64 S) (by omega)
      clear hX hY hD7 hG7
      go_wp2
      first | go_region | skip
      go_wp2
      refine bodyPost_ret (results_ttc (P := Try.prog) rfl _ _ w.heap.size 31 _ (0, 0) _ rfl hX9.held Try.underlying31 rfl (by kernel_rfl)) rfl ?_
      exact ⟨_, _, _, _, _, rfl, by omega, by omega, by omega, by omega, by omega, by omega, by omega, hD9.drewN 1, grownBy_drew hG9⟩
  · have h1 : (v4 == 0) = false := by simpa using h0
    clear h0
    go_wp2_with fail
    refine (l4Base_any (1 + v1) _ (by omega)).mono ?_
    rw [HK.out]
    rintro x6 w6 ⟨rfl, rfl⟩
    go_wp2_with fail
    refine (pick_any B a len cap zs _ 10 _ (by omega) (by omega) hD4).mono ?_
    rintro x7 w7 ⟨v7, rfl, a7, b7, hD7, hG7⟩
    replace hX := hX.gb hG7 (by omega)
    replace hY := hY.gb hG7 (by omega)
    replace hG7 := gtrans hG4 hG7
    clear hD4 hG4
    by_cases k0 : v7 = 0
    · have k1 : (v7 == 0) = true := by simpa using k0
      clear k0
      go_wp2_with fail
      refine (l91Key_any B a len cap zs _ _ (by omega) hD7).mono ?_
      rintro x8 w8 ⟨v8, q8, rfl, a8, b8, p8, r8, hD8, hG8⟩
      replace hX := hX.gb hG8 (by omega)
      replace hY := hY.gb hG8 (by omega)
      replace hG8 := gtrans hG7 hG8
      clear hD7 hG7
      obtain ⟨n0, n1⟩ := Bk.c2 hX
      obtain ⟨o0, o1⟩ := Bk.c2 hY
      obtain ⟨g0, g1⟩ := hX.f2
      have hX9 := Bk.store2 hX (.int .i64 R) (.int .i64 S)
      have hD9 := (hD8.oset w.heap.size 0 (.int .i64 R) (by omega)).oset w.heap.size 1 (.int .i64 S) (by omega)
      have hG9 := gb_set (gb_set hG8 w.heap.size 0 (.int .i64 R) (by omega)) w.heap.size 1 (.int .i64 S) (by omega)
      clear hX hY hD8 hG8
      go_wp2
      first | go_region | skip
      go_wp2
      refine bodyPost_ret (results_ttc (P := Try.prog) rfl _ _ w.heap.size 31 _ (0, 0) _ rfl hX9.held Try.underlying31 rfl (by kernel_rfl)) rfl ?_
      exact ⟨_, _, _, _, _, rfl, by omega, by omega, by omega, by omega, by omega, by omega, by omega, hD9.drewN 1, grownBy_drew hG9⟩
    · have k1 : (v7 == 0) = false := by simpa using k0
      clear k0
      obtain ⟨n0, n1⟩ := Bk.c2 hX
      obtain ⟨o0, o1⟩ := Bk.c2 hY
      obtain ⟨g0, g1⟩ := hX.f2
      have hX9 := Bk.store2 hX (.int .i64 R) (.int .i64 S)
      have hD9 := (hD7.oset w.heap.size 0 (.int .i64 R) (by omega)).oset w.heap.size 1 (.int .i64 S) (by omega)
      have hG9 := gb_set (gb_set hG7 w.heap.size 0 (.int .i64 R) (by omega)) w.heap.size 1 (.int .i64 S) (by omega)
      clear hX hY hD7 hG7
      go_wp2
      first | go_region | skip
      go_wp2
      refine bodyPost_ret (results_ttc (P := Try.prog) rfl _ _ w.heap.size 31 _ (0, 0) _ rfl hX9.held Try.underlying31 rfl (by kernel_rfl)) rfl ?_
      exact ⟨_, _, _, _, _, rfl, by omega, by omega, by omega, by omega, by omega, by omega, by omega, hD9.drewN 1, grownBy_drew hG9⟩
set_option maxRecDepth 100000 in
set_option maxHeartbeats 1600000 in
theorem drawVerify_any (a : Option Addr) (len cap : Nat) (zs : List Int) (w : World) (hr : IsRow .u8 w a len cap zs) (hlm : len ≤ 1048576) :
    Calls Try.prog 18 #[.slice a len cap] w (DrawVer w) := by
  have hX0 : Bk w.heap.size 31 #[.int .i64 0, .int .i64 0] (w.alloc (.cells #[.int .i64 0, .int .i64 0] 31 (0, 0))) := Bk.new _ _ _
  have hc0 := below_alloc (Below.refl w.heap.size w) (.cells #[.int .i64 0, .int .i64 0] 31 (0, 0))
  go_enter Try.func18, Try.ntmps18
  go_wp2_with fail
  have hr' := hr.below hc0
  refine (l6Open_any a len cap zs _ hr' hlm).mono ?_
  rintro e w0 ⟨B, a', l', c', zs', rfl, hB, hD0, hb0⟩
  clear hr hr'
  have hX1 := hX0.below hb0
  have hc1 := below_after hc0 hb0
  have hlt : w.heap.size < B := by simp at hB; omega
  clear hX0 hc0 hb0
  go_wp2_with fail
  refine (l93Verify_any B a' l' c' zs' _ _ (by omega) hD0).mono ?_
  rintro e w1 ⟨K, R, S, t, q1, rfl, ht, R0, R1, S0, S1, p1, r1, hD1, hG1⟩
  have hX2 := hX1.gb hG1 (by omega)
  have hc2 := Below.grown hc1 hG1 hc1.size (fun j hj => by cases hj; omega)
  obtain ⟨n0, n1⟩ := Bk.c2 hX2
  obtain ⟨g0, g1⟩ := hX2.f2
  have hX9 := Bk.store2 hX2 (.int .i64 R) (.int .i64 S)
  have hc9 := below_store2 hc2 w.heap.size (by omega) (.int .i64 R) (.int .i64 S)
  clear hX1 hX2 hc1 hc2 hD0 hD1 hG1
  go_wp2
  refine bodyPost_ret (results_ttc (P := Try.prog) rfl _ _ w.heap.size 31 _ (0, 0) _ rfl hX9.held Try.underlying31 rfl (by kernel_rfl)) rfl ?_
  exact ⟨_, _, _, _, rfl, ht, R0, R1, S0, S1, hc9⟩
end Go.Proofs.Ytnjgdbfiebaomaa
