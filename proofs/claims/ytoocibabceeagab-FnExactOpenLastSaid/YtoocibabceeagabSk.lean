import Derived.Test.YtoocibabceeagabSg
import Derived.Test.YtoocibabceeagabGk
import Derived.Test.YtoocibabceeagabBk
import Derived.Deep.RegionHeld3
import Derived.Deep.DeepMust
import Derived.Laws.StructEq
/-
  Contracts of chapter 5: sums and differences of residues, challenges, nonces, signing; of the program and of the model.
-/
namespace Go.Proofs.Ytoocibabceeagab
open Go.RowKit

set_option maxRecDepth 100000 in
set_option maxHeartbeats 800000 in
theorem plus_any (a b m : Int) (w : World) (hm : 1 < m) (hm2 : m ≤ 2147483648) (ha : 0 ≤ a) (ha2 : a < m) (hb : 0 ≤ b) (hb2 : b < m) :
    Calls Try.prog 39 #[.agg #[.int .i64 a, .int .i64 m], .agg #[.int .i64 b, .int .i64 m]] w fun x w' => x = .returned (.agg #[.int .i64 ((a + b) % m), .int .i64 m]) ∧ Below w.heap.size w w' := by
  go_enter Try.func39, Try.ntmps39
  go_wp2
  go_region
  go_wp2
  refine bodyPost_ret (results_cell_row (P := Try.prog) rfl _ _ (w.heap.size + 1 + 1) 55 #[.int .i64 ((a + b) % m), .int .i64 m] (0, 0) _ rfl (heap_new3 _ _ _ _) Try.underlying55 rfl (by kernel_rfl)) rfl ?_
  exact ⟨rfl, (below_alloc (below_alloc (below_alloc (Below.refl _ _) _) _) _).drew⟩
set_option maxRecDepth 100000 in
set_option maxHeartbeats 800000 in
theorem basePower_any (e m : Int) (w : World) (he2 : e ≤ 9223372036854775807) :
    Calls Try.prog 37 #[.agg #[.int .i64 e, .int .i64 m]] w fun x w' => x = .returned (.agg #[.int .i64 (Sg.gp e), .int .i64 2147483579]) ∧ Below w.heap.size w w' := by
  have HG : Hid (Gr.pw 2147483579 4 e = Sg.gp e) := Lib.hid rfl
  have HX : ∀ A, Bx (w.heap.size + 1) 0 0 ((w.alloc A).alloc (.cells #[.int .i64 0, .int .i64 0] 55 (0, 0))) := fun A => ⟨heap_newB _ _ _⟩
  go_enter Try.func37, Try.ntmps37
  go_wp2_with fail
  refine (power_any 4 2147483579 e _ (by omega) (by omega) (by omega) (by omega) he2).mono ?_
  rw [HG.out]
  rintro e1 w1 ⟨rfl, hb1⟩
  have HX1 := (HX _).below hb1
  have hb := below_after (below_alloc (below_alloc (Below.refl _ _) _) _) hb1
  clear HX hb1
  have x0 := HX1.c0
  have x1 := HX1.c1
  have g0 := HX1.f0 0
  have g1 := HX1.f0 1
  have HX3 := HX1.store (Sg.gp e) 2147483579
  have hb3 := below_store hb (w.heap.size + 1) (by omega) (.int .i64 (Sg.gp e)) (.int .i64 2147483579)
  clear HX1 hb
  go_wp2
  refine bodyPost_ret (results_cell_row (P := Try.prog) rfl _ _ (w.heap.size + 1) 55 _ (0, 0) _ rfl HX3.held Try.underlying55 rfl (by kernel_rfl)) rfl ?_
  exact ⟨rfl, hb3⟩
/-! Strings -/
theorem Sg.a1 (r : Int) (W : World) : (Op.stringOp .add (⟨#[99, 104, 97, 108, 108, 101, 110, 103, 101]⟩ : ByteArray) (Dg.bytes r)).run Try.prog W = .ok (.string (Sg.cw ++ Dg.bytes r)) W :=
  run_string_add_sum (P := Try.prog) W _ _ (by rw [Dg.bytes_size]; decide)
theorem Sg.a2 (r k : Int) (W : World) : (Op.stringOp .add (Sg.cw ++ Dg.bytes r) (Dg.bytes k)).run Try.prog W = .ok (.string (Sg.cw ++ Dg.bytes r ++ Dg.bytes k)) W :=
  run_string_add_sum (P := Try.prog) W _ _ (by rw [ByteArray.size_append, Dg.bytes_size, Dg.bytes_size]; decide)
theorem Sg.a3 (r k : Int) (t : ByteArray) (ht : t.size ≤ 1048576) (W : World) : (Op.stringOp .add (Sg.cw ++ Dg.bytes r ++ Dg.bytes k) t).run Try.prog W = .ok (.string (Sg.chs r k t)) W :=
  run_string_add_sum (P := Try.prog) W _ _ (by rw [ByteArray.size_append, ByteArray.size_append, Dg.bytes_size, Dg.bytes_size, show Sg.cw.size = 9 from rfl]; omega)
theorem Sg.chs_size (r k : Int) (t : ByteArray) (ht : t.size ≤ 1048576) : (Sg.chs r k t).size ≤ 9223372036854775807 := by
  unfold Sg.chs
  rw [ByteArray.size_append, ByteArray.size_append, ByteArray.size_append, Dg.bytes_size, Dg.bytes_size, show Sg.cw.size = 9 from rfl]
  omega
theorem Sg.b1 (s : Int) (W : World) : (Op.stringOp .add (⟨#[110, 111, 110, 99, 101]⟩ : ByteArray) (Dg.bytes s)).run Try.prog W = .ok (.string (Sg.nw ++ Dg.bytes s)) W :=
  run_string_add_sum (P := Try.prog) W _ _ (by rw [Dg.bytes_size]; decide)
theorem Sg.b2 (s : Int) (t : ByteArray) (ht : t.size ≤ 1048576) (W : World) : (Op.stringOp .add (Sg.nw ++ Dg.bytes s) t).run Try.prog W = .ok (.string (Sg.nos s t)) W :=
  run_string_add_sum (P := Try.prog) W _ _ (by rw [ByteArray.size_append, Dg.bytes_size, show Sg.nw.size = 5 from rfl]; omega)
theorem Sg.nos_size (s : Int) (t : ByteArray) (ht : t.size ≤ 1048576) : (Sg.nos s t).size ≤ 9223372036854775807 := by
  unfold Sg.nos
  rw [ByteArray.size_append, ByteArray.size_append, Dg.bytes_size, show Sg.nw.size = 5 from rfl]
  omega
set_option maxRecDepth 100000 in
set_option maxHeartbeats 800000 in
theorem l5Challenge_any (r k : Int) (t : ByteArray) (w : World) (r0 : 0 ≤ r) (r1 : r ≤ 4294967295) (k0 : 0 ≤ k) (k1 : k ≤ 4294967295) (ht : t.size ≤ 1048576) :
    Calls Try.prog 34 #[.int .i64 r, .int .i64 k, .string t] w fun e w' => e = .returned (.int .i64 (Sg.ch r k t)) ∧ Below w.heap.size w w' := by
  have s1 := Sg.a1 r
  have s2 := Sg.a2 r k
  have s3 := Sg.a3 r k t ht
  have hsz := Sg.chs_size r k t ht
  have HC : Hid (Sg.ch r k t = Dg.of (Sg.chs r k t) % 1073741789) := Lib.hid rfl
  obtain ⟨N, HN⟩ : ∃ N, Hid (Sg.chs r k t = N) := ⟨_, Lib.hid rfl⟩
  rw [HN.out] at s3 hsz HC
  obtain ⟨d0, d1⟩ := Dg.of_bd N
  obtain ⟨D, HD⟩ : ∃ D, Hid (Dg.of N = D) := ⟨_, Lib.hid rfl⟩
  rw [HD.out] at d0 d1 HC
  rw [HC.out]
  go_enter Try.func34, Try.ntmps34
  go_wp2_with fail
  refine (l2Bytes_any r _ r0 r1).mono ?_
  rintro e1 w1 ⟨rfl, hb1⟩
  go_wp2_with fail
  refine (l2Bytes_any k _ k0 k1).mono ?_
  rintro e2 w2 ⟨rfl, hb2⟩
  replace hb2 := below_after hb1 hb2
  clear hb1
  go_wp2_with fail
  refine (specDigest_any N _ hsz).mono ?_
  rw [HD.out]
  rintro e3 w3 ⟨rfl, hb3⟩
  replace hb3 := below_after hb2 hb3
  clear hb2
  go_wp2
  go_ret
  exact ⟨rfl, hb3⟩
set_option maxRecDepth 100000 in
set_option maxHeartbeats 800000 in
theorem implChallenge_yes (r k : Int) (t : ByteArray) (w : World) (hr : Gr.ok r = true) (hk : Gr.ok k = true) (ht : t.size ≤ 1048576) :
    Calls Try.prog 38 #[.int .i64 r, .int .i64 k, .string t] w fun e w' => e = .returned (.int .i64 (Sg.ch r k t)) ∧ Below w.heap.size w w' := by
  obtain ⟨r0, r1⟩ := Gr.E_bd ((Gr.ok_iff r).mp hr)
  obtain ⟨k0, k1⟩ := Gr.E_bd ((Gr.ok_iff k).mp hk)
  have HR := Lib.hid hr
  have HK := Lib.hid hk
  clear hr hk
  have s1 := Sg.a1 r
  have s2 := Sg.a2 r k
  have s3 := Sg.a3 r k t ht
  have hsz := Sg.chs_size r k t ht
  have HC : Hid (Sg.ch r k t = Dg.of (Sg.chs r k t) % 1073741789) := Lib.hid rfl
  obtain ⟨N, HN⟩ : ∃ N, Hid (Sg.chs r k t = N) := ⟨_, Lib.hid rfl⟩
  rw [HN.out] at s3 hsz HC
  obtain ⟨d0, d1⟩ := Dg.of_bd N
  obtain ⟨D, HD⟩ : ∃ D, Hid (Dg.of N = D) := ⟨_, Lib.hid rfl⟩
  rw [HD.out] at d0 d1 HC
  rw [HC.out]
  go_enter Try.func38, Try.ntmps38
  go_wp2_with fail
  refine (implGroupOk_any r _).mono ?_
  rw [HR.out]
  rintro e1 w1 ⟨rfl, hb1⟩
  go_wp2_with fail
  refine (implGroupOk_any k _).mono ?_
  rw [HK.out]
  rintro e2 w2 ⟨rfl, hb2⟩
  replace hb2 := below_after hb1 hb2
  clear hb1
  go_wp2_with fail
  refine (implDigestBytes_ok r _ (by omega) (by omega)).mono ?_
  rintro e3 w3 ⟨rfl, hb3⟩
  replace hb3 := below_after hb2 hb3
  clear hb2
  go_wp2_with fail
  refine (implDigestBytes_ok k _ (by omega) (by omega)).mono ?_
  rintro e4 w4 ⟨rfl, hb4⟩
  replace hb4 := below_after hb3 hb4
  clear hb3
  go_wp2_with fail
  refine (implDigest_any N _ hsz).mono ?_
  rw [HD.out]
  rintro e5 w5 ⟨rfl, hb5⟩
  replace hb5 := below_after hb4 hb5
  clear hb4
  go_wp2
  go_ret
  exact ⟨rfl, hb5⟩
set_option maxRecDepth 100000 in
set_option maxHeartbeats 800000 in
theorem implChallenge_any (r k : Int) (t : ByteArray) (w : World) (ht : t.size ≤ 1048576) :
    Calls Try.prog 38 #[.int .i64 r, .int .i64 k, .string t] w fun e w' => e = .returned (.int .i64 (Sg.chal r k t)) ∧ Below w.heap.size w w' := by
  by_cases hr : Gr.ok r = true
  · by_cases hk : Gr.ok k = true
    · unfold Sg.chal
      rw [hr, hk, Bool.true_and, if_pos rfl]
      exact implChallenge_yes r k t w hr hk ht
    · have HK : Hid (Gr.ok k = false) := Lib.hid (by simpa using hk)
      have HC : Hid (Sg.chal r k t = -1) := by unfold Sg.chal; rw [HK.out, Bool.and_false, if_neg (by simp)]; exact rfl
      have HR := Lib.hid hr
      rw [HC.out]
      clear hr hk
      go_enter Try.func38, Try.ntmps38
      go_wp2_with fail
      refine (implGroupOk_any r _).mono ?_
      rw [HR.out]
      rintro e1 w1 ⟨rfl, hb1⟩
      go_wp2_with fail
      refine (implGroupOk_any k _).mono ?_
      rw [HK.out]
      rintro e2 w2 ⟨rfl, hb2⟩
      replace hb2 := below_after hb1 hb2
      clear hb1
      go_wp2
      go_ret
      exact ⟨rfl, hb2⟩
  · have HR : Hid (Gr.ok r = false) := Lib.hid (by simpa using hr)
    have HC : Hid (Sg.chal r k t = -1) := by unfold Sg.chal; rw [HR.out, Bool.false_and, if_neg (by simp)]; exact rfl
    rw [HC.out]
    clear hr
    go_enter Try.func38, Try.ntmps38
    go_wp2_with fail
    refine (implGroupOk_any r _).mono ?_
    rw [HR.out]
    rintro e1 w1 ⟨rfl, hb1⟩
    go_wp2
    go_ret
    exact ⟨rfl, hb1⟩
set_option maxRecDepth 100000 in
set_option maxHeartbeats 800000 in
theorem nonceOf_any (s : Int) (t : ByteArray) (w : World) (s0 : 0 ≤ s) (s1 : s ≤ 4294967295) (ht : t.size ≤ 1048576) :
    Calls Try.prog 36 #[.int .i64 s, .string t] w fun e w' => e = .returned (.agg #[.int .i64 (Sg.no s t), .int .i64 1073741789]) ∧ Below w.heap.size w w' := by
  have t1 := Sg.b1 s
  have t2 := Sg.b2 s t ht
  have hsz := Sg.nos_size s t ht
  have HC : Hid (Sg.no s t = 1 + Dg.of (Sg.nos s t) % 1073741788) := Lib.hid rfl
  obtain ⟨N, HN⟩ : ∃ N, Hid (Sg.nos s t = N) := ⟨_, Lib.hid rfl⟩
  rw [HN.out] at t2 hsz HC
  obtain ⟨d0, d1⟩ := Dg.of_bd N
  obtain ⟨D, HD⟩ : ∃ D, Hid (Dg.of N = D) := ⟨_, Lib.hid rfl⟩
  rw [HD.out] at d0 d1 HC
  rw [HC.out]
  have HX : Bx w.heap.size 0 0 (w.alloc (.cells #[.int .i64 0, .int .i64 0] 55 (0, 0))) := ⟨heap_alloc_new _ _⟩
  go_enter Try.func36, Try.ntmps36
  go_wp2_with fail
  refine (implDigestBytes_ok s _ s0 s1).mono ?_
  rintro e1 w1 ⟨rfl, hb1⟩
  have HX1 := HX.below hb1
  have hc1 := below_after (below_alloc (Below.refl _ _) _) hb1
  clear HX hb1
  go_wp2_with fail
  refine (implDigest_any N _ hsz).mono ?_
  rw [HD.out]
  rintro e2 w2 ⟨rfl, hb2⟩
  have HX2 := HX1.below hb2
  have hc2 := below_after hc1 hb2
  clear HX1 hb2 hc1
  have x0 := HX2.c0
  have x1 := HX2.c1
  have g0 := HX2.f0 0
  have g1 := HX2.f0 1
  have HX3 := HX2.store (1 + D % 1073741788) 1073741789
  have hb3 := below_store hc2 w.heap.size (by omega) (.int .i64 (1 + D % 1073741788)) (.int .i64 1073741789)
  clear HX2 hc2
  go_wp2
  refine bodyPost_ret (results_cell_row (P := Try.prog) rfl _ _ w.heap.size 55 _ (0, 0) _ rfl HX3.held Try.underlying55 rfl (by kernel_rfl)) rfl ?_
  exact ⟨rfl, hb3⟩
set_option maxRecDepth 100000 in
set_option maxHeartbeats 800000 in
theorem l5Nonce_any (s : Int) (t : ByteArray) (w : World) (s0 : 0 ≤ s) (s1 : s ≤ 4294967295) (ht : t.size ≤ 1048576) :
    Calls Try.prog 32 #[.int .i64 s, .string t] w fun e w' => e = .returned (.int .i64 (Sg.no s t)) ∧ Below w.heap.size w w' := by
  have t1 := Sg.b1 s
  have t2 := Sg.b2 s t ht
  have hsz := Sg.nos_size s t ht
  have HC : Hid (Sg.no s t = 1 + Dg.of (Sg.nos s t) % 1073741788) := Lib.hid rfl
  obtain ⟨N, HN⟩ : ∃ N, Hid (Sg.nos s t = N) := ⟨_, Lib.hid rfl⟩
  rw [HN.out] at t2 hsz HC
  obtain ⟨d0, d1⟩ := Dg.of_bd N
  obtain ⟨D, HD⟩ : ∃ D, Hid (Dg.of N = D) := ⟨_, Lib.hid rfl⟩
  rw [HD.out] at d0 d1 HC
  rw [HC.out]
  go_enter Try.func32, Try.ntmps32
  go_wp2_with fail
  refine (l2Bytes_any s _ s0 s1).mono ?_
  rintro e1 w1 ⟨rfl, hb1⟩
  go_wp2_with fail
  refine (specDigest_any N _ hsz).mono ?_
  rw [HD.out]
  rintro e2 w2 ⟨rfl, hb2⟩
  replace hb2 := below_after hb1 hb2
  clear hb1
  go_wp2
  go_ret
  exact ⟨rfl, hb2⟩
end Go.Proofs.Ytoocibabceeagab

/-
  Contracts of chapter 5: equations, Verify; of the program.
-/
namespace Go.Proofs.Ytoocibabceeagab
open Go.RowKit

/-- The cells of an equation. -/
abbrev Sg.eqv (key e r s : Int) : Array Value := #[.int .i64 s, .int .i64 1073741789, .int .i64 r, .int .i64 2147483579, .int .i64 key, .int .i64 2147483579, .int .i64 e, .int .i64 1073741789]
abbrev Sg.eq0 : Array Value := #[.int .i64 0, .int .i64 0, .int .i64 0, .int .i64 0, .int .i64 0, .int .i64 0, .int .i64 0, .int .i64 0]
theorem Sg.win_of {key r s : Int} (h : Sg.shape key r s = true) : Gr.kok key = true ∧ Gr.ok r = true ∧ Sg.win s = true := by
  unfold Sg.shape at h
  rw [Bool.and_eq_true, Bool.and_eq_true] at h
  exact ⟨h.1.1, h.1.2, h.2⟩
theorem Sg.kok_ok {key : Int} (h : Gr.kok key = true) : Gr.ok key = true := by unfold Gr.kok at h; rw [Bool.and_eq_true] at h; exact h.1
/-- The right side's power: the term of one equation with a weight. -/
def Sg.tm (key e r wgt : Int) : Int := Gr.pw 2147483579 r wgt * Gr.pw 2147483579 key (wgt * e % 1073741789) % 2147483579
theorem Sg.tm_one {key e r : Int} (r0 : 0 ≤ r) (r1 : r < 2147483579) (e0 : 0 ≤ e) (e1 : e < 1073741789) : Sg.tm key e r 1 = Sg.rt key e r := by
  unfold Sg.tm Sg.rt
  rw [Gr.pw_one _ r r0 r1, Int.one_mul, Int.emod_eq_of_lt e0 e1]
theorem Sg.tm_bd (key e r wgt : Int) : 0 ≤ Sg.tm key e r wgt ∧ Sg.tm key e r wgt < 2147483579 := ⟨Int.emod_nonneg _ (by decide), Int.emod_lt_of_pos _ (by decide)⟩
theorem eq_residue (a b c d : Int) (w : World) : (Op.equalIn 10000 55 (.agg #[.int .i64 a, .int .i64 b]) (.agg #[.int .i64 c, .int .i64 d])).run Try.prog w = .ok (a == c && b == d) w := by
  have u3 := Try.underlying3
  have a3 := Try.isAgg3
  have z3 := Try.sizeOf3
  have hS : Try.prog.underlying 55 = some (.struct (Try.prog.fieldsOf 55)) := by kernel_rfl
  rw [show (10000 : Nat) = 9999 + 1 from rfl, run_equalIn_agg w 9999 55 _ _ hS (by kernel_rfl)]
  simp only [Program.fieldsOf, Try.underlying55]
  go_simp
  by_cases h1 : a = c <;> by_cases h2 : b = d <;> simp [h1, h2]
theorem eq_sig (a b c d : Int) (w : World) : (Op.equalIn 10000 44 (.agg #[.int .i64 a, .int .i64 b]) (.agg #[.int .i64 c, .int .i64 d])).run Try.prog w = .ok (a == c && b == d) w := by
  have u3 := Try.underlying3
  have a3 := Try.isAgg3
  have z3 := Try.sizeOf3
  have hS : Try.prog.underlying 44 = some (.struct (Try.prog.fieldsOf 44)) := by kernel_rfl
  rw [show (10000 : Nat) = 9999 + 1 from rfl, run_equalIn_agg w 9999 44 _ _ hS (by kernel_rfl)]
  simp only [Program.fieldsOf, Try.underlying44]
  go_simp
  by_cases h1 : a = c <;> by_cases h2 : b = d <;> simp [h1, h2]
theorem noGuard_residue : Try.prog.eqGuardType Try.prog.depth 55 = false := by kernel_rfl
theorem noGuard_sig : Try.prog.eqGuardType Try.prog.depth 44 = false := by kernel_rfl
end Go.Proofs.Ytoocibabceeagab

/-
  Contracts of chapter 5: Sign, Verify; of the program and of the model.
-/
namespace Go.Proofs.Ytoocibabceeagab
open Go.RowKit

/-- What Sign answers. -/
def Sg.o0 (secret : Int) (t : ByteArray) : Int := if Gr.sok secret then Sg.sr secret t else 0
def Sg.o1 (secret : Int) (t : ByteArray) : Int := if Gr.sok secret then Sg.ss secret t else 0
theorem Sg.o_yes {secret : Int} {t : ByteArray} (h : Gr.sok secret = true) : Sg.o0 secret t = Sg.sr secret t ∧ Sg.o1 secret t = Sg.ss secret t := by
  unfold Sg.o0 Sg.o1
  rw [h, if_pos rfl, if_pos rfl]
  exact ⟨rfl, rfl⟩
theorem Sg.o_no {secret : Int} {t : ByteArray} (h : Gr.sok secret = false) : Sg.o0 secret t = 0 ∧ Sg.o1 secret t = 0 := by
  unfold Sg.o0 Sg.o1
  rw [h, if_neg (by simp), if_neg (by simp)]
  exact ⟨rfl, rfl⟩
theorem Sg.sc_bd (secret : Int) (t : ByteArray) : 0 ≤ Sg.sc secret t ∧ Sg.sc secret t < 1073741789 := Sg.ch_bd _ _ _
set_option maxRecDepth 100000 in
set_option maxHeartbeats 1600000 in
theorem l5Sign_any (x : Int) (t : ByteArray) (w : World) (x0 : 1 ≤ x) (x1 : x ≤ 1073741788) (ht : t.size ≤ 1048576) :
    Calls Try.prog 28 #[.int .i64 x, .string t] w fun e w' => e = .returned (.agg #[.int .i64 (Sg.sr x t), .int .i64 (Sg.ss x t)]) ∧ Below w.heap.size w w' := by
  obtain ⟨n0, n1⟩ := Sg.no_bd x t
  obtain ⟨c0, c1⟩ := Sg.sc_bd x t
  have hcon1 := fun W => l5Nonce_any x t W (by omega) (by omega) ht
  have hcon4 := fun W => l5Challenge_any (Sg.sr x t) (Sg.gp x) t W (Sg.gp_bd _).1 (by have := (Sg.gp_bd (Sg.no x t)).2; unfold Sg.sr; omega) (Sg.gp_bd _).1 (by have := (Sg.gp_bd x).2; omega) ht
  have HC : Hid (Sg.ch (Sg.sr x t) (Sg.gp x) t = Sg.sc x t) := Lib.hid rfl
  have HS : Hid (Sg.ss x t = (Sg.no x t + Sg.sc x t * x) % 1073741789) := Lib.hid rfl
  have HR : Hid (Gr.pw 2147483579 4 (Sg.no x t) = Sg.sr x t) := Lib.hid rfl
  have HK : Hid (Gr.pw 2147483579 4 x = Sg.gp x) := Lib.hid rfl
  rw [HC.out] at hcon4
  obtain ⟨N, HN⟩ : ∃ N, Hid (Sg.no x t = N) := ⟨_, Lib.hid rfl⟩
  obtain ⟨C, HC2⟩ : ∃ C, Hid (Sg.sc x t = C) := ⟨_, Lib.hid rfl⟩
  rw [HC2.out] at hcon4 HS c0 c1
  rw [HN.out] at HS HR hcon1 n0 n1
  obtain ⟨R, HR2⟩ : ∃ R, Hid (Sg.sr x t = R) := ⟨_, Lib.hid rfl⟩
  obtain ⟨K, HK2⟩ : ∃ K, Hid (Sg.gp x = K) := ⟨_, Lib.hid rfl⟩
  rw [HR2.out] at HR hcon4 ⊢
  rw [HK2.out] at HK hcon4
  rw [HS.out]
  obtain ⟨p0, p1⟩ := Gr.mul_bd C x 1073741789 c0 c1 (by omega) (by omega) (by omega)
  clear HC HS HN HC2 HR2 HK2
  have HX : Bk w.heap.size 44 #[.int .i64 0, .int .i64 0] (w.alloc (.cells #[.int .i64 0, .int .i64 0] 44 (0, 0))) := Bk.new _ _ _
  go_enter Try.func28, Try.ntmps28
  go_wp2_with fail
  refine (hcon1 _).mono ?_
  rintro e1 w1 ⟨rfl, hb1⟩
  have HX1 := HX.below hb1
  have hc1 := below_after (below_alloc (Below.refl _ _) _) hb1
  clear HX hb1 hcon1
  go_wp2_with fail
  refine (l4Base_any N _ (by omega)).mono ?_
  rw [HR.out]
  rintro e2 w2 ⟨rfl, rfl⟩
  go_wp2_with fail
  refine (l4Base_any x _ (by omega)).mono ?_
  rw [HK.out]
  rintro e2 w2 ⟨rfl, rfl⟩
  go_wp2_with fail
  refine (hcon4 _).mono ?_
  rintro e4 w4 ⟨rfl, hb4⟩
  have HX4 := HX1.below hb4
  have hc4 := below_after hc1 hb4
  clear HX1 hb4 hc1 hcon4
  obtain ⟨z0, z1⟩ := Bk.c2 HX4
  obtain ⟨f0, f1⟩ := HX4.f2
  have HX5 := Bk.store2 HX4 (.int .i64 R) (.int .i64 ((N + C * x) % 1073741789))
  have hb5 := below_store2 hc4 w.heap.size (by omega) (.int .i64 R) (.int .i64 ((N + C * x) % 1073741789))
  clear HX4 hc4
  go_wp2
  refine bodyPost_ret (results_cell_row (P := Try.prog) rfl _ _ w.heap.size 44 _ (0, 0) _ rfl HX5.held Try.underlying44 rfl (by kernel_rfl)) rfl ?_
  exact ⟨rfl, hb5⟩
set_option maxRecDepth 100000 in
set_option maxHeartbeats 1600000 in
theorem implSign_no (x : Int) (t : ByteArray) (w : World) (hs : Gr.sok x = false) :
    Calls Try.prog 29 #[.int .i64 x, .string t] w fun e w' => e = .returned (.tuple #[.agg #[.int .i64 0, .int .i64 0], .bool false]) ∧ Below w.heap.size w w' := by
  have HX : Bk w.heap.size 44 #[.int .i64 0, .int .i64 0] (w.alloc (.cells #[.int .i64 0, .int .i64 0] 44 (0, 0))) := Bk.new _ _ _
  have H0 := Lib.hid hs
  clear hs
  obtain ⟨K, HK⟩ : ∃ K, Hid (Gr.key x = K) := ⟨_, Lib.hid rfl⟩
  go_enter Try.func29, Try.ntmps29
  go_wp2_with fail
  refine (implKeyOf_any x _).mono ?_
  rw [H0.out, HK.out]
  rintro e1 w1 ⟨rfl, hb1⟩
  have HX4 := HX.below hb1
  have hc4 := below_after (below_alloc (Below.refl _ _) _) hb1
  clear HX hb1
  obtain ⟨z0, z1⟩ := Bk.c2 HX4
  obtain ⟨f0, f1⟩ := HX4.f2
  have HX5 := Bk.store2 HX4 (.int .i64 0) (.int .i64 0)
  have hb5 := below_store2 hc4 w.heap.size (by omega) (.int .i64 0) (.int .i64 0)
  clear HX4 hc4
  go_wp2
  refine bodyPost_ret (results_cell_row2 (P := Try.prog) rfl _ _ w.heap.size 44 _ (0, 0) _ rfl HX5.held Try.underlying44 rfl (by kernel_rfl)) rfl ?_
  exact ⟨rfl, hb5⟩
set_option maxRecDepth 100000 in
set_option maxHeartbeats 1600000 in
theorem implSign_yes (x : Int) (t : ByteArray) (w : World) (hs : Gr.sok x = true) (ht : t.size ≤ 1048576) :
    Calls Try.prog 29 #[.int .i64 x, .string t] w fun e w' => e = .returned (.tuple #[.agg #[.int .i64 (Sg.sr x t), .int .i64 (Sg.ss x t)], .bool true]) ∧ Below w.heap.size w w' := by
  obtain ⟨x0, x1⟩ := (Gr.sok_iff x).mp hs
  obtain ⟨n0, n1⟩ := Sg.no_bd x t
  obtain ⟨c0, c1⟩ := Sg.sc_bd x t
  have hkk := Sg.kok_ok (Gr.key_kok hs)
  have hro : Gr.ok (Sg.sr x t) = true := Gr.ok_yes (Sg.gp_E (by omega))
  have hcon2 := fun W => nonceOf_any x t W (by omega) (by omega) ht
  have hcon4 := fun W => implChallenge_yes (Sg.sr x t) (Gr.key x) t W hro hkk ht
  have HC : Hid (Sg.ch (Sg.sr x t) (Gr.key x) t = Sg.sc x t) := Lib.hid (by rw [Sg.key_ok hs]; rfl)
  have HS : Hid (Sg.ss x t = (Sg.no x t + Sg.sc x t * x % 1073741789) % 1073741789) := Lib.hid (by unfold Sg.ss; omega)
  have HR : Hid (Sg.gp (Sg.no x t) = Sg.sr x t) := Lib.hid rfl
  rw [HC.out] at hcon4
  have H0 := Lib.hid hs
  clear hs hkk hro HC
  obtain ⟨K, HK⟩ : ∃ K, Hid (Gr.key x = K) := ⟨_, Lib.hid rfl⟩
  obtain ⟨N, HN⟩ : ∃ N, Hid (Sg.no x t = N) := ⟨_, Lib.hid rfl⟩
  obtain ⟨C, HC⟩ : ∃ C, Hid (Sg.sc x t = C) := ⟨_, Lib.hid rfl⟩
  obtain ⟨R, HR2⟩ : ∃ R, Hid (Sg.sr x t = R) := ⟨_, Lib.hid rfl⟩
  rw [HC.out] at hcon4 HS c0 c1
  rw [HK.out, HR2.out] at hcon4
  rw [HN.out] at HS HR hcon2 n0 n1
  rw [HR2.out] at HR ⊢
  rw [HS.out]
  have hcon3 := fun W => basePower_any N 1073741789 W (by omega)
  rw [HR.out] at hcon3
  have hm0 := Int.emod_nonneg (C * x) (show (1073741789 : Int) ≠ 0 by decide)
  have hm1 := Int.emod_lt_of_pos (C * x) (show (0 : Int) < 1073741789 by decide)
  have hcon5 := fun W => times_any C x 1073741789 W (by omega) (by omega) c0 c1 (by omega) (by omega)
  obtain ⟨M, HM⟩ : ∃ M, Hid (C * x % 1073741789 = M) := ⟨_, Lib.hid rfl⟩
  rw [HM.out] at hcon5 hm0 hm1 ⊢
  have hcon6 := fun W => plus_any N M 1073741789 W (by omega) (by omega) (by omega) n1 hm0 hm1
  obtain ⟨S, HS2⟩ : ∃ S, Hid ((N + M) % 1073741789 = S) := ⟨_, Lib.hid rfl⟩
  rw [HS2.out] at hcon6 ⊢
  have hf := field_n R 2147483579
  clear HN HC HR2 HS HR HM HS2 n0 n1 c0 c1 hm0 hm1 x0 x1
  have HX : Bk w.heap.size 44 #[.int .i64 0, .int .i64 0] (w.alloc (.cells #[.int .i64 0, .int .i64 0] 44 (0, 0))) := Bk.new _ _ _
  go_enter Try.func29, Try.ntmps29
  go_wp2_with fail
  refine (implKeyOf_any x _).mono ?_
  rw [H0.out, HK.out]
  rintro e1 w1 ⟨rfl, hb1⟩
  have HX1 := HX.below hb1
  have hc1 := below_after (below_alloc (Below.refl _ _) _) hb1
  clear HX hb1
  go_wp2_with fail
  refine (hcon2 _).mono ?_
  rintro e2 w2 ⟨rfl, hb2⟩
  have HX2 := (HX1.below hb2).alloc (.cells #[.int .i64 N, .int .i64 1073741789] 55 (0, 0))
  have HN2 : Bk w2.heap.size 55 #[.int .i64 N, .int .i64 1073741789] (w2.alloc (.cells #[.int .i64 N, .int .i64 1073741789] 55 (0, 0))) := Bk.new _ _ _
  have hc2 := below_alloc (below_after hc1 hb2) (.cells #[.int .i64 N, .int .i64 1073741789] 55 (0, 0))
  clear HX1 hb2 hc1 hcon2
  go_wp2_with fail
  refine (hcon3 _).mono ?_
  rintro e3 w3 ⟨rfl, hb3⟩
  have HX3 := HX2.below hb3
  have HN3 := HN2.below hb3
  have hc3 := below_after hc2 hb3
  clear HX2 HN2 hb3 hc2 hcon3
  go_wp2_with fail
  refine (hcon4 _).mono ?_
  rintro e4 w4 ⟨rfl, hb4⟩
  have HX4 := (HX3.below hb4).alloc (.cells #[.int .i64 C, .int .i64 1073741789] 55 (0, 0))
  have HN4 := (HN3.below hb4).alloc (.cells #[.int .i64 C, .int .i64 1073741789] 55 (0, 0))
  have HC4 : Bk w4.heap.size 55 #[.int .i64 C, .int .i64 1073741789] (w4.alloc (.cells #[.int .i64 C, .int .i64 1073741789] 55 (0, 0))) := Bk.new _ _ _
  have hc4 := below_alloc (below_after hc3 hb4) (.cells #[.int .i64 C, .int .i64 1073741789] 55 (0, 0))
  clear HX3 HN3 hb4 hc3 hcon4
  have hSof : ∀ W, Bk w2.heap.size 55 #[.int .i64 N, .int .i64 1073741789] W → Bk w4.heap.size 55 #[.int .i64 C, .int .i64 1073741789] W → W.cell? ⟨w2.heap.size, 0, none⟩ = some (.int .i64 N) ∧ W.cell? ⟨w2.heap.size, 1, none⟩ = some (.int .i64 1073741789) ∧ W.cell? ⟨w4.heap.size, 0, none⟩ = some (.int .i64 C) ∧ W.cell? ⟨w4.heap.size, 1, none⟩ = some (.int .i64 1073741789) := fun W h k => ⟨h.cell 0, h.cell 1, k.cell 0, k.cell 1⟩
  have hS4 := hSof _ HN4.drew HC4.drew
  have k2 : w2.heap.size < w4.heap.size + 1 := by have := HN4.lt; simpa using this
  have k1 : w.heap.size < w4.heap.size + 1 := by have := HX4.lt; simpa using this
  have hT4 := hSof _ (HN4.alloc (.cells #[.int .i64 0, .int .i64 0] 55 (0, 0))).drew (HC4.alloc (.cells #[.int .i64 0, .int .i64 0] 55 (0, 0))).drew
  go_wp2
  go_region_held3 (fun W => W.cell? ⟨w2.heap.size, 0, none⟩ = some (.int .i64 N) ∧ W.cell? ⟨w2.heap.size, 1, none⟩ = some (.int .i64 1073741789) ∧ W.cell? ⟨w4.heap.size, 0, none⟩ = some (.int .i64 C) ∧ W.cell? ⟨w4.heap.size, 1, none⟩ = some (.int .i64 1073741789)) (first | with_reducible exact hS4 | with_reducible exact hT4 | with_reducible exact hS5 | with_reducible exact hT5 | with_reducible exact hS6 | with_reducible exact hT6 | with_reducible exact hU6 | with_reducible exact hT7)
    (first
      | (go_at_call 40; refine (hcon5 (w4.alloc (.cells #[.int .i64 C, .int .i64 1073741789] 55 (0, 0))).drew).mono ?_; rintro e5 w5 ⟨rfl, hb5⟩; have HX5 := HX4.drew.below hb5; have HN5 := HN4.drew.below hb5; have HC5 := HC4.drew.below hb5; have hS5 := hSof _ HN5 HC5; have hT5 := hSof _ (HN5.alloc (.cells #[.int .i64 0, .int .i64 0] 55 (0, 0))) (HC5.alloc (.cells #[.int .i64 0, .int .i64 0] 55 (0, 0))); have hc5 := below_after hc4.drew hb5)
      | (go_at_call 40; refine (hcon5 ((w4.alloc (.cells #[.int .i64 C, .int .i64 1073741789] 55 (0, 0))).alloc (.cells #[.int .i64 0, .int .i64 0] 55 (0, 0))).drew).mono ?_; rintro e5 w5 ⟨rfl, hb5⟩; have HX5 := (HX4.alloc (.cells #[.int .i64 0, .int .i64 0] 55 (0, 0))).drew.below hb5; have HN5 := (HN4.alloc (.cells #[.int .i64 0, .int .i64 0] 55 (0, 0))).drew.below hb5; have HC5 := (HC4.alloc (.cells #[.int .i64 0, .int .i64 0] 55 (0, 0))).drew.below hb5; have HZ5 := (Bk.new' (w4.alloc (.cells #[.int .i64 C, .int .i64 1073741789] 55 (0, 0))) 55 #[.int .i64 0, .int .i64 0] (w4.heap.size + 1) (by simp)).drew.below hb5; have hS5 := hSof _ HN5 HC5; have hc5 := below_after (below_alloc hc4 (.cells #[.int .i64 0, .int .i64 0] 55 (0, 0))).drew hb5)
      | (go_at_call 39; refine (hcon6 w5).mono ?_; rintro e6 w6 ⟨rfl, hb6⟩; have HZ6 := HZ5.below hb6; have HX6 := HX5.below hb6; have HN6 := HN5.below hb6; have HC6 := HC5.below hb6; have hS6 := hSof _ HN6 HC6; have hc6 := below_after hc5 hb6; obtain ⟨z0, z1⟩ := Bk.c2 HZ6; obtain ⟨f0, f1⟩ := HZ6.f2; have hT7 := hSof _ (Bk.other2 HN6 (w4.heap.size + 1) (by omega) (.int .i64 S) (.int .i64 1073741789)) (Bk.other2 HC6 (w4.heap.size + 1) (by omega) (.int .i64 S) (.int .i64 1073741789)); have HX7 := Bk.other2 HX6 (w4.heap.size + 1) (by omega) (.int .i64 S) (.int .i64 1073741789); have HZ7 := Bk.store2 HZ6 (.int .i64 S) (.int .i64 1073741789); have hc7 := below_store2 hc6 (w4.heap.size + 1) (by omega) (.int .i64 S) (.int .i64 1073741789))
      | (go_at_call 39; refine (hcon6 (w5.alloc (.cells #[.int .i64 0, .int .i64 0] 55 (0, 0)))).mono ?_; rintro e6 w6 ⟨rfl, hb6⟩; have HZ6 := (Bk.new w5 55 #[.int .i64 0, .int .i64 0]).below hb6; have HX6 := (HX5.alloc (.cells #[.int .i64 0, .int .i64 0] 55 (0, 0))).below hb6; have HN6 := (HN5.alloc (.cells #[.int .i64 0, .int .i64 0] 55 (0, 0))).below hb6; have HC6 := (HC5.alloc (.cells #[.int .i64 0, .int .i64 0] 55 (0, 0))).below hb6; have hS6 := hSof _ HN6 HC6; have hc6 := below_after (below_alloc hc5 (.cells #[.int .i64 0, .int .i64 0] 55 (0, 0))) hb6; obtain ⟨z0, z1⟩ := Bk.c2 HZ6; obtain ⟨f0, f1⟩ := HZ6.f2; have l1 := HX5.lt; have l2 := HN5.lt; have l3 := HC5.lt; have l4 := hc5.size; have hT7 := hSof _ (Bk.other2 HN6 w5.heap.size (by omega) (.int .i64 S) (.int .i64 1073741789)) (Bk.other2 HC6 w5.heap.size (by omega) (.int .i64 S) (.int .i64 1073741789)); have HX7 := Bk.other2 HX6 w5.heap.size (by omega) (.int .i64 S) (.int .i64 1073741789); have HZ7 := Bk.store2 HZ6 (.int .i64 S) (.int .i64 1073741789); have hc7 := below_store2 hc6 w5.heap.size (by omega) (.int .i64 S) (.int .i64 1073741789))
      | (go_at_call 39; refine (hcon6 w5).mono ?_; rintro e6 w6 ⟨rfl, hb6⟩; have HX6 := HX5.below hb6; have HN6 := HN5.below hb6; have HC6 := HC5.below hb6; have hS6 := hSof _ HN6 HC6; have hT6 := hSof _ (HN6.alloc (.cells #[.int .i64 0, .int .i64 0] 55 (0, 0))) (HC6.alloc (.cells #[.int .i64 0, .int .i64 0] 55 (0, 0))); have hU6 := hSof _ (HN6.alloc (.cells #[.int .i64 S, .int .i64 1073741789] 55 (0, 0))) (HC6.alloc (.cells #[.int .i64 S, .int .i64 1073741789] 55 (0, 0))); have HZ7 := Bk.new w6 55 #[.int .i64 S, .int .i64 1073741789]; have HX7 := HX6.alloc (.cells #[.int .i64 S, .int .i64 1073741789] 55 (0, 0)); have hc7 := below_alloc (below_after hc5 hb6) (.cells #[.int .i64 S, .int .i64 1073741789] 55 (0, 0))))
  all_goals
    obtain ⟨z0, z1⟩ := Bk.c2 HX7
    obtain ⟨f0, f1⟩ := HX7.f2
    have s1 := HZ7.cell 1
    have s0 := HZ7.cell 0
    simp at s0
    have HX8 := Bk.store2 HX7 (.int .i64 R) (.int .i64 S)
    have hb8 := below_store2 hc7 w.heap.size (by omega) (.int .i64 R) (.int .i64 S)
    clear HX7 hc7 HX6 HX5 HX4 HZ7 s1
    go_wp2
    refine bodyPost_ret (results_cell_row2 (P := Try.prog) rfl _ _ w.heap.size 44 _ (0, 0) _ rfl HX8.held Try.underlying44 rfl (by kernel_rfl)) rfl ?_
    exact ⟨rfl, hb8⟩
theorem implSign_any (x : Int) (t : ByteArray) (w : World) (ht : t.size ≤ 1048576) :
    Calls Try.prog 29 #[.int .i64 x, .string t] w fun e w' => e = .returned (.tuple #[.agg #[.int .i64 (Sg.o0 x t), .int .i64 (Sg.o1 x t)], .bool (Gr.sok x)]) ∧ Below w.heap.size w w' := by
  cases hs : Gr.sok x
  · obtain ⟨h1, h2⟩ := Sg.o_no (t := t) hs
    rw [h1, h2]
    exact implSign_no x t w hs
  · obtain ⟨h1, h2⟩ := Sg.o_yes (t := t) hs
    rw [h1, h2]
    exact implSign_yes x t w hs ht
end Go.Proofs.Ytoocibabceeagab

/-
  Contracts of chapter 5: Verify; of the program and of the model.
-/
namespace Go.Proofs.Ytoocibabceeagab
open Go.RowKit

end Go.Proofs.Ytoocibabceeagab
