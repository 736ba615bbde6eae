import Derived.Test.YtcbpdibkindnfaaSg
import Derived.Test.YtcbpdibkindnfaaGk
import Derived.Test.YtcbpdibkindnfaaBk
import Derived.Deep.RegionHeld3
import Derived.Deep.DeepMust
import Derived.Laws.StructEq
/-
  Contracts of chapter 5: sums and differences of residues, challenges, nonces, signing; of the program and of the model.
-/
namespace Go.Proofs.Ytcbpdibkindnfaa
open Go.RowKit

/-! Strings -/
theorem Sg.a1 (r : Int) (W : World) : (Op.stringOp .add (⟨#[99, 104, 97, 108, 108, 101, 110, 103, 101]⟩ : ByteArray) (Dg.bytes r)).run Try.prog W = .ok (.string (Sg.cw ++ Dg.bytes r)) W :=
  run_string_add_sum (P := Try.prog) W _ _ (by rw [Dg.bytes_size]; decide)
theorem Sg.a2 (r k : Int) (W : World) : (Op.stringOp .add (Sg.cw ++ Dg.bytes r) (Dg.bytes k)).run Try.prog W = .ok (.string (Sg.cw ++ Dg.bytes r ++ Dg.bytes k)) W :=
  run_string_add_sum (P := Try.prog) W _ _ (by rw [ByteArray.size_append, Dg.bytes_size, Dg.bytes_size]; decide)
theorem Sg.a3 (r k : Int) (t : ByteArray) (ht : t.size ≤ 1048576) (W : World) : (Op.stringOp .add (Sg.cw ++ Dg.bytes r ++ Dg.bytes k) t).run Try.prog W = .ok (.string (Sg.chs r k t)) W :=
  run_string_add_sum (P := Try.prog) W _ _ (by rw [ByteArray.size_append, ByteArray.size_append, Dg.bytes_size, Dg.bytes_size, show Sg.cw.size = 9 from rfl]; omega)
theorem Sg.chs_size (r k : Int) (t : ByteArray) (ht : t.size ≤ 1048576) : (Sg.chs r k t).size ≤ 9223372036854775807 := by
  unfold Sg.chs
  rw [ByteArray.size_append, ByteArray.size_append, ByteArray.size_append, Dg.bytes_size, Dg.bytes_size, show Sg.cw.size = 9 from rfl]
  omega
theorem Sg.b1 (s : Int) (W : World) : (Op.stringOp .add (⟨#[110, 111, 110, 99, 101]⟩ : ByteArray) (Dg.bytes s)).run Try.prog W = .ok (.string (Sg.nw ++ Dg.bytes s)) W :=
  run_string_add_sum (P := Try.prog) W _ _ (by rw [Dg.bytes_size]; decide)
theorem Sg.b2 (s : Int) (t : ByteArray) (ht : t.size ≤ 1048576) (W : World) : (Op.stringOp .add (Sg.nw ++ Dg.bytes s) t).run Try.prog W = .ok (.string (Sg.nos s t)) W :=
  run_string_add_sum (P := Try.prog) W _ _ (by rw [ByteArray.size_append, Dg.bytes_size, show Sg.nw.size = 5 from rfl]; omega)
theorem Sg.nos_size (s : Int) (t : ByteArray) (ht : t.size ≤ 1048576) : (Sg.nos s t).size ≤ 9223372036854775807 := by
  unfold Sg.nos
  rw [ByteArray.size_append, ByteArray.size_append, Dg.bytes_size, show Sg.nw.size = 5 from rfl]
  omega
set_option maxRecDepth 100000 in
set_option maxHeartbeats 800000 in
theorem l5Challenge_any (r k : Int) (t : ByteArray) (w : World) (r0 : 0 ≤ r) (r1 : r ≤ 4294967295) (k0 : 0 ≤ k) (k1 : k ≤ 4294967295) (ht : t.size ≤ 1048576) :
    Calls Try.prog 114 #[.int .i64 r, .int .i64 k, .string t] w fun e w' => e = .returned (.int .i64 (Sg.ch r k t)) ∧ Below w.heap.size w w' := by
  have s1 := Sg.a1 r
  have s2 := Sg.a2 r k
  have s3 := Sg.a3 r k t ht
  have hsz := Sg.chs_size r k t ht
  have HC : Hid (Sg.ch r k t = Dg.of (Sg.chs r k t) % 1073741789) := Lib.hid rfl
  obtain ⟨N, HN⟩ : ∃ N, Hid (Sg.chs r k t = N) := ⟨_, Lib.hid rfl⟩
  rw [HN.out] at s3 hsz HC
  obtain ⟨d0, d1⟩ := Dg.of_bd N
  obtain ⟨D, HD⟩ : ∃ D, Hid (Dg.of N = D) := ⟨_, Lib.hid rfl⟩
  rw [HD.out] at d0 d1 HC
  rw [HC.out]
  go_enter Try.func114, Try.ntmps114
  go_wp2_with fail
  refine (l2Bytes_any r _ r0 r1).mono ?_
  rintro e1 w1 ⟨rfl, hb1⟩
  go_wp2_with fail
  refine (l2Bytes_any k _ k0 k1).mono ?_
  rintro e2 w2 ⟨rfl, hb2⟩
  replace hb2 := below_after hb1 hb2
  clear hb1
  go_wp2_with fail
  refine (specDigest_any N _ hsz).mono ?_
  rw [HD.out]
  rintro e3 w3 ⟨rfl, hb3⟩
  replace hb3 := below_after hb2 hb3
  clear hb2
  go_wp2
  go_ret
  exact ⟨rfl, hb3⟩
set_option maxRecDepth 100000 in
set_option maxHeartbeats 800000 in
theorem l5Nonce_any (s : Int) (t : ByteArray) (w : World) (s0 : 0 ≤ s) (s1 : s ≤ 4294967295) (ht : t.size ≤ 1048576) :
    Calls Try.prog 113 #[.int .i64 s, .string t] w fun e w' => e = .returned (.int .i64 (Sg.no s t)) ∧ Below w.heap.size w w' := by
  have t1 := Sg.b1 s
  have t2 := Sg.b2 s t ht
  have hsz := Sg.nos_size s t ht
  have HC : Hid (Sg.no s t = 1 + Dg.of (Sg.nos s t) % 1073741788) := Lib.hid rfl
  obtain ⟨N, HN⟩ : ∃ N, Hid (Sg.nos s t = N) := ⟨_, Lib.hid rfl⟩
  rw [HN.out] at t2 hsz HC
  obtain ⟨d0, d1⟩ := Dg.of_bd N
  obtain ⟨D, HD⟩ : ∃ D, Hid (Dg.of N = D) := ⟨_, Lib.hid rfl⟩
  rw [HD.out] at d0 d1 HC
  rw [HC.out]
  go_enter Try.func113, Try.ntmps113
  go_wp2_with fail
  refine (l2Bytes_any s _ s0 s1).mono ?_
  rintro e1 w1 ⟨rfl, hb1⟩
  go_wp2_with fail
  refine (specDigest_any N _ hsz).mono ?_
  rw [HD.out]
  rintro e2 w2 ⟨rfl, hb2⟩
  replace hb2 := below_after hb1 hb2
  clear hb1
  go_wp2
  go_ret
  exact ⟨rfl, hb2⟩
end Go.Proofs.Ytcbpdibkindnfaa

/-
  Contracts of chapter 5: equations, Verify; of the program.
-/
namespace Go.Proofs.Ytcbpdibkindnfaa
open Go.RowKit

/-- The cells of an equation. -/
abbrev Sg.eqv (key e r s : Int) : Array Value := #[.int .i64 s, .int .i64 1073741789, .int .i64 r, .int .i64 2147483579, .int .i64 key, .int .i64 2147483579, .int .i64 e, .int .i64 1073741789]
abbrev Sg.eq0 : Array Value := #[.int .i64 0, .int .i64 0, .int .i64 0, .int .i64 0, .int .i64 0, .int .i64 0, .int .i64 0, .int .i64 0]
theorem Sg.win_of {key r s : Int} (h : Sg.shape key r s = true) : Gr.kok key = true ∧ Gr.ok r = true ∧ Sg.win s = true := by
  unfold Sg.shape at h
  rw [Bool.and_eq_true, Bool.and_eq_true] at h
  exact ⟨h.1.1, h.1.2, h.2⟩
theorem Sg.kok_ok {key : Int} (h : Gr.kok key = true) : Gr.ok key = true := by unfold Gr.kok at h; rw [Bool.and_eq_true] at h; exact h.1
/-- The right side's power: the term of one equation with a weight. -/
def Sg.tm (key e r wgt : Int) : Int := Gr.pw 2147483579 r wgt * Gr.pw 2147483579 key (wgt * e % 1073741789) % 2147483579
theorem Sg.tm_one {key e r : Int} (r0 : 0 ≤ r) (r1 : r < 2147483579) (e0 : 0 ≤ e) (e1 : e < 1073741789) : Sg.tm key e r 1 = Sg.rt key e r := by
  unfold Sg.tm Sg.rt
  rw [Gr.pw_one _ r r0 r1, Int.one_mul, Int.emod_eq_of_lt e0 e1]
theorem Sg.tm_bd (key e r wgt : Int) : 0 ≤ Sg.tm key e r wgt ∧ Sg.tm key e r wgt < 2147483579 := ⟨Int.emod_nonneg _ (by decide), Int.emod_lt_of_pos _ (by decide)⟩
theorem eq_residue (a b c d : Int) (w : World) : (Op.equalIn 10000 124 (.agg #[.int .i64 a, .int .i64 b]) (.agg #[.int .i64 c, .int .i64 d])).run Try.prog w = .ok (a == c && b == d) w := by
  have u3 := Try.underlying3
  have a3 := Try.isAgg3
  have z3 := Try.sizeOf3
  have hS : Try.prog.underlying 124 = some (.struct (Try.prog.fieldsOf 124)) := by kernel_rfl
  rw [show (10000 : Nat) = 9999 + 1 from rfl, run_equalIn_agg w 9999 124 _ _ hS (by kernel_rfl)]
  simp only [Program.fieldsOf, Try.underlying124]
  go_simp
  by_cases h1 : a = c <;> by_cases h2 : b = d <;> simp [h1, h2]
theorem eq_sig (a b c d : Int) (w : World) : (Op.equalIn 10000 124 (.agg #[.int .i64 a, .int .i64 b]) (.agg #[.int .i64 c, .int .i64 d])).run Try.prog w = .ok (a == c && b == d) w := by
  have u3 := Try.underlying3
  have a3 := Try.isAgg3
  have z3 := Try.sizeOf3
  have hS : Try.prog.underlying 124 = some (.struct (Try.prog.fieldsOf 124)) := by kernel_rfl
  rw [show (10000 : Nat) = 9999 + 1 from rfl, run_equalIn_agg w 9999 124 _ _ hS (by kernel_rfl)]
  simp only [Program.fieldsOf, Try.underlying124]
  go_simp
  by_cases h1 : a = c <;> by_cases h2 : b = d <;> simp [h1, h2]
theorem noGuard_residue : Try.prog.eqGuardType Try.prog.depth 124 = false := by kernel_rfl
theorem noGuard_sig : Try.prog.eqGuardType Try.prog.depth 124 = false := by kernel_rfl
end Go.Proofs.Ytcbpdibkindnfaa

/-
  Contracts of chapter 5: Sign, Verify; of the program and of the model.
-/
namespace Go.Proofs.Ytcbpdibkindnfaa
open Go.RowKit

/-- What Sign answers. -/
def Sg.o0 (secret : Int) (t : ByteArray) : Int := if Gr.sok secret then Sg.sr secret t else 0
def Sg.o1 (secret : Int) (t : ByteArray) : Int := if Gr.sok secret then Sg.ss secret t else 0
theorem Sg.o_yes {secret : Int} {t : ByteArray} (h : Gr.sok secret = true) : Sg.o0 secret t = Sg.sr secret t ∧ Sg.o1 secret t = Sg.ss secret t := by
  unfold Sg.o0 Sg.o1
  rw [h, if_pos rfl, if_pos rfl]
  exact ⟨rfl, rfl⟩
theorem Sg.o_no {secret : Int} {t : ByteArray} (h : Gr.sok secret = false) : Sg.o0 secret t = 0 ∧ Sg.o1 secret t = 0 := by
  unfold Sg.o0 Sg.o1
  rw [h, if_neg (by simp), if_neg (by simp)]
  exact ⟨rfl, rfl⟩
theorem Sg.sc_bd (secret : Int) (t : ByteArray) : 0 ≤ Sg.sc secret t ∧ Sg.sc secret t < 1073741789 := Sg.ch_bd _ _ _
set_option maxRecDepth 100000 in
set_option maxHeartbeats 1600000 in
theorem l5Sign_any (x : Int) (t : ByteArray) (w : World) (x0 : 1 ≤ x) (x1 : x ≤ 1073741788) (ht : t.size ≤ 1048576) :
    Calls Try.prog 104 #[.int .i64 x, .string t] w fun e w' => e = .returned (.agg #[.int .i64 (Sg.sr x t), .int .i64 (Sg.ss x t)]) ∧ Below w.heap.size w w' := by
  obtain ⟨n0, n1⟩ := Sg.no_bd x t
  obtain ⟨c0, c1⟩ := Sg.sc_bd x t
  have hcon1 := fun W => l5Nonce_any x t W (by omega) (by omega) ht
  have hcon4 := fun W => l5Challenge_any (Sg.sr x t) (Sg.gp x) t W (Sg.gp_bd _).1 (by have := (Sg.gp_bd (Sg.no x t)).2; unfold Sg.sr; omega) (Sg.gp_bd _).1 (by have := (Sg.gp_bd x).2; omega) ht
  have HC : Hid (Sg.ch (Sg.sr x t) (Sg.gp x) t = Sg.sc x t) := Lib.hid rfl
  have HS : Hid (Sg.ss x t = (Sg.no x t + Sg.sc x t * x) % 1073741789) := Lib.hid rfl
  have HR : Hid (Gr.pw 2147483579 4 (Sg.no x t) = Sg.sr x t) := Lib.hid rfl
  have HK : Hid (Gr.pw 2147483579 4 x = Sg.gp x) := Lib.hid rfl
  rw [HC.out] at hcon4
  obtain ⟨N, HN⟩ : ∃ N, Hid (Sg.no x t = N) := ⟨_, Lib.hid rfl⟩
  obtain ⟨C, HC2⟩ : ∃ C, Hid (Sg.sc x t = C) := ⟨_, Lib.hid rfl⟩
  rw [HC2.out] at hcon4 HS c0 c1
  rw [HN.out] at HS HR hcon1 n0 n1
  obtain ⟨R, HR2⟩ : ∃ R, Hid (Sg.sr x t = R) := ⟨_, Lib.hid rfl⟩
  obtain ⟨K, HK2⟩ : ∃ K, Hid (Sg.gp x = K) := ⟨_, Lib.hid rfl⟩
  rw [HR2.out] at HR hcon4 ⊢
  rw [HK2.out] at HK hcon4
  rw [HS.out]
  obtain ⟨p0, p1⟩ := Gr.mul_bd C x 1073741789 c0 c1 (by omega) (by omega) (by omega)
  clear HC HS HN HC2 HR2 HK2
  have HX : Bk w.heap.size 124 #[.int .i64 0, .int .i64 0] (w.alloc (.cells #[.int .i64 0, .int .i64 0] 124 (0, 0))) := Bk.new _ _ _
  go_enter Try.func104, Try.ntmps104
  go_wp2_with fail
  refine (hcon1 _).mono ?_
  rintro e1 w1 ⟨rfl, hb1⟩
  have HX1 := HX.below hb1
  have hc1 := below_after (below_alloc (Below.refl _ _) _) hb1
  clear HX hb1 hcon1
  go_wp2_with fail
  refine (l4Base_any N _ (by omega)).mono ?_
  rw [HR.out]
  rintro e2 w2 ⟨rfl, rfl⟩
  go_wp2_with fail
  refine (l4Base_any x _ (by omega)).mono ?_
  rw [HK.out]
  rintro e2 w2 ⟨rfl, rfl⟩
  go_wp2_with fail
  refine (hcon4 _).mono ?_
  rintro e4 w4 ⟨rfl, hb4⟩
  have HX4 := HX1.below hb4
  have hc4 := below_after hc1 hb4
  clear HX1 hb4 hc1 hcon4
  obtain ⟨z0, z1⟩ := Bk.c2 HX4
  obtain ⟨f0, f1⟩ := HX4.f2
  have HX5 := Bk.store2 HX4 (.int .i64 R) (.int .i64 ((N + C * x) % 1073741789))
  have hb5 := below_store2 hc4 w.heap.size (by omega) (.int .i64 R) (.int .i64 ((N + C * x) % 1073741789))
  clear HX4 hc4
  go_wp2
  refine bodyPost_ret (results_cell_row (P := Try.prog) rfl _ _ w.heap.size 124 _ (0, 0) _ rfl HX5.held Try.underlying124 rfl (by kernel_rfl)) rfl ?_
  exact ⟨rfl, hb5⟩
end Go.Proofs.Ytcbpdibkindnfaa
