/-
  Contracts of chapter 5: sums and differences of residues, challenges, nonces, signing; of the program and of the model.
-/
import Derived.Test.YtabihimhenhnnaaSg
import Derived.Test.YtabihimhenhnnaaGe
namespace Go.Proofs.Ytabihimhenhnnaa
open Go.RowKit

set_option maxRecDepth 100000 in
set_option maxHeartbeats 800000 in
theorem plus_any (a b m : Int) (w : World) (hm : 1 < m) (hm2 : m ≤ 2147483648) (ha : 0 ≤ a) (ha2 : a < m) (hb : 0 ≤ b) (hb2 : b < m) :
    Calls Try.prog 33 #[.agg #[.int .i64 a, .int .i64 m], .agg #[.int .i64 b, .int .i64 m]] w fun x w' => x = .returned (.agg #[.int .i64 ((a + b) % m), .int .i64 m]) ∧ Below w.heap.size w w' := by
  go_enter Try.func33, Try.ntmps33
  go_wp2
  go_region
  go_wp2
  refine bodyPost_ret (results_cell_row (P := Try.prog) rfl _ _ (w.heap.size + 1 + 1) 50 #[.int .i64 ((a + b) % m), .int .i64 m] (0, 0) _ rfl (heap_new3 _ _ _ _) Try.underlying50 rfl (by kernel_rfl)) rfl ?_
  exact ⟨rfl, (below_alloc (below_alloc (below_alloc (Below.refl _ _) _) _) _).drew⟩
set_option maxRecDepth 100000 in
set_option maxHeartbeats 800000 in
theorem basePower_any (e m : Int) (w : World) (he2 : e ≤ 9223372036854775807) :
    Calls Try.prog 36 #[.agg #[.int .i64 e, .int .i64 m]] w fun x w' => x = .returned (.agg #[.int .i64 (Sg.gp e), .int .i64 2147483579]) ∧ Below w.heap.size w w' := by
  have HG : Hid (Gr.pw 2147483579 4 e = Sg.gp e) := Lib.hid rfl
  have HX : ∀ A, Bx (w.heap.size + 1) 0 0 ((w.alloc A).alloc (.cells #[.int .i64 0, .int .i64 0] 50 (0, 0))) := fun A => ⟨heap_newB _ _ _⟩
  go_enter Try.func36, Try.ntmps36
  go_wp2_with fail
  refine (power_any 4 2147483579 e _ (by omega) (by omega) (by omega) (by omega) he2).mono ?_
  rw [HG.out]
  rintro e1 w1 ⟨rfl, hb1⟩
  have HX1 := (HX _).below hb1
  have hb := below_after (below_alloc (below_alloc (Below.refl _ _) _) _) hb1
  clear HX hb1
  have x0 := HX1.c0
  have x1 := HX1.c1
  have g0 := HX1.f0 0
  have g1 := HX1.f0 1
  have HX3 := HX1.store (Sg.gp e) 2147483579
  have hb3 := below_store hb (w.heap.size + 1) (by omega) (.int .i64 (Sg.gp e)) (.int .i64 2147483579)
  clear HX1 hb
  go_wp2
  refine bodyPost_ret (results_cell_row (P := Try.prog) rfl _ _ (w.heap.size + 1) 50 _ (0, 0) _ rfl HX3.held Try.underlying50 rfl (by kernel_rfl)) rfl ?_
  exact ⟨rfl, hb3⟩
set_option maxHeartbeats 800000 in
theorem isScalar0_any (x : Int) (w : World) :
    Calls Try.prog 63 #[.int .i64 x] w fun e w' => e = .returned (.bool (Sg.win x)) ∧ w' = w := by
  by_cases h : x = 0
  · have HW : Hid (Sg.win x = true) := Lib.hid ((Sg.win_iff x).mpr (by omega))
    rw [HW.out]
    have h1 : (x == 0) = true := by simpa using h
    clear h
    go_enter Try.func63, Try.ntmps63
    go_wp2
    go_ret
    exact ⟨rfl, rfl⟩
  · have HW : Hid (Gr.sok x = Sg.win x) := Lib.hid (by
      unfold Gr.sok Sg.win
      congr 1
      exact decide_eq_decide.mpr (by omega))
    have h1 : (x == 0) = false := by simpa using h
    clear h
    go_enter Try.func63, Try.ntmps63
    go_wp2_with fail
    refine (isScalar_any x _).mono ?_
    rw [HW.out]
    rintro e1 w1 ⟨rfl, rfl⟩
    go_wp2
    go_ret
    exact ⟨rfl, rfl⟩

/-! Strings -/
theorem Sg.a1 (r : Int) (W : World) : (Op.stringOp .add (⟨#[99, 104, 97, 108, 108, 101, 110, 103, 101]⟩ : ByteArray) (Dg.bytes r)).run Try.prog W = .ok (.string (Sg.cw ++ Dg.bytes r)) W :=
  run_string_add_sum (P := Try.prog) W _ _ (by rw [Dg.bytes_size]; decide)
theorem Sg.a2 (r k : Int) (W : World) : (Op.stringOp .add (Sg.cw ++ Dg.bytes r) (Dg.bytes k)).run Try.prog W = .ok (.string (Sg.cw ++ Dg.bytes r ++ Dg.bytes k)) W :=
  run_string_add_sum (P := Try.prog) W _ _ (by rw [ByteArray.size_append, Dg.bytes_size, Dg.bytes_size]; decide)
theorem Sg.a3 (r k : Int) (t : ByteArray) (ht : t.size ≤ 1048576) (W : World) : (Op.stringOp .add (Sg.cw ++ Dg.bytes r ++ Dg.bytes k) t).run Try.prog W = .ok (.string (Sg.chs r k t)) W :=
  run_string_add_sum (P := Try.prog) W _ _ (by rw [ByteArray.size_append, ByteArray.size_append, Dg.bytes_size, Dg.bytes_size, show Sg.cw.size = 9 from rfl]; omega)
theorem Sg.chs_size (r k : Int) (t : ByteArray) (ht : t.size ≤ 1048576) : (Sg.chs r k t).size ≤ 9223372036854775807 := by
  unfold Sg.chs
  rw [ByteArray.size_append, ByteArray.size_append, ByteArray.size_append, Dg.bytes_size, Dg.bytes_size, show Sg.cw.size = 9 from rfl]
  omega
theorem Sg.b1 (s : Int) (W : World) : (Op.stringOp .add (⟨#[110, 111, 110, 99, 101]⟩ : ByteArray) (Dg.bytes s)).run Try.prog W = .ok (.string (Sg.nw ++ Dg.bytes s)) W :=
  run_string_add_sum (P := Try.prog) W _ _ (by rw [Dg.bytes_size]; decide)
theorem Sg.b2 (s : Int) (t : ByteArray) (ht : t.size ≤ 1048576) (W : World) : (Op.stringOp .add (Sg.nw ++ Dg.bytes s) t).run Try.prog W = .ok (.string (Sg.nos s t)) W :=
  run_string_add_sum (P := Try.prog) W _ _ (by rw [ByteArray.size_append, Dg.bytes_size, show Sg.nw.size = 5 from rfl]; omega)
theorem Sg.nos_size (s : Int) (t : ByteArray) (ht : t.size ≤ 1048576) : (Sg.nos s t).size ≤ 9223372036854775807 := by
  unfold Sg.nos
  rw [ByteArray.size_append, ByteArray.size_append, Dg.bytes_size, show Sg.nw.size = 5 from rfl]
  omega
set_option maxRecDepth 100000 in
set_option maxHeartbeats 800000 in
theorem l5Challenge_any (r k : Int) (t : ByteArray) (w : World) (r0 : 0 ≤ r) (r1 : r ≤ 4294967295) (k0 : 0 ≤ k) (k1 : k ≤ 4294967295) (ht : t.size ≤ 1048576) :
    Calls Try.prog 43 #[.int .i64 r, .int .i64 k, .string t] w fun e w' => e = .returned (.int .i64 (Sg.ch r k t)) ∧ Below w.heap.size w w' := by
  have s1 := Sg.a1 r
  have s2 := Sg.a2 r k
  have s3 := Sg.a3 r k t ht
  have hsz := Sg.chs_size r k t ht
  have HC : Hid (Sg.ch r k t = Dg.of (Sg.chs r k t) % 1073741789) := Lib.hid rfl
  obtain ⟨N, HN⟩ : ∃ N, Hid (Sg.chs r k t = N) := ⟨_, Lib.hid rfl⟩
  rw [HN.out] at s3 hsz HC
  obtain ⟨d0, d1⟩ := Dg.of_bd N
  obtain ⟨D, HD⟩ : ∃ D, Hid (Dg.of N = D) := ⟨_, Lib.hid rfl⟩
  rw [HD.out] at d0 d1 HC
  rw [HC.out]
  go_enter Try.func43, Try.ntmps43
  go_wp2_with fail
  refine (l2Bytes_any r _ r0 r1).mono ?_
  rintro e1 w1 ⟨rfl, hb1⟩
  go_wp2_with fail
  refine (l2Bytes_any k _ k0 k1).mono ?_
  rintro e2 w2 ⟨rfl, hb2⟩
  replace hb2 := below_after hb1 hb2
  clear hb1
  go_wp2_with fail
  refine (specDigest_any N _ hsz).mono ?_
  rw [HD.out]
  rintro e3 w3 ⟨rfl, hb3⟩
  replace hb3 := below_after hb2 hb3
  clear hb2
  go_wp2
  go_ret
  exact ⟨rfl, hb3⟩
set_option maxRecDepth 100000 in
set_option maxHeartbeats 800000 in
theorem implChallenge_yes (r k : Int) (t : ByteArray) (w : World) (hr : Gr.ok r = true) (hk : Gr.ok k = true) (ht : t.size ≤ 1048576) :
    Calls Try.prog 38 #[.int .i64 r, .int .i64 k, .string t] w fun e w' => e = .returned (.int .i64 (Sg.ch r k t)) ∧ Below w.heap.size w w' := by
  obtain ⟨r0, r1⟩ := Gr.E_bd ((Gr.ok_iff r).mp hr)
  obtain ⟨k0, k1⟩ := Gr.E_bd ((Gr.ok_iff k).mp hk)
  have HR := Lib.hid hr
  have HK := Lib.hid hk
  clear hr hk
  have s1 := Sg.a1 r
  have s2 := Sg.a2 r k
  have s3 := Sg.a3 r k t ht
  have hsz := Sg.chs_size r k t ht
  have HC : Hid (Sg.ch r k t = Dg.of (Sg.chs r k t) % 1073741789) := Lib.hid rfl
  obtain ⟨N, HN⟩ : ∃ N, Hid (Sg.chs r k t = N) := ⟨_, Lib.hid rfl⟩
  rw [HN.out] at s3 hsz HC
  obtain ⟨d0, d1⟩ := Dg.of_bd N
  obtain ⟨D, HD⟩ : ∃ D, Hid (Dg.of N = D) := ⟨_, Lib.hid rfl⟩
  rw [HD.out] at d0 d1 HC
  rw [HC.out]
  go_enter Try.func38, Try.ntmps38
  go_wp2_with fail
  refine (implGroupOk_any r _).mono ?_
  rw [HR.out]
  rintro e1 w1 ⟨rfl, hb1⟩
  go_wp2_with fail
  refine (implGroupOk_any k _).mono ?_
  rw [HK.out]
  rintro e2 w2 ⟨rfl, hb2⟩
  replace hb2 := below_after hb1 hb2
  clear hb1
  go_wp2_with fail
  refine (implDigestBytes_ok r _ (by omega) (by omega)).mono ?_
  rintro e3 w3 ⟨rfl, hb3⟩
  replace hb3 := below_after hb2 hb3
  clear hb2
  go_wp2_with fail
  refine (implDigestBytes_ok k _ (by omega) (by omega)).mono ?_
  rintro e4 w4 ⟨rfl, hb4⟩
  replace hb4 := below_after hb3 hb4
  clear hb3
  go_wp2_with fail
  refine (implDigest_any N _ hsz).mono ?_
  rw [HD.out]
  rintro e5 w5 ⟨rfl, hb5⟩
  replace hb5 := below_after hb4 hb5
  clear hb4
  go_wp2
  go_ret
  exact ⟨rfl, hb5⟩
set_option maxRecDepth 100000 in
set_option maxHeartbeats 800000 in
theorem implChallenge_any (r k : Int) (t : ByteArray) (w : World) (ht : t.size ≤ 1048576) :
    Calls Try.prog 38 #[.int .i64 r, .int .i64 k, .string t] w fun e w' => e = .returned (.int .i64 (Sg.chal r k t)) ∧ Below w.heap.size w w' := by
  by_cases hr : Gr.ok r = true
  · by_cases hk : Gr.ok k = true
    · unfold Sg.chal
      rw [hr, hk, Bool.true_and, if_pos rfl]
      exact implChallenge_yes r k t w hr hk ht
    · have HK : Hid (Gr.ok k = false) := Lib.hid (by simpa using hk)
      have HC : Hid (Sg.chal r k t = -1) := by unfold Sg.chal; rw [HK.out, Bool.and_false, if_neg (by simp)]; exact rfl
      have HR := Lib.hid hr
      rw [HC.out]
      clear hr hk
      go_enter Try.func38, Try.ntmps38
      go_wp2_with fail
      refine (implGroupOk_any r _).mono ?_
      rw [HR.out]
      rintro e1 w1 ⟨rfl, hb1⟩
      go_wp2_with fail
      refine (implGroupOk_any k _).mono ?_
      rw [HK.out]
      rintro e2 w2 ⟨rfl, hb2⟩
      replace hb2 := below_after hb1 hb2
      clear hb1
      go_wp2
      go_ret
      exact ⟨rfl, hb2⟩
  · have HR : Hid (Gr.ok r = false) := Lib.hid (by simpa using hr)
    have HC : Hid (Sg.chal r k t = -1) := by unfold Sg.chal; rw [HR.out, Bool.false_and, if_neg (by simp)]; exact rfl
    rw [HC.out]
    clear hr
    go_enter Try.func38, Try.ntmps38
    go_wp2_with fail
    refine (implGroupOk_any r _).mono ?_
    rw [HR.out]
    rintro e1 w1 ⟨rfl, hb1⟩
    go_wp2
    go_ret
    exact ⟨rfl, hb1⟩
set_option maxRecDepth 100000 in
set_option maxHeartbeats 800000 in
theorem nonceOf_any (s : Int) (t : ByteArray) (w : World) (s0 : 0 ≤ s) (s1 : s ≤ 4294967295) (ht : t.size ≤ 1048576) :
    Calls Try.prog 34 #[.int .i64 s, .string t] w fun e w' => e = .returned (.agg #[.int .i64 (Sg.no s t), .int .i64 1073741789]) ∧ Below w.heap.size w w' := by
  have t1 := Sg.b1 s
  have t2 := Sg.b2 s t ht
  have hsz := Sg.nos_size s t ht
  have HC : Hid (Sg.no s t = 1 + Dg.of (Sg.nos s t) % 1073741788) := Lib.hid rfl
  obtain ⟨N, HN⟩ : ∃ N, Hid (Sg.nos s t = N) := ⟨_, Lib.hid rfl⟩
  rw [HN.out] at t2 hsz HC
  obtain ⟨d0, d1⟩ := Dg.of_bd N
  obtain ⟨D, HD⟩ : ∃ D, Hid (Dg.of N = D) := ⟨_, Lib.hid rfl⟩
  rw [HD.out] at d0 d1 HC
  rw [HC.out]
  have HX : Bx w.heap.size 0 0 (w.alloc (.cells #[.int .i64 0, .int .i64 0] 50 (0, 0))) := ⟨heap_alloc_new _ _⟩
  go_enter Try.func34, Try.ntmps34
  go_wp2_with fail
  refine (implDigestBytes_ok s _ s0 s1).mono ?_
  rintro e1 w1 ⟨rfl, hb1⟩
  have HX1 := HX.below hb1
  have hc1 := below_after (below_alloc (Below.refl _ _) _) hb1
  clear HX hb1
  go_wp2_with fail
  refine (implDigest_any N _ hsz).mono ?_
  rw [HD.out]
  rintro e2 w2 ⟨rfl, hb2⟩
  have HX2 := HX1.below hb2
  have hc2 := below_after hc1 hb2
  clear HX1 hb2 hc1
  have x0 := HX2.c0
  have x1 := HX2.c1
  have g0 := HX2.f0 0
  have g1 := HX2.f0 1
  have HX3 := HX2.store (1 + D % 1073741788) 1073741789
  have hb3 := below_store hc2 w.heap.size (by omega) (.int .i64 (1 + D % 1073741788)) (.int .i64 1073741789)
  clear HX2 hc2
  go_wp2
  refine bodyPost_ret (results_cell_row (P := Try.prog) rfl _ _ w.heap.size 50 _ (0, 0) _ rfl HX3.held Try.underlying50 rfl (by kernel_rfl)) rfl ?_
  exact ⟨rfl, hb3⟩
set_option maxRecDepth 100000 in
set_option maxHeartbeats 800000 in
theorem l5Nonce_any (s : Int) (t : ByteArray) (w : World) (s0 : 0 ≤ s) (s1 : s ≤ 4294967295) (ht : t.size ≤ 1048576) :
    Calls Try.prog 42 #[.int .i64 s, .string t] w fun e w' => e = .returned (.int .i64 (Sg.no s t)) ∧ Below w.heap.size w w' := by
  have t1 := Sg.b1 s
  have t2 := Sg.b2 s t ht
  have hsz := Sg.nos_size s t ht
  have HC : Hid (Sg.no s t = 1 + Dg.of (Sg.nos s t) % 1073741788) := Lib.hid rfl
  obtain ⟨N, HN⟩ : ∃ N, Hid (Sg.nos s t = N) := ⟨_, Lib.hid rfl⟩
  rw [HN.out] at t2 hsz HC
  obtain ⟨d0, d1⟩ := Dg.of_bd N
  obtain ⟨D, HD⟩ : ∃ D, Hid (Dg.of N = D) := ⟨_, Lib.hid rfl⟩
  rw [HD.out] at d0 d1 HC
  rw [HC.out]
  go_enter Try.func42, Try.ntmps42
  go_wp2_with fail
  refine (l2Bytes_any s _ s0 s1).mono ?_
  rintro e1 w1 ⟨rfl, hb1⟩
  go_wp2_with fail
  refine (specDigest_any N _ hsz).mono ?_
  rw [HD.out]
  rintro e2 w2 ⟨rfl, hb2⟩
  replace hb2 := below_after hb1 hb2
  clear hb1
  go_wp2
  go_ret
  exact ⟨rfl, hb2⟩
end Go.Proofs.Ytabihimhenhnnaa
