import Derived.Test.YtoocibabceeagabGreatSg
import Derived.Test.YtoocibabceeagabGreatGk
import Derived.Test.YtoocibabceeagabGreatBk
import Derived.Deep.RegionHeld3
import Derived.Deep.DeepMust
import Derived.Laws.StructEq
/-
  Contracts of chapter 5: sums and differences of residues, challenges, nonces, signing; of the program and of the model.
-/
namespace Go.Proofs.YtoocibabceeagabGreat
open Go.RowKit

set_option maxRecDepth 100000 in
set_option maxHeartbeats 800000 in
theorem plus_any (a b m : Int) (w : World) (hm : 1 < m) (hm2 : m ≤ 2147483648) (ha : 0 ≤ a) (ha2 : a < m) (hb : 0 ≤ b) (hb2 : b < m) :
    Calls Tryz.prog 130 #[.agg #[.int .i64 a, .int .i64 m], .agg #[.int .i64 b, .int .i64 m]] w fun x w' => x = .returned (.agg #[.int .i64 ((a + b) % m), .int .i64 m]) ∧ Below w.heap.size w w' := by
  go_enter Tryz.func130, Tryz.ntmps130
  go_wp2
  go_region
  go_wp2
  refine bodyPost_ret (results_cell_row (P := Tryz.prog) rfl _ _ (w.heap.size + 1 + 1) 86 #[.int .i64 ((a + b) % m), .int .i64 m] (0, 0) _ rfl (heap_new3 _ _ _ _) Tryz.underlying86 rfl (by kernel_rfl)) rfl ?_
  exact ⟨rfl, (below_alloc (below_alloc (below_alloc (Below.refl _ _) _) _) _).drew⟩
set_option maxRecDepth 100000 in
set_option maxHeartbeats 800000 in
theorem basePower_any (e m : Int) (w : World) (he2 : e ≤ 9223372036854775807) :
    Calls Tryz.prog 109 #[.agg #[.int .i64 e, .int .i64 m]] w fun x w' => x = .returned (.agg #[.int .i64 (Sg.gp e), .int .i64 2147483579]) ∧ Below w.heap.size w w' := by
  have HG : Hid (Gr.pw 2147483579 4 e = Sg.gp e) := Lib.hid rfl
  have HX : ∀ A, Bx (w.heap.size + 1) 0 0 ((w.alloc A).alloc (.cells #[.int .i64 0, .int .i64 0] 86 (0, 0))) := fun A => ⟨heap_newB _ _ _⟩
  go_enter Tryz.func109, Tryz.ntmps109
  go_wp2_with fail
  refine (power_any 4 2147483579 e _ (by omega) (by omega) (by omega) (by omega) he2).mono ?_
  rw [HG.out]
  rintro e1 w1 ⟨rfl, hb1⟩
  have HX1 := (HX _).below hb1
  have hb := below_after (below_alloc (below_alloc (Below.refl _ _) _) _) hb1
  clear HX hb1
  have x0 := HX1.c0
  have x1 := HX1.c1
  have g0 := HX1.f0 0
  have g1 := HX1.f0 1
  have HX3 := HX1.store (Sg.gp e) 2147483579
  have hb3 := below_store hb (w.heap.size + 1) (by omega) (.int .i64 (Sg.gp e)) (.int .i64 2147483579)
  clear HX1 hb
  go_wp2
  refine bodyPost_ret (results_cell_row (P := Tryz.prog) rfl _ _ (w.heap.size + 1) 86 _ (0, 0) _ rfl HX3.held Tryz.underlying86 rfl (by kernel_rfl)) rfl ?_
  exact ⟨rfl, hb3⟩
set_option maxHeartbeats 800000 in
theorem isScalar0_any (x : Int) (w : World) :
    Calls Tryz.prog 107 #[.int .i64 x] w fun e w' => e = .returned (.bool (Sg.win x)) ∧ w' = w := by
  by_cases h : x = 0
  · have HW : Hid (Sg.win x = true) := Lib.hid ((Sg.win_iff x).mpr (by omega))
    rw [HW.out]
    have h1 : (x == 0) = true := by simpa using h
    clear h
    go_enter Tryz.func107, Tryz.ntmps107
    go_wp2
    go_ret
    exact ⟨rfl, rfl⟩
  · have HW : Hid (Gr.sok x = Sg.win x) := Lib.hid (by
      unfold Gr.sok Sg.win
      congr 1
      exact decide_eq_decide.mpr (by omega))
    have h1 : (x == 0) = false := by simpa using h
    clear h
    go_enter Tryz.func107, Tryz.ntmps107
    go_wp2_with fail
    refine (isScalar_any x _).mono ?_
    rw [HW.out]
    rintro e1 w1 ⟨rfl, rfl⟩
    go_wp2
    go_ret
    exact ⟨rfl, rfl⟩

/-! Strings -/
theorem Sg.a1 (r : Int) (W : World) : (Op.stringOp .add (⟨#[99, 104, 97, 108, 108, 101, 110, 103, 101]⟩ : ByteArray) (Dg.bytes r)).run Tryz.prog W = .ok (.string (Sg.cw ++ Dg.bytes r)) W :=
  run_string_add_sum (P := Tryz.prog) W _ _ (by rw [Dg.bytes_size]; decide)
theorem Sg.a2 (r k : Int) (W : World) : (Op.stringOp .add (Sg.cw ++ Dg.bytes r) (Dg.bytes k)).run Tryz.prog W = .ok (.string (Sg.cw ++ Dg.bytes r ++ Dg.bytes k)) W :=
  run_string_add_sum (P := Tryz.prog) W _ _ (by rw [ByteArray.size_append, Dg.bytes_size, Dg.bytes_size]; decide)
theorem Sg.a3 (r k : Int) (t : ByteArray) (ht : t.size ≤ 1048576) (W : World) : (Op.stringOp .add (Sg.cw ++ Dg.bytes r ++ Dg.bytes k) t).run Tryz.prog W = .ok (.string (Sg.chs r k t)) W :=
  run_string_add_sum (P := Tryz.prog) W _ _ (by rw [ByteArray.size_append, ByteArray.size_append, Dg.bytes_size, Dg.bytes_size, show Sg.cw.size = 9 from rfl]; omega)
theorem Sg.chs_size (r k : Int) (t : ByteArray) (ht : t.size ≤ 1048576) : (Sg.chs r k t).size ≤ 9223372036854775807 := by
  unfold Sg.chs
  rw [ByteArray.size_append, ByteArray.size_append, ByteArray.size_append, Dg.bytes_size, Dg.bytes_size, show Sg.cw.size = 9 from rfl]
  omega
theorem Sg.b1 (s : Int) (W : World) : (Op.stringOp .add (⟨#[110, 111, 110, 99, 101]⟩ : ByteArray) (Dg.bytes s)).run Tryz.prog W = .ok (.string (Sg.nw ++ Dg.bytes s)) W :=
  run_string_add_sum (P := Tryz.prog) W _ _ (by rw [Dg.bytes_size]; decide)
theorem Sg.b2 (s : Int) (t : ByteArray) (ht : t.size ≤ 1048576) (W : World) : (Op.stringOp .add (Sg.nw ++ Dg.bytes s) t).run Tryz.prog W = .ok (.string (Sg.nos s t)) W :=
  run_string_add_sum (P := Tryz.prog) W _ _ (by rw [ByteArray.size_append, Dg.bytes_size, show Sg.nw.size = 5 from rfl]; omega)
theorem Sg.nos_size (s : Int) (t : ByteArray) (ht : t.size ≤ 1048576) : (Sg.nos s t).size ≤ 9223372036854775807 := by
  unfold Sg.nos
  rw [ByteArray.size_append, ByteArray.size_append, Dg.bytes_size, show Sg.nw.size = 5 from rfl]
  omega
set_option maxRecDepth 100000 in
set_option maxHeartbeats 800000 in
theorem l5Challenge_any (r k : Int) (t : ByteArray) (w : World) (r0 : 0 ≤ r) (r1 : r ≤ 4294967295) (k0 : 0 ≤ k) (k1 : k ≤ 4294967295) (ht : t.size ≤ 1048576) :
    Calls Tryz.prog 134 #[.int .i64 r, .int .i64 k, .string t] w fun e w' => e = .returned (.int .i64 (Sg.ch r k t)) ∧ Below w.heap.size w w' := by
  have s1 := Sg.a1 r
  have s2 := Sg.a2 r k
  have s3 := Sg.a3 r k t ht
  have hsz := Sg.chs_size r k t ht
  have HC : Hid (Sg.ch r k t = Dg.of (Sg.chs r k t) % 1073741789) := Lib.hid rfl
  obtain ⟨N, HN⟩ : ∃ N, Hid (Sg.chs r k t = N) := ⟨_, Lib.hid rfl⟩
  rw [HN.out] at s3 hsz HC
  obtain ⟨d0, d1⟩ := Dg.of_bd N
  obtain ⟨D, HD⟩ : ∃ D, Hid (Dg.of N = D) := ⟨_, Lib.hid rfl⟩
  rw [HD.out] at d0 d1 HC
  rw [HC.out]
  go_enter Tryz.func134, Tryz.ntmps134
  go_wp2_with fail
  refine (l2Bytes_any r _ r0 r1).mono ?_
  rintro e1 w1 ⟨rfl, hb1⟩
  go_wp2_with fail
  refine (l2Bytes_any k _ k0 k1).mono ?_
  rintro e2 w2 ⟨rfl, hb2⟩
  replace hb2 := below_after hb1 hb2
  clear hb1
  go_wp2_with fail
  refine (specDigest_any N _ hsz).mono ?_
  rw [HD.out]
  rintro e3 w3 ⟨rfl, hb3⟩
  replace hb3 := below_after hb2 hb3
  clear hb2
  go_wp2
  go_ret
  exact ⟨rfl, hb3⟩
set_option maxRecDepth 100000 in
set_option maxHeartbeats 800000 in
theorem implChallenge_yes (r k : Int) (t : ByteArray) (w : World) (hr : Gr.ok r = true) (hk : Gr.ok k = true) (ht : t.size ≤ 1048576) :
    Calls Tryz.prog 108 #[.int .i64 r, .int .i64 k, .string t] w fun e w' => e = .returned (.int .i64 (Sg.ch r k t)) ∧ Below w.heap.size w w' := by
  obtain ⟨r0, r1⟩ := Gr.E_bd ((Gr.ok_iff r).mp hr)
  obtain ⟨k0, k1⟩ := Gr.E_bd ((Gr.ok_iff k).mp hk)
  have HR := Lib.hid hr
  have HK := Lib.hid hk
  clear hr hk
  have s1 := Sg.a1 r
  have s2 := Sg.a2 r k
  have s3 := Sg.a3 r k t ht
  have hsz := Sg.chs_size r k t ht
  have HC : Hid (Sg.ch r k t = Dg.of (Sg.chs r k t) % 1073741789) := Lib.hid rfl
  obtain ⟨N, HN⟩ : ∃ N, Hid (Sg.chs r k t = N) := ⟨_, Lib.hid rfl⟩
  rw [HN.out] at s3 hsz HC
  obtain ⟨d0, d1⟩ := Dg.of_bd N
  obtain ⟨D, HD⟩ : ∃ D, Hid (Dg.of N = D) := ⟨_, Lib.hid rfl⟩
  rw [HD.out] at d0 d1 HC
  rw [HC.out]
  go_enter Tryz.func108, Tryz.ntmps108
  go_wp2_with fail
  refine (implGroupOk_any r _).mono ?_
  rw [HR.out]
  rintro e1 w1 ⟨rfl, hb1⟩
  go_wp2_with fail
  refine (implGroupOk_any k _).mono ?_
  rw [HK.out]
  rintro e2 w2 ⟨rfl, hb2⟩
  replace hb2 := below_after hb1 hb2
  clear hb1
  go_wp2_with fail
  refine (implDigestBytes_ok r _ (by omega) (by omega)).mono ?_
  rintro e3 w3 ⟨rfl, hb3⟩
  replace hb3 := below_after hb2 hb3
  clear hb2
  go_wp2_with fail
  refine (implDigestBytes_ok k _ (by omega) (by omega)).mono ?_
  rintro e4 w4 ⟨rfl, hb4⟩
  replace hb4 := below_after hb3 hb4
  clear hb3
  go_wp2_with fail
  refine (implDigest_any N _ hsz).mono ?_
  rw [HD.out]
  rintro e5 w5 ⟨rfl, hb5⟩
  replace hb5 := below_after hb4 hb5
  clear hb4
  go_wp2
  go_ret
  exact ⟨rfl, hb5⟩
set_option maxRecDepth 100000 in
set_option maxHeartbeats 800000 in
theorem implChallenge_any (r k : Int) (t : ByteArray) (w : World) (ht : t.size ≤ 1048576) :
    Calls Tryz.prog 108 #[.int .i64 r, .int .i64 k, .string t] w fun e w' => e = .returned (.int .i64 (Sg.chal r k t)) ∧ Below w.heap.size w w' := by
  by_cases hr : Gr.ok r = true
  · by_cases hk : Gr.ok k = true
    · unfold Sg.chal
      rw [hr, hk, Bool.true_and, if_pos rfl]
      exact implChallenge_yes r k t w hr hk ht
    · have HK : Hid (Gr.ok k = false) := Lib.hid (by simpa using hk)
      have HC : Hid (Sg.chal r k t = -1) := by unfold Sg.chal; rw [HK.out, Bool.and_false, if_neg (by simp)]; exact rfl
      have HR := Lib.hid hr
      rw [HC.out]
      clear hr hk
      go_enter Tryz.func108, Tryz.ntmps108
      go_wp2_with fail
      refine (implGroupOk_any r _).mono ?_
      rw [HR.out]
      rintro e1 w1 ⟨rfl, hb1⟩
      go_wp2_with fail
      refine (implGroupOk_any k _).mono ?_
      rw [HK.out]
      rintro e2 w2 ⟨rfl, hb2⟩
      replace hb2 := below_after hb1 hb2
      clear hb1
      go_wp2
      go_ret
      exact ⟨rfl, hb2⟩
  · have HR : Hid (Gr.ok r = false) := Lib.hid (by simpa using hr)
    have HC : Hid (Sg.chal r k t = -1) := by unfold Sg.chal; rw [HR.out, Bool.false_and, if_neg (by simp)]; exact rfl
    rw [HC.out]
    clear hr
    go_enter Tryz.func108, Tryz.ntmps108
    go_wp2_with fail
    refine (implGroupOk_any r _).mono ?_
    rw [HR.out]
    rintro e1 w1 ⟨rfl, hb1⟩
    go_wp2
    go_ret
    exact ⟨rfl, hb1⟩
set_option maxRecDepth 100000 in
set_option maxHeartbeats 800000 in
theorem nonceOf_any (s : Int) (t : ByteArray) (w : World) (s0 : 0 ≤ s) (s1 : s ≤ 4294967295) (ht : t.size ≤ 1048576) :
    Calls Tryz.prog 129 #[.int .i64 s, .string t] w fun e w' => e = .returned (.agg #[.int .i64 (Sg.no s t), .int .i64 1073741789]) ∧ Below w.heap.size w w' := by
  have t1 := Sg.b1 s
  have t2 := Sg.b2 s t ht
  have hsz := Sg.nos_size s t ht
  have HC : Hid (Sg.no s t = 1 + Dg.of (Sg.nos s t) % 1073741788) := Lib.hid rfl
  obtain ⟨N, HN⟩ : ∃ N, Hid (Sg.nos s t = N) := ⟨_, Lib.hid rfl⟩
  rw [HN.out] at t2 hsz HC
  obtain ⟨d0, d1⟩ := Dg.of_bd N
  obtain ⟨D, HD⟩ : ∃ D, Hid (Dg.of N = D) := ⟨_, Lib.hid rfl⟩
  rw [HD.out] at d0 d1 HC
  rw [HC.out]
  have HX : Bx w.heap.size 0 0 (w.alloc (.cells #[.int .i64 0, .int .i64 0] 86 (0, 0))) := ⟨heap_alloc_new _ _⟩
  go_enter Tryz.func129, Tryz.ntmps129
  go_wp2_with fail
  refine (implDigestBytes_ok s _ s0 s1).mono ?_
  rintro e1 w1 ⟨rfl, hb1⟩
  have HX1 := HX.below hb1
  have hc1 := below_after (below_alloc (Below.refl _ _) _) hb1
  clear HX hb1
  go_wp2_with fail
  refine (implDigest_any N _ hsz).mono ?_
  rw [HD.out]
  rintro e2 w2 ⟨rfl, hb2⟩
  have HX2 := HX1.below hb2
  have hc2 := below_after hc1 hb2
  clear HX1 hb2 hc1
  have x0 := HX2.c0
  have x1 := HX2.c1
  have g0 := HX2.f0 0
  have g1 := HX2.f0 1
  have HX3 := HX2.store (1 + D % 1073741788) 1073741789
  have hb3 := below_store hc2 w.heap.size (by omega) (.int .i64 (1 + D % 1073741788)) (.int .i64 1073741789)
  clear HX2 hc2
  go_wp2
  refine bodyPost_ret (results_cell_row (P := Tryz.prog) rfl _ _ w.heap.size 86 _ (0, 0) _ rfl HX3.held Tryz.underlying86 rfl (by kernel_rfl)) rfl ?_
  exact ⟨rfl, hb3⟩
set_option maxRecDepth 100000 in
set_option maxHeartbeats 800000 in
theorem l5Nonce_any (s : Int) (t : ByteArray) (w : World) (s0 : 0 ≤ s) (s1 : s ≤ 4294967295) (ht : t.size ≤ 1048576) :
    Calls Tryz.prog 133 #[.int .i64 s, .string t] w fun e w' => e = .returned (.int .i64 (Sg.no s t)) ∧ Below w.heap.size w w' := by
  have t1 := Sg.b1 s
  have t2 := Sg.b2 s t ht
  have hsz := Sg.nos_size s t ht
  have HC : Hid (Sg.no s t = 1 + Dg.of (Sg.nos s t) % 1073741788) := Lib.hid rfl
  obtain ⟨N, HN⟩ : ∃ N, Hid (Sg.nos s t = N) := ⟨_, Lib.hid rfl⟩
  rw [HN.out] at t2 hsz HC
  obtain ⟨d0, d1⟩ := Dg.of_bd N
  obtain ⟨D, HD⟩ : ∃ D, Hid (Dg.of N = D) := ⟨_, Lib.hid rfl⟩
  rw [HD.out] at d0 d1 HC
  rw [HC.out]
  go_enter Tryz.func133, Tryz.ntmps133
  go_wp2_with fail
  refine (l2Bytes_any s _ s0 s1).mono ?_
  rintro e1 w1 ⟨rfl, hb1⟩
  go_wp2_with fail
  refine (specDigest_any N _ hsz).mono ?_
  rw [HD.out]
  rintro e2 w2 ⟨rfl, hb2⟩
  replace hb2 := below_after hb1 hb2
  clear hb1
  go_wp2
  go_ret
  exact ⟨rfl, hb2⟩
end Go.Proofs.YtoocibabceeagabGreat

/-
  Contracts of chapter 5: equations, Verify; of the program.
-/
namespace Go.Proofs.YtoocibabceeagabGreat
open Go.RowKit

/-- The cells of an equation. -/
abbrev Sg.eqv (key e r s : Int) : Array Value := #[.int .i64 s, .int .i64 1073741789, .int .i64 r, .int .i64 2147483579, .int .i64 key, .int .i64 2147483579, .int .i64 e, .int .i64 1073741789]
abbrev Sg.eq0 : Array Value := #[.int .i64 0, .int .i64 0, .int .i64 0, .int .i64 0, .int .i64 0, .int .i64 0, .int .i64 0, .int .i64 0]
theorem Sg.win_of {key r s : Int} (h : Sg.shape key r s = true) : Gr.kok key = true ∧ Gr.ok r = true ∧ Sg.win s = true := by
  unfold Sg.shape at h
  rw [Bool.and_eq_true, Bool.and_eq_true] at h
  exact ⟨h.1.1, h.1.2, h.2⟩
theorem Sg.kok_ok {key : Int} (h : Gr.kok key = true) : Gr.ok key = true := by unfold Gr.kok at h; rw [Bool.and_eq_true] at h; exact h.1
set_option maxRecDepth 100000 in
set_option maxHeartbeats 1600000 in
theorem asEquation_yes (key r s : Int) (t : ByteArray) (w : World) (hs : Sg.shape key r s = true) (ht : t.size ≤ 1048576) :
    Calls Tryz.prog 64 #[.agg #[.int .i64 key, .string t, .int .i64 r, .int .i64 s]] w fun x w' => x = .returned (.tuple #[.agg (Sg.eqv key (Sg.ch r key t) r s), .bool true]) ∧ Below w.heap.size w w' := by
  obtain ⟨h1, h2, h3⟩ := Sg.win_of hs
  have HK := Lib.hid h1
  have HR := Lib.hid h2
  have HW := Lib.hid h3
  have hC := fun W => implChallenge_yes r key t W h2 (Sg.kok_ok h1) ht
  clear hs h1 h2 h3
  obtain ⟨E, HE⟩ : ∃ E, Hid (Sg.ch r key t = E) := ⟨_, Lib.hid rfl⟩
  rw [HE.out] at hC ⊢
  have HM : ∀ A, Bk w.heap.size 91 #[.int .i64 key, .string t, .int .i64 r, .int .i64 s] ((w.alloc (.cells #[.int .i64 key, .string t, .int .i64 r, .int .i64 s] 91 (0, 0))).alloc A) := fun A => (Bk.new w _ _).alloc A
  have HZ : ∀ A, Bk (w.heap.size + 1) 88 Sg.eq0 ((w.alloc A).alloc (.cells Sg.eq0 88 (0, 0))) := fun A => Bk.new' _ _ _ _ (by simp)
  go_enter Tryz.func64, Tryz.ntmps64
  go_wp2_with fail
  refine (implKeyOk_any key _).mono ?_
  rw [HK.out]
  rintro e1 w1 ⟨rfl, hb1⟩
  have HM1 := (HM _).below hb1
  have HZ1 := (HZ _).below hb1
  have hc1 := below_after (below_alloc (below_alloc (Below.refl _ _) _) _) hb1
  clear HM HZ hb1
  have m2 := HM1.cell 2
  simp at m2
  go_wp2_with fail
  refine (implGroupOk_any r _).mono ?_
  rw [HR.out]
  rintro e2 w2 ⟨rfl, hb2⟩
  have HM2 := HM1.below hb2
  have HZ2 := HZ1.below hb2
  have hc2 := below_after hc1 hb2
  clear HM1 HZ1 hb2 hc1 m2
  have m3 := HM2.cell 3
  simp at m3
  go_wp2_with fail
  refine (isScalar0_any s _).mono ?_
  rw [HW.out]
  rintro e3 w3 ⟨rfl, rfl⟩
  have hS2 := Bk.c4 HM2.drew
  go_wp2
  go_region_held3 (fun W => W.cell? ⟨w.heap.size, 0, none⟩ = some (.int .i64 key) ∧ W.cell? ⟨w.heap.size, 1, none⟩ = some (.string t) ∧ W.cell? ⟨w.heap.size, 2, none⟩ = some (.int .i64 r) ∧ W.cell? ⟨w.heap.size, 3, none⟩ = some (.int .i64 s)) (first | with_reducible exact hS2 | with_reducible exact hS4 | with_reducible exact hS5)
    (first | (go_at_call 108; refine (hC _).mono ?_; rintro e4 w4 ⟨rfl, hb4⟩; have HM4 := HM2.drew.below hb4; have hS4 := Bk.c4 HM4; have HZ4 := HZ2.drew.below hb4; obtain ⟨z0, z1, z2, z3, z4, z5, z6, z7⟩ := Bk.c8 HZ4; obtain ⟨f0, f1, f2, f3, f4, f5, f6, f7⟩ := HZ4.f8; have hc4 := below_after hc2.drew hb4; have HZ5 := Bk.store8 HZ4 (.int .i64 s) (.int .i64 1073741789) (.int .i64 r) (.int .i64 2147483579) (.int .i64 key) (.int .i64 2147483579) (.int .i64 E) (.int .i64 1073741789); have hS5 := Bk.c4 (Bk.other8 HM4 (w.heap.size + 1) (by omega) (.int .i64 s) (.int .i64 1073741789) (.int .i64 r) (.int .i64 2147483579) (.int .i64 key) (.int .i64 2147483579) (.int .i64 E) (.int .i64 1073741789)); have hb5 := below_store8 hc4 (w.heap.size + 1) (by omega) (.int .i64 s) (.int .i64 1073741789) (.int .i64 r) (.int .i64 2147483579) (.int .i64 key) (.int .i64 2147483579) (.int .i64 E) (.int .i64 1073741789)))
  go_wp2
  refine bodyPost_ret (results_cell_row2 (P := Tryz.prog) rfl _ _ (w.heap.size + 1) 88 _ (0, 0) _ rfl HZ5.held Tryz.underlying88 rfl (by kernel_rfl)) rfl ?_
  exact ⟨rfl, hb5⟩
set_option maxRecDepth 100000 in
set_option maxHeartbeats 1600000 in
theorem asEquation_no1 (key r s : Int) (t : ByteArray) (w : World) (hk : Gr.kok key = false) :
    Calls Tryz.prog 64 #[.agg #[.int .i64 key, .string t, .int .i64 r, .int .i64 s]] w fun x w' => x = .returned (.tuple #[.agg Sg.eq0, .bool false]) ∧ Below w.heap.size w w' := by
  have HK := Lib.hid hk
  clear hk
  have HM : ∀ A, Bk w.heap.size 91 #[.int .i64 key, .string t, .int .i64 r, .int .i64 s] ((w.alloc (.cells #[.int .i64 key, .string t, .int .i64 r, .int .i64 s] 91 (0, 0))).alloc A) := fun A => (Bk.new w _ _).alloc A
  have HZ : ∀ A, Bk (w.heap.size + 1) 88 Sg.eq0 ((w.alloc A).alloc (.cells Sg.eq0 88 (0, 0))) := fun A => Bk.new' _ _ _ _ (by simp)
  go_enter Tryz.func64, Tryz.ntmps64
  go_wp2_with fail
  refine (implKeyOk_any key _).mono ?_
  rw [HK.out]
  rintro e1 w1 ⟨rfl, hb1⟩
  have HM1 := (HM _).below hb1
  have HZ1 := (HZ _).below hb1
  have hc1 := below_after (below_alloc (below_alloc (Below.refl _ _) _) _) hb1
  clear HM HZ hb1
  obtain ⟨z0, z1, z2, z3, z4, z5, z6, z7⟩ := Bk.c8 HZ1
  obtain ⟨f0, f1, f2, f3, f4, f5, f6, f7⟩ := HZ1.f8
  have HZ5 := Bk.store8 HZ1 (.int .i64 0) (.int .i64 0) (.int .i64 0) (.int .i64 0) (.int .i64 0) (.int .i64 0) (.int .i64 0) (.int .i64 0)
  have hb5 := below_store8 hc1 (w.heap.size + 1) (by omega) (.int .i64 0) (.int .i64 0) (.int .i64 0) (.int .i64 0) (.int .i64 0) (.int .i64 0) (.int .i64 0) (.int .i64 0)
  clear HZ1 HM1 hc1
  go_wp2
  refine bodyPost_ret (results_cell_row2 (P := Tryz.prog) rfl _ _ (w.heap.size + 1) 88 _ (0, 0) _ rfl HZ5.held Tryz.underlying88 rfl (by kernel_rfl)) rfl ?_
  exact ⟨rfl, hb5⟩
set_option maxRecDepth 100000 in
set_option maxHeartbeats 1600000 in
theorem asEquation_no2 (key r s : Int) (t : ByteArray) (w : World) (hk : Gr.kok key = true) (hr : Gr.ok r = false) :
    Calls Tryz.prog 64 #[.agg #[.int .i64 key, .string t, .int .i64 r, .int .i64 s]] w fun x w' => x = .returned (.tuple #[.agg Sg.eq0, .bool false]) ∧ Below w.heap.size w w' := by
  have HK := Lib.hid hk
  have HR := Lib.hid hr
  clear hk hr
  have HM : ∀ A, Bk w.heap.size 91 #[.int .i64 key, .string t, .int .i64 r, .int .i64 s] ((w.alloc (.cells #[.int .i64 key, .string t, .int .i64 r, .int .i64 s] 91 (0, 0))).alloc A) := fun A => (Bk.new w _ _).alloc A
  have HZ : ∀ A, Bk (w.heap.size + 1) 88 Sg.eq0 ((w.alloc A).alloc (.cells Sg.eq0 88 (0, 0))) := fun A => Bk.new' _ _ _ _ (by simp)
  go_enter Tryz.func64, Tryz.ntmps64
  go_wp2_with fail
  refine (implKeyOk_any key _).mono ?_
  rw [HK.out]
  rintro e1 w1 ⟨rfl, hb1⟩
  have HM1 := (HM _).below hb1
  have HZ1 := (HZ _).below hb1
  have hc1 := below_after (below_alloc (below_alloc (Below.refl _ _) _) _) hb1
  clear HM HZ hb1
  have m2 := HM1.cell 2
  simp at m2
  go_wp2_with fail
  refine (implGroupOk_any r _).mono ?_
  rw [HR.out]
  rintro e2 w2 ⟨rfl, hb2⟩
  have HM2 := HM1.below hb2
  have HZ2 := HZ1.below hb2
  have hc2 := below_after hc1 hb2
  clear HM1 HZ1 hb2 hc1 m2
  obtain ⟨z0, z1, z2, z3, z4, z5, z6, z7⟩ := Bk.c8 HZ2
  obtain ⟨f0, f1, f2, f3, f4, f5, f6, f7⟩ := HZ2.f8
  have HZ5 := Bk.store8 HZ2 (.int .i64 0) (.int .i64 0) (.int .i64 0) (.int .i64 0) (.int .i64 0) (.int .i64 0) (.int .i64 0) (.int .i64 0)
  have hb5 := below_store8 hc2 (w.heap.size + 1) (by omega) (.int .i64 0) (.int .i64 0) (.int .i64 0) (.int .i64 0) (.int .i64 0) (.int .i64 0) (.int .i64 0) (.int .i64 0)
  clear HZ2 HM2 hc2
  go_wp2
  refine bodyPost_ret (results_cell_row2 (P := Tryz.prog) rfl _ _ (w.heap.size + 1) 88 _ (0, 0) _ rfl HZ5.held Tryz.underlying88 rfl (by kernel_rfl)) rfl ?_
  exact ⟨rfl, hb5⟩
set_option maxRecDepth 100000 in
set_option maxHeartbeats 1600000 in
theorem asEquation_no3 (key r s : Int) (t : ByteArray) (w : World) (hk : Gr.kok key = true) (hr : Gr.ok r = true) (hs : Sg.win s = false) :
    Calls Tryz.prog 64 #[.agg #[.int .i64 key, .string t, .int .i64 r, .int .i64 s]] w fun x w' => x = .returned (.tuple #[.agg Sg.eq0, .bool false]) ∧ Below w.heap.size w w' := by
  have HK := Lib.hid hk
  have HR := Lib.hid hr
  have HW := Lib.hid hs
  clear hk hr hs
  have HM : ∀ A, Bk w.heap.size 91 #[.int .i64 key, .string t, .int .i64 r, .int .i64 s] ((w.alloc (.cells #[.int .i64 key, .string t, .int .i64 r, .int .i64 s] 91 (0, 0))).alloc A) := fun A => (Bk.new w _ _).alloc A
  have HZ : ∀ A, Bk (w.heap.size + 1) 88 Sg.eq0 ((w.alloc A).alloc (.cells Sg.eq0 88 (0, 0))) := fun A => Bk.new' _ _ _ _ (by simp)
  go_enter Tryz.func64, Tryz.ntmps64
  go_wp2_with fail
  refine (implKeyOk_any key _).mono ?_
  rw [HK.out]
  rintro e1 w1 ⟨rfl, hb1⟩
  have HM1 := (HM _).below hb1
  have HZ1 := (HZ _).below hb1
  have hc1 := below_after (below_alloc (below_alloc (Below.refl _ _) _) _) hb1
  clear HM HZ hb1
  have m2 := HM1.cell 2
  simp at m2
  go_wp2_with fail
  refine (implGroupOk_any r _).mono ?_
  rw [HR.out]
  rintro e2 w2 ⟨rfl, hb2⟩
  have HM2 := HM1.below hb2
  have HZ2 := HZ1.below hb2
  have hc2 := below_after hc1 hb2
  clear HM1 HZ1 hb2 hc1 m2
  have m3 := HM2.cell 3
  simp at m3
  go_wp2_with fail
  refine (isScalar0_any s _).mono ?_
  rw [HW.out]
  rintro e3 w3 ⟨rfl, rfl⟩
  obtain ⟨z0, z1, z2, z3, z4, z5, z6, z7⟩ := Bk.c8 HZ2
  obtain ⟨f0, f1, f2, f3, f4, f5, f6, f7⟩ := HZ2.f8
  have HZ5 := Bk.store8 HZ2 (.int .i64 0) (.int .i64 0) (.int .i64 0) (.int .i64 0) (.int .i64 0) (.int .i64 0) (.int .i64 0) (.int .i64 0)
  have hb5 := below_store8 hc2 (w.heap.size + 1) (by omega) (.int .i64 0) (.int .i64 0) (.int .i64 0) (.int .i64 0) (.int .i64 0) (.int .i64 0) (.int .i64 0) (.int .i64 0)
  clear HZ2 HM2 hc2
  go_wp2
  refine bodyPost_ret (results_cell_row2 (P := Tryz.prog) rfl _ _ (w.heap.size + 1) 88 _ (0, 0) _ rfl HZ5.held Tryz.underlying88 rfl (by kernel_rfl)) rfl ?_
  exact ⟨rfl, hb5⟩
theorem asEquation_no (key r s : Int) (t : ByteArray) (w : World) (hs : Sg.shape key r s = false) :
    Calls Tryz.prog 64 #[.agg #[.int .i64 key, .string t, .int .i64 r, .int .i64 s]] w fun x w' => x = .returned (.tuple #[.agg Sg.eq0, .bool false]) ∧ Below w.heap.size w w' := by
  cases hk : Gr.kok key
  · exact asEquation_no1 key r s t w hk
  · cases hr : Gr.ok r
    · exact asEquation_no2 key r s t w hk hr
    · refine asEquation_no3 key r s t w hk hr ?_
      unfold Sg.shape at hs
      rw [hk, hr, Bool.true_and, Bool.true_and] at hs
      exact hs

/-- The right side's power: the term of one equation with a weight. -/
def Sg.tm (key e r wgt : Int) : Int := Gr.pw 2147483579 r wgt * Gr.pw 2147483579 key (wgt * e % 1073741789) % 2147483579
theorem Sg.tm_one {key e r : Int} (r0 : 0 ≤ r) (r1 : r < 2147483579) (e0 : 0 ≤ e) (e1 : e < 1073741789) : Sg.tm key e r 1 = Sg.rt key e r := by
  unfold Sg.tm Sg.rt
  rw [Gr.pw_one _ r r0 r1, Int.one_mul, Int.emod_eq_of_lt e0 e1]
theorem Sg.tm_bd (key e r wgt : Int) : 0 ≤ Sg.tm key e r wgt ∧ Sg.tm key e r wgt < 2147483579 := ⟨Int.emod_nonneg _ (by decide), Int.emod_lt_of_pos _ (by decide)⟩
set_option maxRecDepth 100000 in
set_option maxHeartbeats 1600000 in
theorem rightSide_any (key e r s wgt : Int) (w : World) (k0 : 0 ≤ key) (k1 : key < 2147483579) (r0 : 0 ≤ r) (r1 : r < 2147483579) (e0 : 0 ≤ e) (e1 : e < 1073741789) (g0 : 0 ≤ wgt) (g1 : wgt < 1073741789) :
    Calls Tryz.prog 110 #[.agg #[.int .i64 s, .int .i64 1073741789, .int .i64 r, .int .i64 2147483579, .int .i64 key, .int .i64 2147483579, .int .i64 e, .int .i64 1073741789], .agg #[.int .i64 wgt, .int .i64 1073741789]] w fun x w' => x = .returned (.agg #[.int .i64 (Sg.tm key e r wgt), .int .i64 2147483579]) ∧ Below w.heap.size w w' := by
  obtain ⟨P1, HP1⟩ : ∃ P1, Hid (Gr.pw 2147483579 r wgt = P1) := ⟨_, Lib.hid rfl⟩
  obtain ⟨T1, HT1⟩ : ∃ T1, Hid (wgt * e % 1073741789 = T1) := ⟨_, Lib.hid rfl⟩
  obtain ⟨P2, HP2⟩ : ∃ P2, Hid (Gr.pw 2147483579 key T1 = P2) := ⟨_, Lib.hid rfl⟩
  obtain ⟨T2, HT2⟩ : ∃ T2, Hid (P1 * P2 % 2147483579 = T2) := ⟨_, Lib.hid rfl⟩
  have HR : Hid (Sg.tm key e r wgt = T2) := by unfold Sg.tm; rw [HP1.out, HT1.out, HP2.out, HT2.out]; exact rfl
  obtain ⟨p0, p1⟩ := Gr.pb r wgt
  rw [HP1.out] at p0 p1
  obtain ⟨q0, q1⟩ := Gr.pb key T1
  rw [HP2.out] at q0 q1
  have t0 : 0 ≤ T1 := by rw [← HT1.out]; exact Int.emod_nonneg _ (by decide)
  have t1 : T1 < 1073741789 := by rw [← HT1.out]; exact Int.emod_lt_of_pos _ (by decide)
  have hcon1 := fun W => power_any r 2147483579 wgt W (by omega) (by omega) r0 r1 (by omega)
  have hcon2 := fun W => times_any wgt e 1073741789 W (by omega) (by omega) g0 g1 e0 e1
  have hcon3 := fun W => power_any key 2147483579 T1 W (by omega) (by omega) k0 k1 (by omega)
  have hcon4 := fun W => times_any P1 P2 2147483579 W (by omega) (by omega) p0 p1 q0 q1
  rw [HP1.out] at hcon1
  rw [HT1.out] at hcon2
  rw [HP2.out] at hcon3
  rw [HT2.out] at hcon4
  rw [HR.out]
  clear HP1 HT1 HP2 HT2 HR k0 k1 r0 r1 e0 e1 g0 g1 p0 p1 q0 q1 t0 t1
  have hf := field_n T1 1073741789
  have HE0 : Bk w.heap.size 88 #[.int .i64 s, .int .i64 1073741789, .int .i64 r, .int .i64 2147483579, .int .i64 key, .int .i64 2147483579, .int .i64 e, .int .i64 1073741789] (((w.alloc (.cells #[.int .i64 s, .int .i64 1073741789, .int .i64 r, .int .i64 2147483579, .int .i64 key, .int .i64 2147483579, .int .i64 e, .int .i64 1073741789] 88 (0, 0))).alloc (.cells #[.int .i64 wgt, .int .i64 1073741789] 86 (0, 0))).alloc (.cells #[.int .i64 0, .int .i64 0] 86 (0, 0))) ∧ Bk (w.heap.size + 1) 86 #[.int .i64 wgt, .int .i64 1073741789] (((w.alloc (.cells #[.int .i64 s, .int .i64 1073741789, .int .i64 r, .int .i64 2147483579, .int .i64 key, .int .i64 2147483579, .int .i64 e, .int .i64 1073741789] 88 (0, 0))).alloc (.cells #[.int .i64 wgt, .int .i64 1073741789] 86 (0, 0))).alloc (.cells #[.int .i64 0, .int .i64 0] 86 (0, 0))) ∧ Bk (w.heap.size + 1 + 1) 86 #[.int .i64 0, .int .i64 0] (((w.alloc (.cells #[.int .i64 s, .int .i64 1073741789, .int .i64 r, .int .i64 2147483579, .int .i64 key, .int .i64 2147483579, .int .i64 e, .int .i64 1073741789] 88 (0, 0))).alloc (.cells #[.int .i64 wgt, .int .i64 1073741789] 86 (0, 0))).alloc (.cells #[.int .i64 0, .int .i64 0] 86 (0, 0))) :=
    ⟨((Bk.new w _ _).alloc _).alloc _, (Bk.new' _ _ _ _ (by simp)).alloc _, Bk.new' _ _ _ _ (by simp)⟩
  have hc0 : Below w.heap.size w (((w.alloc (.cells #[.int .i64 s, .int .i64 1073741789, .int .i64 r, .int .i64 2147483579, .int .i64 key, .int .i64 2147483579, .int .i64 e, .int .i64 1073741789] 88 (0, 0))).alloc (.cells #[.int .i64 wgt, .int .i64 1073741789] 86 (0, 0))).alloc (.cells #[.int .i64 0, .int .i64 0] 86 (0, 0))) := below_alloc (below_alloc (below_alloc (Below.refl _ _) _) _) _
  have hSof : ∀ W, Bk w.heap.size 88 #[.int .i64 s, .int .i64 1073741789, .int .i64 r, .int .i64 2147483579, .int .i64 key, .int .i64 2147483579, .int .i64 e, .int .i64 1073741789] W → Bk (w.heap.size + 1) 86 #[.int .i64 wgt, .int .i64 1073741789] W → W.cell? ⟨w.heap.size, 0, none⟩ = some (.int .i64 s) ∧ W.cell? ⟨w.heap.size, 1, none⟩ = some (.int .i64 1073741789) ∧ W.cell? ⟨w.heap.size, 2, none⟩ = some (.int .i64 r) ∧ W.cell? ⟨w.heap.size, 3, none⟩ = some (.int .i64 2147483579) ∧ W.cell? ⟨w.heap.size, 4, none⟩ = some (.int .i64 key) ∧ W.cell? ⟨w.heap.size, 5, none⟩ = some (.int .i64 2147483579) ∧ W.cell? ⟨w.heap.size, 6, none⟩ = some (.int .i64 e) ∧ W.cell? ⟨w.heap.size, 7, none⟩ = some (.int .i64 1073741789) ∧ W.cell? ⟨w.heap.size + 1, 0, none⟩ = some (.int .i64 wgt) ∧ W.cell? ⟨w.heap.size + 1, 1, none⟩ = some (.int .i64 1073741789) :=
    fun W h k => ⟨h.cell 0, h.cell 1, h.cell 2, h.cell 3, h.cell 4, h.cell 5, h.cell 6, h.cell 7, k.cell 0, k.cell 1⟩
  have hS0 := hSof _ HE0.1.drew HE0.2.1.drew
  go_enter Tryz.func110, Tryz.ntmps110
  go_wp2
  go_region_held3 (fun W => W.cell? ⟨w.heap.size, 0, none⟩ = some (.int .i64 s) ∧ W.cell? ⟨w.heap.size, 1, none⟩ = some (.int .i64 1073741789) ∧ W.cell? ⟨w.heap.size, 2, none⟩ = some (.int .i64 r) ∧ W.cell? ⟨w.heap.size, 3, none⟩ = some (.int .i64 2147483579) ∧ W.cell? ⟨w.heap.size, 4, none⟩ = some (.int .i64 key) ∧ W.cell? ⟨w.heap.size, 5, none⟩ = some (.int .i64 2147483579) ∧ W.cell? ⟨w.heap.size, 6, none⟩ = some (.int .i64 e) ∧ W.cell? ⟨w.heap.size, 7, none⟩ = some (.int .i64 1073741789) ∧ W.cell? ⟨w.heap.size + 1, 0, none⟩ = some (.int .i64 wgt) ∧ W.cell? ⟨w.heap.size + 1, 1, none⟩ = some (.int .i64 1073741789)) (first | with_reducible exact hS0 | with_reducible exact hS1 | with_reducible exact hS2 | with_reducible exact hS3 | with_reducible exact hS4 | with_reducible exact hS5)
    (first
      | (go_at_call_of 93 (Value.int .i64 wgt); refine (hcon1 _).mono ?_; rintro x1 w1 ⟨rfl, hb1⟩; have HE1 := And.intro (HE0.1.drew.below hb1) (And.intro (HE0.2.1.drew.below hb1) (HE0.2.2.drew.below hb1)); have hS1 := hSof _ HE1.1 HE1.2.1; have hc1 := below_after hc0.drew hb1)
      | (go_at_call_of 131 (Value.agg #[.int .i64 wgt, .int .i64 1073741789]); refine (hcon2 _).mono ?_; rintro x2 w2 ⟨rfl, hb2⟩; have HE2 := And.intro (HE1.1.below hb2) (And.intro (HE1.2.1.below hb2) (HE1.2.2.below hb2)); have hS2 := hSof _ HE2.1 HE2.2.1; have hc2 := below_after hc1 hb2)
      | (go_at_call_of 93 (Value.int .i64 T1); refine (hcon3 _).mono ?_; rintro x3 w3 ⟨rfl, hb3⟩; have HE3 := And.intro (HE2.1.below hb3) (And.intro (HE2.2.1.below hb3) (HE2.2.2.below hb3)); have hS3 := hSof _ HE3.1 HE3.2.1; have hc3 := below_after hc2 hb3)
      | (go_at_call_of 131 (Value.agg #[.int .i64 P1, .int .i64 2147483579]); refine (hcon4 _).mono ?_; rintro x4 w4 ⟨rfl, hb4⟩; have HE4 := And.intro (HE3.1.below hb4) (And.intro (HE3.2.1.below hb4) (HE3.2.2.below hb4)); have hS4 := hSof _ HE4.1 HE4.2.1; have hc4 := below_after hc3 hb4; obtain ⟨z0, z1⟩ := Bk.c2 HE4.2.2; obtain ⟨f0, f1⟩ := HE4.2.2.f2; have HZ5 := Bk.store2 HE4.2.2 (.int .i64 T2) (.int .i64 2147483579); have hS5 := hSof _ (Bk.other2 HE4.1 (w.heap.size + 1 + 1) (by omega) (.int .i64 T2) (.int .i64 2147483579)) (Bk.other2 HE4.2.1 (w.heap.size + 1 + 1) (by omega) (.int .i64 T2) (.int .i64 2147483579)); have hb5 := below_store2 hc4 (w.heap.size + 1 + 1) (by omega) (.int .i64 T2) (.int .i64 2147483579)))
  go_wp2
  refine bodyPost_ret (results_cell_row (P := Tryz.prog) rfl _ _ (w.heap.size + 1 + 1) 86 _ (0, 0) _ rfl HZ5.held Tryz.underlying86 rfl (by kernel_rfl)) rfl ?_
  exact ⟨rfl, hb5⟩
theorem eq_residue (a b c d : Int) (w : World) : (Op.equalIn 10000 86 (.agg #[.int .i64 a, .int .i64 b]) (.agg #[.int .i64 c, .int .i64 d])).run Tryz.prog w = .ok (a == c && b == d) w := by
  have u3 := Tryz.underlying3
  have a3 := Tryz.isAgg3
  have z3 := Tryz.sizeOf3
  have hS : Tryz.prog.underlying 86 = some (.struct (Tryz.prog.fieldsOf 86)) := by kernel_rfl
  rw [show (10000 : Nat) = 9999 + 1 from rfl, run_equalIn_agg w 9999 86 _ _ hS (by kernel_rfl)]
  simp only [Program.fieldsOf, Tryz.underlying86]
  go_simp
  by_cases h1 : a = c <;> by_cases h2 : b = d <;> simp [h1, h2]
theorem eq_sig (a b c d : Int) (w : World) : (Op.equalIn 10000 38 (.agg #[.int .i64 a, .int .i64 b]) (.agg #[.int .i64 c, .int .i64 d])).run Tryz.prog w = .ok (a == c && b == d) w := by
  have u3 := Tryz.underlying3
  have a3 := Tryz.isAgg3
  have z3 := Tryz.sizeOf3
  have hS : Tryz.prog.underlying 38 = some (.struct (Tryz.prog.fieldsOf 38)) := by kernel_rfl
  rw [show (10000 : Nat) = 9999 + 1 from rfl, run_equalIn_agg w 9999 38 _ _ hS (by kernel_rfl)]
  simp only [Program.fieldsOf, Tryz.underlying38]
  go_simp
  by_cases h1 : a = c <;> by_cases h2 : b = d <;> simp [h1, h2]
theorem noGuard_residue : Tryz.prog.eqGuardType Tryz.prog.depth 86 = false := by kernel_rfl
theorem noGuard_sig : Tryz.prog.eqGuardType Tryz.prog.depth 38 = false := by kernel_rfl
set_option maxRecDepth 100000 in
set_option maxHeartbeats 1600000 in
theorem holds_any (key e r s : Int) (w : World) (k0 : 0 ≤ key) (k1 : key < 2147483579) (r0 : 0 ≤ r) (r1 : r < 2147483579) (e0 : 0 ≤ e) (e1 : e < 1073741789) (s1 : s < 1073741789) :
    Calls Tryz.prog 65 #[.agg #[.int .i64 s, .int .i64 1073741789, .int .i64 r, .int .i64 2147483579, .int .i64 key, .int .i64 2147483579, .int .i64 e, .int .i64 1073741789]] w fun x w' => x = .returned (.bool (Sg.eqn key e r s)) ∧ Below w.heap.size w w' := by
  have hcon1 := fun W => basePower_any s 1073741789 W (by omega)
  have hcon2 := fun W => rightSide_any key e r s 1 W k0 k1 r0 r1 e0 e1 (by omega) (by omega)
  rw [Sg.tm_one r0 r1 e0 e1] at hcon2
  have HQ : Hid (Sg.eqn key e r s = (Sg.gp s == Sg.rt key e r)) := Lib.hid rfl
  obtain ⟨G, HG⟩ : ∃ G, Hid (Sg.gp s = G) := ⟨_, Lib.hid rfl⟩
  obtain ⟨R, HR⟩ : ∃ R, Hid (Sg.rt key e r = R) := ⟨_, Lib.hid rfl⟩
  rw [HG.out] at hcon1 HQ
  rw [HR.out] at hcon2 HQ
  rw [HQ.out]
  clear HQ HG HR k0 k1 r0 r1 e0 e1 s1
  have HE0 : Bk w.heap.size 88 #[.int .i64 s, .int .i64 1073741789, .int .i64 r, .int .i64 2147483579, .int .i64 key, .int .i64 2147483579, .int .i64 e, .int .i64 1073741789] (w.alloc (.cells #[.int .i64 s, .int .i64 1073741789, .int .i64 r, .int .i64 2147483579, .int .i64 key, .int .i64 2147483579, .int .i64 e, .int .i64 1073741789] 88 (0, 0))) := Bk.new _ _ _
  have hc0 : Below w.heap.size w (w.alloc (.cells #[.int .i64 s, .int .i64 1073741789, .int .i64 r, .int .i64 2147483579, .int .i64 key, .int .i64 2147483579, .int .i64 e, .int .i64 1073741789] 88 (0, 0))) := below_alloc (Below.refl _ _) _
  have hSof : ∀ W, Bk w.heap.size 88 #[.int .i64 s, .int .i64 1073741789, .int .i64 r, .int .i64 2147483579, .int .i64 key, .int .i64 2147483579, .int .i64 e, .int .i64 1073741789] W → W.cell? ⟨w.heap.size, 0, none⟩ = some (.int .i64 s) ∧ W.cell? ⟨w.heap.size, 1, none⟩ = some (.int .i64 1073741789) ∧ W.cell? ⟨w.heap.size, 2, none⟩ = some (.int .i64 r) ∧ W.cell? ⟨w.heap.size, 3, none⟩ = some (.int .i64 2147483579) ∧ W.cell? ⟨w.heap.size, 4, none⟩ = some (.int .i64 key) ∧ W.cell? ⟨w.heap.size, 5, none⟩ = some (.int .i64 2147483579) ∧ W.cell? ⟨w.heap.size, 6, none⟩ = some (.int .i64 e) ∧ W.cell? ⟨w.heap.size, 7, none⟩ = some (.int .i64 1073741789) := fun W h => Bk.c8 h
  have hS0 := hSof _ HE0.drew
  have hq1 := fun W => eq_residue G 2147483579 R 2147483579 W
  rw [show ((2147483579 : Int) == 2147483579) = true from rfl, Bool.and_true] at hq1
  have hq2 := noGuard_residue
  go_enter Tryz.func65, Tryz.ntmps65
  go_wp2
  go_region_held3 (fun W => W.cell? ⟨w.heap.size, 0, none⟩ = some (.int .i64 s) ∧ W.cell? ⟨w.heap.size, 1, none⟩ = some (.int .i64 1073741789) ∧ W.cell? ⟨w.heap.size, 2, none⟩ = some (.int .i64 r) ∧ W.cell? ⟨w.heap.size, 3, none⟩ = some (.int .i64 2147483579) ∧ W.cell? ⟨w.heap.size, 4, none⟩ = some (.int .i64 key) ∧ W.cell? ⟨w.heap.size, 5, none⟩ = some (.int .i64 2147483579) ∧ W.cell? ⟨w.heap.size, 6, none⟩ = some (.int .i64 e) ∧ W.cell? ⟨w.heap.size, 7, none⟩ = some (.int .i64 1073741789)) (first | with_reducible exact hS0 | with_reducible exact hS1 | with_reducible exact hS2)
    (first
      | (go_at_call 109; refine (hcon1 _).mono ?_; rintro x1 w1 ⟨rfl, hb1⟩; have HE1 := HE0.drew.below hb1; have hS1 := hSof _ HE1; have hc1 := below_after hc0.drew hb1)
      | (go_at_call 110; refine (hcon2 _).mono ?_; rintro x2 w2 ⟨rfl, hb2⟩; have HE2 := HE1.below hb2; have hS2 := hSof _ HE2; have hc2 := below_after hc1 hb2))
  go_wp2
  go_ret
  exact ⟨rfl, hc2⟩
end Go.Proofs.YtoocibabceeagabGreat

/-
  Contracts of chapter 5: Sign, Verify; of the program and of the model.
-/
namespace Go.Proofs.YtoocibabceeagabGreat
open Go.RowKit

/-- What Sign answers. -/
def Sg.o0 (secret : Int) (t : ByteArray) : Int := if Gr.sok secret then Sg.sr secret t else 0
def Sg.o1 (secret : Int) (t : ByteArray) : Int := if Gr.sok secret then Sg.ss secret t else 0
theorem Sg.o_yes {secret : Int} {t : ByteArray} (h : Gr.sok secret = true) : Sg.o0 secret t = Sg.sr secret t ∧ Sg.o1 secret t = Sg.ss secret t := by
  unfold Sg.o0 Sg.o1
  rw [h, if_pos rfl, if_pos rfl]
  exact ⟨rfl, rfl⟩
theorem Sg.o_no {secret : Int} {t : ByteArray} (h : Gr.sok secret = false) : Sg.o0 secret t = 0 ∧ Sg.o1 secret t = 0 := by
  unfold Sg.o0 Sg.o1
  rw [h, if_neg (by simp), if_neg (by simp)]
  exact ⟨rfl, rfl⟩
theorem Sg.sc_bd (secret : Int) (t : ByteArray) : 0 ≤ Sg.sc secret t ∧ Sg.sc secret t < 1073741789 := Sg.ch_bd _ _ _
set_option maxRecDepth 100000 in
set_option maxHeartbeats 1600000 in
theorem l5Sign_any (x : Int) (t : ByteArray) (w : World) (x0 : 1 ≤ x) (x1 : x ≤ 1073741788) (ht : t.size ≤ 1048576) :
    Calls Tryz.prog 91 #[.int .i64 x, .string t] w fun e w' => e = .returned (.agg #[.int .i64 (Sg.sr x t), .int .i64 (Sg.ss x t)]) ∧ Below w.heap.size w w' := by
  obtain ⟨n0, n1⟩ := Sg.no_bd x t
  obtain ⟨c0, c1⟩ := Sg.sc_bd x t
  have hcon1 := fun W => l5Nonce_any x t W (by omega) (by omega) ht
  have hcon4 := fun W => l5Challenge_any (Sg.sr x t) (Sg.gp x) t W (Sg.gp_bd _).1 (by have := (Sg.gp_bd (Sg.no x t)).2; unfold Sg.sr; omega) (Sg.gp_bd _).1 (by have := (Sg.gp_bd x).2; omega) ht
  have HC : Hid (Sg.ch (Sg.sr x t) (Sg.gp x) t = Sg.sc x t) := Lib.hid rfl
  have HS : Hid (Sg.ss x t = (Sg.no x t + Sg.sc x t * x) % 1073741789) := Lib.hid rfl
  have HR : Hid (Gr.pw 2147483579 4 (Sg.no x t) = Sg.sr x t) := Lib.hid rfl
  have HK : Hid (Gr.pw 2147483579 4 x = Sg.gp x) := Lib.hid rfl
  rw [HC.out] at hcon4
  obtain ⟨N, HN⟩ : ∃ N, Hid (Sg.no x t = N) := ⟨_, Lib.hid rfl⟩
  obtain ⟨C, HC2⟩ : ∃ C, Hid (Sg.sc x t = C) := ⟨_, Lib.hid rfl⟩
  rw [HC2.out] at hcon4 HS c0 c1
  rw [HN.out] at HS HR hcon1 n0 n1
  obtain ⟨R, HR2⟩ : ∃ R, Hid (Sg.sr x t = R) := ⟨_, Lib.hid rfl⟩
  obtain ⟨K, HK2⟩ : ∃ K, Hid (Sg.gp x = K) := ⟨_, Lib.hid rfl⟩
  rw [HR2.out] at HR hcon4 ⊢
  rw [HK2.out] at HK hcon4
  rw [HS.out]
  obtain ⟨p0, p1⟩ := Gr.mul_bd C x 1073741789 c0 c1 (by omega) (by omega) (by omega)
  clear HC HS HN HC2 HR2 HK2
  have HX : Bk w.heap.size 38 #[.int .i64 0, .int .i64 0] (w.alloc (.cells #[.int .i64 0, .int .i64 0] 38 (0, 0))) := Bk.new _ _ _
  go_enter Tryz.func91, Tryz.ntmps91
  go_wp2_with fail
  refine (hcon1 _).mono ?_
  rintro e1 w1 ⟨rfl, hb1⟩
  have HX1 := HX.below hb1
  have hc1 := below_after (below_alloc (Below.refl _ _) _) hb1
  clear HX hb1 hcon1
  go_wp2_with fail
  refine (l4Base_any N _ (by omega)).mono ?_
  rw [HR.out]
  rintro e2 w2 ⟨rfl, rfl⟩
  go_wp2_with fail
  refine (l4Base_any x _ (by omega)).mono ?_
  rw [HK.out]
  rintro e2 w2 ⟨rfl, rfl⟩
  go_wp2_with fail
  refine (hcon4 _).mono ?_
  rintro e4 w4 ⟨rfl, hb4⟩
  have HX4 := HX1.below hb4
  have hc4 := below_after hc1 hb4
  clear HX1 hb4 hc1 hcon4
  obtain ⟨z0, z1⟩ := Bk.c2 HX4
  obtain ⟨f0, f1⟩ := HX4.f2
  have HX5 := Bk.store2 HX4 (.int .i64 R) (.int .i64 ((N + C * x) % 1073741789))
  have hb5 := below_store2 hc4 w.heap.size (by omega) (.int .i64 R) (.int .i64 ((N + C * x) % 1073741789))
  clear HX4 hc4
  go_wp2
  refine bodyPost_ret (results_cell_row (P := Tryz.prog) rfl _ _ w.heap.size 38 _ (0, 0) _ rfl HX5.held Tryz.underlying38 rfl (by kernel_rfl)) rfl ?_
  exact ⟨rfl, hb5⟩
set_option maxRecDepth 100000 in
set_option maxHeartbeats 1600000 in
theorem implSign_no (x : Int) (t : ByteArray) (w : World) (hs : Gr.sok x = false) :
    Calls Tryz.prog 88 #[.int .i64 x, .string t] w fun e w' => e = .returned (.tuple #[.agg #[.int .i64 0, .int .i64 0], .bool false]) ∧ Below w.heap.size w w' := by
  have HX : Bk w.heap.size 38 #[.int .i64 0, .int .i64 0] (w.alloc (.cells #[.int .i64 0, .int .i64 0] 38 (0, 0))) := Bk.new _ _ _
  have H0 := Lib.hid hs
  clear hs
  obtain ⟨K, HK⟩ : ∃ K, Hid (Gr.key x = K) := ⟨_, Lib.hid rfl⟩
  go_enter Tryz.func88, Tryz.ntmps88
  go_wp2_with fail
  refine (implKeyOf_any x _).mono ?_
  rw [H0.out, HK.out]
  rintro e1 w1 ⟨rfl, hb1⟩
  have HX4 := HX.below hb1
  have hc4 := below_after (below_alloc (Below.refl _ _) _) hb1
  clear HX hb1
  obtain ⟨z0, z1⟩ := Bk.c2 HX4
  obtain ⟨f0, f1⟩ := HX4.f2
  have HX5 := Bk.store2 HX4 (.int .i64 0) (.int .i64 0)
  have hb5 := below_store2 hc4 w.heap.size (by omega) (.int .i64 0) (.int .i64 0)
  clear HX4 hc4
  go_wp2
  refine bodyPost_ret (results_cell_row2 (P := Tryz.prog) rfl _ _ w.heap.size 38 _ (0, 0) _ rfl HX5.held Tryz.underlying38 rfl (by kernel_rfl)) rfl ?_
  exact ⟨rfl, hb5⟩
set_option maxRecDepth 100000 in
set_option maxHeartbeats 1600000 in
theorem implSign_yes (x : Int) (t : ByteArray) (w : World) (hs : Gr.sok x = true) (ht : t.size ≤ 1048576) :
    Calls Tryz.prog 88 #[.int .i64 x, .string t] w fun e w' => e = .returned (.tuple #[.agg #[.int .i64 (Sg.sr x t), .int .i64 (Sg.ss x t)], .bool true]) ∧ Below w.heap.size w w' := by
  obtain ⟨x0, x1⟩ := (Gr.sok_iff x).mp hs
  obtain ⟨n0, n1⟩ := Sg.no_bd x t
  obtain ⟨c0, c1⟩ := Sg.sc_bd x t
  have hkk := Sg.kok_ok (Gr.key_kok hs)
  have hro : Gr.ok (Sg.sr x t) = true := Gr.ok_yes (Sg.gp_E (by omega))
  have hcon2 := fun W => nonceOf_any x t W (by omega) (by omega) ht
  have hcon4 := fun W => implChallenge_yes (Sg.sr x t) (Gr.key x) t W hro hkk ht
  have HC : Hid (Sg.ch (Sg.sr x t) (Gr.key x) t = Sg.sc x t) := Lib.hid (by rw [Sg.key_ok hs]; rfl)
  have HS : Hid (Sg.ss x t = (Sg.no x t + Sg.sc x t * x % 1073741789) % 1073741789) := Lib.hid (by unfold Sg.ss; omega)
  have HR : Hid (Sg.gp (Sg.no x t) = Sg.sr x t) := Lib.hid rfl
  rw [HC.out] at hcon4
  have H0 := Lib.hid hs
  clear hs hkk hro HC
  obtain ⟨K, HK⟩ : ∃ K, Hid (Gr.key x = K) := ⟨_, Lib.hid rfl⟩
  obtain ⟨N, HN⟩ : ∃ N, Hid (Sg.no x t = N) := ⟨_, Lib.hid rfl⟩
  obtain ⟨C, HC⟩ : ∃ C, Hid (Sg.sc x t = C) := ⟨_, Lib.hid rfl⟩
  obtain ⟨R, HR2⟩ : ∃ R, Hid (Sg.sr x t = R) := ⟨_, Lib.hid rfl⟩
  rw [HC.out] at hcon4 HS c0 c1
  rw [HK.out, HR2.out] at hcon4
  rw [HN.out] at HS HR hcon2 n0 n1
  rw [HR2.out] at HR ⊢
  rw [HS.out]
  have hcon3 := fun W => basePower_any N 1073741789 W (by omega)
  rw [HR.out] at hcon3
  have hm0 := Int.emod_nonneg (C * x) (show (1073741789 : Int) ≠ 0 by decide)
  have hm1 := Int.emod_lt_of_pos (C * x) (show (0 : Int) < 1073741789 by decide)
  have hcon5 := fun W => times_any C x 1073741789 W (by omega) (by omega) c0 c1 (by omega) (by omega)
  obtain ⟨M, HM⟩ : ∃ M, Hid (C * x % 1073741789 = M) := ⟨_, Lib.hid rfl⟩
  rw [HM.out] at hcon5 hm0 hm1 ⊢
  have hcon6 := fun W => plus_any N M 1073741789 W (by omega) (by omega) (by omega) n1 hm0 hm1
  obtain ⟨S, HS2⟩ : ∃ S, Hid ((N + M) % 1073741789 = S) := ⟨_, Lib.hid rfl⟩
  rw [HS2.out] at hcon6 ⊢
  have hf := field_n R 2147483579
  clear HN HC HR2 HS HR HM HS2 n0 n1 c0 c1 hm0 hm1 x0 x1
  have HX : Bk w.heap.size 38 #[.int .i64 0, .int .i64 0] (w.alloc (.cells #[.int .i64 0, .int .i64 0] 38 (0, 0))) := Bk.new _ _ _
  go_enter Tryz.func88, Tryz.ntmps88
  go_wp2_with fail
  refine (implKeyOf_any x _).mono ?_
  rw [H0.out, HK.out]
  rintro e1 w1 ⟨rfl, hb1⟩
  have HX1 := HX.below hb1
  have hc1 := below_after (below_alloc (Below.refl _ _) _) hb1
  clear HX hb1
  go_wp2_with fail
  refine (hcon2 _).mono ?_
  rintro e2 w2 ⟨rfl, hb2⟩
  have HX2 := (HX1.below hb2).alloc (.cells #[.int .i64 N, .int .i64 1073741789] 86 (0, 0))
  have HN2 : Bk w2.heap.size 86 #[.int .i64 N, .int .i64 1073741789] (w2.alloc (.cells #[.int .i64 N, .int .i64 1073741789] 86 (0, 0))) := Bk.new _ _ _
  have hc2 := below_alloc (below_after hc1 hb2) (.cells #[.int .i64 N, .int .i64 1073741789] 86 (0, 0))
  clear HX1 hb2 hc1 hcon2
  go_wp2_with fail
  refine (hcon3 _).mono ?_
  rintro e3 w3 ⟨rfl, hb3⟩
  have HX3 := HX2.below hb3
  have HN3 := HN2.below hb3
  have hc3 := below_after hc2 hb3
  clear HX2 HN2 hb3 hc2 hcon3
  go_wp2_with fail
  refine (hcon4 _).mono ?_
  rintro e4 w4 ⟨rfl, hb4⟩
  have HX4 := (HX3.below hb4).alloc (.cells #[.int .i64 C, .int .i64 1073741789] 86 (0, 0))
  have HN4 := (HN3.below hb4).alloc (.cells #[.int .i64 C, .int .i64 1073741789] 86 (0, 0))
  have HC4 : Bk w4.heap.size 86 #[.int .i64 C, .int .i64 1073741789] (w4.alloc (.cells #[.int .i64 C, .int .i64 1073741789] 86 (0, 0))) := Bk.new _ _ _
  have hc4 := below_alloc (below_after hc3 hb4) (.cells #[.int .i64 C, .int .i64 1073741789] 86 (0, 0))
  clear HX3 HN3 hb4 hc3 hcon4
  have hSof : ∀ W, Bk w2.heap.size 86 #[.int .i64 N, .int .i64 1073741789] W → Bk w4.heap.size 86 #[.int .i64 C, .int .i64 1073741789] W → W.cell? ⟨w2.heap.size, 0, none⟩ = some (.int .i64 N) ∧ W.cell? ⟨w2.heap.size, 1, none⟩ = some (.int .i64 1073741789) ∧ W.cell? ⟨w4.heap.size, 0, none⟩ = some (.int .i64 C) ∧ W.cell? ⟨w4.heap.size, 1, none⟩ = some (.int .i64 1073741789) := fun W h k => ⟨h.cell 0, h.cell 1, k.cell 0, k.cell 1⟩
  have hS4 := hSof _ HN4.drew HC4.drew
  have k2 : w2.heap.size < w4.heap.size + 1 := by have := HN4.lt; simpa using this
  have k1 : w.heap.size < w4.heap.size + 1 := by have := HX4.lt; simpa using this
  have hT4 := hSof _ (HN4.alloc (.cells #[.int .i64 0, .int .i64 0] 86 (0, 0))).drew (HC4.alloc (.cells #[.int .i64 0, .int .i64 0] 86 (0, 0))).drew
  go_wp2
  go_region_held3 (fun W => W.cell? ⟨w2.heap.size, 0, none⟩ = some (.int .i64 N) ∧ W.cell? ⟨w2.heap.size, 1, none⟩ = some (.int .i64 1073741789) ∧ W.cell? ⟨w4.heap.size, 0, none⟩ = some (.int .i64 C) ∧ W.cell? ⟨w4.heap.size, 1, none⟩ = some (.int .i64 1073741789)) (first | with_reducible exact hS4 | with_reducible exact hT4 | with_reducible exact hS5 | with_reducible exact hT5 | with_reducible exact hS6 | with_reducible exact hT6 | with_reducible exact hU6 | with_reducible exact hT7)
    (first
      | (go_at_call 131; refine (hcon5 (w4.alloc (.cells #[.int .i64 C, .int .i64 1073741789] 86 (0, 0))).drew).mono ?_; rintro e5 w5 ⟨rfl, hb5⟩; have HX5 := HX4.drew.below hb5; have HN5 := HN4.drew.below hb5; have HC5 := HC4.drew.below hb5; have hS5 := hSof _ HN5 HC5; have hT5 := hSof _ (HN5.alloc (.cells #[.int .i64 0, .int .i64 0] 86 (0, 0))) (HC5.alloc (.cells #[.int .i64 0, .int .i64 0] 86 (0, 0))); have hc5 := below_after hc4.drew hb5)
      | (go_at_call 131; refine (hcon5 ((w4.alloc (.cells #[.int .i64 C, .int .i64 1073741789] 86 (0, 0))).alloc (.cells #[.int .i64 0, .int .i64 0] 86 (0, 0))).drew).mono ?_; rintro e5 w5 ⟨rfl, hb5⟩; have HX5 := (HX4.alloc (.cells #[.int .i64 0, .int .i64 0] 86 (0, 0))).drew.below hb5; have HN5 := (HN4.alloc (.cells #[.int .i64 0, .int .i64 0] 86 (0, 0))).drew.below hb5; have HC5 := (HC4.alloc (.cells #[.int .i64 0, .int .i64 0] 86 (0, 0))).drew.below hb5; have HZ5 := (Bk.new' (w4.alloc (.cells #[.int .i64 C, .int .i64 1073741789] 86 (0, 0))) 86 #[.int .i64 0, .int .i64 0] (w4.heap.size + 1) (by simp)).drew.below hb5; have hS5 := hSof _ HN5 HC5; have hc5 := below_after (below_alloc hc4 (.cells #[.int .i64 0, .int .i64 0] 86 (0, 0))).drew hb5)
      | (go_at_call 130; refine (hcon6 w5).mono ?_; rintro e6 w6 ⟨rfl, hb6⟩; have HZ6 := HZ5.below hb6; have HX6 := HX5.below hb6; have HN6 := HN5.below hb6; have HC6 := HC5.below hb6; have hS6 := hSof _ HN6 HC6; have hc6 := below_after hc5 hb6; obtain ⟨z0, z1⟩ := Bk.c2 HZ6; obtain ⟨f0, f1⟩ := HZ6.f2; have hT7 := hSof _ (Bk.other2 HN6 (w4.heap.size + 1) (by omega) (.int .i64 S) (.int .i64 1073741789)) (Bk.other2 HC6 (w4.heap.size + 1) (by omega) (.int .i64 S) (.int .i64 1073741789)); have HX7 := Bk.other2 HX6 (w4.heap.size + 1) (by omega) (.int .i64 S) (.int .i64 1073741789); have HZ7 := Bk.store2 HZ6 (.int .i64 S) (.int .i64 1073741789); have hc7 := below_store2 hc6 (w4.heap.size + 1) (by omega) (.int .i64 S) (.int .i64 1073741789))
      | (go_at_call 130; refine (hcon6 (w5.alloc (.cells #[.int .i64 0, .int .i64 0] 86 (0, 0)))).mono ?_; rintro e6 w6 ⟨rfl, hb6⟩; have HZ6 := (Bk.new w5 86 #[.int .i64 0, .int .i64 0]).below hb6; have HX6 := (HX5.alloc (.cells #[.int .i64 0, .int .i64 0] 86 (0, 0))).below hb6; have HN6 := (HN5.alloc (.cells #[.int .i64 0, .int .i64 0] 86 (0, 0))).below hb6; have HC6 := (HC5.alloc (.cells #[.int .i64 0, .int .i64 0] 86 (0, 0))).below hb6; have hS6 := hSof _ HN6 HC6; have hc6 := below_after (below_alloc hc5 (.cells #[.int .i64 0, .int .i64 0] 86 (0, 0))) hb6; obtain ⟨z0, z1⟩ := Bk.c2 HZ6; obtain ⟨f0, f1⟩ := HZ6.f2; have l1 := HX5.lt; have l2 := HN5.lt; have l3 := HC5.lt; have l4 := hc5.size; have hT7 := hSof _ (Bk.other2 HN6 w5.heap.size (by omega) (.int .i64 S) (.int .i64 1073741789)) (Bk.other2 HC6 w5.heap.size (by omega) (.int .i64 S) (.int .i64 1073741789)); have HX7 := Bk.other2 HX6 w5.heap.size (by omega) (.int .i64 S) (.int .i64 1073741789); have HZ7 := Bk.store2 HZ6 (.int .i64 S) (.int .i64 1073741789); have hc7 := below_store2 hc6 w5.heap.size (by omega) (.int .i64 S) (.int .i64 1073741789))
      | (go_at_call 130; refine (hcon6 w5).mono ?_; rintro e6 w6 ⟨rfl, hb6⟩; have HX6 := HX5.below hb6; have HN6 := HN5.below hb6; have HC6 := HC5.below hb6; have hS6 := hSof _ HN6 HC6; have hT6 := hSof _ (HN6.alloc (.cells #[.int .i64 0, .int .i64 0] 86 (0, 0))) (HC6.alloc (.cells #[.int .i64 0, .int .i64 0] 86 (0, 0))); have hU6 := hSof _ (HN6.alloc (.cells #[.int .i64 S, .int .i64 1073741789] 86 (0, 0))) (HC6.alloc (.cells #[.int .i64 S, .int .i64 1073741789] 86 (0, 0))); have HZ7 := Bk.new w6 86 #[.int .i64 S, .int .i64 1073741789]; have HX7 := HX6.alloc (.cells #[.int .i64 S, .int .i64 1073741789] 86 (0, 0)); have hc7 := below_alloc (below_after hc5 hb6) (.cells #[.int .i64 S, .int .i64 1073741789] 86 (0, 0))))
  all_goals
    obtain ⟨z0, z1⟩ := Bk.c2 HX7
    obtain ⟨f0, f1⟩ := HX7.f2
    have s1 := HZ7.cell 1
    have s0 := HZ7.cell 0
    simp at s0
    have HX8 := Bk.store2 HX7 (.int .i64 R) (.int .i64 S)
    have hb8 := below_store2 hc7 w.heap.size (by omega) (.int .i64 R) (.int .i64 S)
    clear HX7 hc7 HX6 HX5 HX4 HZ7 s1
    go_wp2
    refine bodyPost_ret (results_cell_row2 (P := Tryz.prog) rfl _ _ w.heap.size 38 _ (0, 0) _ rfl HX8.held Tryz.underlying38 rfl (by kernel_rfl)) rfl ?_
    exact ⟨rfl, hb8⟩
theorem implSign_any (x : Int) (t : ByteArray) (w : World) (ht : t.size ≤ 1048576) :
    Calls Tryz.prog 88 #[.int .i64 x, .string t] w fun e w' => e = .returned (.tuple #[.agg #[.int .i64 (Sg.o0 x t), .int .i64 (Sg.o1 x t)], .bool (Gr.sok x)]) ∧ Below w.heap.size w w' := by
  cases hs : Gr.sok x
  · obtain ⟨h1, h2⟩ := Sg.o_no (t := t) hs
    rw [h1, h2]
    exact implSign_no x t w hs
  · obtain ⟨h1, h2⟩ := Sg.o_yes (t := t) hs
    rw [h1, h2]
    exact implSign_yes x t w hs ht
end Go.Proofs.YtoocibabceeagabGreat

/-
  Contracts of chapter 5: Verify; of the program and of the model.
-/
namespace Go.Proofs.YtoocibabceeagabGreat
open Go.RowKit

set_option maxRecDepth 100000 in
set_option maxHeartbeats 1600000 in
theorem l5Shape_any (key r s : Int) (w : World) :
    Calls Tryz.prog 209 #[.int .i64 key, .agg #[.int .i64 r, .int .i64 s]] w fun e w' => e = .returned (.bool (Sg.shape key r s)) ∧ Below w.heap.size w w' := by
  have HQ : Hid (Sg.shape key r s = (Gr.kok key && Gr.ok r && Sg.win s)) := Lib.hid rfl
  have HW : Hid (Sg.win s = (decide (0 ≤ s) && decide (s ≤ 1073741788))) := Lib.hid rfl
  cases hk : Gr.kok key
  · have HK := Lib.hid hk
    rw [HQ.out, HK.out, Bool.false_and, Bool.false_and]
    clear hk HQ HW
    go_enter Tryz.func209, Tryz.ntmps209
    go_wp2_with fail
    refine (specKeyOk_any key _).mono ?_
    rw [HK.out]
    rintro e1 w1 ⟨rfl, rfl⟩
    go_wp2
    go_ret
    exact ⟨rfl, below_alloc (Below.refl _ _) _⟩
  · have HK := Lib.hid hk
    cases hr : Gr.ok r
    · have HR := Lib.hid hr
      rw [HQ.out, HK.out, HR.out, Bool.true_and, Bool.false_and]
      clear hk hr HQ HW
      go_enter Tryz.func209, Tryz.ntmps209
      go_wp2_with fail
      refine (specKeyOk_any key _).mono ?_
      rw [HK.out]
      rintro e1 w1 ⟨rfl, rfl⟩
      go_wp2_with fail
      refine (specGroupOk_any r _).mono ?_
      rw [HR.out]
      rintro e2 w2 ⟨rfl, rfl⟩
      go_wp2
      go_ret
      exact ⟨rfl, below_alloc (Below.refl _ _) _⟩
    · have HR := Lib.hid hr
      rw [HQ.out, HK.out, HR.out, Bool.true_and, Bool.true_and]
      obtain ⟨B, HB⟩ : ∃ B, Hid (Sg.win s = B) := ⟨_, Lib.hid rfl⟩
      rw [HB.out] at HW ⊢
      have HV : Hid ((decide (0 ≤ s) && decide (s ≤ 1073741788)) = B) := Lib.hid HW.out.symm
      clear hk hr HQ HW
      go_enter Tryz.func209, Tryz.ntmps209
      go_wp2_with fail
      refine (specKeyOk_any key _).mono ?_
      rw [HK.out]
      rintro e1 w1 ⟨rfl, rfl⟩
      go_wp2_with fail
      refine (specGroupOk_any r _).mono ?_
      rw [HR.out]
      rintro e2 w2 ⟨rfl, rfl⟩
      go_wp2_with fail
      refine (l6In_any s 0 1073741788 _).mono ?_
      rw [HV.out]
      rintro e3 w3 ⟨rfl, rfl⟩
      go_wp2
      go_ret
      exact ⟨rfl, below_alloc (Below.refl _ _) _⟩
set_option maxRecDepth 100000 in
set_option maxHeartbeats 1600000 in
theorem l5Valid_any (key e r s : Int) (w : World) (k0 : 0 ≤ key) (k1 : key < 2147483579) (r0 : 0 ≤ r) (r1 : r < 2147483579) (e1 : e < 1073741789) (s1 : s < 1073741789) :
    Calls Tryz.prog 210 #[.int .i64 key, .int .i64 e, .agg #[.int .i64 r, .int .i64 s]] w fun x w' => x = .returned (.bool (Sg.eqn key e r s)) ∧ Below w.heap.size w w' := by
  have HQ : Hid (Sg.eqn key e r s = (Sg.gp s == Sg.rt key e r)) := Lib.hid rfl
  have HR : Hid (Sg.rt key e r = r * Gr.pw 2147483579 key e % 2147483579) := Lib.hid rfl
  have hcon1 := fun W => l4Base_any s W (by omega)
  rw [show Gr.pw 2147483579 4 s = Sg.gp s from rfl] at hcon1
  have hcon2 := fun W => l4Exp_any key e W k0 k1 (by omega)
  obtain ⟨P, HP⟩ : ∃ P, Hid (Gr.pw 2147483579 key e = P) := ⟨_, Lib.hid rfl⟩
  obtain ⟨p0, p1⟩ := Gr.pb key e
  rw [HP.out] at hcon2 HR p0 p1
  have hcon3 := fun W => l4Mul_any r P W r0 r1 p0 p1
  rw [← HR.out] at hcon3
  obtain ⟨G, HG⟩ : ∃ G, Hid (Sg.gp s = G) := ⟨_, Lib.hid rfl⟩
  obtain ⟨R, HR2⟩ : ∃ R, Hid (Sg.rt key e r = R) := ⟨_, Lib.hid rfl⟩
  rw [HG.out] at hcon1 HQ
  rw [HR2.out] at hcon3 HQ
  rw [HQ.out]
  clear HQ HR HP HG HR2 k0 k1 r0 r1 e1 s1 p0 p1
  have HE0 : Bk w.heap.size 38 #[.int .i64 r, .int .i64 s] (w.alloc (.cells #[.int .i64 r, .int .i64 s] 38 (0, 0))) := Bk.new _ _ _
  have hS0 := Bk.c2 HE0.drew
  go_enter Tryz.func210, Tryz.ntmps210
  go_wp2
  go_region_held3 (fun W => W.cell? ⟨w.heap.size, 0, none⟩ = some (.int .i64 r) ∧ W.cell? ⟨w.heap.size, 1, none⟩ = some (.int .i64 s)) (first | with_reducible exact hS0)
    (first
      | (go_at_call 113; refine (hcon1 _).mono ?_; rintro x1 w1 ⟨rfl, rfl⟩)
      | (go_at_call 153; refine (hcon2 _).mono ?_; rintro x2 w2 ⟨rfl, rfl⟩)
      | (go_at_call 211; refine (hcon3 _).mono ?_; rintro x3 w3 ⟨rfl, rfl⟩))
  go_wp2
  go_ret
  exact ⟨rfl, (below_alloc (Below.refl _ _) _).drew⟩
set_option maxRecDepth 100000 in
set_option maxHeartbeats 1600000 in
theorem specVerify_any (key r s : Int) (t : ByteArray) (w : World) (ht : t.size ≤ 1048576) :
    Calls Tryz.prog 208 #[.int .i64 key, .string t, .agg #[.int .i64 r, .int .i64 s]] w fun x w' => x = .returned (.bool (Sg.ver key t r s)) ∧ Below w.heap.size w w' := by
  have HQ : Hid (Sg.ver key t r s = (Sg.shape key r s && Sg.eqn key (Sg.ch r key t) r s)) := Lib.hid rfl
  have HE0 : Bk w.heap.size 38 #[.int .i64 r, .int .i64 s] (w.alloc (.cells #[.int .i64 r, .int .i64 s] 38 (0, 0))) := Bk.new _ _ _
  have hc0 := below_alloc (Below.refl w.heap.size w) (.cells #[.int .i64 r, .int .i64 s] 38 (0, 0))
  have hS0 := Bk.c2 HE0.drew
  have hcon1 := l5Shape_any key r s
  cases hs : Sg.shape key r s
  · rw [HQ.out, hs, Bool.false_and]
    rw [hs] at hcon1
    clear hs HQ
    go_enter Tryz.func208, Tryz.ntmps208
    go_wp2
    refine wp_region_noPanic ?_
    refine wp_region_held_drew (S := fun W => W.cell? ⟨w.heap.size, 0, none⟩ = some (.int .i64 r) ∧ W.cell? ⟨w.heap.size, 1, none⟩ = some (.int .i64 s)) (by kernel_rfl) hS0 (fun hH => ?_)
    refine wpAnyH_take (i := 0) (v := .int .i64 key) rfl (by kernel_rfl) (by kernel_rfl) (by kernel_rfl) (fun _ _ _ h => h) (Or.inl ⟨by rfl, fun W hW => by go_simp⟩) (by assumption) ?_
    refine wpAnyH_take (i := 1) (v := .agg #[.int .i64 r, .int .i64 s]) rfl (by kernel_rfl) (by kernel_rfl) (by kernel_rfl) (fun _ _ _ h => h) (Or.inl ⟨by rfl, fun W hW => by obtain ⟨c0, c1⟩ := hW; go_simp⟩) (by assumption) ?_
    refine wpAnyH_ready (rs := [2]) (by kernel_rfl) (by simp) ?_
    refine AllReadyH.cons rfl (fun K hK => ?_) AllReadyH.nil
    go_simp
    go_wp2_with (go_at_call 209; refine (hcon1 _).mono ?_; rintro x1 w1 ⟨rfl, hb1⟩; have HE1 := HE0.drew.below hb1; have hS1 := Bk.c2 HE1; have hc1 := below_after hc0.drew hb1)
    refine hK.out _ _ hS1 (fun hH1 => ?_)
    clear hK K
    refine wpAnyH_take (i := 3) (v := .bool false) rfl (by kernel_rfl) (by kernel_rfl) (by kernel_rfl) (fun _ _ _ h => h) (Or.inl ⟨by rfl, fun W hW => by go_simp⟩) (by assumption) ?_
    simp only [Act.put, List.getElem_toArray, List.getElem_cons_succ, List.getElem_cons_zero, List.setIfInBounds_toArray, List.set_cons_zero, List.set_cons_succ]
    refine wpAnyH_take (i := 4) (v := undef) rfl (by kernel_rfl) (by kernel_rfl) (by kernel_rfl) (fun _ _ _ h => h) (Or.inr ⟨rfl, rfl⟩) (by assumption) ?_
    simp only [Act.put, List.getElem_toArray, List.getElem_cons_succ, List.getElem_cons_zero, List.setIfInBounds_toArray, List.set_cons_zero, List.set_cons_succ]
    refine wpAnyH_take (i := 5) (v := undef) rfl (by kernel_rfl) (by kernel_rfl) (by kernel_rfl) (fun _ _ _ h => h) (Or.inr ⟨rfl, rfl⟩) (by assumption) ?_
    simp only [Act.put, List.getElem_toArray, List.getElem_cons_succ, List.getElem_cons_zero, List.setIfInBounds_toArray, List.set_cons_zero, List.set_cons_succ]
    refine wpAnyH_take (i := 6) (v := undef) rfl (by kernel_rfl) (by kernel_rfl) (by kernel_rfl) (fun _ _ _ h => h) (Or.inr ⟨rfl, rfl⟩) (by assumption) ?_
    simp only [Act.put, List.getElem_toArray, List.getElem_cons_succ, List.getElem_cons_zero, List.setIfInBounds_toArray, List.set_cons_zero, List.set_cons_succ]
    refine wpAnyH_take (i := 7) (v := undef) rfl (by kernel_rfl) (by kernel_rfl) (by kernel_rfl) (fun _ _ _ h => h) (Or.inr ⟨rfl, rfl⟩) (by assumption) ?_
    simp only [Act.put, List.getElem_toArray, List.getElem_cons_succ, List.getElem_cons_zero, List.setIfInBounds_toArray, List.set_cons_zero, List.set_cons_succ]
    refine wpAnyH_take (i := 8) (v := undef) rfl (by kernel_rfl) (by kernel_rfl) (by kernel_rfl) (fun _ _ _ h => h) (Or.inr ⟨rfl, rfl⟩) (by assumption) ?_
    simp only [Act.put, List.getElem_toArray, List.getElem_cons_succ, List.getElem_cons_zero, List.setIfInBounds_toArray, List.set_cons_zero, List.set_cons_succ]
    refine wpAnyH_take (i := 9) (v := undef) rfl (by kernel_rfl) (by kernel_rfl) (by kernel_rfl) (fun _ _ _ h => h) (Or.inr ⟨rfl, rfl⟩) (by assumption) ?_
    simp only [Act.put, List.getElem_toArray, List.getElem_cons_succ, List.getElem_cons_zero, List.setIfInBounds_toArray, List.set_cons_zero, List.set_cons_succ]
    refine wpAnyH_take (i := 10) (v := undef) rfl (by kernel_rfl) (by kernel_rfl) (by kernel_rfl) (fun _ _ _ h => h) (Or.inr ⟨rfl, rfl⟩) (by assumption) ?_
    simp only [Act.put, List.getElem_toArray, List.getElem_cons_succ, List.getElem_cons_zero, List.setIfInBounds_toArray, List.set_cons_zero, List.set_cons_succ]
    refine wpAnyH_take (i := 11) (v := undef) rfl (by kernel_rfl) (by kernel_rfl) (by kernel_rfl) (fun _ _ _ h => h) (Or.inr ⟨rfl, rfl⟩) (by assumption) ?_
    simp only [Act.put, List.getElem_toArray, List.getElem_cons_succ, List.getElem_cons_zero, List.setIfInBounds_toArray, List.set_cons_zero, List.set_cons_succ]
    refine wpAnyH_take (i := 12) (v := .bool false) rfl (by kernel_rfl) (by kernel_rfl) (by kernel_rfl) (fun _ _ _ h => h) (Or.inl ⟨by rfl, fun W hW => by go_simp⟩) (by assumption) ?_
    simp only [Act.put, List.getElem_toArray, List.getElem_cons_succ, List.getElem_cons_zero, List.setIfInBounds_toArray, List.set_cons_zero, List.set_cons_succ]
    refine wpAnyH_take (i := 13) (v := .bool false) rfl (by kernel_rfl) (by kernel_rfl) (by kernel_rfl) (fun _ _ _ h => h) (Or.inl ⟨by rfl, fun W hW => by go_simp⟩) (by assumption) ?_
    simp only [Act.put, List.getElem_toArray, List.getElem_cons_succ, List.getElem_cons_zero, List.setIfInBounds_toArray, List.set_cons_zero, List.set_cons_succ]
    refine wpAnyH_done (by kernel_rfl) ?_ _
    refine NoPanic.normal ?_
    go_wp2
    go_ret
    exact ⟨rfl, hc1⟩
  · rw [HQ.out, hs, Bool.true_and]
    rw [hs] at hcon1
    obtain ⟨⟨hk, _⟩, hr, s0, s1⟩ := (Sg.shape_iff _ _ _).mp hs
    obtain ⟨k0, k1⟩ := Gr.E_bd hk
    obtain ⟨r0, r1⟩ := Gr.E_bd hr
    obtain ⟨c0, c1⟩ := Sg.ch_bd r key t
    have hcon2 := fun W => l5Challenge_any r key t W (by omega) (by omega) (by omega) (by omega) ht
    have hcon3 := fun W => l5Valid_any key (Sg.ch r key t) r s W (by omega) (by omega) (by omega) (by omega) c1 s1
    obtain ⟨C, HC⟩ : ∃ C, Hid (Sg.ch r key t = C) := ⟨_, Lib.hid rfl⟩
    rw [HC.out] at hcon2 hcon3 ⊢
    obtain ⟨V, HV⟩ : ∃ V, Hid (Sg.eqn key C r s = V) := ⟨_, Lib.hid rfl⟩
    rw [HV.out] at hcon3 ⊢
    clear hs HQ hk hr s0 s1 k0 k1 r0 r1 c0 c1 HC HV
    go_enter Tryz.func208, Tryz.ntmps208
    go_wp2
    go_region_held3 (fun W => W.cell? ⟨w.heap.size, 0, none⟩ = some (.int .i64 r) ∧ W.cell? ⟨w.heap.size, 1, none⟩ = some (.int .i64 s)) (first | with_reducible exact hS0 | with_reducible exact hS1 | with_reducible exact hS2 | with_reducible exact hS3)
      (first
        | (go_at_call 209; refine (hcon1 _).mono ?_; rintro x1 w1 ⟨rfl, hb1⟩; have HE1 := HE0.drew.below hb1; have hS1 := Bk.c2 HE1; have hc1 := below_after hc0.drew hb1)
        | (go_at_call 134; refine (hcon2 _).mono ?_; rintro x2 w2 ⟨rfl, hb2⟩; have HE2 := HE1.below hb2; have hS2 := Bk.c2 HE2; have hc2 := below_after hc1 hb2)
        | (go_at_call 210; refine (hcon3 _).mono ?_; rintro x3 w3 ⟨rfl, hb3⟩; have HE3 := HE2.below hb3; have hS3 := Bk.c2 HE3; have hc3 := below_after hc2 hb3))
    go_wp2
    go_ret
    exact ⟨rfl, hc3⟩
set_option maxRecDepth 100000 in
set_option maxHeartbeats 1600000 in
theorem implVerify_any (key r s : Int) (t : ByteArray) (w : World) (ht : t.size ≤ 1048576) :
    Calls Tryz.prog 18 #[.int .i64 key, .string t, .agg #[.int .i64 r, .int .i64 s]] w fun x w' => x = .returned (.bool (Sg.ver key t r s)) ∧ Below w.heap.size w w' := by
  have HQ : Hid (Sg.ver key t r s = (Sg.shape key r s && Sg.eqn key (Sg.ch r key t) r s)) := Lib.hid rfl
  have hc0 := below_alloc (Below.refl w.heap.size w) (.cells #[.int .i64 r, .int .i64 s] 38 (0, 0))
  cases hs : Sg.shape key r s
  · have hcon1 := fun W => asEquation_no key r s t W hs
    rw [HQ.out, hs, Bool.false_and]
    clear hs HQ
    go_enter Tryz.func18, Tryz.ntmps18
    go_wp2_with fail
    refine (hcon1 _).mono ?_
    rintro x1 w1 ⟨rfl, hb1⟩
    have hc1 := below_alloc (below_after hc0 hb1) (.cells #[.int .i64 0, .int .i64 0, .int .i64 0, .int .i64 0, .int .i64 0, .int .i64 0, .int .i64 0, .int .i64 0] 88 (0, 0))
    clear hb1 hc0 hcon1
    go_wp2
    go_ret
    exact ⟨rfl, hc1⟩
  · have hcon1 := fun W => asEquation_yes key r s t W hs ht
    rw [HQ.out, hs, Bool.true_and]
    obtain ⟨⟨hk, _⟩, hr, s0, s1⟩ := (Sg.shape_iff _ _ _).mp hs
    obtain ⟨k0, k1⟩ := Gr.E_bd hk
    obtain ⟨r0, r1⟩ := Gr.E_bd hr
    obtain ⟨c0, c1⟩ := Sg.ch_bd r key t
    have hcon3 := fun W => holds_any key (Sg.ch r key t) r s W (by omega) (by omega) (by omega) (by omega) c0 c1 s1
    obtain ⟨E, HE⟩ : ∃ E, Hid (Sg.ch r key t = E) := ⟨_, Lib.hid rfl⟩
    rw [HE.out] at hcon1 hcon3 ⊢
    obtain ⟨V, HV⟩ : ∃ V, Hid (Sg.eqn key E r s = V) := ⟨_, Lib.hid rfl⟩
    rw [HV.out] at hcon3 ⊢
    clear hs HQ hk hr s0 s1 k0 k1 r0 r1 c0 c1 HE HV
    go_enter Tryz.func18, Tryz.ntmps18
    go_wp2_with fail
    refine (hcon1 _).mono ?_
    rintro x1 w1 ⟨rfl, hb1⟩
    have hc1 := below_alloc (below_after hc0 hb1) (.cells #[.int .i64 s, .int .i64 1073741789, .int .i64 r, .int .i64 2147483579, .int .i64 key, .int .i64 2147483579, .int .i64 E, .int .i64 1073741789] 88 (0, 0))
    clear hb1 hc0 hcon1
    go_wp2_with fail
    refine (hcon3 _).mono ?_
    rintro x2 w2 ⟨rfl, hb2⟩
    have hc2 := below_after hc1 hb2
    clear hb2 hc1 hcon3
    go_wp2
    go_ret
    exact ⟨rfl, hc2⟩
end Go.Proofs.YtoocibabceeagabGreat
