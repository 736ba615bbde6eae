/-
  Contracts of chapter 5: sums and differences of residues, challenges, nonces, signing; of the program and of the model.
-/
import Derived.Test.YtpldoffjclmacabSg
import Derived.Test.YtpldoffjclmacabGe
namespace Go.Proofs.Ytpldoffjclmacab
open Go.RowKit

/-! Strings -/
theorem Sg.a1 (r : Int) (W : World) : (Op.stringOp .add (⟨#[99, 104, 97, 108, 108, 101, 110, 103, 101]⟩ : ByteArray) (Dg.bytes r)).run Try.prog W = .ok (.string (Sg.cw ++ Dg.bytes r)) W :=
  run_string_add_sum (P := Try.prog) W _ _ (by rw [Dg.bytes_size]; decide)
theorem Sg.a2 (r k : Int) (W : World) : (Op.stringOp .add (Sg.cw ++ Dg.bytes r) (Dg.bytes k)).run Try.prog W = .ok (.string (Sg.cw ++ Dg.bytes r ++ Dg.bytes k)) W :=
  run_string_add_sum (P := Try.prog) W _ _ (by rw [ByteArray.size_append, Dg.bytes_size, Dg.bytes_size]; decide)
theorem Sg.a3 (r k : Int) (t : ByteArray) (ht : t.size ≤ 1048576) (W : World) : (Op.stringOp .add (Sg.cw ++ Dg.bytes r ++ Dg.bytes k) t).run Try.prog W = .ok (.string (Sg.chs r k t)) W :=
  run_string_add_sum (P := Try.prog) W _ _ (by rw [ByteArray.size_append, ByteArray.size_append, Dg.bytes_size, Dg.bytes_size, show Sg.cw.size = 9 from rfl]; omega)
theorem Sg.chs_size (r k : Int) (t : ByteArray) (ht : t.size ≤ 1048576) : (Sg.chs r k t).size ≤ 9223372036854775807 := by
  unfold Sg.chs
  rw [ByteArray.size_append, ByteArray.size_append, ByteArray.size_append, Dg.bytes_size, Dg.bytes_size, show Sg.cw.size = 9 from rfl]
  omega
theorem Sg.b1 (s : Int) (W : World) : (Op.stringOp .add (⟨#[110, 111, 110, 99, 101]⟩ : ByteArray) (Dg.bytes s)).run Try.prog W = .ok (.string (Sg.nw ++ Dg.bytes s)) W :=
  run_string_add_sum (P := Try.prog) W _ _ (by rw [Dg.bytes_size]; decide)
theorem Sg.b2 (s : Int) (t : ByteArray) (ht : t.size ≤ 1048576) (W : World) : (Op.stringOp .add (Sg.nw ++ Dg.bytes s) t).run Try.prog W = .ok (.string (Sg.nos s t)) W :=
  run_string_add_sum (P := Try.prog) W _ _ (by rw [ByteArray.size_append, Dg.bytes_size, show Sg.nw.size = 5 from rfl]; omega)
theorem Sg.nos_size (s : Int) (t : ByteArray) (ht : t.size ≤ 1048576) : (Sg.nos s t).size ≤ 9223372036854775807 := by
  unfold Sg.nos
  rw [ByteArray.size_append, ByteArray.size_append, Dg.bytes_size, show Sg.nw.size = 5 from rfl]
  omega
set_option maxRecDepth 100000 in
set_option maxHeartbeats 800000 in
theorem l5Challenge_any (r k : Int) (t : ByteArray) (w : World) (r0 : 0 ≤ r) (r1 : r ≤ 4294967295) (k0 : 0 ≤ k) (k1 : k ≤ 4294967295) (ht : t.size ≤ 1048576) :
    Calls Try.prog 34 #[.int .i64 r, .int .i64 k, .string t] w fun e w' => e = .returned (.int .i64 (Sg.ch r k t)) ∧ Below w.heap.size w w' := by
  have s1 := Sg.a1 r
  have s2 := Sg.a2 r k
  have s3 := Sg.a3 r k t ht
  have hsz := Sg.chs_size r k t ht
  have HC : Hid (Sg.ch r k t = Dg.of (Sg.chs r k t) % 1073741789) := Lib.hid rfl
  obtain ⟨N, HN⟩ : ∃ N, Hid (Sg.chs r k t = N) := ⟨_, Lib.hid rfl⟩
  rw [HN.out] at s3 hsz HC
  obtain ⟨d0, d1⟩ := Dg.of_bd N
  obtain ⟨D, HD⟩ : ∃ D, Hid (Dg.of N = D) := ⟨_, Lib.hid rfl⟩
  rw [HD.out] at d0 d1 HC
  rw [HC.out]
  go_enter Try.func34, Try.ntmps34
  go_wp2_with fail
  refine (l2Bytes_any r _ r0 r1).mono ?_
  rintro e1 w1 ⟨rfl, hb1⟩
  go_wp2_with fail
  refine (l2Bytes_any k _ k0 k1).mono ?_
  rintro e2 w2 ⟨rfl, hb2⟩
  replace hb2 := below_after hb1 hb2
  clear hb1
  go_wp2_with fail
  refine (specDigest_any N _ hsz).mono ?_
  rw [HD.out]
  rintro e3 w3 ⟨rfl, hb3⟩
  replace hb3 := below_after hb2 hb3
  clear hb2
  go_wp2
  go_ret
  exact ⟨rfl, hb3⟩
set_option maxRecDepth 100000 in
set_option maxHeartbeats 800000 in
theorem l5Nonce_any (s : Int) (t : ByteArray) (w : World) (s0 : 0 ≤ s) (s1 : s ≤ 4294967295) (ht : t.size ≤ 1048576) :
    Calls Try.prog 32 #[.int .i64 s, .string t] w fun e w' => e = .returned (.int .i64 (Sg.no s t)) ∧ Below w.heap.size w w' := by
  have t1 := Sg.b1 s
  have t2 := Sg.b2 s t ht
  have hsz := Sg.nos_size s t ht
  have HC : Hid (Sg.no s t = 1 + Dg.of (Sg.nos s t) % 1073741788) := Lib.hid rfl
  obtain ⟨N, HN⟩ : ∃ N, Hid (Sg.nos s t = N) := ⟨_, Lib.hid rfl⟩
  rw [HN.out] at t2 hsz HC
  obtain ⟨d0, d1⟩ := Dg.of_bd N
  obtain ⟨D, HD⟩ : ∃ D, Hid (Dg.of N = D) := ⟨_, Lib.hid rfl⟩
  rw [HD.out] at d0 d1 HC
  rw [HC.out]
  go_enter Try.func32, Try.ntmps32
  go_wp2_with fail
  refine (l2Bytes_any s _ s0 s1).mono ?_
  rintro e1 w1 ⟨rfl, hb1⟩
  go_wp2_with fail
  refine (specDigest_any N _ hsz).mono ?_
  rw [HD.out]
  rintro e2 w2 ⟨rfl, hb2⟩
  replace hb2 := below_after hb1 hb2
  clear hb1
  go_wp2
  go_ret
  exact ⟨rfl, hb2⟩
end Go.Proofs.Ytpldoffjclmacab
