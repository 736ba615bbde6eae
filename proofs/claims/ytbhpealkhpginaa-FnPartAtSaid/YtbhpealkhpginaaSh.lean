/-
  Contracts of chapter 5: sums and differences of residues, challenges, nonces, signing; of the program and of the model.
-/
import Derived.Test.YtbhpealkhpginaaSg
import Derived.Test.YtbhpealkhpginaaGe
namespace Go.Proofs.Ytbhpealkhpginaa
open Go.RowKit

set_option maxRecDepth 100000 in
set_option maxHeartbeats 800000 in
theorem plus_any (a b m : Int) (w : World) (hm : 1 < m) (hm2 : m ≤ 2147483648) (ha : 0 ≤ a) (ha2 : a < m) (hb : 0 ≤ b) (hb2 : b < m) :
    Calls Try.prog 55 #[.agg #[.int .i64 a, .int .i64 m], .agg #[.int .i64 b, .int .i64 m]] w fun x w' => x = .returned (.agg #[.int .i64 ((a + b) % m), .int .i64 m]) ∧ Below w.heap.size w w' := by
  go_enter Try.func55, Try.ntmps55
  go_wp2
  go_region
  go_wp2
  refine bodyPost_ret (results_cell_row (P := Try.prog) rfl _ _ (w.heap.size + 1 + 1) 77 #[.int .i64 ((a + b) % m), .int .i64 m] (0, 0) _ rfl (heap_new3 _ _ _ _) Try.underlying77 rfl (by kernel_rfl)) rfl ?_
  exact ⟨rfl, (below_alloc (below_alloc (below_alloc (Below.refl _ _) _) _) _).drew⟩
set_option maxRecDepth 100000 in
set_option maxHeartbeats 800000 in
theorem minus_any (a b m : Int) (w : World) (hm : 1 < m) (hm2 : m ≤ 2147483648) (ha : 0 ≤ a) (ha2 : a < m) (hb : 0 ≤ b) (hb2 : b < m) :
    Calls Try.prog 61 #[.agg #[.int .i64 a, .int .i64 m], .agg #[.int .i64 b, .int .i64 m]] w fun x w' => x = .returned (.agg #[.int .i64 ((a - b + m) % m), .int .i64 m]) ∧ Below w.heap.size w w' := by
  have HE : Hid ((a - b + m) % m = (a + m - b) % m) := Lib.hid (by congr 1; omega)
  rw [HE.out]
  go_enter Try.func61, Try.ntmps61
  go_wp2
  go_region
  go_wp2
  refine bodyPost_ret (results_cell_row (P := Try.prog) rfl _ _ (w.heap.size + 1 + 1) 77 #[.int .i64 ((a + m - b) % m), .int .i64 m] (0, 0) _ rfl (heap_new3 _ _ _ _) Try.underlying77 rfl (by kernel_rfl)) rfl ?_
  exact ⟨rfl, (below_alloc (below_alloc (below_alloc (Below.refl _ _) _) _) _).drew⟩
set_option maxHeartbeats 800000 in
theorem isScalar0_any (x : Int) (w : World) :
    Calls Try.prog 50 #[.int .i64 x] w fun e w' => e = .returned (.bool (Sg.win x)) ∧ w' = w := by
  by_cases h : x = 0
  · have HW : Hid (Sg.win x = true) := Lib.hid ((Sg.win_iff x).mpr (by omega))
    rw [HW.out]
    have h1 : (x == 0) = true := by simpa using h
    clear h
    go_enter Try.func50, Try.ntmps50
    go_wp2
    go_ret
    exact ⟨rfl, rfl⟩
  · have HW : Hid (Gr.sok x = Sg.win x) := Lib.hid (by
      unfold Gr.sok Sg.win
      congr 1
      exact decide_eq_decide.mpr (by omega))
    have h1 : (x == 0) = false := by simpa using h
    clear h
    go_enter Try.func50, Try.ntmps50
    go_wp2_with fail
    refine (isScalar_any x _).mono ?_
    rw [HW.out]
    rintro e1 w1 ⟨rfl, rfl⟩
    go_wp2
    go_ret
    exact ⟨rfl, rfl⟩

/-! Strings -/
theorem Sg.a1 (r : Int) (W : World) : (Op.stringOp .add (⟨#[99, 104, 97, 108, 108, 101, 110, 103, 101]⟩ : ByteArray) (Dg.bytes r)).run Try.prog W = .ok (.string (Sg.cw ++ Dg.bytes r)) W :=
  run_string_add_sum (P := Try.prog) W _ _ (by rw [Dg.bytes_size]; decide)
theorem Sg.a2 (r k : Int) (W : World) : (Op.stringOp .add (Sg.cw ++ Dg.bytes r) (Dg.bytes k)).run Try.prog W = .ok (.string (Sg.cw ++ Dg.bytes r ++ Dg.bytes k)) W :=
  run_string_add_sum (P := Try.prog) W _ _ (by rw [ByteArray.size_append, Dg.bytes_size, Dg.bytes_size]; decide)
theorem Sg.a3 (r k : Int) (t : ByteArray) (ht : t.size ≤ 1048576) (W : World) : (Op.stringOp .add (Sg.cw ++ Dg.bytes r ++ Dg.bytes k) t).run Try.prog W = .ok (.string (Sg.chs r k t)) W :=
  run_string_add_sum (P := Try.prog) W _ _ (by rw [ByteArray.size_append, ByteArray.size_append, Dg.bytes_size, Dg.bytes_size, show Sg.cw.size = 9 from rfl]; omega)
theorem Sg.chs_size (r k : Int) (t : ByteArray) (ht : t.size ≤ 1048576) : (Sg.chs r k t).size ≤ 9223372036854775807 := by
  unfold Sg.chs
  rw [ByteArray.size_append, ByteArray.size_append, ByteArray.size_append, Dg.bytes_size, Dg.bytes_size, show Sg.cw.size = 9 from rfl]
  omega
theorem Sg.b1 (s : Int) (W : World) : (Op.stringOp .add (⟨#[110, 111, 110, 99, 101]⟩ : ByteArray) (Dg.bytes s)).run Try.prog W = .ok (.string (Sg.nw ++ Dg.bytes s)) W :=
  run_string_add_sum (P := Try.prog) W _ _ (by rw [Dg.bytes_size]; decide)
theorem Sg.b2 (s : Int) (t : ByteArray) (ht : t.size ≤ 1048576) (W : World) : (Op.stringOp .add (Sg.nw ++ Dg.bytes s) t).run Try.prog W = .ok (.string (Sg.nos s t)) W :=
  run_string_add_sum (P := Try.prog) W _ _ (by rw [ByteArray.size_append, Dg.bytes_size, show Sg.nw.size = 5 from rfl]; omega)
theorem Sg.nos_size (s : Int) (t : ByteArray) (ht : t.size ≤ 1048576) : (Sg.nos s t).size ≤ 9223372036854775807 := by
  unfold Sg.nos
  rw [ByteArray.size_append, ByteArray.size_append, Dg.bytes_size, show Sg.nw.size = 5 from rfl]
  omega
end Go.Proofs.Ytbhpealkhpginaa
