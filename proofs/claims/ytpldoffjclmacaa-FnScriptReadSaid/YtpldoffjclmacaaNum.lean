/-
  Contracts: numBytes, EncodeNum of the program and l6In, l1Num, EncodeNum of the model.
-/
import Derived.Test.YtpldoffjclmacaaChecked
import Derived.Test.YtpldoffjclmacaaEn
import Derived.Test.YtpldoffjclmacaaBa
import Derived.WalkKit
import Derived.WalkSpells
import Derived.Below
import Derived.Outline
import Derived.Laws.Concat
namespace Go.Proofs.Ytpldoffjclmacaa
open Go.RowKit

set_option maxHeartbeats 400000 in
theorem l1Num_any (n : Int) (w : World) (h0 : 0 ≤ n) (h : n ≤ 4294967295) :
    Calls Try.prog 31 #[.int .i64 n] w fun e w' => e = .returned (.string (En.num n)) ∧ Below w.heap.size w w' := by
  have c1 := fun (a : Int) (W : World) => conv_new [a] 1 W
  have c3 := fun (a b c : Int) (W : World) => conv_new [a, b, c] 3 W
  have c5 := fun (a b c d e : Int) (W : World) => conv_new [a, b, c, d, e] 5 W
  simp only [List.map, List.length] at c1 c3 c5
  unfold En.num
  by_cases h1 : n < 253
  · rw [En.bytes_small h1]
    go_enter Try.func31, Try.ntmps31
    go_wp2
    go_ret
    exact ⟨rfl, (Below.refl _ _).alloc (Nat.le_refl _) _⟩
  by_cases h2 : n < 65536
  · rw [En.bytes_mid (by omega) h2]
    go_enter Try.func31, Try.ntmps31
    go_wp2
    go_ret
    exact ⟨rfl, (Below.refl _ _).alloc (Nat.le_refl _) _⟩
  · rw [En.bytes_big (by omega)]
    go_enter Try.func31, Try.ntmps31
    go_wp2
    go_ret
    exact ⟨rfl, (Below.refl _ _).alloc (Nat.le_refl _) _⟩
set_option maxHeartbeats 400000 in
theorem numBytes_any (n : Int) (w : World) (h0 : 0 ≤ n) (h : n ≤ 4294967295) :
    Calls Try.prog 26 #[.int .i64 n] w fun e w' => e = .returned (.slice (some ⟨w.heap.size, 0, none⟩) (En.bytes n).length (En.bytes n).length) ∧
      w' = w.alloc (.cells ((En.bytes n).map (Value.int .u8)).toArray 5) := by
  by_cases h1 : n < 253
  · rw [En.bytes_small h1]
    go_enter Try.func26, Try.ntmps26
    go_wp2
    go_ret
    exact ⟨rfl, rfl⟩
  by_cases h2 : n < 65536
  · rw [En.bytes_mid (by omega) h2]
    go_enter Try.func26, Try.ntmps26
    go_wp2
    go_ret
    exact ⟨rfl, rfl⟩
  · rw [En.bytes_big (by omega)]
    go_enter Try.func26, Try.ntmps26
    go_wp2
    go_ret
    exact ⟨rfl, rfl⟩
theorem En.size_num (n : Int) : (En.num n).size ≤ 5 := by
  unfold En.num
  rw [show (strOfNums (En.bytes n)).size = (En.bytes n).length by simp [strOfNums, ByteArray.size]]
  unfold En.bytes
  split
  · simp
  · split
    · simp
    · simp
theorem add_num (n : Int) (s : ByteArray) (hs : (s.size : Int) ≤ 4294967295) (W : World) : (Op.stringOp .add (En.num n) s).run Try.prog W = .ok (.string (En.num n ++ s)) W := by
  have := En.size_num n
  exact run_string_add_sum (P := Try.prog) W _ _ (by omega)
end Go.Proofs.Ytpldoffjclmacaa
