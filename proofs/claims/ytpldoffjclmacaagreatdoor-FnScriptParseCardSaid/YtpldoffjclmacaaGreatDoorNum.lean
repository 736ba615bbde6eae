/-
  Contracts: numBytes, EncodeNum of the program and l6In, l1Num, EncodeNum of the model.
-/
import Derived.Test.YtpldoffjclmacaaGreatDoorChecked
import Derived.Test.YtpldoffjclmacaaGreatDoorEn
import Derived.Test.YtpldoffjclmacaaGreatDoorBa
import Derived.WalkKit
import Derived.WalkSpells
import Derived.Below
import Derived.Outline
import Derived.Laws.Concat
namespace Go.Proofs.YtpldoffjclmacaaGreatDoor
open Go.RowKit

theorem En.size_num (n : Int) : (En.num n).size ≤ 5 := by
  unfold En.num
  rw [show (strOfNums (En.bytes n)).size = (En.bytes n).length by simp [strOfNums, ByteArray.size]]
  unfold En.bytes
  split
  · simp
  · split
    · simp
    · simp
theorem add_num (n : Int) (s : ByteArray) (hs : (s.size : Int) ≤ 4294967295) (W : World) : (Op.stringOp .add (En.num n) s).run Tryz.prog W = .ok (.string (En.num n ++ s)) W := by
  have := En.size_num n
  exact run_string_add_sum (P := Tryz.prog) W _ _ (by omega)
end Go.Proofs.YtpldoffjclmacaaGreatDoor
