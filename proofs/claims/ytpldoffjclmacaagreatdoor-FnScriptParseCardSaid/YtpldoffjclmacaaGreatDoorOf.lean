/-
  Contracts of scripts: ScriptBytes; of the model.
-/
import Derived.Test.YtpldoffjclmacaaGreatDoorOe
namespace Go.Proofs.YtpldoffjclmacaaGreatDoor
open Go.RowKit

/-- What ScriptBytes hands back. -/
def Jo.bs (l : List Jo) : ByteArray := if Jo.ok l = true then Jo.bytes l else ⟨#[]⟩
theorem Jo.tail_c0 (x : Jo) (h : x.c = 0) : Jo.tail x = En.text x.t := by unfold Jo.tail; rw [if_pos h]
theorem Jo.tail_c12 (x : Jo) (h : x.c = 12) : Jo.tail x = En.num x.a ++ En.num x.b := by unfold Jo.tail; rw [if_neg (by omega), if_pos h]
theorem Jo.tail_c1 (x : Jo) (h : x.c = 13 ∨ x.c = 14) : Jo.tail x = En.num x.a := by unfold Jo.tail; rw [if_neg (by omega), if_neg (by omega), if_pos h]
theorem Jo.tail_cn (x : Jo) (h0 : x.c ≠ 0) (h1 : x.c ≠ 12) (h2 : x.c ≠ 13) (h3 : x.c ≠ 14) : Jo.tail x = ⟨#[]⟩ := by unfold Jo.tail; rw [if_neg h0, if_neg h1, if_neg (by omega)]
theorem Jo.tail_size {x : Jo} (h : Jo.fld x = true) : (Jo.tail x).size ≤ 90 := by
  have hn : ∀ n, (En.num n).size ≤ 5 := fun n => by have := En.size_num n; omega
  rcases Jo.kinds h with ⟨e, ht⟩ | ⟨e, _⟩ | ⟨e, _⟩ | ⟨e, _⟩ | ⟨j, e, _, _⟩
  · rw [Jo.tail_c0 x (by rw [e])]
    unfold En.text
    rw [ByteArray.size_append]
    have := hn x.t.size
    omega
  · rw [Jo.tail_c12 x (by rw [e]), ByteArray.size_append]
    have := hn x.a
    have := hn x.b
    omega
  · rw [Jo.tail_c1 x (by rw [e]; exact .inl rfl)]
    have := hn x.a
    omega
  · rw [Jo.tail_c1 x (by rw [e]; exact .inr rfl)]
    have := hn x.a
    omega
  · rw [Jo.tail_cn x (by rw [e]; simp only; omega) (by rw [e]; simp only; omega) (by rw [e]; simp only; omega) (by rw [e]; simp only; omega)]
    decide
theorem Jo.bytes_size {l : List Jo} (h : ∀ x ∈ l, Jo.fld x = true) : (Jo.bytes l).size ≤ 100 * l.length := by
  induction l with
  | nil => decide
  | cons x l ih =>
    have h1 := Jo.tail_size (h x (List.mem_cons_self ..))
    have h2 := ih (fun y hy => h y (List.mem_cons_of_mem _ hy))
    show (Jo.enc x ++ Jo.bytes l).size ≤ _
    unfold Jo.enc
    rw [ByteArray.size_append, ByteArray.size_append, strOfNums_size, List.length_cons, List.length_cons, List.length_nil]
    omega
theorem ba_add (W : World) (a b : ByteArray) (h : a.size + b.size ≤ 1000000) : (Op.stringOp .add a b).run Tryz.prog W = .ok (.string (a ++ b)) W :=
  run_string_add_sum (P := Tryz.prog) W _ _ (by omega)
end Go.Proofs.YtpldoffjclmacaaGreatDoor
