/-
  Contracts of reading a number: the program's closures (bytesOf, takeNum, takeLong, DecodeNum) and the model's reader (le, num, DecodeNum).
-/
import Derived.Test.YtpldoffjclmacaaGreatDoorNum
import Derived.Lib.Hide
import Derived.RangeFuncBox
import Derived.LoopTactic
namespace Go.Proofs.YtpldoffjclmacaaGreatDoor
open Go.RowKit

/-! ### The program's taker: a block with one string. -/
/-- From w to w' nothing but block B was written, and it holds the string r. -/
structure Tk (B : Nat) (w w' : World) (r : ByteArray) : Prop where
  held : w'.heap[B]? = some (.cells #[.string r] 9 (0, 0))
  kept : w.grownBy w' (some B)
theorem Tk.set {B : Nat} {w : World} {s : ByteArray} (h : w.heap[B]? = some (.cells #[.string s] 9 (0, 0))) (r : ByteArray) : Tk B w (w.setCell ⟨B, 0, none⟩ (.string r)) r :=
  ⟨one_setCell h, grownBy_setCell' w B _⟩
theorem grownBy_trans' {w a b : World} {row : Option Nat} (h : w.grownBy a row) (k : a.grownBy b row) : w.grownBy b row :=
  ⟨k.os.trans h.os, k.tape.trans h.tape, k.output.trans h.output, Nat.le_trans h.size k.size, fun j hj hr => (k.block j (Nat.lt_of_lt_of_le hj h.size) hr).trans (h.block j hj hr)⟩
theorem Tk.trans {B : Nat} {w a b : World} {s r : ByteArray} (h : Tk B w a s) (k : Tk B a b r) : Tk B w b r := ⟨k.held, grownBy_trans' h.kept k.kept⟩

theorem makeFunc_run : ∀ (fn : Fn) (first cap : Array Value) (w : World), (Instr.makeFunc fn first cap).run Tryz.prog w = .ok (.func fn first cap) w := fun _ _ _ _ => rfl

/-- What the reading of a number leaves: the block holds a string; the rest, if there was a number. -/
def TkDec (B : Nat) (s : ByteArray) (w w' : World) : Prop := ∃ r, Tk B w w' r ∧ r.size ≤ s.size ∧ ∀ x, En.dec s = some x → x.2 = r
theorem Tk.rfl' {B : Nat} {w : World} {s : ByteArray} (h : w.heap[B]? = some (.cells #[.string s] 9 (0, 0))) : Tk B w w s := ⟨h, World.grownBy.refl _ _⟩
theorem ne_bool {a b : Int} (h : a ≠ b) : (a == b) = false := by simpa using h
theorem eq_bool {a b : Int} (h : a = b) : (a == b) = true := by simpa using h

/-- The answer of DecodeNum. -/
def En.decA (s : ByteArray) : Value := match En.dec s with
  | none => .tuple #[.int .i64 0, .string ⟨#[]⟩, .bool false]
  | some x => .tuple #[.int .i64 x.1, .string x.2, .bool true]
theorem En.decA_none {s : ByteArray} (h : En.dec s = none) : En.decA s = .tuple #[.int .i64 0, .string ⟨#[]⟩, .bool false] := by unfold En.decA; rw [h]
theorem En.decA_some {s : ByteArray} {x : Int × ByteArray} (h : En.dec s = some x) : En.decA s = .tuple #[.int .i64 x.1, .string x.2, .bool true] := by unfold En.decA; rw [h]
theorem Tk.below {B : Nat} {w w' : World} {r : ByteArray} (h : Tk B w w' r) {k : Nat} (hk : k ≤ B) (hw : k ≤ w.heap.size) : Below k w w' :=
  Below.grown (Below.refl _ _) h.kept hw (fun j hj => by cases hj; exact hk)
theorem heap_new (w : World) (o : Obj) : (w.alloc o).heap[w.heap.size]? = some o := by
  show (w.heap.push o)[w.heap.size]? = _
  simp

end Go.Proofs.YtpldoffjclmacaaGreatDoor
