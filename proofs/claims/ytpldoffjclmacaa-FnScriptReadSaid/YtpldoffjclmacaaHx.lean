/-
  Contracts of FromHex: the program's and the model's.
-/
import Derived.Test.YtpldoffjclmacaaEn
import Derived.Test.YtpldoffjclmacaaBd
import Derived.Test.YtpldoffjclmacaaOw
import Derived.Test.YtpldoffjclmacaaShelf
import Derived.LoopTactic
import Derived.Lib.Bytealg
namespace Go.Proofs.Ytpldoffjclmacaa
open Go.RowKit

/-- The value of a hexadecimal digit, or -1. -/
def Hx.v (c : Int) : Int := if 48 ≤ c ∧ c ≤ 57 then c - 48 else if 97 ≤ c ∧ c ≤ 102 then c - 87 else -1
theorem Hx.v_bd (c : Int) : -1 ≤ Hx.v c ∧ Hx.v c ≤ 15 := by unfold Hx.v; split <;> (try split) <;> omega
def Hx.num (s : ByteArray) (j : Nat) : Int := Hx.v (En.byt s (2 * j)) * 16 + Hx.v (En.byt s (2 * j + 1))
/-- The numbers of the first k pairs. -/
def Hx.nums (s : ByteArray) (k : Nat) : List Int := (List.range k).map (Hx.num s)
theorem Hx.nums_succ (s : ByteArray) (k : Nat) : Hx.nums s (k + 1) = Hx.nums s k ++ [Hx.num s k] := by simp [Hx.nums, List.range_succ]
theorem Hx.nums_len (s : ByteArray) (k : Nat) : (Hx.nums s k).length = k := by simp [Hx.nums]
def Hx.ok (s : ByteArray) (k : Nat) : Prop := ∀ j, j < k → 0 ≤ Hx.v (En.byt s (2 * j)) ∧ 0 ≤ Hx.v (En.byt s (2 * j + 1))
theorem Hx.ok_succ {s : ByteArray} {k : Nat} (h : Hx.ok s k) (h0 : 0 ≤ Hx.v (En.byt s (2 * k))) (h1 : 0 ≤ Hx.v (En.byt s (2 * k + 1))) : Hx.ok s (k + 1) := by
  intro j hj
  by_cases hjk : j < k
  · exact h j hjk
  · have : j = k := by omega
    subst this
    exact ⟨h0, h1⟩
def Hx.good (s : ByteArray) : Prop := s.size % 2 = 0 ∧ Hx.ok s (s.size / 2)
def Hx.yes (s : ByteArray) : Value := .tuple #[.string (strOfNums (Hx.nums s (s.size / 2))), .bool true]
def Hx.no : Value := .tuple #[.string ⟨#[]⟩, .bool false]
/-- What FromHex answers. -/
def HexEnd (s : ByteArray) (w : World) (e : Ending) (w' : World) : Prop := ∃ v, e = .returned v ∧ ((Hx.good s ∧ v = Hx.yes s) ∨ (¬ Hx.good s ∧ v = Hx.no)) ∧ Below w.heap.size w w'
theorem Hx.bad {s : ByteArray} {k : Nat} (hk : 2 * k + 1 < s.size) (h : Hx.v (En.byt s (2 * k)) < 0 ∨ Hx.v (En.byt s (2 * k + 1)) < 0) : ¬ Hx.good s := by
  intro ⟨_, g⟩
  have := g k (by omega)
  omega
theorem Hx.or_nib (a b : Int) (ha : 0 ≤ a) (ha2 : a ≤ 15) (hb : 0 ≤ b) (hb2 : b ≤ 15) : bits .or .i64 (a * 16) b = a * 16 + b := by
  obtain ⟨x, rfl⟩ := Int.eq_ofNat_of_zero_le ha
  obtain ⟨y, rfl⟩ := Int.eq_ofNat_of_zero_le hb
  have h1 : (BitVec.ofInt 64 ((x * 16 : Nat) : Int)).toNat = x * 16 := by
    rw [BitVec.ofInt_natCast, BitVec.toNat_ofNat]; exact Nat.mod_eq_of_lt (by omega)
  have h2 : (BitVec.ofInt 64 (y : Int)).toNat = y := by
    rw [BitVec.ofInt_natCast, BitVec.toNat_ofNat]; exact Nat.mod_eq_of_lt (by omega)
  have h3 : x * 16 ||| y = x * 16 + y := by
    rw [Nat.mul_comm x 16]
    exact (Nat.two_pow_add_eq_or_of_lt (i := 4) (b := y) (by omega) x).symm
  have e : ((x : Int) * 16) = ((x * 16 : Nat) : Int) := by omega
  rw [e]
  show IntKind.i64.wrap ((BitVec.ofInt 64 ((x * 16 : Nat) : Int) ||| BitVec.ofInt 64 (y : Int)).toNat : Int) = _
  rw [BitVec.toNat_or, h1, h2, h3]
  rw [IntWalk.i64_in _ (by omega)]
  omega
theorem Hx.idx_all : ∀ c : Fin 256, Lib.indexByte [48, 49, 50, 51, 52, 53, 54, 55, 56, 57, 97, 98, 99, 100, 101, 102] (c.val.toUInt8) = Hx.v (c.val : Int) := by decide +kernel
theorem Hx.idx (c : Int) (h0 : 0 ≤ c) (h : c < 256) : Lib.indexByte [48, 49, 50, 51, 52, 53, 54, 55, 56, 57, 97, 98, 99, 100, 101, 102] c.toNat.toUInt8 = Hx.v c := by
  obtain ⟨n, rfl⟩ := Int.eq_ofNat_of_zero_le h0
  exact Hx.idx_all ⟨n, by omega⟩

theorem byteCells_nums (s : ByteArray) (k : Nat) (c : Int) (h0 : 0 ≤ c) (h : c < 256) (hc : c = Hx.num s k) :
    Lib.byteCells ((Hx.nums s k).map fun x => UInt8.ofNat x.toNat) ++ [.int .u8 c] = Lib.byteCells ((Hx.nums s (k + 1)).map fun x => UInt8.ofNat x.toNat) := by
  rw [Hx.nums_succ, ← hc]
  simp only [Lib.byteCells, List.map_append, List.map_cons, List.map_nil]
  rw [En.u8 h0 h]

end Go.Proofs.Ytpldoffjclmacaa
