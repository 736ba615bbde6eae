/-
  Contracts of chapter 2: Digest, DigestBytes, BytesDigest, DigestPair of the program and of the model.
-/
import Derived.Test.YtbhpealkhpginaaEn
import Derived.Test.YtbhpealkhpginaaBa
import Derived.LoopTactic
import Derived.Deep.QuietTactic
import Derived.BigQuiet
import Derived.WalkSmall
import Derived.Lib.Hide
import Derived.WalkMore
namespace Go.Proofs.Ytbhpealkhpginaa
open Go.RowKit

/-- a xor b of numbers that are not negative. -/
def Dg.x (a b : Int) : Int := ((a.toNat ^^^ b.toNat : Nat) : Int)
theorem Dg.x_bd (a b : Int) (ha : a ≤ 4294967295) (hb : b ≤ 4294967295) : 0 ≤ Dg.x a b ∧ Dg.x a b ≤ 4294967295 := by
  unfold Dg.x
  have : a.toNat ^^^ b.toNat < 2 ^ 32 := Nat.xor_lt_two_pow (by omega) (by omega)
  omega
theorem Dg.x_i64 (a b : Int) (ha : 0 ≤ a) (ha2 : a ≤ 4294967295) (hb : 0 ≤ b) (hb2 : b ≤ 4294967295) : bits .xor .i64 a b = Dg.x a b := by
  have hbd := Dg.x_bd a b ha2 hb2
  unfold Dg.x at hbd ⊢
  obtain ⟨x, rfl⟩ := Int.eq_ofNat_of_zero_le ha
  obtain ⟨y, rfl⟩ := Int.eq_ofNat_of_zero_le hb
  have h1 : (BitVec.ofInt 64 (x : Int)).toNat = x := by
    rw [BitVec.ofInt_natCast, BitVec.toNat_ofNat]; exact Nat.mod_eq_of_lt (by omega)
  have h2 : (BitVec.ofInt 64 (y : Int)).toNat = y := by
    rw [BitVec.ofInt_natCast, BitVec.toNat_ofNat]; exact Nat.mod_eq_of_lt (by omega)
  show IntKind.i64.wrap ((BitVec.ofInt 64 (x : Int) ^^^ BitVec.ofInt 64 (y : Int)).toNat : Int) = _
  rw [BitVec.toNat_xor, h1, h2]
  simp only [Int.toNat_natCast] at hbd ⊢
  exact IntWalk.i64_in _ (by omega)
theorem Dg.x_u32 (a b : Int) (ha : 0 ≤ a) (ha2 : a ≤ 4294967295) (hb : 0 ≤ b) (hb2 : b ≤ 4294967295) : bits .xor .u32 a b = Dg.x a b := by
  have hbd := Dg.x_bd a b ha2 hb2
  unfold Dg.x at hbd ⊢
  obtain ⟨x, rfl⟩ := Int.eq_ofNat_of_zero_le ha
  obtain ⟨y, rfl⟩ := Int.eq_ofNat_of_zero_le hb
  have h1 : (BitVec.ofInt 32 (x : Int)).toNat = x := by
    rw [BitVec.ofInt_natCast, BitVec.toNat_ofNat]; exact Nat.mod_eq_of_lt (by omega)
  have h2 : (BitVec.ofInt 32 (y : Int)).toNat = y := by
    rw [BitVec.ofInt_natCast, BitVec.toNat_ofNat]; exact Nat.mod_eq_of_lt (by omega)
  show IntKind.u32.wrap ((BitVec.ofInt 32 (x : Int) ^^^ BitVec.ofInt 32 (y : Int)).toNat : Int) = _
  rw [BitVec.toNat_xor, h1, h2]
  simp only [Int.toNat_natCast] at hbd ⊢
  exact IntWalk.u32_in _ (by omega)

/-- What k bytes come to. -/
def Dg.mix (s : ByteArray) : Nat → Int
  | 0 => 2166136261
  | k + 1 => Dg.x (Dg.mix s k) (En.byt s k) * 16777619 % 4294967296
theorem Dg.mix_bd (s : ByteArray) (k : Nat) : 0 ≤ Dg.mix s k ∧ Dg.mix s k ≤ 4294967295 := by
  cases k with
  | zero => simp only [Dg.mix]; omega
  | succ k => simp only [Dg.mix]; omega
def Dg.f1 (h : Int) : Int := Dg.x h (h / 65536) * 668265261 % 4294967296
def Dg.f2 (h : Int) : Int := Dg.x h (h / 32768) * 374761393 % 4294967296
def Dg.f3 (h : Int) : Int := Dg.x h (h / 65536)
/-- The digest. -/
def Dg.of (s : ByteArray) : Int := Dg.f3 (Dg.f2 (Dg.f1 (Dg.mix s s.size)))
theorem Dg.f1_bd (h : Int) : 0 ≤ Dg.f1 h ∧ Dg.f1 h ≤ 4294967295 := by unfold Dg.f1; omega
theorem Dg.f2_bd (h : Int) : 0 ≤ Dg.f2 h ∧ Dg.f2 h ≤ 4294967295 := by unfold Dg.f2; omega
theorem Dg.f3_bd (h : Int) (h0 : 0 ≤ h) (h1 : h ≤ 4294967295) : 0 ≤ Dg.f3 h ∧ Dg.f3 h ≤ 4294967295 := by unfold Dg.f3; exact Dg.x_bd _ _ h1 (by omega)
theorem Dg.of_bd (s : ByteArray) : 0 ≤ Dg.of s ∧ Dg.of s ≤ 4294967295 := Dg.f3_bd _ (Dg.f2_bd _).1 (Dg.f2_bd _).2

theorem Dg.xs (h : Int) (d : Int) (hd : 1 ≤ d) (h0 : 0 ≤ h) (h1 : h ≤ 4294967295) : 0 ≤ h / d ∧ h / d ≤ 4294967295 := by
  have := IntWalk.tdiv_le h d h0 hd
  omega

/-- The four bytes of a digest. -/
def Dg.bytes (d : Int) : ByteArray := strOfNums [d / 16777216, d / 65536 % 256, d / 256 % 256, d % 256]

theorem Dg.yes {d : Int} (h0 : 0 ≤ d) (h1 : d ≤ 4294967295) : (decide (0 ≤ d) && decide (d ≤ 4294967295)) = true := by simp; omega
theorem Dg.no {d : Int} (h : d < 0 ∨ 4294967295 < d) : (decide (0 ≤ d) && decide (d ≤ 4294967295)) = false := by simp; omega

/-- The number of the first k bytes, the most significant first. -/
def Dg.val (s : ByteArray) : Nat → Int
  | 0 => 0
  | k + 1 => Dg.val s k * 256 + En.byt s k
def Dg.num (s : ByteArray) : Int := En.byt s 0 * 16777216 + En.byt s 1 * 65536 + En.byt s 2 * 256 + En.byt s 3
theorem Dg.val_4 (s : ByteArray) : Dg.val s 4 = Dg.num s := by simp only [Dg.val, Dg.num]; omega
theorem Dg.val_bd (s : ByteArray) (k : Nat) (h : k < 4) : 0 ≤ Dg.val s k ∧ Dg.val s k ≤ 16777215 := by
  have h0 := En.byt_bd s 0
  have h1 := En.byt_bd s 1
  have h2 := En.byt_bd s 2
  match k, h with
  | 0, _ => simp only [Dg.val]; omega
  | 1, _ => simp only [Dg.val]; omega
  | 2, _ => simp only [Dg.val]; omega
  | 3, _ => simp only [Dg.val]; omega
theorem Dg.num_bd (s : ByteArray) : 0 ≤ Dg.num s ∧ Dg.num s ≤ 4294967295 := by
  have h0 := En.byt_bd s 0
  have h1 := En.byt_bd s 1
  have h2 := En.byt_bd s 2
  have h3 := En.byt_bd s 3
  unfold Dg.num
  omega

theorem Dg.num_bytes (d : Int) (h0 : 0 ≤ d) (h1 : d ≤ 4294967295) : Dg.num (Dg.bytes d) = d := by
  unfold Dg.num Dg.bytes
  rw [En.byt_str _ 0 _ rfl (by omega) (by omega), En.byt_str _ 1 _ rfl (by omega) (by omega), En.byt_str _ 2 _ rfl (by omega) (by omega), En.byt_str _ 3 _ rfl (by omega) (by omega)]
  omega
theorem Dg.bytes_num (s : ByteArray) (hs : s.size = 4) : Dg.bytes (Dg.num s) = s := by
  have h0 := En.byt_bd s 0
  have h1 := En.byt_bd s 1
  have h2 := En.byt_bd s 2
  have h3 := En.byt_bd s 3
  unfold Dg.bytes
  rw [show Dg.num s / 16777216 = En.byt s 0 by unfold Dg.num; omega, show Dg.num s / 65536 % 256 = En.byt s 1 by unfold Dg.num; omega,
    show Dg.num s / 256 % 256 = En.byt s 2 by unfold Dg.num; omega, show Dg.num s % 256 = En.byt s 3 by unfold Dg.num; omega]
  clear h0 h1 h2 h3
  obtain ⟨⟨l⟩⟩ := s
  match l, hs with
  | [a, b, c, e], _ =>
    unfold strOfNums
    simp only [List.map_cons, List.map_nil, En.byt_mk]
    simp [UInt8.ofNat_toNat]

/-- The string whose digest is that of a pair. -/
def Dg.pair (a b : Int) : ByteArray := ⟨#[1]⟩ ++ Dg.bytes a ++ Dg.bytes b
theorem Dg.bytes_size (d : Int) : (Dg.bytes d).size = 4 := by unfold Dg.bytes; simp [strOfNums, ByteArray.size]
theorem Dg.add1 (a : Int) (W : World) : (Op.stringOp .add (⟨#[1]⟩ : ByteArray) (Dg.bytes a)).run Try.prog W = .ok (.string (⟨#[1]⟩ ++ Dg.bytes a)) W :=
  run_string_add_sum (P := Try.prog) W _ _ (by rw [Dg.bytes_size]; decide)
theorem Dg.add2 (a b : Int) (W : World) : (Op.stringOp .add (⟨#[1]⟩ ++ Dg.bytes a) (Dg.bytes b)).run Try.prog W = .ok (.string (Dg.pair a b)) W :=
  run_string_add_sum (P := Try.prog) W _ _ (by rw [ByteArray.size_append, Dg.bytes_size, Dg.bytes_size]; decide)
theorem Dg.pair_size (a b : Int) : (Dg.pair a b).size = 9 := by
  unfold Dg.pair
  rw [ByteArray.size_append, ByteArray.size_append, Dg.bytes_size, Dg.bytes_size]
  decide

/-- What DigestPair answers. -/
def Dg.ofPair (a b : Int) : Int := if (0 ≤ a ∧ a ≤ 4294967295) ∧ (0 ≤ b ∧ b ≤ 4294967295) then Dg.of (Dg.pair a b) else -1
end Go.Proofs.Ytbhpealkhpginaa
