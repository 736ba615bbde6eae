/-
  Contracts of HexOf: the program's and the model's.
-/
import Derived.Test.YtpldoffjclmacaaHx
import Derived.Deep.RegionLaw
import Derived.Deep.QuietTactic
import Derived.BigQuiet
import Derived.Outline
namespace Go.Proofs.Ytpldoffjclmacaa
open Go.RowKit

/-- The hexadecimal digit of n. -/
def Hx.dig (n : Int) : Int := if n < 10 then n + 48 else n + 87
theorem Hx.dig_all : ∀ k : Fin 16, (((⟨#[48, 49, 50, 51, 52, 53, 54, 55, 56, 57, 97, 98, 99, 100, 101, 102]⟩ : ByteArray).data[k.val]'(by exact k.isLt)).toNat : Int) = Hx.dig (k.val : Int) := by decide +kernel
theorem Hx.dig_at (k : Nat) (h : k < (⟨#[48, 49, 50, 51, 52, 53, 54, 55, 56, 57, 97, 98, 99, 100, 101, 102]⟩ : ByteArray).size) : (((⟨#[48, 49, 50, 51, 52, 53, 54, 55, 56, 57, 97, 98, 99, 100, 101, 102]⟩ : ByteArray)[k]'h).toNat : Int) = Hx.dig (k : Int) := Hx.dig_all ⟨k, h⟩
theorem Hx.dig_bd (n : Int) (h0 : 0 ≤ n) (h : n < 16) : 0 ≤ Hx.dig n ∧ Hx.dig n < 256 := by unfold Hx.dig; split <;> omega
theorem Hx.and15_all : ∀ k : Fin 256, bits .and .u8 (k.val : Int) 15 = (k.val : Int) % 16 := by decide +kernel
theorem Hx.and15 (x : Int) (h0 : 0 ≤ x) (h : x < 256) : bits .and .u8 x 15 = x % 16 := by
  obtain ⟨k, rfl⟩ := Int.eq_ofNat_of_zero_le h0
  exact Hx.and15_all ⟨k, by omega⟩

theorem two_new (w : World) (x y : Value) (t : TypeId) : ∀ j u, [x, y][j]? = some u → (w.alloc (.cells #[x, y] t)).cell? ((⟨w.heap.size, 0, none⟩ : Addr).add j) = some u := by
  intro j u hj
  have hadr : (⟨w.heap.size, 0, none⟩ : Addr).add j = ⟨w.heap.size, j, none⟩ := by unfold Addr.add; split <;> simp_all
  rw [hadr]
  exact (World.cell?_alloc_mark w #[x, y] t (0, 0) j).trans (by simpa using hj)
/-- The digits of the first k bytes. -/
def Hx.of (s : ByteArray) : Nat → List Int
  | 0 => []
  | k + 1 => Hx.of s k ++ [Hx.dig (En.byt s k / 16), Hx.dig (En.byt s k % 16)]
theorem Hx.of_len (s : ByteArray) (k : Nat) : (Hx.of s k).length = 2 * k := by
  induction k with
  | zero => rfl
  | succ k ih => simp [Hx.of, ih]; omega

theorem byteCells_of (s : ByteArray) (k : Nat) (x : Int) (hx : En.byt s k = x) (h0 : 0 ≤ x) (h : x < 256) :
    Lib.byteCells ((Hx.of s k).map fun n => UInt8.ofNat n.toNat) ++ [.int .u8 (Hx.dig (x / 16))] ++ [.int .u8 (Hx.dig (x % 16))] = Lib.byteCells ((Hx.of s (k + 1)).map fun n => UInt8.ofNat n.toNat) := by
  have d0 := Hx.dig_bd (x / 16) (by omega) (by omega)
  have d1 := Hx.dig_bd (x % 16) (by omega) (by omega)
  simp only [Hx.of, hx, Lib.byteCells, List.map_append, List.map_cons, List.map_nil, List.append_assoc, List.cons_append, List.nil_append]
  rw [En.u8 d0.1 d0.2, En.u8 d1.1 d1.2]

end Go.Proofs.Ytpldoffjclmacaa
