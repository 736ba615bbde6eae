/-
  Contracts of HexOf: the program's and the model's.
-/
import Derived.Test.YtpldoffjclmacaaGreatDoorHx
import Derived.Deep.RegionLaw
import Derived.Deep.QuietTactic
import Derived.BigQuiet
import Derived.Outline
namespace Go.Proofs.YtpldoffjclmacaaGreatDoor
open Go.RowKit

/-- The hexadecimal digit of n. -/
def Hx.dig (n : Int) : Int := if n < 10 then n + 48 else n + 87
theorem Hx.dig_all : ∀ k : Fin 16, (((⟨#[48, 49, 50, 51, 52, 53, 54, 55, 56, 57, 97, 98, 99, 100, 101, 102]⟩ : ByteArray).data[k.val]'(by exact k.isLt)).toNat : Int) = Hx.dig (k.val : Int) := by decide +kernel
theorem Hx.dig_at (k : Nat) (h : k < (⟨#[48, 49, 50, 51, 52, 53, 54, 55, 56, 57, 97, 98, 99, 100, 101, 102]⟩ : ByteArray).size) : (((⟨#[48, 49, 50, 51, 52, 53, 54, 55, 56, 57, 97, 98, 99, 100, 101, 102]⟩ : ByteArray)[k]'h).toNat : Int) = Hx.dig (k : Int) := Hx.dig_all ⟨k, h⟩
theorem Hx.dig_bd (n : Int) (h0 : 0 ≤ n) (h : n < 16) : 0 ≤ Hx.dig n ∧ Hx.dig n < 256 := by unfold Hx.dig; split <;> omega
theorem Hx.and15_all : ∀ k : Fin 256, bits .and .u8 (k.val : Int) 15 = (k.val : Int) % 16 := by decide +kernel
theorem Hx.and15 (x : Int) (h0 : 0 ≤ x) (h : x < 256) : bits .and .u8 x 15 = x % 16 := by
  obtain ⟨k, rfl⟩ := Int.eq_ofNat_of_zero_le h0
  exact Hx.and15_all ⟨k, by omega⟩

set_option maxHeartbeats 400000 in
theorem l1Digit_any (n : Int) (w : World) (h0 : 0 ≤ n) (h : n < 16) :
    Calls Tryz.prog 64 #[.int .i64 n] w fun e w' => e = .returned (.int .u8 (Hx.dig n)) ∧ w = w' := by
  obtain ⟨k, rfl⟩ := Int.eq_ofNat_of_zero_le h0
  have hd := Hx.dig_at k
  go_enter Tryz.func64, Tryz.ntmps64
  go_wp2
  go_ret
  exact ⟨rfl, rfl⟩
theorem two_new (w : World) (x y : Value) (t : TypeId) : ∀ j u, [x, y][j]? = some u → (w.alloc (.cells #[x, y] t)).cell? ((⟨w.heap.size, 0, none⟩ : Addr).add j) = some u := by
  intro j u hj
  have hadr : (⟨w.heap.size, 0, none⟩ : Addr).add j = ⟨w.heap.size, j, none⟩ := by unfold Addr.add; split <;> simp_all
  rw [hadr]
  exact (World.cell?_alloc_mark w #[x, y] t (0, 0) j).trans (by simpa using hj)
/-- The digits of the first k bytes. -/
def Hx.of (s : ByteArray) : Nat → List Int
  | 0 => []
  | k + 1 => Hx.of s k ++ [Hx.dig (En.byt s k / 16), Hx.dig (En.byt s k % 16)]
theorem Hx.of_len (s : ByteArray) (k : Nat) : (Hx.of s k).length = 2 * k := by
  induction k with
  | zero => rfl
  | succ k ih => simp [Hx.of, ih]; omega

set_option maxRecDepth 100000 in
set_option maxHeartbeats 1600000 in
theorem specHexOf_any (s : ByteArray) (w : World) (hs : s.size ≤ 1048576) :
    Calls Tryz.prog 42 #[.string s] w fun e w' => e = .returned (.string (strOfNums (Hx.of s s.size))) ∧ Below w.heap.size w w' := by
  obtain ⟨i0, hi, hz0, hz1, hz2⟩ := info_parts info_u8
  go_enter Tryz.func42, Tryz.ntmps42
  go_wp2
  go_loopw [3, 4] (fun v i wr => ∃ k : Nat, k ≤ s.size ∧ i = .int .i64 (k : Int) ∧ wr.ownsRow w.heap.size 5 1 v (2 * k) ((Hx.of s k).map (Value.int .u8)) ∧ Below w.heap.size w wr)
    (fun _ i _ => s.size - (intOf i).toNat)
  case atStart => exact ⟨0, by omega, rfl, World.ownsRow_made _ _ _ (Nat.le_refl _) (by decide) rfl, (Below.refl _ _).alloc (Nat.le_refl _) _⟩
  case round =>
    obtain ⟨k, hk, rfl, hown, hbel⟩ := hrel
    by_cases hlt : k < s.size
    · have b0 := En.byt_bd s k
      have hx : ∀ h : k < s.size, ((s[k]'h).toNat : Int) = En.byt s k := fun h => En.byt_eq _ _ h
      obtain ⟨x, HX⟩ : ∃ x, Hid (En.byt s k = x) := ⟨_, Lib.hid rfl⟩
      rw [HX.out] at b0
      simp only [HX.out] at hx
      have q0 : 0 ≤ x / 16 := by omega
      have q1 : x / 16 < 16 := by omega
      have r0 : 0 ≤ x % 16 := by omega
      have r1 : x % 16 < 16 := by omega
      have hbs := hbel.size
      have hlen : 2 * k + 2 ≤ 2097152 := by omega
      have s1 := Lib.hid (two_new wr (.int .u8 (Hx.dig (x / 16))) (.int .u8 (Hx.dig (x % 16))) 5)
      have hw1 : IntKind.i64.wrap x = x := IntWalk.i64_in _ (by omega)
      have hw2 : x.tdiv 16 = x / 16 := Int.tdiv_eq_ediv_of_nonneg b0.1
      have hw3 : IntKind.i64.wrap (x / 16) = x / 16 := IntWalk.i64_in _ (by omega)
      have hw4 : x.tmod 16 = x % 16 := Int.tmod_eq_emod_of_nonneg b0.1
      have hw5 : IntKind.i64.wrap (x % 16) = x % 16 := IntWalk.i64_in _ (by omega)
      go_wp2
      go_region_law (first
        | (refine step_append_own rfl _ _ 22 rfl w.heap.size 5 i0 (.int .u8 0) 1 1 Tryz.underlying22 hi hz0 hz1 hz2 rfl (by decide) _ _ _ rfl (by exact hown.alloc _) ⟨wr.heap.size, 0, none⟩ 2 2 [.int .u8 (Hx.dig (x / 16)), .int .u8 (Hx.dig (x % 16))] rfl rfl s1.out (by intro u hu; simp at hu; rcases hu with rfl | rfl <;> rfl) (by unfold maxLen; omega) (by omega) (by simp; omega) (fun v' w5 hown5 hgrow => ?_))
        | (rw [if_pos (by simp [Region.wanted])]; go_simp; go_at_call 64; refine (l1Digit_any _ _ q0 q1).mono ?_; rintro e w9 ⟨rfl, rfl⟩)
        | (rw [if_pos (by simp [Region.wanted])]; go_simp; go_at_call 64; refine (l1Digit_any _ _ r0 r1).mono ?_; rintro e w9 ⟨rfl, rfl⟩))
      all_goals
        have hown6 : w5.ownsRow w.heap.size 5 1 v' (2 * (k + 1)) ((Hx.of s (k + 1)).map (Value.int .u8)) := by
          rw [show 2 * (k + 1) = 2 * k + 2 by omega]
          simp only [Hx.of, List.map_append, List.map_cons, List.map_nil]
          rw [HX.out]
          exact hown5
        have hbel2 : Below w.heap.size w w5 := (hbel.alloc hbs (.cells #[.int .u8 (Hx.dig (x / 16)), .int .u8 (Hx.dig (x % 16))] 5)).drew.grown hgrow (by simp; omega) (fun q hq => (hown.lt _ hq).1)
        clear hown hown5 hgrow hbel hw1 hw2 hw3 hw4 hw5
        go_wp2
        go_roundw
        case rel => exact ⟨k + 1, by omega, by simp, hown6, hbel2⟩
        case measure => simp [intOf]; omega
    · have hk2 : s.size = k := by omega
      have hcv := own_string hown (Hx.of_len s k)
      have HR : Hid (strOfNums (Hx.of s s.size) = strOfNums (Hx.of s k)) := by rw [hk2]; exact rfl
      clear hk2 hown
      go_wp2
      go_ret
      exact ⟨by rw [HR.out]; rfl, hbel⟩

theorem byteCells_of (s : ByteArray) (k : Nat) (x : Int) (hx : En.byt s k = x) (h0 : 0 ≤ x) (h : x < 256) :
    Lib.byteCells ((Hx.of s k).map fun n => UInt8.ofNat n.toNat) ++ [.int .u8 (Hx.dig (x / 16))] ++ [.int .u8 (Hx.dig (x % 16))] = Lib.byteCells ((Hx.of s (k + 1)).map fun n => UInt8.ofNat n.toNat) := by
  have d0 := Hx.dig_bd (x / 16) (by omega) (by omega)
  have d1 := Hx.dig_bd (x % 16) (by omega) (by omega)
  simp only [Hx.of, hx, Lib.byteCells, List.map_append, List.map_cons, List.map_nil, List.append_assoc, List.cons_append, List.nil_append]
  rw [En.u8 d0.1 d0.2, En.u8 d1.1 d1.2]

set_option maxRecDepth 100000 in
set_option maxHeartbeats 1600000 in
theorem implHexOf_any (s : ByteArray) (w : World) (hs : s.size ≤ 1048576) :
    Calls Tryz.prog 34 #[.string s] w fun e w' => e = .returned (.string (strOfNums (Hx.of s s.size))) ∧ Below w.heap.size w w' := by
  go_enter Tryz.func34, Tryz.ntmps34
  go_wp2
  go_loopw [7] (fun i wr => ∃ k : Nat, k ≤ s.size ∧ i = .int .i64 (k : Int) ∧ IsBd w.heap.size w.heap.size (Lib.byteCells ((Hx.of s k).map fun n => UInt8.ofNat n.toNat)) wr ∧ Below w.heap.size w wr)
    (fun i _ => s.size - (intOf i).toNat)
  case atStart => exact ⟨0, by omega, rfl, Lib.fresh_isBuilder _ _ _, (Below.refl _ _).alloc (Nat.le_refl _) _⟩
  case round =>
    obtain ⟨k, hk, rfl, hbd, hbel⟩ := hrel
    by_cases hlt : k < s.size
    · have b0 := En.byt_bd s k
      have hx : ∀ h : k < s.size, ((s[k]'h).toNat : Int) = En.byt s k := fun h => En.byt_eq _ k h
      obtain ⟨x, HX⟩ : ∃ x, Hid (En.byt s k = x) := ⟨_, Lib.hid rfl⟩
      rw [HX.out] at b0
      simp only [HX.out] at hx
      have h15 := Hx.and15 x b0.1 b0.2
      have d0 := Hx.dig_at (x / 16).toNat
      have d1 := Hx.dig_at (x % 16).toNat
      rw [show (((x / 16).toNat : Nat) : Int) = x / 16 by omega] at d0
      rw [show (((x % 16).toNat : Nat) : Int) = x % 16 by omega] at d1
      have HC := Lib.hid (byteCells_of s k x HX.out b0.1 b0.2)
      have hlen : (Lib.byteCells ((Hx.of s k).map fun n => UInt8.ofNat n.toNat)).length ≤ 10000000 := by
        simp only [Lib.byteCells, List.length_map, Hx.of_len]
        omega
      have hlen2 : (Lib.byteCells ((Hx.of s k).map fun (n : Int) => UInt8.ofNat n.toNat) ++ [Value.int .u8 (Hx.dig (x / 16))]).length ≤ 100000000 := by
        rw [List.length_append]; simp only [List.length_cons, List.length_nil]; omega
      go_wp2_with fail
      refine (bd_WriteByte w.heap.size w.heap.size _ _ _ hbd (by omega) hbel.size).mono ?_
      rintro e w1 ⟨rfl, hbd1, hb1⟩
      have hbel1 := hbel.trans hb1
      clear hbd hb1 hbel hlen
      go_wp2_with fail
      refine (bd_WriteByte w.heap.size w.heap.size _ (Hx.dig (x % 16)) _ (.inr hbd1) hlen2 hbel1.size).mono ?_
      rintro e w2 ⟨rfl, hbd2, hb2⟩
      rw [HC.out] at hbd2
      have hbel2 := hbel1.trans hb2
      clear hbd1 hb2 hbel1 hlen2
      go_wp2
      go_roundw
      case rel => exact ⟨k + 1, by omega, by simp, .inr hbd2, hbel2⟩
      case measure => simp [intOf]; omega
    · have hk2 : s.size = k := by omega
      have HR : Hid (strOfNums (Hx.of s s.size) = ⟨((Hx.of s k).map fun n => UInt8.ofNat n.toNat).toArray⟩) := by rw [hk2]; exact rfl
      clear hk2
      go_wp2_with fail
      refine (Tryz.Builder_String_any w.heap.size w.heap.size _ _ hbd hbel.size).mono ?_
      rintro e w2 ⟨rfl, hb2⟩
      have hbel2 := hbel.trans hb2
      go_wp2
      go_ret
      exact ⟨by rw [HR.out]; rfl, hbel2⟩
end Go.Proofs.YtpldoffjclmacaaGreatDoor
