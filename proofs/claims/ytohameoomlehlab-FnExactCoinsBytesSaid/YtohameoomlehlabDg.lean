/-
  Contracts of chapter 2: Digest, DigestBytes, BytesDigest, DigestPair of the program and of the model.
-/
import Derived.Test.YtohameoomlehlabEn
import Derived.Test.YtohameoomlehlabBa
import Derived.LoopTactic
import Derived.Deep.QuietTactic
import Derived.BigQuiet
import Derived.WalkSmall
import Derived.Lib.Hide
import Derived.WalkMore
namespace Go.Proofs.Ytohameoomlehlab
open Go.RowKit

/-- a xor b of numbers that are not negative. -/
def Dg.x (a b : Int) : Int := ((a.toNat ^^^ b.toNat : Nat) : Int)
theorem Dg.x_bd (a b : Int) (ha : a ≤ 4294967295) (hb : b ≤ 4294967295) : 0 ≤ Dg.x a b ∧ Dg.x a b ≤ 4294967295 := by
  unfold Dg.x
  have : a.toNat ^^^ b.toNat < 2 ^ 32 := Nat.xor_lt_two_pow (by omega) (by omega)
  omega
theorem Dg.x_i64 (a b : Int) (ha : 0 ≤ a) (ha2 : a ≤ 4294967295) (hb : 0 ≤ b) (hb2 : b ≤ 4294967295) : bits .xor .i64 a b = Dg.x a b := by
  have hbd := Dg.x_bd a b ha2 hb2
  unfold Dg.x at hbd ⊢
  obtain ⟨x, rfl⟩ := Int.eq_ofNat_of_zero_le ha
  obtain ⟨y, rfl⟩ := Int.eq_ofNat_of_zero_le hb
  have h1 : (BitVec.ofInt 64 (x : Int)).toNat = x := by
    rw [BitVec.ofInt_natCast, BitVec.toNat_ofNat]; exact Nat.mod_eq_of_lt (by omega)
  have h2 : (BitVec.ofInt 64 (y : Int)).toNat = y := by
    rw [BitVec.ofInt_natCast, BitVec.toNat_ofNat]; exact Nat.mod_eq_of_lt (by omega)
  show IntKind.i64.wrap ((BitVec.ofInt 64 (x : Int) ^^^ BitVec.ofInt 64 (y : Int)).toNat : Int) = _
  rw [BitVec.toNat_xor, h1, h2]
  simp only [Int.toNat_natCast] at hbd ⊢
  exact IntWalk.i64_in _ (by omega)
theorem Dg.x_u32 (a b : Int) (ha : 0 ≤ a) (ha2 : a ≤ 4294967295) (hb : 0 ≤ b) (hb2 : b ≤ 4294967295) : bits .xor .u32 a b = Dg.x a b := by
  have hbd := Dg.x_bd a b ha2 hb2
  unfold Dg.x at hbd ⊢
  obtain ⟨x, rfl⟩ := Int.eq_ofNat_of_zero_le ha
  obtain ⟨y, rfl⟩ := Int.eq_ofNat_of_zero_le hb
  have h1 : (BitVec.ofInt 32 (x : Int)).toNat = x := by
    rw [BitVec.ofInt_natCast, BitVec.toNat_ofNat]; exact Nat.mod_eq_of_lt (by omega)
  have h2 : (BitVec.ofInt 32 (y : Int)).toNat = y := by
    rw [BitVec.ofInt_natCast, BitVec.toNat_ofNat]; exact Nat.mod_eq_of_lt (by omega)
  show IntKind.u32.wrap ((BitVec.ofInt 32 (x : Int) ^^^ BitVec.ofInt 32 (y : Int)).toNat : Int) = _
  rw [BitVec.toNat_xor, h1, h2]
  simp only [Int.toNat_natCast] at hbd ⊢
  exact IntWalk.u32_in _ (by omega)

/-- What k bytes come to. -/
def Dg.mix (s : ByteArray) : Nat → Int
  | 0 => 2166136261
  | k + 1 => Dg.x (Dg.mix s k) (En.byt s k) * 16777619 % 4294967296
theorem Dg.mix_bd (s : ByteArray) (k : Nat) : 0 ≤ Dg.mix s k ∧ Dg.mix s k ≤ 4294967295 := by
  cases k with
  | zero => simp only [Dg.mix]; omega
  | succ k => simp only [Dg.mix]; omega
def Dg.f1 (h : Int) : Int := Dg.x h (h / 65536) * 668265261 % 4294967296
def Dg.f2 (h : Int) : Int := Dg.x h (h / 32768) * 374761393 % 4294967296
def Dg.f3 (h : Int) : Int := Dg.x h (h / 65536)
/-- The digest. -/
def Dg.of (s : ByteArray) : Int := Dg.f3 (Dg.f2 (Dg.f1 (Dg.mix s s.size)))
theorem Dg.f1_bd (h : Int) : 0 ≤ Dg.f1 h ∧ Dg.f1 h ≤ 4294967295 := by unfold Dg.f1; omega
theorem Dg.f2_bd (h : Int) : 0 ≤ Dg.f2 h ∧ Dg.f2 h ≤ 4294967295 := by unfold Dg.f2; omega
theorem Dg.f3_bd (h : Int) (h0 : 0 ≤ h) (h1 : h ≤ 4294967295) : 0 ≤ Dg.f3 h ∧ Dg.f3 h ≤ 4294967295 := by unfold Dg.f3; exact Dg.x_bd _ _ h1 (by omega)
theorem Dg.of_bd (s : ByteArray) : 0 ≤ Dg.of s ∧ Dg.of s ≤ 4294967295 := Dg.f3_bd _ (Dg.f2_bd _).1 (Dg.f2_bd _).2

set_option maxRecDepth 100000 in
set_option maxHeartbeats 800000 in
theorem mixBytes_any (s : ByteArray) (w : World) (hs : s.size ≤ 9223372036854775807) :
    Calls Try.prog 84 #[.string s] w fun e w' => e = .returned (.int .u32 (Dg.mix s s.size)) ∧ Below w.heap.size w w' := by
  go_enter Try.func84, Try.ntmps84
  go_wp2
  go_step3
  go_wp2
  go_step3
  go_wp2
  go_loopw [3, 4] (fun h i wr => ∃ k : Nat, k ≤ s.size ∧ i = .int .i64 (k : Int) ∧ h = .int .u32 (Dg.mix s k) ∧ Below w.heap.size w wr)
    (fun _ i _ => s.size - (intOf i).toNat)
  case atStart => exact ⟨0, by omega, rfl, rfl, Below.refl _ _⟩
  case round =>
    obtain ⟨k, hk, rfl, rfl, hbel⟩ := hrel
    have hm := Dg.mix_bd s k
    have hb := En.byt_bd s k
    have hx : ∀ h : k < s.size, ((s[k]'h).toNat : Int) = En.byt s k := fun h => En.byt_eq _ k h
    have hX := Dg.x_u32 _ _ hm.1 hm.2 hb.1 (show En.byt s k ≤ 4294967295 by omega)
    by_cases hlt : k < s.size
    · have H0 : ((k : Int) == (s.size : Int)) = false := by simp; omega
      go_wp2
      go_roundw
      case rel => exact ⟨k + 1, by omega, by simp, rfl, hbel⟩
      case measure => simp [intOf]; omega
    · have hks : k = s.size := by omega
      have H0 : ((k : Int) == (s.size : Int)) = true := by simp [hks]
      have HR : Hid (Dg.mix s s.size = Dg.mix s k) := by rw [hks]; exact rfl
      clear hks hk hlt
      go_wp2
      rw [Exit.noGoto_ret]
      go_ret
      exact ⟨by rw [HR.out]; rfl, hbel⟩

theorem Dg.xs (h : Int) (d : Int) (hd : 1 ≤ d) (h0 : 0 ≤ h) (h1 : h ≤ 4294967295) : 0 ≤ h / d ∧ h / d ≤ 4294967295 := by
  have := IntWalk.tdiv_le h d h0 hd
  omega

set_option maxRecDepth 100000 in
set_option maxHeartbeats 800000 in
theorem implDigest_any (s : ByteArray) (w : World) (hs : s.size ≤ 9223372036854775807) :
    Calls Try.prog 60 #[.string s] w fun e w' => e = .returned (.int .i64 (Dg.of s)) ∧ Below w.heap.size w w' := by
  obtain ⟨m, HM⟩ : ∃ m, Hid (Dg.mix s s.size = m) := ⟨_, Lib.hid rfl⟩
  have HO : Hid (Dg.of s = Dg.f3 (Dg.f2 (Dg.f1 m))) := by have := HM.out; unfold Dg.of; rw [this]; exact rfl
  have hm := Dg.mix_bd s s.size
  rw [HM.out] at hm
  obtain ⟨m0, m1⟩ := hm
  rw [HO.out]
  go_enter Try.func60, Try.ntmps60
  go_wp2_with fail
  refine (mixBytes_any s _ hs).mono ?_
  rintro e w1 ⟨rfl, hb1⟩
  rw [HM.out]
  have x1 := Dg.x_u32 m (m / 65536) m0 m1 (by omega) (by omega)
  have y1 : Dg.x m (m / 65536) * 668265261 % 4294967296 = Dg.f1 m := rfl
  obtain ⟨n0, n1⟩ := Dg.f1_bd m
  have x2 := Dg.x_u32 (Dg.f1 m) (Dg.f1 m / 32768) n0 n1 (by omega) (by omega)
  have y2 : Dg.x (Dg.f1 m) (Dg.f1 m / 32768) * 374761393 % 4294967296 = Dg.f2 (Dg.f1 m) := rfl
  obtain ⟨o0, o1⟩ := Dg.f2_bd (Dg.f1 m)
  have x3 := Dg.x_u32 (Dg.f2 (Dg.f1 m)) (Dg.f2 (Dg.f1 m) / 65536) o0 o1 (by omega) (by omega)
  have y3 : Dg.x (Dg.f2 (Dg.f1 m)) (Dg.f2 (Dg.f1 m) / 65536) = Dg.f3 (Dg.f2 (Dg.f1 m)) := rfl
  obtain ⟨p0, p1⟩ := Dg.f3_bd _ o0 o1
  go_wp2
  go_ret
  exact ⟨rfl, hb1⟩

theorem l2Xor_any (h d : Int) (w : World) (hd : 1 ≤ d) (hd2 : d ≤ 4294967295) (h0 : 0 ≤ h) (h1 : h ≤ 4294967295) :
    Calls Try.prog 83 #[.int .i64 h, .int .i64 d] w fun e w' => e = .returned (.int .i64 (Dg.x h (h / d))) ∧ w = w' := by
  have h2 := Dg.xs h d hd h0 h1
  have hx := Dg.x_i64 h (h / d) h0 h1 h2.1 h2.2
  go_enter Try.func83, Try.ntmps83
  go_wp2
  go_ret
  exact ⟨rfl, rfl⟩

set_option maxRecDepth 100000 in
set_option maxHeartbeats 800000 in
theorem specDigest_same (s : ByteArray) (w : World) (hs : s.size ≤ 9223372036854775807) :
    Calls Try.prog 59 #[.string s] w fun e w' => e = .returned (.int .i64 (Dg.of s)) ∧ w' = w := by
  go_enter Try.func59, Try.ntmps59
  go_wp2
  go_loopw [3, 4] (fun h i wr => ∃ k : Nat, k ≤ s.size ∧ i = .int .i64 (k : Int) ∧ h = .int .i64 (Dg.mix s k) ∧ wr = w)
    (fun _ i _ => s.size - (intOf i).toNat)
  case atStart => exact ⟨0, by omega, rfl, rfl, rfl⟩
  case round =>
    obtain ⟨k, hk, rfl, rfl, hbel⟩ := hrel
    subst hbel
    have hm := Dg.mix_bd s k
    have hb := En.byt_bd s k
    have hx : ∀ h : k < s.size, ((s[k]'h).toNat : Int) = En.byt s k := fun h => En.byt_eq _ k h
    have hX := Dg.x_i64 _ _ hm.1 hm.2 hb.1 (show En.byt s k ≤ 4294967295 by omega)
    have hXb := Dg.x_bd _ _ hm.2 (show En.byt s k ≤ 4294967295 by omega)
    by_cases hlt : k < s.size
    · go_wp2
      go_roundw
      case rel => exact ⟨k + 1, by omega, by simp, rfl, trivial⟩
      case measure => simp [intOf]; omega
    · have hks : k = s.size := by omega
      have HO : Hid (Dg.of s = Dg.f3 (Dg.f2 (Dg.f1 (Dg.mix s k)))) := by rw [hks]; exact rfl
      clear hks hk hx hX hXb hb
      obtain ⟨m0, m1⟩ := hm
      generalize Dg.mix s k = m at m0 m1 HO ⊢
      have y1 : Dg.x m (m / 65536) * 668265261 % 4294967296 = Dg.f1 m := rfl
      obtain ⟨n0, n1⟩ := Dg.f1_bd m
      have y2 : Dg.x (Dg.f1 m) (Dg.f1 m / 32768) * 374761393 % 4294967296 = Dg.f2 (Dg.f1 m) := rfl
      obtain ⟨o0, o1⟩ := Dg.f2_bd (Dg.f1 m)
      have y3 : Dg.x (Dg.f2 (Dg.f1 m)) (Dg.f2 (Dg.f1 m) / 65536) = Dg.f3 (Dg.f2 (Dg.f1 m)) := rfl
      have x1 := Dg.x_bd m (m / 65536) m1 (by omega)
      have x2 := Dg.x_bd (Dg.f1 m) (Dg.f1 m / 32768) n1 (by omega)
      go_wp2_with fail
      refine (l2Xor_any _ _ _ (by omega) (by omega) m0 m1).mono ?_
      rintro e w1 ⟨rfl, rfl⟩
      go_wp2_with fail
      refine (l2Xor_any _ _ _ (by omega) (by omega) n0 n1).mono ?_
      rintro e w1 ⟨rfl, rfl⟩
      go_wp2_with fail
      refine (l2Xor_any _ _ _ (by omega) (by omega) o0 o1).mono ?_
      rintro e w1 ⟨rfl, rfl⟩
      go_wp2
      go_ret
      exact ⟨by rw [HO.out]; rfl, rfl⟩
theorem specDigest_any (s : ByteArray) (w : World) (hs : s.size ≤ 9223372036854775807) :
    Calls Try.prog 59 #[.string s] w fun e w' => e = .returned (.int .i64 (Dg.of s)) ∧ Below w.heap.size w w' :=
  (specDigest_same s w hs).mono fun e w' ⟨he, hw⟩ => ⟨he, by subst hw; exact Below.refl _ _⟩

/-- The four bytes of a digest. -/
def Dg.bytes (d : Int) : ByteArray := strOfNums [d / 16777216, d / 65536 % 256, d / 256 % 256, d % 256]

set_option maxHeartbeats 800000 in
theorem l2Bytes_any (d : Int) (w : World) (h0 : 0 ≤ d) (h1 : d ≤ 4294967295) :
    Calls Try.prog 91 #[.int .i64 d] w fun e w' => e = .returned (.string (Dg.bytes d)) ∧ Below w.heap.size w w' := by
  have c4 := fun (a b c e : Int) (W : World) => conv_new [a, b, c, e] 4 W
  simp only [List.map, List.length] at c4
  go_enter Try.func91, Try.ntmps91
  go_wp2
  go_ret
  exact ⟨rfl, (Below.refl _ _).alloc (Nat.le_refl _) _⟩

set_option maxHeartbeats 800000 in
theorem isDigest_any (d : Int) (w : World) :
    Calls Try.prog 85 #[.int .i64 d] w fun e w' => e = .returned (.bool (decide (0 ≤ d) && decide (d ≤ 4294967295))) ∧ w = w' := by
  by_cases h : 0 ≤ d
  · go_enter Try.func85, Try.ntmps85
    go_wp2
    go_ret
    exact ⟨by simp [h], rfl⟩
  · have hf : decide (0 ≤ d) = false := by simpa using h
    go_enter Try.func85, Try.ntmps85
    go_wp2
    go_ret
    exact ⟨rfl, rfl⟩
theorem Dg.yes {d : Int} (h0 : 0 ≤ d) (h1 : d ≤ 4294967295) : (decide (0 ≤ d) && decide (d ≤ 4294967295)) = true := by simp; omega
theorem Dg.no {d : Int} (h : d < 0 ∨ 4294967295 < d) : (decide (0 ≤ d) && decide (d ≤ 4294967295)) = false := by simp; omega

set_option maxHeartbeats 800000 in
theorem implDigestBytes_ok (d : Int) (w : World) (h0 : 0 ≤ d) (h1 : d ≤ 4294967295) :
    Calls Try.prog 95 #[.int .i64 d] w fun e w' => e = .returned (.string (Dg.bytes d)) ∧ Below w.heap.size w w' := by
  have c4 := fun (a b c e : Int) (W : World) => conv_new [a, b, c, e] 4 W
  simp only [List.map, List.length] at c4
  have HY := Lib.hid (Dg.yes h0 h1)
  go_enter Try.func95, Try.ntmps95
  go_wp2_with fail
  refine (isDigest_any d _).mono ?_
  rw [HY.out]
  rintro e w1 ⟨rfl, rfl⟩
  go_wp2
  go_ret
  exact ⟨rfl, (Below.refl _ _).alloc (Nat.le_refl _) _⟩
set_option maxHeartbeats 800000 in
theorem implDigestBytes_no (d : Int) (w : World) (h : d < 0 ∨ 4294967295 < d) :
    Calls Try.prog 95 #[.int .i64 d] w fun e w' => e = .returned (.string ⟨#[]⟩) ∧ Below w.heap.size w w' := by
  have HY := Lib.hid (Dg.no h)
  go_enter Try.func95, Try.ntmps95
  go_wp2_with fail
  refine (isDigest_any d _).mono ?_
  rw [HY.out]
  rintro e w1 ⟨rfl, rfl⟩
  go_wp2
  go_ret
  exact ⟨rfl, Below.refl _ _⟩
/-- The number of the first k bytes, the most significant first. -/
def Dg.val (s : ByteArray) : Nat → Int
  | 0 => 0
  | k + 1 => Dg.val s k * 256 + En.byt s k
def Dg.num (s : ByteArray) : Int := En.byt s 0 * 16777216 + En.byt s 1 * 65536 + En.byt s 2 * 256 + En.byt s 3
theorem Dg.val_4 (s : ByteArray) : Dg.val s 4 = Dg.num s := by simp only [Dg.val, Dg.num]; omega
theorem Dg.val_bd (s : ByteArray) (k : Nat) (h : k < 4) : 0 ≤ Dg.val s k ∧ Dg.val s k ≤ 16777215 := by
  have h0 := En.byt_bd s 0
  have h1 := En.byt_bd s 1
  have h2 := En.byt_bd s 2
  match k, h with
  | 0, _ => simp only [Dg.val]; omega
  | 1, _ => simp only [Dg.val]; omega
  | 2, _ => simp only [Dg.val]; omega
  | 3, _ => simp only [Dg.val]; omega
theorem Dg.num_bd (s : ByteArray) : 0 ≤ Dg.num s ∧ Dg.num s ≤ 4294967295 := by
  have h0 := En.byt_bd s 0
  have h1 := En.byt_bd s 1
  have h2 := En.byt_bd s 2
  have h3 := En.byt_bd s 3
  unfold Dg.num
  omega

theorem Dg.num_bytes (d : Int) (h0 : 0 ≤ d) (h1 : d ≤ 4294967295) : Dg.num (Dg.bytes d) = d := by
  unfold Dg.num Dg.bytes
  rw [En.byt_str _ 0 _ rfl (by omega) (by omega), En.byt_str _ 1 _ rfl (by omega) (by omega), En.byt_str _ 2 _ rfl (by omega) (by omega), En.byt_str _ 3 _ rfl (by omega) (by omega)]
  omega
theorem Dg.bytes_num (s : ByteArray) (hs : s.size = 4) : Dg.bytes (Dg.num s) = s := by
  have h0 := En.byt_bd s 0
  have h1 := En.byt_bd s 1
  have h2 := En.byt_bd s 2
  have h3 := En.byt_bd s 3
  unfold Dg.bytes
  rw [show Dg.num s / 16777216 = En.byt s 0 by unfold Dg.num; omega, show Dg.num s / 65536 % 256 = En.byt s 1 by unfold Dg.num; omega,
    show Dg.num s / 256 % 256 = En.byt s 2 by unfold Dg.num; omega, show Dg.num s % 256 = En.byt s 3 by unfold Dg.num; omega]
  clear h0 h1 h2 h3
  obtain ⟨⟨l⟩⟩ := s
  match l, hs with
  | [a, b, c, e], _ =>
    unfold strOfNums
    simp only [List.map_cons, List.map_nil, En.byt_mk]
    simp [UInt8.ofNat_toNat]

set_option maxRecDepth 100000 in
set_option maxHeartbeats 800000 in
theorem implBytesDigest_ok (s : ByteArray) (w : World) (hs : s.size = 4) :
    Calls Try.prog 112 #[.string s] w fun e w' => e = .returned (.tuple #[.int .i64 (Dg.num s), .bool true]) ∧ Below w.heap.size w w' := by
  have H4 : ((s.size : Int) == 4) = true := by simp [hs]
  go_enter Try.func112, Try.ntmps112
  go_wp2
  go_loopw [4, 9] (fun d i wr => ∃ k : Nat, k ≤ 4 ∧ i = .int .i64 (k : Int) ∧ d = .int .i64 (Dg.val s k) ∧ Below w.heap.size w wr)
    (fun _ i _ => 4 - (intOf i).toNat)
  case atStart => exact ⟨0, by omega, rfl, rfl, Below.refl _ _⟩
  case round =>
    obtain ⟨k, hk, rfl, rfl, hbel⟩ := hrel
    by_cases hlt : k < 4
    · have hm := Dg.val_bd s k hlt
      have hb := En.byt_bd s k
      have hx : ∀ h : k < s.size, ((s[k]'h).toNat : Int) = En.byt s k := fun h => En.byt_eq _ k h
      have hO := En.or_byte _ _ hm.1 hm.2 hb.1 hb.2
      have hks : k < s.size := by omega
      go_wp2
      go_roundw
      case rel => exact ⟨k + 1, by omega, by simp, rfl, hbel⟩
      case measure => simp [intOf]; omega
    · have hk4 : k = 4 := by omega
      subst hk4
      have HV := Lib.hid (Dg.val_4 s)
      rw [HV.out]
      go_wp2
      go_ret2
      exact ⟨rfl, hbel⟩
set_option maxHeartbeats 800000 in
theorem implBytesDigest_no (s : ByteArray) (w : World) (hs : s.size ≠ 4) :
    Calls Try.prog 112 #[.string s] w fun e w' => e = .returned (.tuple #[.int .i64 0, .bool false]) ∧ Below w.heap.size w w' := by
  have H4 : ((s.size : Int) == 4) = false := by simp; omega
  go_enter Try.func112, Try.ntmps112
  go_wp2
  go_ret2
  exact ⟨rfl, Below.refl _ _⟩
set_option maxRecDepth 100000 in
set_option maxHeartbeats 800000 in
theorem specBytesDigest_ok (s : ByteArray) (w : World) (hs : s.size = 4) :
    Calls Try.prog 97 #[.string s] w fun e w' => e = .returned (.tuple #[.int .i64 (Dg.num s), .bool true]) ∧ Below w.heap.size w w' := by
  have H4 : ((s.size : Int) == 4) = true := by simp [hs]
  have hx : ∀ k, ∀ h : k < s.size, ((s[k]'h).toNat : Int) = En.byt s k := fun k h => En.byt_eq _ k h
  have h0 := En.byt_bd s 0
  have h1 := En.byt_bd s 1
  have h2 := En.byt_bd s 2
  have h3 := En.byt_bd s 3
  unfold Dg.num
  go_enter Try.func97, Try.ntmps97
  go_wp2
  go_quiet (fail)
  go_wp2
  go_ret2
  exact ⟨rfl, below_drewN (Below.refl _ _) _⟩
set_option maxHeartbeats 800000 in
theorem specBytesDigest_no (s : ByteArray) (w : World) (hs : s.size ≠ 4) :
    Calls Try.prog 97 #[.string s] w fun e w' => e = .returned (.tuple #[.int .i64 0, .bool false]) ∧ Below w.heap.size w w' := by
  have H4 : ((s.size : Int) == 4) = false := by simp; omega
  go_enter Try.func97, Try.ntmps97
  go_wp2
  go_ret2
  exact ⟨rfl, Below.refl _ _⟩

/-- The string whose digest is that of a pair. -/
def Dg.pair (a b : Int) : ByteArray := ⟨#[1]⟩ ++ Dg.bytes a ++ Dg.bytes b
theorem Dg.bytes_size (d : Int) : (Dg.bytes d).size = 4 := by unfold Dg.bytes; simp [strOfNums, ByteArray.size]
theorem Dg.add1 (a : Int) (W : World) : (Op.stringOp .add (⟨#[1]⟩ : ByteArray) (Dg.bytes a)).run Try.prog W = .ok (.string (⟨#[1]⟩ ++ Dg.bytes a)) W :=
  run_string_add_sum (P := Try.prog) W _ _ (by rw [Dg.bytes_size]; decide)
theorem Dg.add2 (a b : Int) (W : World) : (Op.stringOp .add (⟨#[1]⟩ ++ Dg.bytes a) (Dg.bytes b)).run Try.prog W = .ok (.string (Dg.pair a b)) W :=
  run_string_add_sum (P := Try.prog) W _ _ (by rw [ByteArray.size_append, Dg.bytes_size, Dg.bytes_size]; decide)
theorem Dg.pair_size (a b : Int) : (Dg.pair a b).size = 9 := by
  unfold Dg.pair
  rw [ByteArray.size_append, ByteArray.size_append, Dg.bytes_size, Dg.bytes_size]
  decide

/-- What DigestPair answers. -/
def Dg.ofPair (a b : Int) : Int := if (0 ≤ a ∧ a ≤ 4294967295) ∧ (0 ≤ b ∧ b ≤ 4294967295) then Dg.of (Dg.pair a b) else -1
end Go.Proofs.Ytohameoomlehlab
