/-
  Plain mathematics of chapter 1: the encoding of a number, and reading it back. No dump is imported.
-/
import Derived.Laws.BytesArg
import Derived.OneCell
import Derived.IntWalk
import Derived.Laws.Concat
import Derived.Laws.Strings2
namespace Go.Proofs.Ytohameoomlehlab
/-- The bytes of the encoding of n (0 to NumTop). -/
def En.bytes (n : Int) : List Int :=
  if n < 253 then [n] else if n < 65536 then [253, n % 256, n / 256]
  else [254, n % 256, n / 256 % 256, n / 65536 % 256, n / 16777216]
/-- The encoding of n as a string. -/
def En.num (n : Int) : ByteArray := strOfNums (En.bytes n)
theorem En.bytes_small {n : Int} (h : n < 253) : En.bytes n = [n] := by unfold En.bytes; rw [if_pos h]
theorem En.bytes_mid {n : Int} (h0 : 253 ≤ n) (h : n < 65536) : En.bytes n = [253, n % 256, n / 256] := by
  unfold En.bytes; rw [if_neg (by omega), if_pos h]
theorem En.bytes_big {n : Int} (h0 : 65536 ≤ n) : En.bytes n = [254, n % 256, n / 256 % 256, n / 65536 % 256, n / 16777216] := by
  unfold En.bytes; rw [if_neg (by omega), if_neg (by omega)]

/-- The byte at place i. -/
def En.byt (s : ByteArray) (i : Nat) : Int := ((s.data.toList[i]?.getD 0).toNat : Int)
theorem En.byt_eq (s : ByteArray) (i : Nat) (h : i < s.size) : ((s[i]).toNat : Int) = En.byt s i := by
  unfold En.byt
  have h' : i < s.data.toList.length := by simpa using h
  rw [List.getElem?_eq_getElem h']
  rfl
theorem En.byt_bd (s : ByteArray) (i : Nat) : 0 ≤ En.byt s i ∧ En.byt s i < 256 := by
  unfold En.byt
  have := (s.data.toList[i]?.getD 0).toNat_lt
  omega
/-- The number of m bytes from place i on, the least significant first. -/
def En.lev (s : ByteArray) (i : Nat) : Nat → Int
  | 0 => 0
  | m + 1 => En.lev s (i + 1) m * 256 + En.byt s i
theorem En.lev_bd (s : ByteArray) (m : Nat) : ∀ i, 0 ≤ En.lev s i m ∧ En.lev s i m < 256 ^ m := by
  induction m with
  | zero => intro i; simp [En.lev]
  | succ m ih =>
    intro i
    have h1 := ih (i + 1)
    have h2 := En.byt_bd s i
    have h3 : ((256 : Int) ^ (m + 1)) = 256 ^ m * 256 := by rw [Int.pow_succ]
    simp only [En.lev]
    omega
theorem En.lev_le4 (s : ByteArray) (i m : Nat) (h : m ≤ 4) : 0 ≤ En.lev s i m ∧ En.lev s i m ≤ 4294967295 := by
  have h1 := En.lev_bd s m i
  have h2 : ((256 : Int) ^ m) ≤ 4294967296 := by
    match m, h with
    | 0, _ => decide
    | 1, _ => decide
    | 2, _ => decide
    | 3, _ => decide
    | 4, _ => decide
  omega
theorem En.lev_le3 (s : ByteArray) (i m : Nat) (h : m ≤ 3) : 0 ≤ En.lev s i m ∧ En.lev s i m ≤ 16777215 := by
  have h1 := En.lev_bd s m i
  have h2 : ((256 : Int) ^ m) ≤ 16777216 := by
    match m, h with
    | 0, _ => decide
    | 1, _ => decide
    | 2, _ => decide
    | 3, _ => decide
  omega
/-- s[n:] and s[:n]. -/
def En.rest (s : ByteArray) (n : Int) : ByteArray := s.extract n.toNat s.size
def En.front (s : ByteArray) (n : Int) : ByteArray := s.extract 0 n.toNat
theorem En.size_rest (s : ByteArray) (n : Int) : (En.rest s n).size = s.size - n.toNat := by
  unfold En.rest; simp [ByteArray.size_extract]
theorem En.size_front (s : ByteArray) (n : Int) (h : n ≤ s.size) : (En.front s n).size = n.toNat := by
  unfold En.front; rw [ByteArray.size_extract]; omega
theorem En.byt_front (s : ByteArray) (n : Int) (i : Nat) (h : (i : Int) < n) : En.byt (En.front s n) i = En.byt s i := by
  unfold En.byt En.front
  rw [ByteArray.data_extract, Array.toList_extract, List.extract_eq_take_drop]
  simp only [List.drop_zero, Nat.sub_zero]
  rw [List.getElem?_take_of_lt (by omega)]
theorem En.lev_front (s : ByteArray) (n : Int) (m : Nat) : ∀ i : Nat, (i : Int) + m ≤ n → En.lev (En.front s n) i m = En.lev s i m := by
  induction m with
  | zero => intro i _; rfl
  | succ m ih =>
    intro i h
    simp only [En.lev]
    rw [ih (i + 1) (by omega), En.byt_front s n i (by omega)]
/-- Reading a number of so many bytes that is at least 'least'. -/
def En.long (s : ByteArray) (m least : Int) : Option (Int × ByteArray) :=
  if (s.size : Int) < m then none else if En.lev s 0 m.toNat < least then none else some (En.lev s 0 m.toNat, En.rest s m)
/-- Reading a number. -/
def En.dec (s : ByteArray) : Option (Int × ByteArray) :=
  if (s.size : Int) < 1 then none
  else if En.byt s 0 = 253 then En.long (En.rest s 1) 2 253
  else if En.byt s 0 = 254 then En.long (En.rest s 1) 4 65536
  else if En.byt s 0 = 255 then none
  else some (En.byt s 0, En.rest s 1)
theorem En.dec_short {s : ByteArray} (h : (s.size : Int) < 1) : En.dec s = none := by unfold En.dec; rw [if_pos h]
theorem En.dec_two {s : ByteArray} (h : 1 ≤ (s.size : Int)) (h1 : En.byt s 0 = 253) : En.dec s = En.long (En.rest s 1) 2 253 := by unfold En.dec; rw [if_neg (by omega), if_pos h1]
theorem En.dec_four {s : ByteArray} (h : 1 ≤ (s.size : Int)) (h1 : En.byt s 0 = 254) : En.dec s = En.long (En.rest s 1) 4 65536 := by unfold En.dec; rw [if_neg (by omega), if_neg (by omega), if_pos h1]
theorem En.dec_bad {s : ByteArray} (h : 1 ≤ (s.size : Int)) (h1 : En.byt s 0 = 255) : En.dec s = none := by unfold En.dec; rw [if_neg (by omega), if_neg (by omega), if_neg (by omega), if_pos h1]
theorem En.dec_one {s : ByteArray} (h : 1 ≤ (s.size : Int)) (h1 : En.byt s 0 < 253) : En.dec s = some (En.byt s 0, En.rest s 1) := by unfold En.dec; rw [if_neg (by omega), if_neg (by omega), if_neg (by omega), if_neg (by omega)]
theorem En.long_short {s : ByteArray} {m l : Int} (h : (s.size : Int) < m) : En.long s m l = none := by unfold En.long; rw [if_pos h]
theorem En.long_low {s : ByteArray} {m l : Int} (h : m ≤ (s.size : Int)) (h1 : En.lev s 0 m.toNat < l) : En.long s m l = none := by unfold En.long; rw [if_neg (by omega), if_pos h1]
theorem En.long_ok {s : ByteArray} {m l : Int} (h : m ≤ (s.size : Int)) (h1 : ¬ En.lev s 0 m.toNat < l) : En.long s m l = some (En.lev s 0 m.toNat, En.rest s m) := by unfold En.long; rw [if_neg (by omega), if_neg h1]
theorem En.dec_bd {s r : ByteArray} {n : Int} (h : En.dec s = some (n, r)) : 0 ≤ n ∧ n ≤ 4294967295 ∧ r.size < s.size := by
  have hl : ∀ (t : ByteArray) (m l : Int), 1 ≤ m → m ≤ 4 → En.long t m l = some (n, r) → 0 ≤ n ∧ n ≤ 4294967295 ∧ r.size < t.size := by
    intro t m l h1 h4 h
    unfold En.long at h
    split at h
    · cases h
    · split at h
      · cases h
      · simp only [Option.some.injEq, Prod.mk.injEq] at h
        obtain ⟨rfl, rfl⟩ := h
        have := En.lev_le4 t 0 m.toNat (by omega)
        rw [En.size_rest]
        omega
  have hr := En.size_rest s 1
  have hb := En.byt_bd s 0
  unfold En.dec at h
  split at h
  · cases h
  · split at h
    · have := hl _ _ _ (by omega) (by omega) h; omega
    · split at h
      · have := hl _ _ _ (by omega) (by omega) h; omega
      · split at h
        · cases h
        · simp only [Option.some.injEq, Prod.mk.injEq] at h
          obtain ⟨rfl, rfl⟩ := h
          omega
theorem En.lev_one (s : ByteArray) (i : Nat) : En.lev s i 1 = En.byt s i := by simp [En.lev]
def En.decV (s : ByteArray) : Value := match En.dec s with
  | none => .tuple #[.int .i64 0, .bool false]
  | some x => .tuple #[.int .i64 x.1, .bool true]
theorem En.decV_none {s : ByteArray} (h : En.dec s = none) : En.decV s = .tuple #[.int .i64 0, .bool false] := by unfold En.decV; rw [h]
theorem En.decV_some {s r : ByteArray} {n : Int} (h : En.dec s = some (n, r)) : En.decV s = .tuple #[.int .i64 n, .bool true] := by unfold En.decV; rw [h]
theorem En.size_rest_le (s : ByteArray) (n : Int) : (En.rest s n).size ≤ s.size := by rw [En.size_rest]; omega
theorem En.front_zero (s : ByteArray) (h' : 0 < (En.front s 1).size) : (((En.front s 1)[0]'h').toNat : Int) = En.byt s 0 := by
  rw [En.byt_eq, En.byt_front s 1 0 (by omega)]

theorem En.byt_mk (l : List UInt8) (i : Nat) : En.byt ⟨l.toArray⟩ i = ((l[i]?.getD 0).toNat : Int) := rfl
theorem En.size_mk (l : List UInt8) : (ByteArray.mk l.toArray).size = l.length := by simp [ByteArray.size]
theorem En.rest_mk (l : List UInt8) (n : Int) : En.rest ⟨l.toArray⟩ n = ⟨(l.drop n.toNat).toArray⟩ := by
  unfold En.rest
  rw [ByteArray.extract_mk, En.size_mk, List.take_of_length_le (by simp)]
theorem En.mk_self (t : ByteArray) : (⟨t.data.toList.toArray⟩ : ByteArray) = t := by cases t; rfl
theorem En.num_append (n : Int) (t : ByteArray) : En.num n ++ t = ⟨((En.bytes n).map (fun x => UInt8.ofNat x.toNat) ++ t.data.toList).toArray⟩ := by
  conv => lhs; rw [← En.mk_self t]
  exact ByteArray.mk_append_mk _ _
theorem En.u8 {x : Int} (h0 : 0 ≤ x) (h : x < 256) : (((UInt8.ofNat x.toNat).toNat : Nat) : Int) = x := by
  rw [UInt8.toNat_ofNat']
  omega
/-- What is encoded is decoded. -/
theorem En.dec_num (n : Int) (t : ByteArray) (h0 : 0 ≤ n) (h : n ≤ 4294967295) : En.dec (En.num n ++ t) = some (n, t) := by
  rw [En.num_append]
  by_cases h1 : n < 253
  · rw [En.bytes_small h1]
    simp only [List.map, List.cons_append, List.nil_append]
    have hb : En.byt ⟨(UInt8.ofNat n.toNat :: t.data.toList).toArray⟩ 0 = n := by rw [En.byt_mk]; exact En.u8 h0 (by omega)
    rw [En.dec_one (by rw [En.size_mk]; simp; omega) (by rw [hb]; exact h1), hb, En.rest_mk]
    simp only [Int.toNat_one, List.drop_succ_cons, List.drop_zero, En.mk_self]
  by_cases h2 : n < 65536
  · rw [En.bytes_mid (by omega) h2]
    simp only [List.map, List.cons_append, List.nil_append]
    have hs : 1 ≤ ((ByteArray.mk (UInt8.ofNat (Int.toNat 253) :: UInt8.ofNat (n % 256).toNat :: UInt8.ofNat (n / 256).toNat :: t.data.toList).toArray).size : Int) := by rw [En.size_mk]; simp; omega
    rw [En.dec_two hs (by rw [En.byt_mk]; rfl), En.rest_mk]
    simp only [Int.toNat_one, List.drop_succ_cons, List.drop_zero]
    have hl : En.lev ⟨(UInt8.ofNat (n % 256).toNat :: UInt8.ofNat (n / 256).toNat :: t.data.toList).toArray⟩ 0 (Int.toNat 2) = n := by
      show (0 * 256 + En.byt _ 1) * 256 + En.byt _ 0 = n
      rw [En.byt_mk, En.byt_mk]
      simp only [List.getElem?_cons_succ, List.getElem?_cons_zero, Option.getD_some]
      rw [En.u8 (x := n / 256) (by omega) (by omega), En.u8 (x := n % 256) (by omega) (by omega)]
      omega
    rw [En.long_ok (by rw [En.size_mk]; simp; omega) (by rw [hl]; omega), hl, En.rest_mk]
    simp only [show Int.toNat 2 = 2 from rfl, List.drop_succ_cons, List.drop_zero, En.mk_self]
  · rw [En.bytes_big (by omega)]
    simp only [List.map, List.cons_append, List.nil_append]
    have hs : 1 ≤ ((ByteArray.mk (UInt8.ofNat (Int.toNat 254) :: UInt8.ofNat (n % 256).toNat :: UInt8.ofNat (n / 256 % 256).toNat :: UInt8.ofNat (n / 65536 % 256).toNat :: UInt8.ofNat (n / 16777216).toNat :: t.data.toList).toArray).size : Int) := by rw [En.size_mk]; simp; omega
    rw [En.dec_four hs (by rw [En.byt_mk]; rfl), En.rest_mk]
    simp only [Int.toNat_one, List.drop_succ_cons, List.drop_zero]
    have hl : En.lev ⟨(UInt8.ofNat (n % 256).toNat :: UInt8.ofNat (n / 256 % 256).toNat :: UInt8.ofNat (n / 65536 % 256).toNat :: UInt8.ofNat (n / 16777216).toNat :: t.data.toList).toArray⟩ 0 (Int.toNat 4) = n := by
      show (((0 * 256 + En.byt _ 3) * 256 + En.byt _ 2) * 256 + En.byt _ 1) * 256 + En.byt _ 0 = n
      rw [En.byt_mk, En.byt_mk, En.byt_mk, En.byt_mk]
      simp only [List.getElem?_cons_succ, List.getElem?_cons_zero, Option.getD_some]
      rw [En.u8 (x := n / 16777216) (by omega) (by omega), En.u8 (x := n / 65536 % 256) (by omega) (by omega), En.u8 (x := n / 256 % 256) (by omega) (by omega), En.u8 (x := n % 256) (by omega) (by omega)]
      omega
    rw [En.long_ok (by rw [En.size_mk]; simp; omega) (by rw [hl]; omega), hl, En.rest_mk]
    simp only [show Int.toNat 4 = 4 from rfl, List.drop_succ_cons, List.drop_zero, En.mk_self]

theorem En.u8b {b : UInt8} {x : Int} (h : x = (b.toNat : Int)) : UInt8.ofNat x.toNat = b := by subst h; simp
theorem En.long_mk2 (a b : UInt8) (l : List UInt8) : En.lev ⟨(a :: b :: l).toArray⟩ 0 2 = (b.toNat : Int) * 256 + (a.toNat : Int) := by
  show (0 * 256 + En.byt _ 1) * 256 + En.byt _ 0 = _
  rw [En.byt_mk, En.byt_mk]
  simp
theorem En.long_mk4 (a b c d : UInt8) (l : List UInt8) : En.lev ⟨(a :: b :: c :: d :: l).toArray⟩ 0 4 = (((d.toNat : Int) * 256 + (c.toNat : Int)) * 256 + (b.toNat : Int)) * 256 + (a.toNat : Int) := by
  show (((0 * 256 + En.byt _ 3) * 256 + En.byt _ 2) * 256 + En.byt _ 1) * 256 + En.byt _ 0 = _
  rw [En.byt_mk, En.byt_mk, En.byt_mk, En.byt_mk]
  simp
theorem En.long_inv {s r : ByteArray} {m l n : Int} (h : En.long s m l = some (n, r)) : m ≤ (s.size : Int) ∧ l ≤ n ∧ n = En.lev s 0 m.toNat ∧ r = En.rest s m := by
  unfold En.long at h
  split at h
  · cases h
  · split at h
    · cases h
    · simp only [Option.some.injEq, Prod.mk.injEq] at h
      obtain ⟨rfl, rfl⟩ := h
      exact ⟨by omega, by omega, rfl, rfl⟩
theorem En.two_inv {l : List UInt8} {n : Int} {r : ByteArray} (h : En.long ⟨l.toArray⟩ 2 253 = some (n, r)) :
    ∃ b1 b2 l2, l = b1 :: b2 :: l2 ∧ 253 ≤ n ∧ n = (b2.toNat : Int) * 256 + (b1.toNat : Int) ∧ r = ⟨l2.toArray⟩ := by
  obtain ⟨h1, h2, h3, h4⟩ := En.long_inv h
  clear h
  rw [En.size_mk] at h1
  rcases l with _ | ⟨b1, _ | ⟨b2, l2⟩⟩
  · simp at h1
  · simp at h1
  · exact ⟨b1, b2, l2, rfl, h2, h3.trans (En.long_mk2 b1 b2 l2), h4.trans (En.rest_mk _ _)⟩
theorem En.four_inv {l : List UInt8} {n : Int} {r : ByteArray} (h : En.long ⟨l.toArray⟩ 4 65536 = some (n, r)) :
    ∃ b1 b2 b3 b4 l2, l = b1 :: b2 :: b3 :: b4 :: l2 ∧ 65536 ≤ n ∧ n = (((b4.toNat : Int) * 256 + (b3.toNat : Int)) * 256 + (b2.toNat : Int)) * 256 + (b1.toNat : Int) ∧ r = ⟨l2.toArray⟩ := by
  obtain ⟨h1, h2, h3, h4⟩ := En.long_inv h
  clear h
  rw [En.size_mk] at h1
  rcases l with _ | ⟨b1, _ | ⟨b2, _ | ⟨b3, _ | ⟨b4, l2⟩⟩⟩⟩
  · simp at h1
  · simp at h1
  · simp at h1
  · simp at h1
  · exact ⟨b1, b2, b3, b4, l2, rfl, h2, h3.trans (En.long_mk4 b1 b2 b3 b4 l2), h4.trans (En.rest_mk _ _)⟩
/-- What is decoded has one encoding. -/
theorem En.num_dec {s r : ByteArray} {n : Int} (h : En.dec s = some (n, r)) : En.num n ++ r = s := by
  obtain ⟨l, rfl⟩ : ∃ l : List UInt8, s = ⟨l.toArray⟩ := ⟨s.data.toList, (En.mk_self s).symm⟩
  rw [En.num_append]
  rcases l with _ | ⟨b0, l1⟩
  · rw [En.dec_short (by rw [En.size_mk]; simp)] at h; cases h
  have hs : 1 ≤ ((ByteArray.mk (b0 :: l1).toArray).size : Int) := by rw [En.size_mk]; simp; omega
  have hb : En.byt ⟨(b0 :: l1).toArray⟩ 0 = (b0.toNat : Int) := by rw [En.byt_mk]; rfl
  have hr : En.rest ⟨(b0 :: l1).toArray⟩ 1 = ⟨l1.toArray⟩ := by rw [En.rest_mk]; rfl
  have hlt := b0.toNat_lt
  by_cases h2 : En.byt ⟨(b0 :: l1).toArray⟩ 0 = 253
  · rw [En.dec_two hs h2, hr] at h
    have hb0 : UInt8.ofNat (Int.toNat 253) = b0 := En.u8b (by omega)
    obtain ⟨b1, b2, l2, rfl, g1, g2, rfl⟩ := En.two_inv h
    have k1 := b1.toNat_lt
    have k2 := b2.toNat_lt
    rw [En.bytes_mid (by omega) (by omega)]
    simp only [List.map, List.cons_append, List.nil_append, hb0]
    rw [En.u8b (b := b1) (by omega), En.u8b (b := b2) (by omega)]
  by_cases h4 : En.byt ⟨(b0 :: l1).toArray⟩ 0 = 254
  · rw [En.dec_four hs h4, hr] at h
    have hb0 : UInt8.ofNat (Int.toNat 254) = b0 := En.u8b (by omega)
    obtain ⟨b1, b2, b3, b4, l2, rfl, g1, g2, rfl⟩ := En.four_inv h
    have k1 := b1.toNat_lt
    have k2 := b2.toNat_lt
    have k3 := b3.toNat_lt
    have k4 := b4.toNat_lt
    rw [En.bytes_big (by omega)]
    simp only [List.map, List.cons_append, List.nil_append, hb0]
    rw [En.u8b (b := b1) (by omega), En.u8b (b := b2) (by omega), En.u8b (b := b3) (by omega), En.u8b (b := b4) (by omega)]
  by_cases h5 : En.byt ⟨(b0 :: l1).toArray⟩ 0 = 255
  · rw [En.dec_bad hs h5] at h; cases h
  · rw [En.dec_one hs (by omega), hr] at h
    simp only [Option.some.injEq, Prod.mk.injEq] at h
    obtain ⟨rfl, rfl⟩ := h
    rw [En.bytes_small (by omega)]
    simp only [List.map, List.cons_append, List.nil_append]
    rw [En.u8b hb]

/-- 'a << 8 | b' of a byte b. -/
theorem En.or_byte (a b : Int) (ha : 0 ≤ a) (ha2 : a ≤ 16777215) (hb : 0 ≤ b) (hb2 : b < 256) : bits .or .i64 (a * 256) b = a * 256 + b := by
  obtain ⟨x, rfl⟩ := Int.eq_ofNat_of_zero_le ha
  obtain ⟨y, rfl⟩ := Int.eq_ofNat_of_zero_le hb
  have h1 : (BitVec.ofInt 64 ((x * 256 : Nat) : Int)).toNat = x * 256 := by
    rw [BitVec.ofInt_natCast, BitVec.toNat_ofNat]; exact Nat.mod_eq_of_lt (by omega)
  have h2 : (BitVec.ofInt 64 (y : Int)).toNat = y := by
    rw [BitVec.ofInt_natCast, BitVec.toNat_ofNat]; exact Nat.mod_eq_of_lt (by omega)
  have h3 : x * 256 ||| y = x * 256 + y := by
    rw [Nat.mul_comm x 256]
    exact (Nat.two_pow_add_eq_or_of_lt (i := 8) (b := y) (by omega) x).symm
  have e : ((x : Int) * 256) = ((x * 256 : Nat) : Int) := by omega
  rw [e]
  show IntKind.i64.wrap ((BitVec.ofInt 64 ((x * 256 : Nat) : Int) ||| BitVec.ofInt 64 (y : Int)).toNat : Int) = _
  rw [BitVec.toNat_or, h1, h2, h3]
  rw [IntWalk.i64_in _ (by omega)]
  omega

theorem En.byt_str (xs : List Int) (i : Nat) (x : Int) (hx : xs[i]? = some x) (h0 : 0 ≤ x) (h : x < 256) : En.byt (strOfNums xs) i = x := by
  unfold En.byt
  rw [strOfNums_data, List.getElem?_map, hx]
  exact En.u8 h0 h
/-- A store into a block of cells. -/
theorem block_setCell {w : World} {B : Nat} {cs : Array Value} {t : TypeId} {fr : Nat × Nat} (h : w.heap[B]? = some (.cells cs t fr)) (i : Nat) (u : Value) :
    (w.setCell ⟨B, i, none⟩ u).heap[B]? = some (.cells (cs.setIfInBounds i u) t fr) := by
  have hlt := lt_of_block h
  have h' : w.heap[B] = .cells cs t fr := by simpa [Array.getElem?_eq_getElem hlt] using h
  show (w.heap.modify B _)[B]? = _
  rw [Array.getElem?_eq_getElem (by simpa using hlt), Array.getElem_modify_self, h']
  rfl
end Go.Proofs.Ytohameoomlehlab
