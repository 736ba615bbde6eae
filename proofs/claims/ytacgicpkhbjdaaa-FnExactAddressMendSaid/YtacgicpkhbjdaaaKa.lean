/-
  Plain mathematics of addresses: ten values below 31, two sums, a number of seven digits.
-/
import Derived.Test.YtacgicpkhbjdaaaEn
namespace Go.Proofs.Ytacgicpkhbjdaaa

/-- The characters of addresses, in the order of their values. -/
def Ka.signs : List Int := [97, 98, 99, 100, 101, 102, 103, 104, 106, 107, 109, 110, 112, 113, 114, 115, 116, 117, 118, 119, 120, 121, 122, 50, 51, 52, 53, 54, 55, 56, 57]
/-- The character of a value. -/
def Ka.dig (n : Int) : Int := Ka.signs.getD n.toNat 0
/-- The value of a character, or -1. -/
def Ka.val (c : Int) : Int := if Ka.signs.contains c then (Ka.signs.idxOf c : Nat) else -1
theorem Ka.dig_all : ∀ k : Fin 31, Ka.val (Ka.dig (k.val : Int)) = (k.val : Int) ∧ 0 ≤ Ka.dig (k.val : Int) ∧ Ka.dig (k.val : Int) < 256 := by decide +kernel
theorem Ka.val_all : ∀ c : Fin 256, Ka.val (c.val : Int) < 31 ∧ -1 ≤ Ka.val (c.val : Int) ∧ (Ka.val (c.val : Int) = -1 ∨ Ka.dig (Ka.val (c.val : Int)) = (c.val : Int)) := by decide +kernel
theorem Ka.val_dig {n : Int} (h0 : 0 ≤ n) (h : n < 31) : Ka.val (Ka.dig n) = n := by
  obtain ⟨k, rfl⟩ := Int.eq_ofNat_of_zero_le h0
  exact (Ka.dig_all ⟨k, by omega⟩).1
theorem Ka.dig_bd {n : Int} (h0 : 0 ≤ n) (h : n < 31) : 0 ≤ Ka.dig n ∧ Ka.dig n < 256 := by
  obtain ⟨k, rfl⟩ := Int.eq_ofNat_of_zero_le h0
  exact (Ka.dig_all ⟨k, by omega⟩).2
theorem Ka.val_bd {c : Int} (h0 : 0 ≤ c) (h : c < 256) : Ka.val c < 31 ∧ -1 ≤ Ka.val c := by
  obtain ⟨k, rfl⟩ := Int.eq_ofNat_of_zero_le h0
  exact ⟨(Ka.val_all ⟨k, by omega⟩).1, (Ka.val_all ⟨k, by omega⟩).2.1⟩
theorem Ka.dig_val {c : Int} (h0 : 0 ≤ c) (h : c < 256) (hv : 0 ≤ Ka.val c) : Ka.dig (Ka.val c) = c := by
  obtain ⟨k, rfl⟩ := Int.eq_ofNat_of_zero_le h0
  rcases (Ka.val_all ⟨k, by omega⟩).2.2 with h1 | h1
  · exfalso
    simp only at h1
    omega
  · exact h1
theorem Ka.dig_inj {a b : Int} (a0 : 0 ≤ a) (a1 : a < 31) (b0 : 0 ≤ b) (b1 : b < 31) (h : Ka.dig a = Ka.dig b) : a = b := by
  rw [← Ka.val_dig a0 a1, ← Ka.val_dig b0 b1, h]

/-- All values are those of characters. -/
def Ka.In (l : List Int) : Prop := ∀ x ∈ l, 0 ≤ x ∧ x < 31
/-- The k-th value. -/
def Ka.at_ (l : List Int) (k : Nat) : Int := l.getD k 0
theorem Ka.at_bd {l : List Int} (h : Ka.In l) (k : Nat) : 0 ≤ Ka.at_ l k ∧ Ka.at_ l k < 31 := by
  unfold Ka.at_
  rw [List.getD_eq_getElem?_getD]
  cases hk : l[k]? with
  | none => simp
  | some x => exact h x (List.mem_of_getElem? hk)
theorem Ka.In.set {l : List Int} (h : Ka.In l) (k : Nat) {v : Int} (h0 : 0 ≤ v) (h1 : v < 31) : Ka.In (l.set k v) := by
  intro x hx
  rcases List.mem_or_eq_of_mem_set hx with h' | h'
  · exact h x h'
  · subst h'; exact ⟨h0, h1⟩
/-- The sum of the first k values, and that of them times their places. -/
def Ka.sum (l : List Int) : Nat → Int
  | 0 => 0
  | k + 1 => Ka.sum l k + Ka.at_ l k
def Ka.wsum (l : List Int) : Nat → Int
  | 0 => 0
  | k + 1 => Ka.wsum l k + ((k : Int) + 1) * Ka.at_ l k
theorem Ka.sum_bd {l : List Int} (h : Ka.In l) (k : Nat) : 0 ≤ Ka.sum l k ∧ Ka.sum l k ≤ 30 * k := by
  induction k with
  | zero => simp [Ka.sum]
  | succ k ih => have := Ka.at_bd h k; simp only [Ka.sum]; omega
theorem Ka.wsum_bd {l : List Int} (h : Ka.In l) (k : Nat) (hk : k ≤ 10) : 0 ≤ Ka.wsum l k ∧ Ka.wsum l k ≤ 300 * k := by
  induction k with
  | zero => simp [Ka.wsum]
  | succ k ih =>
    have h1 := Ka.at_bd h k
    have h2 := ih (by omega)
    have h3 : 0 ≤ ((k : Int) + 1) * Ka.at_ l k := Int.mul_nonneg (by omega) h1.1
    have h4 : ((k : Int) + 1) * Ka.at_ l k ≤ 10 * Ka.at_ l k := Int.mul_le_mul_of_nonneg_right (by omega) h1.1
    simp only [Ka.wsum]
    omega
/-- The number of the digits with the places 1 to k. -/
def Ka.num (l : List Int) : Nat → Int
  | 0 => 0
  | k + 1 => Ka.num l k * 31 + Ka.at_ l (k + 1)
theorem Ka.num_bd {l : List Int} (h : Ka.In l) (k : Nat) (hk : k ≤ 7) : 0 ≤ Ka.num l k ∧ Ka.num l k < 31 ^ k := by
  induction k with
  | zero => simp [Ka.num]
  | succ k ih =>
    have h1 := Ka.at_bd h (k + 1)
    have h2 := ih (by omega)
    simp only [Ka.num, Int.pow_succ]
    omega
theorem Ka.num7_bd {l : List Int} (h : Ka.In l) : 0 ≤ Ka.num l 7 ∧ Ka.num l 7 < 27512614111 := by
  have := Ka.num_bd h 7 (by omega)
  exact ⟨this.1, by have := this.2; rwa [show (31 : Int) ^ 7 = 27512614111 by decide] at this⟩
/-- The values of an address. -/
structure Ka.Good (l : List Int) : Prop where
  a : Ka.sum l 10 % 31 = 0
  b : Ka.wsum l 10 % 31 = 0
  n : Ka.num l 7 ≤ 4294967295
instance (l : List Int) : Decidable (Ka.Good l) := decidable_of_iff (Ka.sum l 10 % 31 = 0 ∧ Ka.wsum l 10 % 31 = 0 ∧ Ka.num l 7 ≤ 4294967295) ⟨fun ⟨a, b, c⟩ => ⟨a, b, c⟩, fun ⟨a, b, c⟩ => ⟨a, b, c⟩⟩
theorem Ka.ten {l : List Int} (h : l.length = 10) : ∃ a b c d e f g i j k, l = [a, b, c, d, e, f, g, i, j, k] := by
  match l, h with
  | [a, b, c, d, e, f, g, i, j, k], _ => exact ⟨a, b, c, d, e, f, g, i, j, k, rfl⟩
theorem Ka.ext {l m : List Int} (hl : l.length = 10) (hm : m.length = 10) (h : ∀ k, k < 10 → Ka.at_ l k = Ka.at_ m k) : l = m := by
  apply List.ext_getElem (by omega)
  intro k h1 h2
  have := h k (by omega)
  unfold Ka.at_ at this
  rwa [List.getD_eq_getElem?_getD, List.getD_eq_getElem?_getD, List.getElem?_eq_getElem h1, List.getElem?_eq_getElem h2] at this
theorem Ka.at_set (l : List Int) (i k : Nat) (v : Int) (hi : i < l.length) : Ka.at_ (l.set i v) k = if i = k then v else Ka.at_ l k := by
  unfold Ka.at_
  rw [List.getD_eq_getElem?_getD, List.getD_eq_getElem?_getD, List.getElem?_set]
  split
  · rename_i h; subst h; rfl
  · rfl
theorem Ka.sum_set (l : List Int) (i : Nat) (v : Int) (hi : i < l.length) (n : Nat) : Ka.sum (l.set i v) n = Ka.sum l n + if i < n then v - Ka.at_ l i else 0 := by
  induction n with
  | zero => simp [Ka.sum]
  | succ n ih =>
    simp only [Ka.sum, ih, Ka.at_set l i n v hi]
    by_cases h1 : i < n
    · rw [if_pos h1, if_neg (by omega), if_pos (by omega)]; omega
    · by_cases h2 : i = n
      · subst h2; rw [if_neg h1, if_pos rfl, if_pos (by omega)]; omega
      · rw [if_neg h1, if_neg h2, if_neg (by omega)]; omega
theorem Ka.wsum_set (l : List Int) (i : Nat) (v : Int) (hi : i < l.length) (n : Nat) : Ka.wsum (l.set i v) n = Ka.wsum l n + if i < n then ((i : Int) + 1) * (v - Ka.at_ l i) else 0 := by
  induction n with
  | zero => simp [Ka.wsum]
  | succ n ih =>
    simp only [Ka.wsum, ih, Ka.at_set l i n v hi]
    by_cases h1 : i < n
    · rw [if_pos h1, if_neg (by omega), if_pos (by omega)]; omega
    · by_cases h2 : i = n
      · subst h2; rw [if_neg h1, if_pos rfl, if_pos (by omega), Int.mul_sub]; omega
      · rw [if_neg h1, if_neg h2, if_neg (by omega)]; omega
theorem Ka.num_set (l : List Int) (i : Nat) (v : Int) (hi : i < l.length) (n : Nat) (h : n < i ∨ i = 0) : Ka.num (l.set i v) n = Ka.num l n := by
  induction n with
  | zero => rfl
  | succ n ih =>
    simp only [Ka.num]
    rw [ih (by omega), Ka.at_set l i (n + 1) v hi, if_neg (by omega)]
/-- What the place i must have, for the sum of all to be divisible. -/
def Ka.fit (l : List Int) (i : Nat) : Int := (Ka.at_ l i - Ka.sum l 10) % 31
theorem Ka.fit_bd (l : List Int) (i : Nat) : 0 ≤ Ka.fit l i ∧ Ka.fit l i < 31 := by unfold Ka.fit; omega
theorem Ka.fit_only {l : List Int} {i : Nat} {v : Int} (hl : l.length = 10) (hi : i < 10) (h0 : 0 ≤ v) (h1 : v < 31) (h : Ka.Good (l.set i v)) : v = Ka.fit l i := by
  have ha := h.a
  rw [Ka.sum_set l i v (by omega), if_pos hi] at ha
  unfold Ka.fit
  omega
theorem Ka.fit_self {l : List Int} {i : Nat} (hin : Ka.In l) (h : Ka.Good l) : Ka.fit l i = Ka.at_ l i := by
  have ha := h.a
  have := Ka.at_bd hin i
  unfold Ka.fit
  omega
theorem Ka.set_self {l : List Int} (i : Nat) (h : i < l.length) : l.set i (Ka.at_ l i) = l := by
  unfold Ka.at_
  rw [List.getD_eq_getElem?_getD, List.getElem?_eq_getElem h]
  simp
/-- The first place from k on (of ten) at which the one value that fits makes an address. -/
def Ka.seek (l : List Int) (k : Nat) : Nat → Option (List Int)
  | 0 => none
  | m + 1 => if Ka.Good (l.set k (Ka.fit l k)) then some (l.set k (Ka.fit l k)) else Ka.seek l (k + 1) m
def Ka.mend (l : List Int) : Option (List Int) := Ka.seek l 0 10
theorem Ka.seek_some {l m : List Int} (k n : Nat) (h : Ka.seek l k n = some m) : ∃ i, k ≤ i ∧ i < k + n ∧ m = l.set i (Ka.fit l i) ∧ Ka.Good m := by
  induction n generalizing k with
  | zero => cases h
  | succ n ih =>
    unfold Ka.seek at h
    split at h
    · rename_i hg; cases h; exact ⟨k, by omega, by omega, rfl, hg⟩
    · obtain ⟨i, h1, h2, h3⟩ := ih (k + 1) h
      exact ⟨i, by omega, by omega, h3⟩
theorem Ka.seek_at {l : List Int} {i : Nat} (h : Ka.Good (l.set i (Ka.fit l i))) (k n : Nat) (h1 : k ≤ i) (h2 : i < k + n) : ∃ m, Ka.seek l k n = some m := by
  induction n generalizing k with
  | zero => omega
  | succ n ih =>
    unfold Ka.seek
    split
    · exact ⟨_, rfl⟩
    · exact ih (k + 1) (by
        rcases Nat.lt_or_ge k i with h' | h'
        · omega
        · have : k = i := by omega
          subst this
          exact absurd h ‹_›) (by omega)
/-- None of the places ahead of k makes an address: the answer is that from k on. -/
theorem Ka.seek_step {l : List Int} {k n : Nat} (h : ¬ Ka.Good (l.set k (Ka.fit l k))) : Ka.seek l k (n + 1) = Ka.seek l (k + 1) n := by
  conv => lhs; unfold Ka.seek
  exact if_neg h
theorem Ka.seek_here {l : List Int} {k n : Nat} (h : Ka.Good (l.set k (Ka.fit l k))) : Ka.seek l k (n + 1) = some (l.set k (Ka.fit l k)) := by
  conv => lhs; unfold Ka.seek
  exact if_pos h
/-- An address is its own. -/
theorem Ka.mend_self {l : List Int} (hl : l.length = 10) (hin : Ka.In l) (h : Ka.Good l) : Ka.mend l = some l := by
  unfold Ka.mend
  have hs : l.set 0 (Ka.fit l 0) = l := by rw [Ka.fit_self hin h, Ka.set_self 0 (by omega)]
  rw [Ka.seek_here (by rw [hs]; exact h), hs]
theorem Ka.In.fit {l : List Int} (h : Ka.In l) (i : Nat) : Ka.In (l.set i (Ka.fit l i)) := h.set i (Ka.fit_bd l i).1 (Ka.fit_bd l i).2
/-- Two addresses that differ in at most two places are one. -/
theorem Ka.near {l : List Int} (hl : l.length = 10) (hin : Ka.In l) (h : Ka.Good l) (i k : Nat) (u v : Int) (hi : i < 10) (hk : k < 10) (u0 : 0 ≤ u) (u1 : u < 31) (v0 : 0 ≤ v) (v1 : v < 31) (hg : Ka.Good ((l.set k v).set i u)) : (l.set k v).set i u = l := by
  have a1 := h.a
  have b1 := h.b
  have a2 := hg.a
  have b2 := hg.b
  have hlk : (l.set k v).length = 10 := by simp [hl]
  rw [Ka.sum_set _ i u (by omega), if_pos hi, Ka.sum_set l k v (by omega), if_pos hk, Ka.at_set l k i v (by omega)] at a2
  rw [Ka.wsum_set _ i u (by omega), if_pos hi, Ka.wsum_set l k v (by omega), if_pos hk, Ka.at_set l k i v (by omega)] at b2
  have ti := Ka.at_bd hin i
  have tk := Ka.at_bd hin k
  by_cases hik : k = i
  · subst hik
    rw [if_pos rfl] at a2 b2
    have hu : u = Ka.at_ l k := by omega
    rw [List.set_set, hu, Ka.set_self k (by omega)]
  · rw [if_neg hik] at a2 b2
    have hd : (u - Ka.at_ l i) = 0 ∧ (v - Ka.at_ l k) = 0 := by
      generalize hp : u - Ka.at_ l i = p at *
      generalize hq : v - Ka.at_ l k = q at *
      have q1 : (q + p) % 31 = 0 := by omega
      have e : ((k : Int) + 1) * q + ((i : Int) + 1) * p = ((k : Int) + 1) * (q + p) + ((i : Int) - k) * p := by
        rw [Int.mul_add, Int.sub_mul, Int.add_mul, Int.add_mul, Int.add_mul]; omega
      have hm : (((k : Int) + 1) * (q + p)) % 31 = 0 := by rw [Int.mul_emod, q1]; simp
      have q2 : (((i : Int) - k) * p) % 31 = 0 := by omega
      have hp0 : p % 31 = 0 := by
        have hi' : i < 10 := hi
        have hk' : k < 10 := hk
        clear e hm b2 b1 a1 a2 h hg
        match i, hi' with
        | 0, _ => match k, hk' with | 0, _ => omega | 1, _ => omega | 2, _ => omega | 3, _ => omega | 4, _ => omega | 5, _ => omega | 6, _ => omega | 7, _ => omega | 8, _ => omega | 9, _ => omega
        | 1, _ => match k, hk' with | 0, _ => omega | 1, _ => omega | 2, _ => omega | 3, _ => omega | 4, _ => omega | 5, _ => omega | 6, _ => omega | 7, _ => omega | 8, _ => omega | 9, _ => omega
        | 2, _ => match k, hk' with | 0, _ => omega | 1, _ => omega | 2, _ => omega | 3, _ => omega | 4, _ => omega | 5, _ => omega | 6, _ => omega | 7, _ => omega | 8, _ => omega | 9, _ => omega
        | 3, _ => match k, hk' with | 0, _ => omega | 1, _ => omega | 2, _ => omega | 3, _ => omega | 4, _ => omega | 5, _ => omega | 6, _ => omega | 7, _ => omega | 8, _ => omega | 9, _ => omega
        | 4, _ => match k, hk' with | 0, _ => omega | 1, _ => omega | 2, _ => omega | 3, _ => omega | 4, _ => omega | 5, _ => omega | 6, _ => omega | 7, _ => omega | 8, _ => omega | 9, _ => omega
        | 5, _ => match k, hk' with | 0, _ => omega | 1, _ => omega | 2, _ => omega | 3, _ => omega | 4, _ => omega | 5, _ => omega | 6, _ => omega | 7, _ => omega | 8, _ => omega | 9, _ => omega
        | 6, _ => match k, hk' with | 0, _ => omega | 1, _ => omega | 2, _ => omega | 3, _ => omega | 4, _ => omega | 5, _ => omega | 6, _ => omega | 7, _ => omega | 8, _ => omega | 9, _ => omega
        | 7, _ => match k, hk' with | 0, _ => omega | 1, _ => omega | 2, _ => omega | 3, _ => omega | 4, _ => omega | 5, _ => omega | 6, _ => omega | 7, _ => omega | 8, _ => omega | 9, _ => omega
        | 8, _ => match k, hk' with | 0, _ => omega | 1, _ => omega | 2, _ => omega | 3, _ => omega | 4, _ => omega | 5, _ => omega | 6, _ => omega | 7, _ => omega | 8, _ => omega | 9, _ => omega
        | 9, _ => match k, hk' with | 0, _ => omega | 1, _ => omega | 2, _ => omega | 3, _ => omega | 4, _ => omega | 5, _ => omega | 6, _ => omega | 7, _ => omega | 8, _ => omega | 9, _ => omega
      omega
    have hu : u = Ka.at_ l i := by omega
    have hv : v = Ka.at_ l k := by omega
    rw [hv, Ka.set_self k (by omega), hu, Ka.set_self i (by omega)]
/-- One wrong value is mended. -/
theorem Ka.mend_one {l : List Int} (hl : l.length = 10) (hin : Ka.In l) (h : Ka.Good l) (k : Nat) (v : Int) (hk : k < 10) (v0 : 0 ≤ v) (v1 : v < 31) : Ka.mend (l.set k v) = some l := by
  have hlk : (l.set k v).length = 10 := by simp [hl]
  have hback : (l.set k v).set k (Ka.fit (l.set k v) k) = l := by
    have hf : Ka.fit (l.set k v) k = Ka.at_ l k := by
      unfold Ka.fit
      rw [Ka.at_set l k k v (by omega), if_pos rfl, Ka.sum_set l k v (by omega), if_pos hk]
      have := h.a
      have := Ka.at_bd hin k
      omega
    rw [hf, List.set_set, Ka.set_self k (by omega)]
  obtain ⟨m, hm⟩ := Ka.seek_at (l := l.set k v) (i := k) (by rw [hback]; exact h) 0 10 (by omega) (by omega)
  obtain ⟨i, _, hi, hmi, hg⟩ := Ka.seek_some 0 10 hm
  unfold Ka.mend
  rw [hm]
  have hb := Ka.fit_bd (l.set k v) i
  rw [hmi] at hg ⊢
  rw [Ka.near hl hin h i k _ v (by omega) hk hb.1 hb.2 v0 v1 hg]
/-- What differs from an address in one place alone is none. -/
theorem Ka.one_not {l : List Int} (hl : l.length = 10) (hin : Ka.In l) (h : Ka.Good l) (k : Nat) (v : Int) (hk : k < 10) (v0 : 0 ≤ v) (v1 : v < 31) (hg : Ka.Good (l.set k v)) : l.set k v = l := by
  have a1 := h.a
  have a2 := hg.a
  rw [Ka.sum_set l k v (by omega), if_pos hk] at a2
  have := Ka.at_bd hin k
  rw [show v = Ka.at_ l k by omega, Ka.set_self k (by omega)]
/-- Two neighbours exchanged. -/
def Ka.swap (l : List Int) (k : Nat) : List Int := (l.set k (Ka.at_ l (k + 1))).set (k + 1) (Ka.at_ l k)
theorem Ka.swap_not {l : List Int} (hl : l.length = 10) (hin : Ka.In l) (h : Ka.Good l) (k : Nat) (hk : k < 9) (hg : Ka.Good (Ka.swap l k)) : Ka.at_ l k = Ka.at_ l (k + 1) := by
  have b1 := h.b
  have b2 := hg.b
  unfold Ka.swap at b2
  have hlk : (l.set k (Ka.at_ l (k + 1))).length = 10 := by simp [hl]
  rw [Ka.wsum_set _ (k + 1) _ (by omega), if_pos (by omega), Ka.wsum_set l k _ (by omega), if_pos (by omega), Ka.at_set l k (k + 1) _ (by omega), if_neg (by omega)] at b2
  have t1 := Ka.at_bd hin k
  have t2 := Ka.at_bd hin (k + 1)
  generalize Ka.at_ l k = p at *
  generalize Ka.at_ l (k + 1) = q at *
  have e : ((k : Int) + 1) * (q - p) + (((k + 1 : Nat) : Int) + 1) * (p - q) = p - q := by
    rw [show (((k + 1 : Nat) : Int) + 1) = ((k : Int) + 1) + 1 by omega, Int.add_mul _ 1 (p - q), show q - p = -(p - q) by omega, Int.mul_neg]
    omega
  omega
theorem Ka.swap_same {l : List Int} (hl : l.length = 10) (k : Nat) (hk : k < 9) (h : Ka.at_ l k = Ka.at_ l (k + 1)) : Ka.swap l k = l := by
  unfold Ka.swap
  have hlk : (l.set k (Ka.at_ l (k + 1))).length = 10 := by simp [hl]
  rw [← h, Ka.set_self k (by omega), h, Ka.set_self (k + 1) (by omega)]

/-- The seven digits of a number. -/
def Ka.digits (n : Int) : List Int := [n / 887503681 % 31, n / 28629151 % 31, n / 923521 % 31, n / 29791 % 31, n / 961 % 31, n / 31 % 31, n % 31]
/-- The values of the address of a kind and a number. -/
def Ka.lead (kind n : Int) : List Int := kind :: Ka.digits n
def Ka.of (kind n : Int) : List Int :=
  Ka.lead kind n ++ [(Ka.wsum (Ka.lead kind n) 8 - 10 * Ka.sum (Ka.lead kind n) 8) % 31, (9 * Ka.sum (Ka.lead kind n) 8 - Ka.wsum (Ka.lead kind n) 8) % 31]
theorem Ka.lead_len (kind n : Int) : (Ka.lead kind n).length = 8 := rfl
theorem Ka.of_len (kind n : Int) : (Ka.of kind n).length = 10 := rfl
theorem Ka.lead_in {kind n : Int} (h0 : 0 ≤ kind) (h1 : kind < 31) : Ka.In (Ka.lead kind n) := by
  intro x hx
  simp only [Ka.lead, Ka.digits, List.mem_cons, List.not_mem_nil, or_false] at hx
  rcases hx with rfl | rfl | rfl | rfl | rfl | rfl | rfl | rfl <;> omega
theorem Ka.of_in {kind n : Int} (h0 : 0 ≤ kind) (h1 : kind < 31) : Ka.In (Ka.of kind n) := by
  intro x hx
  unfold Ka.of at hx
  rw [List.mem_append] at hx
  rcases hx with hx | hx
  · exact Ka.lead_in h0 h1 x hx
  · simp only [List.mem_cons, List.not_mem_nil, or_false] at hx
    rcases hx with rfl | rfl <;> omega
theorem Ka.of_num (kind n : Int) (h0 : 0 ≤ n) (h1 : n ≤ 4294967295) : Ka.num (Ka.of kind n) 7 = n := by
  simp only [Ka.num, Ka.at_, Ka.of, Ka.lead, Ka.digits, List.cons_append, List.getD_cons_succ, List.getD_cons_zero]
  omega
/-- The sums of ten values by those of the first eight. -/
theorem Ka.sum_end (l : List Int) (x y : Int) (h : l.length = 8) : Ka.sum (l ++ [x, y]) 10 = Ka.sum l 8 + x + y ∧ Ka.wsum (l ++ [x, y]) 10 = Ka.wsum l 8 + 9 * x + 10 * y := by
  match l, h with
  | [a, b, c, d, e, f, g, i], _ =>
    simp only [Ka.sum, Ka.wsum, Ka.at_, List.cons_append, List.nil_append, List.getD_cons_succ, List.getD_cons_zero]
    constructor
    · simp
    · simp
theorem Ka.of_good (kind n : Int) (h0 : 0 ≤ n) (h1 : n ≤ 4294967295) : Ka.Good (Ka.of kind n) := by
  have hs := Ka.sum_end (Ka.lead kind n) ((Ka.wsum (Ka.lead kind n) 8 - 10 * Ka.sum (Ka.lead kind n) 8) % 31) ((9 * Ka.sum (Ka.lead kind n) 8 - Ka.wsum (Ka.lead kind n) 8) % 31) rfl
  refine ⟨?_, ?_, by rw [Ka.of_num kind n h0 h1]; exact h1⟩
  · unfold Ka.of
    rw [hs.1]
    omega
  · unfold Ka.of
    rw [hs.2]
    omega
/-- An address is that of its kind and its number. -/
theorem Ka.good_of {l : List Int} (hl : l.length = 10) (hin : Ka.In l) (h : Ka.Good l) : l = Ka.of (Ka.at_ l 0) (Ka.num l 7) := by
  obtain ⟨a, b, c, d, e, f, g, i, j, k, rfl⟩ := Ka.ten hl
  have ha := h.a
  have hb := h.b
  have m0 := hin a (by simp)
  have m1 := hin b (by simp)
  have m2 := hin c (by simp)
  have m3 := hin d (by simp)
  have m4 := hin e (by simp)
  have m5 := hin f (by simp)
  have m6 := hin g (by simp)
  have m7 := hin i (by simp)
  have m8 := hin j (by simp)
  have m9 := hin k (by simp)
  have hdig : Ka.lead (Ka.at_ [a, b, c, d, e, f, g, i, j, k] 0) (Ka.num [a, b, c, d, e, f, g, i, j, k] 7) = [a, b, c, d, e, f, g, i] := by
    simp only [Ka.lead, Ka.digits, Ka.num, Ka.at_, List.getD_cons_succ, List.getD_cons_zero, List.cons.injEq, and_true, true_and]
    refine ⟨?_, ?_, ?_, ?_, ?_, ?_, ?_⟩ <;> omega
  unfold Ka.of
  rw [hdig]
  have hs := Ka.sum_end [a, b, c, d, e, f, g, i] j k rfl
  simp only [List.cons_append, List.nil_append] at hs
  rw [hs.1] at ha
  rw [hs.2] at hb
  simp only [List.cons_append, List.nil_append, List.cons.injEq, and_true, true_and]
  constructor <;> omega

/-- The last two values are told by the others: only with those are both sums divisible. -/
def Ka.checks (l : List Int) : List Int := l.take 8 ++ [(Ka.wsum l 8 - 10 * Ka.sum l 8) % 31, (9 * Ka.sum l 8 - Ka.wsum l 8) % 31]
theorem Ka.checks_iff {l : List Int} (hl : l.length = 10) (hin : Ka.In l) : l = Ka.checks l ↔ Ka.sum l 10 % 31 = 0 ∧ Ka.wsum l 10 % 31 = 0 := by
  obtain ⟨a, b, c, d, e, f, g, i, j, k, rfl⟩ := Ka.ten hl
  have m8 := hin j (by simp)
  have m9 := hin k (by simp)
  simp only [Ka.checks, List.take_succ_cons, List.take_zero, List.cons_append, List.nil_append, List.cons.injEq, and_true, true_and, Ka.sum, Ka.wsum, Ka.at_, List.getD_cons_succ, List.getD_cons_zero]
  constructor
  · rintro ⟨h1, h2⟩; constructor <;> omega
  · rintro ⟨h1, h2⟩; constructor <;> omega
end Go.Proofs.Ytacgicpkhbjdaaa
