import Derived.IntWalk
import Derived.Test.YtohameoomlehlabBa
import Derived.Test.YtohameoomlehlabEn
import Derived.LoopTactic
import Derived.Deep.QuietTactic
import Derived.BigQuiet
import Derived.WalkSmall
import Derived.Lib.Hide
import Derived.WalkMore
import Derived.Laws.ResultCell
import Derived.Laws.Rows
/-
  Plain mathematics of chapter 4: powers modulo a number, the little theorem of Fermat, the two primes. No dump is imported.
-/
namespace Go.Proofs.Ytohameoomlehlab

/-- The power of a with exponent e modulo m (an exponent that is not positive counts as 0). -/
def Gr.pw (m a e : Int) : Int := a ^ e.toNat % m

/-! Fermat -/
/-- The number of ways to take k of n. -/
def Gr.ch : Nat → Nat → Nat
  | _, 0 => 1
  | 0, _ + 1 => 0
  | n + 1, k + 1 => Gr.ch n k + Gr.ch n (k + 1)
theorem Gr.ch_zero (n : Nat) : Gr.ch n 0 = 1 := by cases n <;> rfl
theorem Gr.ch_succ (n k : Nat) : Gr.ch (n + 1) (k + 1) = Gr.ch n k + Gr.ch n (k + 1) := rfl
theorem Gr.ch_over (n : Nat) : ∀ k, n < k → Gr.ch n k = 0 := by
  induction n with
  | zero => intro k h; cases k with
    | zero => omega
    | succ k => rfl
  | succ n ih => intro k h; cases k with
    | zero => omega
    | succ k => rw [Gr.ch_succ, ih k (by omega), ih (k + 1) (by omega)]
theorem Gr.ch_all (n : Nat) : Gr.ch n n = 1 := by
  induction n with
  | zero => rfl
  | succ n ih => rw [Gr.ch_succ, ih, Gr.ch_over n (n + 1) (by omega)]
theorem Gr.ch_absorb (n : Nat) : ∀ k, (k + 1) * Gr.ch (n + 1) (k + 1) = (n + 1) * Gr.ch n k := by
  induction n with
  | zero => intro k; cases k with
    | zero => rfl
    | succ k => rw [Gr.ch_over 1 (k + 1 + 1) (by omega), Gr.ch_over 0 (k + 1) (by omega)]; omega
  | succ n ih =>
    intro k
    cases k with
    | zero =>
      have h := ih 0
      rw [Gr.ch_succ, Gr.ch_zero]
      rw [Gr.ch_zero] at h
      omega
    | succ k =>
      have h1 := ih k
      have h2 := ih (k + 1)
      have hX := Gr.ch_succ n k
      rw [Gr.ch_succ (n + 1) (k + 1), Nat.mul_add, h2]
      generalize Gr.ch (n + 1) (k + 1) = X at h1 hX ⊢
      have e1 : (n + 1) * X = (n + 1) * Gr.ch n k + (n + 1) * Gr.ch n (k + 1) := by rw [hX, Nat.mul_add]
      rw [Nat.add_mul (k + 1) 1 X, Nat.one_mul, h1, Nat.add_mul (n + 1) 1 X, Nat.one_mul, e1]
      omega
/-- The sum of the first k terms of (a + 1) to the power of n. -/
def Gr.su (n a : Nat) : Nat → Nat
  | 0 => 0
  | k + 1 => Gr.su n a k + Gr.ch n k * a ^ k
theorem Gr.su_one (n a k : Nat) : Gr.su n a (k + 1) = Gr.su n a k + Gr.ch n k * a ^ k := rfl
theorem Gr.su_succ (n a k : Nat) : Gr.su (n + 1) a (k + 1) = a * Gr.su n a k + Gr.su n a (k + 1) := by
  induction k with
  | zero => simp [Gr.su, Gr.ch_zero]
  | succ k ih =>
    have e1 : a * Gr.su n a (k + 1) = a * Gr.su n a k + Gr.ch n k * a ^ (k + 1) := by
      rw [Gr.su_one, Nat.mul_add, Nat.pow_succ, Nat.mul_comm a (Gr.ch n k * a ^ k), Nat.mul_assoc]
    rw [Gr.su_one (n + 1) a (k + 1), ih, Gr.ch_succ, e1, Gr.su_one n a (k + 1), Nat.add_mul]
    generalize a ^ (k + 1) = y
    omega
theorem Gr.binom (n a : Nat) : (a + 1) ^ n = Gr.su n a (n + 1) := by
  induction n with
  | zero => simp [Gr.su, Gr.ch_zero]
  | succ n ih =>
    rw [Gr.su_succ, ← ih, Gr.su, ← ih, Gr.ch_over n (n + 1) (by omega), Nat.pow_succ, Nat.mul_add, Nat.mul_comm]
    omega
/-- p has no divisor but 1 and itself. -/
def Gr.Prime (p : Nat) : Prop := 2 ≤ p ∧ ∀ d, d ∣ p → d = 1 ∨ d = p
theorem Gr.cop {p : Nat} (h : Gr.Prime p) (k : Nat) (h0 : 0 < k) (h1 : k < p) : Nat.Coprime p k := by
  rcases h.2 _ (Nat.gcd_dvd_left p k) with h2 | h2
  · exact h2
  · have := Nat.le_of_dvd h0 (h2 ▸ Nat.gcd_dvd_right p k)
    omega
theorem Gr.ch_dvd {p : Nat} (h : Gr.Prime p) (k : Nat) (h0 : 0 < k) (h1 : k < p) : p ∣ Gr.ch p k := by
  obtain ⟨n, rfl⟩ : ∃ n, p = n + 1 := ⟨p - 1, by omega⟩
  obtain ⟨j, rfl⟩ : ∃ j, k = j + 1 := ⟨k - 1, by omega⟩
  have e := Gr.ch_absorb n j
  exact (Gr.cop h _ h0 h1).dvd_of_dvd_mul_left ⟨_, e⟩
theorem Gr.su_mod {p : Nat} (h : Gr.Prime p) (a k : Nat) (h1 : k < p) : Gr.su p a (k + 1) % p = 1 := by
  induction k with
  | zero =>
    have h2 : 1 < p := h.1
    show (0 + Gr.ch p 0 * a ^ 0) % p = 1
    rw [Gr.ch_zero, Nat.pow_zero]
    exact Nat.mod_eq_of_lt h2
  | succ k ih =>
    obtain ⟨c, hc⟩ := Gr.ch_dvd h (k + 1) (by omega) h1
    rw [Gr.su, hc, Nat.mul_assoc, Nat.add_mul_mod_self_left]
    exact ih (by omega)
theorem Gr.step {p : Nat} (h : Gr.Prime p) (a : Nat) : (a + 1) ^ p % p = (a ^ p + 1) % p := by
  have h1 := h.1
  have h2 := Gr.su_mod h a (p - 1) (by omega)
  rw [show p - 1 + 1 = p by omega] at h2
  rw [Gr.binom, Gr.su, Gr.ch_all, Nat.one_mul, Nat.add_mod, h2, Nat.add_mod (a ^ p) 1, Nat.mod_eq_of_lt (show 1 < p by omega), Nat.add_comm]
theorem Gr.little {p : Nat} (h : Gr.Prime p) (a : Nat) : a ^ p % p = a % p := by
  induction a with
  | zero => rw [Nat.zero_pow (by have := h.1; omega)]
  | succ a ih => rw [Gr.step h, Nat.add_mod, ih, ← Nat.add_mod]
theorem Gr.fermat {p : Nat} (h : Gr.Prime p) (a : Nat) (h0 : 0 < a) (h1 : a < p) : a ^ (p - 1) % p = 1 := by
  have hp := h.1
  have hl := Gr.little h a
  have he : a ^ p = a * a ^ (p - 1) := by
    conv => lhs; rw [show p = p - 1 + 1 by omega, Nat.pow_succ, Nat.mul_comm]
  have hpos : 1 ≤ a ^ (p - 1) := Nat.pow_pos h0
  have hd : p ∣ a * (a ^ (p - 1) - 1) := by
    rw [Nat.mul_sub, Nat.mul_one, ← he]
    exact Nat.dvd_of_mod_eq_zero (Nat.sub_mod_eq_zero_of_mod_eq hl)
  obtain ⟨c, hc⟩ := (Gr.cop h a h0 h1).dvd_of_dvd_mul_left hd
  rw [show a ^ (p - 1) = 1 + p * c by omega, Nat.add_mul_mod_self_left, Nat.mod_eq_of_lt (by omega)]

/-! The order is a prime -/
/-- None of the 2^k numbers from lo on divides n. -/
def Gr.nodiv (n : Nat) : Nat → Nat → Bool
  | 0, lo => !(n % lo == 0)
  | k + 1, lo => Gr.nodiv n k lo && Gr.nodiv n k (lo + 2 ^ k)
theorem Gr.nodiv_at (n : Nat) : ∀ k lo d, Gr.nodiv n k lo = true → lo ≤ d → d < lo + 2 ^ k → n % d ≠ 0 := by
  intro k
  induction k with
  | zero => intro lo d h h1 h2; rw [show d = lo by omega]; simpa [Gr.nodiv] using h
  | succ k ih =>
    intro lo d h h1 h2
    rw [Gr.nodiv, Bool.and_eq_true] at h
    by_cases hd : d < lo + 2 ^ k
    · exact ih lo d h.1 h1 hd
    · refine ih (lo + 2 ^ k) d h.2 (by omega) ?_
      rw [Nat.pow_succ] at h2
      omega
theorem Gr.prime_of (n k : Nat) (h : Gr.nodiv n k 2 = true) (h2 : 2 ≤ n) (hk : n < (2 + 2 ^ k) * (2 + 2 ^ k)) : Gr.Prime n := by
  refine ⟨h2, fun d hd => ?_⟩
  obtain ⟨c, hc⟩ := hd
  have hd0 : d ≠ 0 := by rintro rfl; omega
  have hc0 : c ≠ 0 := by rintro rfl; omega
  by_cases h1 : d < 2 + 2 ^ k
  · by_cases hd1 : d = 1
    · exact .inl hd1
    · exact absurd (by rw [hc]; exact Nat.mul_mod_right d c) (Gr.nodiv_at n k 2 d h (by omega) h1)
  · by_cases hc1 : c = 1
    · exact .inr (by rw [hc, hc1, Nat.mul_one])
    · have hcl : c < 2 + 2 ^ k := by
        rcases Nat.lt_or_ge c (2 + 2 ^ k) with h | h
        · exact h
        · have := Nat.mul_le_mul (Nat.ge_of_not_lt h1) h
          omega
      exact absurd (by rw [hc]; exact Nat.mul_mod_left d c) (Gr.nodiv_at n k 2 c h (by omega) hcl)
theorem Gr.order_prime : Gr.Prime 1073741789 := Gr.prime_of _ 15 (by decide +kernel) (by decide) (by decide)

/-! Powers modulo m -/
theorem Gr.pw_bd (m a e : Int) (hm : 0 < m) : 0 ≤ Gr.pw m a e ∧ Gr.pw m a e < m := ⟨Int.emod_nonneg _ (by omega), Int.emod_lt_of_pos _ hm⟩
theorem Gr.pow_mod (a m : Int) (n : Nat) : (a % m) ^ n % m = a ^ n % m := by
  induction n with
  | zero => simp
  | succ n ih => rw [Int.pow_succ, Int.pow_succ, Int.mul_emod, ih, Int.emod_emod, ← Int.mul_emod]
theorem Gr.pw_mod (m a e : Int) : Gr.pw m (a % m) e = Gr.pw m a e := Gr.pow_mod a m _
theorem Gr.pw_zero (m a e : Int) (hm : 1 < m) (he : e ≤ 0) : Gr.pw m a e = 1 := by
  unfold Gr.pw
  rw [show e.toNat = 0 by omega, Int.pow_zero]
  exact Int.emod_eq_of_lt (by omega) hm
theorem Gr.pw_add (m a e f : Int) (he : 0 ≤ e) (hf : 0 ≤ f) : Gr.pw m a (e + f) = Gr.pw m a e * Gr.pw m a f % m := by
  unfold Gr.pw
  rw [show (e + f).toNat = e.toNat + f.toNat by omega, Int.pow_add, Int.mul_emod]
theorem Gr.pw_pw (m a e f : Int) (he : 0 ≤ e) (hf : 0 ≤ f) : Gr.pw m (Gr.pw m a e) f = Gr.pw m a (e * f) := by
  unfold Gr.pw
  rw [Gr.pow_mod, ← Int.pow_mul, Int.toNat_mul he hf]
theorem Gr.pw_prod (m a b e : Int) : Gr.pw m (a * b % m) e = Gr.pw m a e * Gr.pw m b e % m := by
  unfold Gr.pw
  rw [Gr.pow_mod, Int.mul_pow, Int.mul_emod]
theorem Gr.pw_one (m a : Int) (h0 : 0 ≤ a) (h1 : a < m) : Gr.pw m a 1 = a := by
  unfold Gr.pw
  rw [show (1 : Int).toNat = 1 from rfl, Int.pow_one]
  exact Int.emod_eq_of_lt h0 h1
theorem Gr.pw_unit (m e : Int) (hm : 1 < m) : Gr.pw m 1 e = 1 := by
  unfold Gr.pw
  rw [Int.one_pow]
  exact Int.emod_eq_of_lt (by omega) hm
theorem Gr.pw_nought (m e : Int) (he : 0 < e) : Gr.pw m 0 e = 0 := by
  unfold Gr.pw
  rw [Int.zero_pow (by omega)]
  simp
theorem Gr.pw_of_nat (m a e : Nat) : Gr.pw (m : Int) (a : Int) (e : Int) = ((a ^ e % m : Nat) : Int) := by
  unfold Gr.pw
  simp
theorem Gr.pw_step (m a e : Int) (he : 0 ≤ e) : Gr.pw m a (e + 1) = Gr.pw m a e * a % m := by
  unfold Gr.pw
  rw [show (e + 1).toNat = e.toNat + 1 by omega, Int.pow_succ, Int.mul_emod]
  conv => rhs; rw [Int.mul_emod, Int.emod_emod]
/-- What a round of the reckoning by squares keeps. -/
theorem Gr.pw_even (m a e : Int) (he : 0 ≤ e) (h : e % 2 = 0) : Gr.pw m (a * a % m) (e / 2) = Gr.pw m a e := by
  rw [Gr.pw_mod]
  unfold Gr.pw
  rw [show e.toNat = 2 * (e / 2).toNat by omega, Int.pow_mul, show a ^ 2 = a * a by rw [Int.pow_succ, Int.pow_one]]
theorem Gr.pw_odd (m a e o : Int) (he : 0 ≤ e) (h : e % 2 = 1) : o * a % m * Gr.pw m (a * a % m) (e / 2) % m = o * Gr.pw m a e % m := by
  have h1 : Gr.pw m a e = Gr.pw m (a * a % m) (e / 2) * a % m := by
    have h2 := Gr.pw_even m a (e - 1) (by omega) (by omega)
    rw [show (e - 1) / 2 = e / 2 by omega] at h2
    have h3 := Gr.pw_step m a (e - 1) (by omega)
    rw [show e - 1 + 1 = e by omega] at h3
    rw [h2, h3]
  rw [h1]
  generalize Gr.pw m (a * a % m) (e / 2) = x
  rw [Int.mul_emod (o * a % m), Int.emod_emod, ← Int.mul_emod, Int.mul_emod o (x * a % m), Int.emod_emod, ← Int.mul_emod]
  congr 1
  rw [Int.mul_assoc, Int.mul_comm a x]

/-! The group -/
/-- a is an element of the group modulo p of order q. -/
structure Gr.El (p q a : Int) : Prop where
  pos : 1 ≤ a
  lt : a < p
  one : Gr.pw p a q = 1
theorem Gr.El.of_one {p q a : Int} (hq : 0 < q) (h0 : 0 ≤ a) (h1 : a < p) (h : Gr.pw p a q = 1) : Gr.El p q a := by
  refine ⟨?_, h1, h⟩
  by_cases ha : a = 0
  · rw [ha, Gr.pw_nought p q hq] at h; omega
  · omega
theorem Gr.El.mul {p q a b : Int} (hq : 0 < q) (ha : Gr.El p q a) (hb : Gr.El p q b) : Gr.El p q (a * b % p) := by
  have hp : 1 < p ∨ p = 1 := by have := ha.pos; have := ha.lt; omega
  have hp1 : 1 < p := by have := ha.pos; have := ha.lt; omega
  refine .of_one hq (Int.emod_nonneg _ (by omega)) (Int.emod_lt_of_pos _ (by omega)) ?_
  rw [Gr.pw_prod, ha.one, hb.one]
  exact Int.emod_eq_of_lt (by omega) (by omega)
theorem Gr.El.pow {p q a : Int} (hq : 0 < q) (ha : Gr.El p q a) (e : Int) (he : 0 ≤ e) : Gr.El p q (Gr.pw p a e) := by
  have hp1 : 1 < p := by have := ha.pos; have := ha.lt; omega
  refine .of_one hq (Gr.pw_bd p a e (by omega)).1 (Gr.pw_bd p a e (by omega)).2 ?_
  rw [Gr.pw_pw p a e q he (by omega), Int.mul_comm, ← Gr.pw_pw p a q e (by omega) he, ha.one, Gr.pw_unit p e hp1]
theorem Gr.El.turn {p q a : Int} (hq : 0 < q) (ha : Gr.El p q a) (e f : Int) (he : 0 ≤ e) (hf : 0 ≤ f) : Gr.pw p a (q * f + e) = Gr.pw p a e := by
  have hp1 : 1 < p := by have := ha.pos; have := ha.lt; omega
  have hb := Gr.pw_bd p a e (by omega)
  rw [Gr.pw_add p a _ e (Int.mul_nonneg (by omega) hf) he, ← Gr.pw_pw p a q f (by omega) hf, ha.one, Gr.pw_unit p f hp1, Int.one_mul]
  exact Int.emod_eq_of_lt hb.1 hb.2
theorem Gr.El.cyc {p q a : Int} (hq : 0 < q) (ha : Gr.El p q a) (e : Int) (he : 0 ≤ e) : Gr.pw p a (e % q) = Gr.pw p a e := by
  have h := ha.turn hq (e % q) (e / q) (Int.emod_nonneg _ (by omega)) (Int.ediv_nonneg he (by omega))
  rw [Int.mul_ediv_add_emod] at h
  exact h.symm
theorem Gr.El.inv {p q a : Int} (hq : 0 < q) (ha : Gr.El p q a) : a * Gr.pw p a (q - 1) % p = 1 := by
  have h := Gr.pw_step p a (q - 1) (by omega)
  rw [show q - 1 + 1 = q by omega, ha.one, Int.mul_comm] at h
  exact h.symm
theorem Gr.El.inv_inv {p q a : Int} (hq : 2 ≤ q) (ha : Gr.El p q a) : Gr.pw p (Gr.pw p a (q - 1)) (q - 1) = a := by
  rw [Gr.pw_pw p a _ _ (by omega) (by omega), show (q - 1) * (q - 1) = q * (q - 2) + 1 by rw [Int.mul_sub, Int.sub_mul, Int.mul_sub]; omega, ha.turn (by omega) 1 _ (by omega) (by omega)]
  exact Gr.pw_one p a (by have := ha.pos; omega) ha.lt
/-- A number's inverse modulo the prime q. -/
theorem Gr.scalar_inv {q : Nat} (h : Gr.Prime q) (x : Int) (h0 : 1 ≤ x) (h1 : x < (q : Int)) : x * Gr.pw (q : Int) x ((q : Int) - 2) % (q : Int) = 1 := by
  have hq := h.1
  obtain ⟨n, rfl⟩ := Int.eq_ofNat_of_zero_le (show 0 ≤ x by omega)
  have hf := Gr.fermat h n (by omega) (by omega)
  have hs := Gr.pw_step (q : Int) (n : Int) ((q : Int) - 2) (by omega)
  rw [Int.mul_comm, ← hs, show (q : Int) - 2 + 1 = ((q - 1 : Nat) : Int) by omega, Gr.pw_of_nat, hf]
  rfl
theorem Gr.El.not_one {p : Int} {q : Nat} (h : Gr.Prime q) {a : Int} (ha : Gr.El p (q : Int) a) (h1 : a ≠ 1) (s : Int) (hs0 : 1 ≤ s) (hs1 : s < (q : Int)) : Gr.pw p a s ≠ 1 := by
  intro e
  have hq := h.1
  have hp1 : 1 < p := by have := ha.pos; have := ha.lt; omega
  have hi := Gr.scalar_inv h s hs0 hs1
  have hn := (Gr.pw_bd (q : Int) s ((q : Int) - 2) (by omega)).1
  have hc := ha.cyc (by omega) (s * Gr.pw (q : Int) s ((q : Int) - 2)) (Int.mul_nonneg (by omega) hn)
  rw [hi, Gr.pw_one p a (by have := ha.pos; omega) ha.lt, ← Gr.pw_pw p a s _ (by omega) hn, e, Gr.pw_unit p _ hp1] at hc
  exact h1 hc

/-! The group of the document: p is 2147483579, q is 1073741789. -/
abbrev Gr.E (a : Int) : Prop := Gr.El 2147483579 1073741789 a
/-- A power, reckoned by squares; k bounds the number of the exponent's bits. -/
def Gr.fast (m : Int) : Nat → Int → Int → Int → Int
  | 0, o, _, _ => o
  | k + 1, o, a, e => Gr.fast m k (if e % 2 = 1 then o * a % m else o) (a * a % m) (e / 2)
theorem Gr.fast_eq (m : Int) (hm : 1 < m) : ∀ (k : Nat) (o a e : Int), 0 ≤ o → o < m → 0 ≤ e → e < 2 ^ k → Gr.fast m k o a e = o * Gr.pw m a e % m := by
  intro k
  induction k with
  | zero =>
    intro o a e h0 h1 h2 h3
    have he : e = 0 := by simp at h3; omega
    rw [he, Gr.pw_zero m a 0 hm (by omega), Int.mul_one, Gr.fast]
    exact (Int.emod_eq_of_lt h0 h1).symm
  | succ k ih =>
    intro o a e h0 h1 h2 h3
    rw [Int.pow_succ] at h3
    rw [Gr.fast]
    by_cases h : e % 2 = 1
    · rw [if_pos h, ih _ _ _ (Int.emod_nonneg _ (by omega)) (Int.emod_lt_of_pos _ (by omega)) (by omega) (by omega)]
      exact Gr.pw_odd m a e o h2 h
    · rw [if_neg h, ih _ _ _ h0 h1 (by omega) (by omega), Gr.pw_even m a e h2 (by omega)]
theorem Gr.base_one : Gr.pw 2147483579 4 1073741789 = 1 := by
  have h := Gr.fast_eq 2147483579 (by decide) 31 1 4 1073741789 (by decide) (by decide) (by decide) (by decide)
  have hb := Gr.pw_bd 2147483579 4 1073741789 (by decide)
  rw [Int.one_mul, Int.emod_eq_of_lt hb.1 hb.2] at h
  rw [← h]
  decide +kernel
theorem Gr.base : Gr.E 4 := ⟨by decide, by decide, Gr.base_one⟩
theorem Gr.E_inv (a : Int) (ha : Gr.E a) : Gr.pw 2147483579 a 2147483577 = Gr.pw 2147483579 a 1073741788 :=
  ha.turn (by decide) 1073741788 1 (by decide) (by decide)
theorem Gr.key_not_one (s : Int) (h0 : 1 ≤ s) (h1 : s < 1073741789) : Gr.pw 2147483579 4 s ≠ 1 :=
  Gr.El.not_one (q := 1073741789) Gr.order_prime Gr.base (by decide) s h0 h1
theorem Gr.scalar (x : Int) (h0 : 1 ≤ x) (h1 : x < 1073741789) : x * Gr.pw 1073741789 x 1073741787 % 1073741789 = 1 :=
  Gr.scalar_inv (q := 1073741789) Gr.order_prime x h0 h1
end Go.Proofs.Ytohameoomlehlab

/-
  Contracts of chapter 4: the group, of the program and of the model.
-/
namespace Go.Proofs.Ytohameoomlehlab
open Go.RowKit

theorem Gr.mul_bd (a b : Int) (m : Int) (ha : 0 ≤ a) (ha2 : a < m) (hb : 0 ≤ b) (hb2 : b < m) (hm : m ≤ 2147483648) : 0 ≤ a * b ∧ a * b ≤ 4611686018427387904 := by
  refine ⟨Int.mul_nonneg ha hb, ?_⟩
  have h1 : a * b ≤ 2147483648 * b := Int.mul_le_mul_of_nonneg_right (by omega) hb
  omega

theorem heap_new3 (w : World) (A B C : Obj) : (((w.alloc A).alloc B).alloc C).heap[w.heap.size + 1 + 1]? = some C := by
  show (((w.heap.push A).push B).push C)[w.heap.size + 1 + 1]? = some C
  rw [Array.getElem?_push, if_pos (by simp)]
theorem heap_new2 (w : World) (A B C : Obj) : (((w.alloc A).alloc B).alloc C).heap[w.heap.size + 1]? = some B := by
  show (((w.heap.push A).push B).push C)[w.heap.size + 1]? = some B
  rw [Array.getElem?_push, if_neg (by simp), Array.getElem?_push, if_pos (by simp)]
theorem heap_new1 (w : World) (A B C : Obj) : (((w.alloc A).alloc B).alloc C).heap[w.heap.size]? = some A := by
  show (((w.heap.push A).push B).push C)[w.heap.size]? = some A
  rw [Array.getElem?_push, if_neg (by simp; omega), Array.getElem?_push, if_neg (by simp), Array.getElem?_push, if_pos rfl]
theorem heap_newA (w : World) (A B : Obj) : ((w.alloc A).alloc B).heap[w.heap.size]? = some A := by
  show ((w.heap.push A).push B)[w.heap.size]? = some A
  rw [Array.getElem?_push, if_neg (by simp), Array.getElem?_push, if_pos rfl]
theorem heap_newB (w : World) (A B : Obj) : ((w.alloc A).alloc B).heap[w.heap.size + 1]? = some B := by
  show ((w.heap.push A).push B)[w.heap.size + 1]? = some B
  rw [Array.getElem?_push, if_pos (by simp)]
theorem below_alloc {w w1 : World} (h : Below w.heap.size w w1) (A : Obj) : Below w.heap.size w (w1.alloc A) := h.alloc h.size A
/-- Block B holds a residue. -/
structure Bx (B : Nat) (n m : Int) (w : World) : Prop where
  held : w.heap[B]? = some (.cells #[.int .i64 n, .int .i64 m] 89 (0, 0))
theorem Bx.c0 {B : Nat} {n m : Int} {w : World} (h : Bx B n m w) : w.cell? ⟨B, 0, none⟩ = some (.int .i64 n) := by have := h.held; simp [World.cell?, this]
theorem Bx.c1 {B : Nat} {n m : Int} {w : World} (h : Bx B n m w) : w.cell? ⟨B, 1, none⟩ = some (.int .i64 m) := by have := h.held; simp [World.cell?, this]
theorem Bx.f0 {B : Nat} {n m : Int} {w : World} (h : Bx B n m w) (i : Nat) : w.frozen? ⟨B, i, none⟩ = false := by have := h.held; simp [World.frozen?, this]
theorem Bx.lt {B : Nat} {n m : Int} {w : World} (h : Bx B n m w) : B < w.heap.size := lt_of_block h.held
theorem Bx.below {B : Nat} {n m : Int} {w w' : World} (h : Bx B n m w) (hb : Below w.heap.size w w') : Bx B n m w' := ⟨(hb.block B h.lt).trans h.held⟩
theorem Bx.store {B : Nat} {n m : Int} {w : World} (h : Bx B n m w) (n' m' : Int) : Bx B n' m' ((w.setCell ⟨B, 0, none⟩ (.int .i64 n')).setCell ⟨B, 1, none⟩ (.int .i64 m')) := ⟨block_setCell (block_setCell h.held 0 _) 1 _⟩
theorem Bx.other {B : Nat} {n m : Int} {w : World} (h : Bx B n m w) (C : Nat) (hC : B ≠ C) (x y : Value) : Bx B n m ((w.setCell ⟨C, 0, none⟩ x).setCell ⟨C, 1, none⟩ y) :=
  ⟨(Below.heap_setCell _ _ _ _ hC).trans ((Below.heap_setCell _ _ _ _ hC).trans h.held)⟩
theorem below_store {w w1 : World} (h : Below w.heap.size w w1) (B : Nat) (hB : w.heap.size ≤ B) (x y : Value) : Below w.heap.size w ((w1.setCell ⟨B, 0, none⟩ x).setCell ⟨B, 1, none⟩ y) := (h.setCell hB x).setCell hB y
theorem below_after {w w1 w2 : World} (h : Below w.heap.size w w1) (k : Below w1.heap.size w1 w2) : Below w.heap.size w w2 := h.trans (k.mono h.size)
theorem results_cell_row2 {P : Program} {fn : Func} {p u : Tmp} {ty : TypeId} (h : fn.results = #[.cell p ty, .tmp u]) (tmps : Array Value) (w : World) (g : Nat) (t : TypeId) (cs : Array Value) (fr : Nat × Nat) (d : TypeDesc)
    (hp : tmps.getD p undef = .pointer (some ⟨g, 0, none⟩)) (hg : w.heap[g]? = some (.cells cs t fr))
    (hu : P.underlying ty = some d) (hd : (match d with | .struct _ | .array _ _ => true | _ => false) = true) (hi : (P.info? ty).map (·.size) = some cs.size) :
    (results fn tmps).run P w = .ok (.tuple #[.agg cs, tmps.getD u undef]) w := by
  rw [results_cell_tmp h]
  have hp' : tmps[p]?.getD undef = .pointer (some ⟨g, 0, none⟩) := by simpa using hp
  simp [Result.andThen, hp', asAddr, run_loadVar_row w g t ty cs fr d hg hu hd hi]
end Go.Proofs.Ytohameoomlehlab

/-
  Contracts of chapter 4: the functions that are asked, of the program and of the model.
-/
namespace Go.Proofs.Ytohameoomlehlab
open Go.RowKit

/-- Whether a is an element. -/
def Gr.ok (a : Int) : Bool := decide (1 ≤ a) && decide (a ≤ 2147483578) && decide (Gr.pw 2147483579 a 1073741789 = 1)
theorem Gr.ok_iff (a : Int) : Gr.ok a = true ↔ Gr.E a := by
  unfold Gr.ok
  rw [Bool.and_eq_true, Bool.and_eq_true, decide_eq_true_iff, decide_eq_true_iff, decide_eq_true_iff]
  exact ⟨fun h => ⟨h.1.1, by omega, h.2⟩, fun h => ⟨⟨h.pos, by have := h.lt; omega⟩, h.one⟩⟩
theorem Gr.ok_yes {a : Int} (h : Gr.E a) : Gr.ok a = true := (Gr.ok_iff a).mpr h
theorem Gr.ok_no {a : Int} (h : ¬ Gr.E a) : Gr.ok a = false := by
  cases hk : Gr.ok a
  · rfl
  · exact absurd ((Gr.ok_iff a).mp hk) h


/-- What GroupMul, GroupPow, GroupInv, ScalarInv and KeyOf answer beside true. -/
def Gr.mul (a b : Int) : Int := if Gr.ok a && Gr.ok b then a * b % 2147483579 else 0
def Gr.pok (a e : Int) : Bool := Gr.ok a && decide (0 ≤ e)
def Gr.pow (a e : Int) : Int := if Gr.pok a e then Gr.pw 2147483579 a e else 0
def Gr.inv (a : Int) : Int := if Gr.ok a then Gr.pw 2147483579 a 1073741788 else 0
def Gr.sok (x : Int) : Bool := decide (1 ≤ x) && decide (x ≤ 1073741788)
def Gr.sinv (x : Int) : Int := if Gr.sok x then Gr.pw 1073741789 x 1073741787 else 0
def Gr.key (x : Int) : Int := if Gr.sok x then Gr.pw 2147483579 4 x else 0
def Gr.kok (a : Int) : Bool := Gr.ok a && !(a == 1)
theorem Gr.E_bd {a : Int} (h : Gr.E a) : 1 ≤ a ∧ a ≤ 2147483578 := ⟨h.pos, by have := h.lt; omega⟩

end Go.Proofs.Ytohameoomlehlab

/-
  Contracts of chapter 4: scalars and keys, of the program and of the model; the rest of the model's group.
-/
namespace Go.Proofs.Ytohameoomlehlab
open Go.RowKit

theorem Gr.sok_yes {x : Int} (h0 : 1 ≤ x) (h1 : x ≤ 1073741788) : Gr.sok x = true := by unfold Gr.sok; simp [h0, h1]
theorem Gr.sok_no {x : Int} (h : ¬ (1 ≤ x ∧ x ≤ 1073741788)) : Gr.sok x = false := by unfold Gr.sok; simp; omega
theorem Gr.kok_one : Gr.kok 1 = false := by unfold Gr.kok; simp

end Go.Proofs.Ytohameoomlehlab

/-
  Plain: what the laws of chapter 4 ask.
-/
namespace Go.Proofs.Ytohameoomlehlab

theorem Gr.mul_comm (a b : Int) : Gr.mul b a = Gr.mul a b := by
  unfold Gr.mul
  rw [Bool.and_comm, Int.mul_comm]
theorem Gr.mul_ok {a b : Int} (ha : Gr.E a) (hb : Gr.E b) : Gr.mul a b = a * b % 2147483579 := by
  unfold Gr.mul
  rw [Gr.ok_yes ha, Gr.ok_yes hb, Bool.true_and, if_pos rfl]
theorem Gr.mul_E {a b : Int} (ha : Gr.E a) (hb : Gr.E b) : Gr.E (Gr.mul a b) := by
  rw [Gr.mul_ok ha hb]
  exact Gr.El.mul (by decide) ha hb
theorem Gr.pok_iff (a e : Int) : Gr.pok a e = true ↔ Gr.E a ∧ 0 ≤ e := by
  unfold Gr.pok
  rw [Bool.and_eq_true, Gr.ok_iff, decide_eq_true_iff]
theorem Gr.pow_ok {a e : Int} (ha : Gr.E a) (he : 0 ≤ e) : Gr.pow a e = Gr.pw 2147483579 a e := by
  unfold Gr.pow
  rw [(Gr.pok_iff a e).mpr ⟨ha, he⟩, if_pos rfl]
theorem Gr.pow_E {a e : Int} (ha : Gr.E a) (he : 0 ≤ e) : Gr.E (Gr.pow a e) := by
  rw [Gr.pow_ok ha he]
  exact Gr.El.pow (by decide) ha e he
theorem Gr.pow_more {a e : Int} (ha : Gr.E a) (he : 0 ≤ e) : Gr.pow a (e + 1) = Gr.mul (Gr.pow a e) a := by
  rw [Gr.mul_ok (Gr.pow_E ha he) ha, Gr.pow_ok ha he, Gr.pow_ok ha (by omega)]
  exact Gr.pw_step _ _ _ he
theorem Gr.inv_ok {a : Int} (ha : Gr.E a) : Gr.inv a = Gr.pw 2147483579 a 1073741788 := by
  unfold Gr.inv
  rw [Gr.ok_yes ha, if_pos rfl]
theorem Gr.inv_E {a : Int} (ha : Gr.E a) : Gr.E (Gr.inv a) := by
  rw [Gr.inv_ok ha]
  exact Gr.El.pow (by decide) ha 1073741788 (by decide)
theorem Gr.mul_inv {a : Int} (ha : Gr.E a) : Gr.mul a (Gr.inv a) = 1 := by
  rw [Gr.mul_ok ha (Gr.inv_E ha), Gr.inv_ok ha]
  exact Gr.El.inv (q := 1073741789) (by decide) ha
theorem Gr.inv_inv {a : Int} (ha : Gr.E a) : Gr.inv (Gr.inv a) = a := by
  rw [Gr.inv_ok (Gr.inv_E ha), Gr.inv_ok ha]
  exact Gr.El.inv_inv (q := 1073741789) (by decide) ha
theorem Gr.sok_iff (x : Int) : Gr.sok x = true ↔ 1 ≤ x ∧ x < 1073741789 := by
  unfold Gr.sok
  rw [Bool.and_eq_true, decide_eq_true_iff, decide_eq_true_iff]
  omega
theorem Gr.sinv_ok {x : Int} (h : Gr.sok x = true) : Gr.sinv x = Gr.pw 1073741789 x 1073741787 := by
  unfold Gr.sinv
  rw [h, if_pos rfl]
theorem Gr.sinv_mul {x : Int} (h : Gr.sok x = true) : x * Gr.sinv x % 1073741789 = 1 := by
  rw [Gr.sinv_ok h]
  have := (Gr.sok_iff x).mp h
  exact Gr.scalar x this.1 this.2
theorem Gr.sinv_bd {x : Int} (h : Gr.sok x = true) : 0 ≤ Gr.sinv x ∧ Gr.sinv x < 1073741789 := by
  rw [Gr.sinv_ok h]
  exact Gr.pw_bd _ _ _ (by decide)
theorem Gr.key_ok {x : Int} (h : Gr.sok x = true) : Gr.key x = Gr.pow 4 x := by
  rw [Gr.pow_ok Gr.base (by have := (Gr.sok_iff x).mp h; omega)]
  unfold Gr.key
  rw [h, if_pos rfl]
theorem Gr.key_kok {x : Int} (h : Gr.sok x = true) : Gr.kok (Gr.key x) = true := by
  have hx := (Gr.sok_iff x).mp h
  have h1 : Gr.key x ≠ 1 := by
    rw [Gr.key_ok h, Gr.pow_ok Gr.base (by omega)]
    exact Gr.key_not_one x hx.1 hx.2
  have h2 : Gr.E (Gr.key x) := by
    rw [Gr.key_ok h]
    exact Gr.pow_E Gr.base (by omega)
  unfold Gr.kok
  rw [Gr.ok_yes h2, Bool.true_and]
  simpa using h1
theorem Gr.pow_add {a e f : Int} (ha : Gr.E a) (he : 0 ≤ e) (hf : 0 ≤ f) : Gr.mul (Gr.pow a e) (Gr.pow a f) = Gr.pow a ((e + f) % 1073741789) := by
  rw [Gr.mul_ok (Gr.pow_E ha he) (Gr.pow_E ha hf), Gr.pow_ok ha he, Gr.pow_ok ha hf, Gr.pow_ok ha (Int.emod_nonneg _ (by decide)), ← Gr.pw_add _ _ _ _ he hf]
  exact (Gr.El.cyc (q := 1073741789) (by decide) ha (e + f) (by omega)).symm
end Go.Proofs.Ytohameoomlehlab
