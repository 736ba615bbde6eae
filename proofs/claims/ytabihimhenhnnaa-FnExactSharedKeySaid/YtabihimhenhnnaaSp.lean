/-
  Shared keys, plain: weights, the product of powers, sums of nonces and secrets; what is signed together is valid for the shared key.
-/
import Derived.Test.YtabihimhenhnnaaSg
namespace Go.Proofs.Ytabihimhenhnnaa

def Sd.word : ByteArray := ⟨#[119, 101, 105, 103, 104, 116]⟩
def Sd.text (ks : List Int) : Nat → ByteArray
  | 0 => Sd.word
  | j + 1 => Sd.text ks j ++ Dg.bytes (ks.getD j 0)
def Sd.wt (ks : List Int) (i : Nat) : Int := 1 + Dg.of (Sd.text ks ks.length ++ Dg.bytes (ks.getD i 0)) % 1073741788
theorem Sd.wt_bd (ks : List Int) (i : Nat) : 1 ≤ Sd.wt ks i ∧ Sd.wt ks i < 1073741789 := by unfold Sd.wt; omega
def Sd.prod (ks : List Int) : Nat → Int
  | 0 => 1
  | j + 1 => Sd.prod ks j * Gr.pw 2147483579 (ks.getD j 0) (Sd.wt ks j) % 2147483579
def Sd.key (ks : List Int) : Int := Sd.prod ks ks.length
theorem Sd.prod_bd (ks : List Int) (j : Nat) : 0 ≤ Sd.prod ks j ∧ Sd.prod ks j < 2147483579 := by
  cases j with
  | zero => exact ⟨(show (0 : Int) ≤ 1 by decide), (show (1 : Int) < 2147483579 by decide)⟩
  | succ j => exact ⟨Int.emod_nonneg _ (by decide), Int.emod_lt_of_pos _ (by decide)⟩
def Sd.good (ks : List Int) : Nat → Bool
  | 0 => true
  | j + 1 => Sd.good ks j && Gr.kok (ks.getD j 0)
def Sd.room (n : Nat) : Bool := decide (1 ≤ n) && decide (n ≤ 8)
def Sd.ok (ks : List Int) : Bool := Sd.room ks.length && Sd.good ks ks.length && !(Sd.key ks == 1)
def Sd.res (ks : List Int) : Int := if Sd.ok ks then Sd.key ks else 0
theorem Sd.good_at (ks : List Int) : ∀ n, Sd.good ks n = true → ∀ j, j < n → Gr.kok (ks.getD j 0) = true := by
  intro n
  induction n with
  | zero => intro _ j hj; omega
  | succ n ih =>
    intro h j hj
    unfold Sd.good at h
    rw [Bool.and_eq_true] at h
    by_cases hjn : j = n
    · rw [hjn]; exact h.2
    · exact ih h.1 j (by omega)
theorem Sd.good_no (ks : List Int) (k : Nat) (h : Gr.kok (ks.getD k 0) = false) : ∀ n, k < n → Sd.good ks n = false := by
  intro n
  induction n with
  | zero => intro hk; omega
  | succ n ih =>
    intro hk
    unfold Sd.good
    by_cases hkn : k = n
    · rw [← hkn, h, Bool.and_false]
    · rw [ih (by omega), Bool.false_and]
theorem Sd.good_all (ks : List Int) : ∀ n, (∀ j, j < n → Gr.kok (ks.getD j 0) = true) → Sd.good ks n = true := by
  intro n
  induction n with
  | zero => intro _; rfl
  | succ n ih =>
    intro h
    unfold Sd.good
    rw [ih (fun j hj => h j (by omega)), h n (by omega)]
    rfl
theorem Gr.one_E : Gr.E 1 := by
  have := Sg.gp_E (e := 0) (by decide)
  rwa [show Sg.gp 0 = 1 by decide] at this
theorem Sd.prod_E (ks : List Int) : ∀ n, Sd.good ks n = true → Gr.E (Sd.prod ks n) := by
  intro n
  induction n with
  | zero => intro _; exact Gr.one_E
  | succ n ih =>
    intro h
    unfold Sd.good at h
    rw [Bool.and_eq_true] at h
    exact Gr.El.mul (by decide) (ih h.1) (Gr.pE ((Sg.kok_iff _).mp h.2).1 _ (by have := Sd.wt_bd ks n; omega))
/-- A shared key is a key. -/
theorem Sd.key_kok {ks : List Int} (h : Sd.ok ks = true) : Gr.kok (Sd.key ks) = true := by
  unfold Sd.ok at h
  rw [Bool.and_eq_true, Bool.and_eq_true, Bool.not_eq_true', beq_eq_false_iff_ne] at h
  exact (Sg.kok_iff _).mpr ⟨Sd.prod_E ks _ h.1.2, h.2⟩
/-! Signing together -/
def Sd.keys (us : List Int) : List Int := us.map Gr.key
theorem Sd.keys_len (us : List Int) : (Sd.keys us).length = us.length := List.length_map ..
theorem Sd.keys_get (us : List Int) (j : Nat) (hj : j < us.length) : (Sd.keys us).getD j 0 = Gr.key (us.getD j 0) := by
  unfold Sd.keys
  rw [List.getD_eq_getElem?_getD, List.getD_eq_getElem?_getD, List.getElem?_map, List.getElem?_eq_getElem hj]
  rfl
def Sd.ns (us : List Int) (t : ByteArray) : Nat → Int
  | 0 => 0
  | j + 1 => (Sd.ns us t j + Sg.no (us.getD j 0) t) % 1073741789
def Sd.xs (us : List Int) : Nat → Int
  | 0 => 0
  | j + 1 => (Sd.xs us j + Sd.wt (Sd.keys us) j * us.getD j 0 % 1073741789) % 1073741789
def Sd.rp (us : List Int) (t : ByteArray) : Nat → Int
  | 0 => 1
  | j + 1 => Sd.rp us t j * Sg.gp (Sg.no (us.getD j 0) t) % 2147483579
def Sd.sm (us : List Int) (t : ByteArray) (e : Int) : Nat → Int
  | 0 => 0
  | j + 1 => (Sd.sm us t e j + Sg.no (us.getD j 0) t + e * Sd.wt (Sd.keys us) j % 1073741789 * us.getD j 0 % 1073741789) % 1073741789
theorem Sd.ns_bd (us : List Int) (t : ByteArray) (j : Nat) : 0 ≤ Sd.ns us t j ∧ Sd.ns us t j < 1073741789 := by
  cases j with
  | zero => exact ⟨(show (0 : Int) ≤ 0 by decide), (show (0 : Int) < 1073741789 by decide)⟩
  | succ j => exact ⟨Int.emod_nonneg _ (by decide), Int.emod_lt_of_pos _ (by decide)⟩
theorem Sd.xs_bd (us : List Int) (j : Nat) : 0 ≤ Sd.xs us j ∧ Sd.xs us j < 1073741789 := by
  cases j with
  | zero => exact ⟨(show (0 : Int) ≤ 0 by decide), (show (0 : Int) < 1073741789 by decide)⟩
  | succ j => exact ⟨Int.emod_nonneg _ (by decide), Int.emod_lt_of_pos _ (by decide)⟩
theorem Sd.rp_bd (us : List Int) (t : ByteArray) (j : Nat) : 0 ≤ Sd.rp us t j ∧ Sd.rp us t j < 2147483579 := by
  cases j with
  | zero => exact ⟨(show (0 : Int) ≤ 1 by decide), (show (1 : Int) < 2147483579 by decide)⟩
  | succ j => exact ⟨Int.emod_nonneg _ (by decide), Int.emod_lt_of_pos _ (by decide)⟩
theorem Sd.sm_bd (us : List Int) (t : ByteArray) (e : Int) (j : Nat) : 0 ≤ Sd.sm us t e j ∧ Sd.sm us t e j < 1073741789 := by
  cases j with
  | zero => exact ⟨(show (0 : Int) ≤ 0 by decide), (show (0 : Int) < 1073741789 by decide)⟩
  | succ j => exact ⟨Int.emod_nonneg _ (by decide), Int.emod_lt_of_pos _ (by decide)⟩
theorem Sd.rp_eq (us : List Int) (t : ByteArray) : ∀ n, Sd.rp us t n = Sg.gp (Sd.ns us t n) := by
  intro n
  induction n with
  | zero => rfl
  | succ n ih =>
    have h1 := Sd.ns_bd us t n
    have h2 := Sg.no_bd (us.getD n 0) t
    unfold Sd.rp Sd.ns
    rw [ih, Sg.gp_cyc _ (by omega), Sg.gp_add _ _ h1.1 (by omega)]
theorem Gr.mulq (a b : Int) : a % 1073741789 * b % 1073741789 = a * b % 1073741789 := by rw [Int.mul_emod, Int.emod_emod, ← Int.mul_emod]
theorem Gr.mulq' (a b : Int) : a * (b % 1073741789) % 1073741789 = a * b % 1073741789 := by rw [Int.mul_comm, Gr.mulq, Int.mul_comm]
theorem Sd.sm_eq (us : List Int) (t : ByteArray) (e : Int) : ∀ n, Sd.sm us t e n = (Sd.ns us t n + e * Sd.xs us n) % 1073741789 := by
  intro n
  induction n with
  | zero => show (0 : Int) = (0 + e * 0) % 1073741789; rw [Int.mul_zero]; rfl
  | succ n ih =>
    unfold Sd.sm Sd.ns Sd.xs
    rw [ih]
    have h1 : e * ((Sd.xs us n + Sd.wt (Sd.keys us) n * us.getD n 0 % 1073741789) % 1073741789) % 1073741789 = (e * Sd.xs us n + e * (Sd.wt (Sd.keys us) n * us.getD n 0)) % 1073741789 := by
      rw [Gr.mulq', Int.mul_add, Int.add_emod, Gr.mulq', ← Int.add_emod]
    have h2 : e * Sd.wt (Sd.keys us) n % 1073741789 * us.getD n 0 % 1073741789 = e * (Sd.wt (Sd.keys us) n * us.getD n 0) % 1073741789 := by
      rw [Gr.mulq, Int.mul_assoc]
    rw [h2]
    generalize e * ((Sd.xs us n + Sd.wt (Sd.keys us) n * us.getD n 0 % 1073741789) % 1073741789) = A at h1
    generalize e * Sd.xs us n = X at h1 ⊢
    generalize e * (Sd.wt (Sd.keys us) n * us.getD n 0) = Y at h1 ⊢
    omega
def Sd.sgood (us : List Int) : Nat → Bool
  | 0 => true
  | j + 1 => Sd.sgood us j && Gr.sok (us.getD j 0)
theorem Sd.sgood_at (us : List Int) : ∀ n, Sd.sgood us n = true → ∀ j, j < n → Gr.sok (us.getD j 0) = true := by
  intro n
  induction n with
  | zero => intro _ j hj; omega
  | succ n ih =>
    intro h j hj
    unfold Sd.sgood at h
    rw [Bool.and_eq_true] at h
    by_cases hjn : j = n
    · rw [hjn]; exact h.2
    · exact ih h.1 j (by omega)
theorem Sd.sgood_no (us : List Int) (k : Nat) (h : Gr.sok (us.getD k 0) = false) : ∀ n, k < n → Sd.sgood us n = false := by
  intro n
  induction n with
  | zero => intro hk; omega
  | succ n ih =>
    intro hk
    unfold Sd.sgood
    by_cases hkn : k = n
    · rw [← hkn, h, Bool.and_false]
    · rw [ih (by omega), Bool.false_and]
theorem Sd.sgood_all (us : List Int) : ∀ n, (∀ j, j < n → Gr.sok (us.getD j 0) = true) → Sd.sgood us n = true := by
  intro n
  induction n with
  | zero => intro _; rfl
  | succ n ih =>
    intro h
    unfold Sd.sgood
    rw [ih (fun j hj => h j (by omega)), h n (by omega)]
    rfl
/-- The keys of secrets are keys. -/
theorem Sd.good_keys (us : List Int) (h : Sd.sgood us us.length = true) : Sd.good (Sd.keys us) (Sd.keys us).length = true := by
  apply Sd.good_all
  intro j hj
  rw [Sd.keys_len] at hj
  rw [Sd.keys_get us j hj]
  exact Gr.key_kok (Sd.sgood_at us _ h j hj)
theorem Sd.prod_eq (us : List Int) (h : Sd.sgood us us.length = true) : ∀ n, n ≤ us.length → Sd.prod (Sd.keys us) n = Sg.gp (Sd.xs us n) := by
  intro n
  induction n with
  | zero => intro _; rfl
  | succ n ih =>
    intro hn
    have hs := Sd.sgood_at us _ h n (by omega)
    have h1 := Sd.xs_bd us n
    have h2 := Sd.wt_bd (Sd.keys us) n
    have h3 := (Gr.sok_iff _).mp hs
    have hm : 0 ≤ us.getD n 0 * Sd.wt (Sd.keys us) n := Int.mul_nonneg (by omega) (by omega)
    unfold Sd.prod Sd.xs
    rw [ih (by omega), Sd.keys_get us n (by omega), Sg.key_ok hs, ← Sg.gp_mul _ _ (by omega) (by omega), ← Sg.gp_add _ _ h1.1 hm, Int.mul_comm (Sd.wt (Sd.keys us) n)]
    have : (Sd.xs us n + us.getD n 0 * Sd.wt (Sd.keys us) n % 1073741789) % 1073741789 = (Sd.xs us n + us.getD n 0 * Sd.wt (Sd.keys us) n) % 1073741789 := by
      generalize us.getD n 0 * Sd.wt (Sd.keys us) n = Y
      omega
    rw [this, Sg.gp_cyc _ (by omega)]
def Sd.sok (us : List Int) : Bool := Sd.room us.length && Sd.sgood us us.length && !(Sd.key (Sd.keys us) == 1)
def Sd.sr (us : List Int) (t : ByteArray) : Int := Sg.gp (Sd.ns us t us.length)
def Sd.sc (us : List Int) (t : ByteArray) : Int := Sg.ch (Sd.sr us t) (Sd.key (Sd.keys us)) t
def Sd.ss (us : List Int) (t : ByteArray) : Int := (Sd.ns us t us.length + Sd.sc us t * Sd.xs us us.length) % 1073741789
theorem Sd.sok_ok {us : List Int} (h : Sd.sok us = true) : Sd.ok (Sd.keys us) = true := by
  unfold Sd.sok at h
  rw [Bool.and_eq_true, Bool.and_eq_true] at h
  unfold Sd.ok
  rw [Sd.good_keys us h.1.2, Sd.keys_len, h.1.1, h.2]
  rfl
/-- What is signed together is valid for the shared key. -/
theorem Sd.sign_ver {us : List Int} (t : ByteArray) (h : Sd.sok us = true) : Sg.ver (Sd.key (Sd.keys us)) t (Sd.sr us t) (Sd.ss us t) = true := by
  have hk := (Sg.kok_iff _).mp (Sd.key_kok (Sd.sok_ok h))
  unfold Sd.sok at h
  rw [Bool.and_eq_true, Bool.and_eq_true] at h
  have hc := Sg.ch_bd (Sd.sr us t) (Sd.key (Sd.keys us)) t
  have hn := Sd.ns_bd us t us.length
  have hx := Sd.xs_bd us us.length
  refine (Sg.ver_iff _ _ _ _).mpr ⟨(Sg.shape_iff _ _ _).mpr ⟨hk, Sg.gp_E hn.1, ?_, ?_⟩, ?_⟩
  · exact Int.emod_nonneg _ (by decide)
  · exact Int.emod_lt_of_pos _ (by decide)
  · have hm : 0 ≤ Sd.sc us t * Sd.xs us us.length := Int.mul_nonneg hc.1 hx.1
    have hK : Sd.key (Sd.keys us) = Sg.gp (Sd.xs us us.length) := by
      unfold Sd.key
      rw [Sd.keys_len]
      exact Sd.prod_eq us h.1.2 _ (Nat.le_refl _)
    unfold Sd.ss
    rw [Sg.gp_cyc _ (by omega), Sg.gp_add _ _ hn.1 hm, Int.mul_comm (Sd.sc us t), Sg.gp_mul (Sd.xs us us.length) (Sd.sc us t) hx.1 hc.1, ← hK]
    rfl
end Go.Proofs.Ytabihimhenhnnaa
