/-
  Plain: what the laws of chapter 4 ask.
-/
import Derived.Test.YtpldoffjclmacabGd
namespace Go.Proofs.Ytpldoffjclmacab

theorem Gr.mul_comm (a b : Int) : Gr.mul b a = Gr.mul a b := by
  unfold Gr.mul
  rw [Bool.and_comm, Int.mul_comm]
theorem Gr.mul_ok {a b : Int} (ha : Gr.E a) (hb : Gr.E b) : Gr.mul a b = a * b % 2147483579 := by
  unfold Gr.mul
  rw [Gr.ok_yes ha, Gr.ok_yes hb, Bool.true_and, if_pos rfl]
theorem Gr.mul_E {a b : Int} (ha : Gr.E a) (hb : Gr.E b) : Gr.E (Gr.mul a b) := by
  rw [Gr.mul_ok ha hb]
  exact Gr.El.mul (by decide) ha hb
theorem Gr.pok_iff (a e : Int) : Gr.pok a e = true ↔ Gr.E a ∧ 0 ≤ e := by
  unfold Gr.pok
  rw [Bool.and_eq_true, Gr.ok_iff, decide_eq_true_iff]
theorem Gr.pow_ok {a e : Int} (ha : Gr.E a) (he : 0 ≤ e) : Gr.pow a e = Gr.pw 2147483579 a e := by
  unfold Gr.pow
  rw [(Gr.pok_iff a e).mpr ⟨ha, he⟩, if_pos rfl]
theorem Gr.pow_E {a e : Int} (ha : Gr.E a) (he : 0 ≤ e) : Gr.E (Gr.pow a e) := by
  rw [Gr.pow_ok ha he]
  exact Gr.El.pow (by decide) ha e he
theorem Gr.pow_more {a e : Int} (ha : Gr.E a) (he : 0 ≤ e) : Gr.pow a (e + 1) = Gr.mul (Gr.pow a e) a := by
  rw [Gr.mul_ok (Gr.pow_E ha he) ha, Gr.pow_ok ha he, Gr.pow_ok ha (by omega)]
  exact Gr.pw_step _ _ _ he
theorem Gr.inv_ok {a : Int} (ha : Gr.E a) : Gr.inv a = Gr.pw 2147483579 a 1073741788 := by
  unfold Gr.inv
  rw [Gr.ok_yes ha, if_pos rfl]
theorem Gr.inv_E {a : Int} (ha : Gr.E a) : Gr.E (Gr.inv a) := by
  rw [Gr.inv_ok ha]
  exact Gr.El.pow (by decide) ha 1073741788 (by decide)
theorem Gr.mul_inv {a : Int} (ha : Gr.E a) : Gr.mul a (Gr.inv a) = 1 := by
  rw [Gr.mul_ok ha (Gr.inv_E ha), Gr.inv_ok ha]
  exact Gr.El.inv (q := 1073741789) (by decide) ha
theorem Gr.inv_inv {a : Int} (ha : Gr.E a) : Gr.inv (Gr.inv a) = a := by
  rw [Gr.inv_ok (Gr.inv_E ha), Gr.inv_ok ha]
  exact Gr.El.inv_inv (q := 1073741789) (by decide) ha
theorem Gr.sok_iff (x : Int) : Gr.sok x = true ↔ 1 ≤ x ∧ x < 1073741789 := by
  unfold Gr.sok
  rw [Bool.and_eq_true, decide_eq_true_iff, decide_eq_true_iff]
  omega
theorem Gr.sinv_ok {x : Int} (h : Gr.sok x = true) : Gr.sinv x = Gr.pw 1073741789 x 1073741787 := by
  unfold Gr.sinv
  rw [h, if_pos rfl]
theorem Gr.sinv_mul {x : Int} (h : Gr.sok x = true) : x * Gr.sinv x % 1073741789 = 1 := by
  rw [Gr.sinv_ok h]
  have := (Gr.sok_iff x).mp h
  exact Gr.scalar x this.1 this.2
theorem Gr.sinv_bd {x : Int} (h : Gr.sok x = true) : 0 ≤ Gr.sinv x ∧ Gr.sinv x < 1073741789 := by
  rw [Gr.sinv_ok h]
  exact Gr.pw_bd _ _ _ (by decide)
theorem Gr.key_ok {x : Int} (h : Gr.sok x = true) : Gr.key x = Gr.pow 4 x := by
  rw [Gr.pow_ok Gr.base (by have := (Gr.sok_iff x).mp h; omega)]
  unfold Gr.key
  rw [h, if_pos rfl]
theorem Gr.key_kok {x : Int} (h : Gr.sok x = true) : Gr.kok (Gr.key x) = true := by
  have hx := (Gr.sok_iff x).mp h
  have h1 : Gr.key x ≠ 1 := by
    rw [Gr.key_ok h, Gr.pow_ok Gr.base (by omega)]
    exact Gr.key_not_one x hx.1 hx.2
  have h2 : Gr.E (Gr.key x) := by
    rw [Gr.key_ok h]
    exact Gr.pow_E Gr.base (by omega)
  unfold Gr.kok
  rw [Gr.ok_yes h2, Bool.true_and]
  simpa using h1
theorem Gr.pow_add {a e f : Int} (ha : Gr.E a) (he : 0 ≤ e) (hf : 0 ≤ f) : Gr.mul (Gr.pow a e) (Gr.pow a f) = Gr.pow a ((e + f) % 1073741789) := by
  rw [Gr.mul_ok (Gr.pow_E ha he) (Gr.pow_E ha hf), Gr.pow_ok ha he, Gr.pow_ok ha hf, Gr.pow_ok ha (Int.emod_nonneg _ (by decide)), ← Gr.pw_add _ _ _ _ he hf]
  exact (Gr.El.cyc (q := 1073741789) (by decide) ha (e + f) (by omega)).symm
end Go.Proofs.Ytpldoffjclmacab
