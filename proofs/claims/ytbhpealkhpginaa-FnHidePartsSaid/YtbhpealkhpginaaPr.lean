/-
  Shares, plain: as the program reckons them.
-/
import Derived.Test.YtbhpealkhpginaaPq
namespace Go.Proofs.Ytbhpealkhpginaa

/-- Behind the coefficients: the sum so far, and the next power of x. -/
def Po.st (x : Int) (s : Int × Int) (c : Int) : Int × Int := ((s.1 + s.2 * c % 1073741789) % 1073741789, s.2 * x % 1073741789)
def Po.fs (x : Int) (cs : List Int) : Int × Int := cs.foldl (Po.st x) (0, 1)
theorem Po.fs_nil (x : Int) : (Po.fs x []).1 = 0 ∧ (Po.fs x []).2 = 1 := ⟨rfl, rfl⟩
theorem Po.fs_snoc (x : Int) (cs : List Int) (c : Int) : (Po.fs x (cs ++ [c])).1 = ((Po.fs x cs).1 + (Po.fs x cs).2 * c % 1073741789) % 1073741789 ∧ (Po.fs x (cs ++ [c])).2 = (Po.fs x cs).2 * x % 1073741789 := by
  unfold Po.fs
  rw [List.foldl_append]
  exact ⟨rfl, rfl⟩
theorem Po.foldl_bd (x : Int) : ∀ (cs : List Int) (s : Int × Int), (0 ≤ s.1 ∧ s.1 < 1073741789) ∧ 0 ≤ s.2 ∧ s.2 < 1073741789 → (0 ≤ (cs.foldl (Po.st x) s).1 ∧ (cs.foldl (Po.st x) s).1 < 1073741789) ∧ 0 ≤ (cs.foldl (Po.st x) s).2 ∧ (cs.foldl (Po.st x) s).2 < 1073741789 := by
  intro cs
  induction cs with
  | nil => exact fun s h => h
  | cons c cs ih =>
    intro s _
    exact ih (Po.st x s c) ⟨⟨Int.emod_nonneg _ (by decide), Int.emod_lt_of_pos _ (by decide)⟩, Int.emod_nonneg _ (by decide), Int.emod_lt_of_pos _ (by decide)⟩
theorem Po.fs_bd (x : Int) (cs : List Int) : (0 ≤ (Po.fs x cs).1 ∧ (Po.fs x cs).1 < 1073741789) ∧ 0 ≤ (Po.fs x cs).2 ∧ (Po.fs x cs).2 < 1073741789 :=
  Po.foldl_bd x cs (0, 1) ⟨⟨(show (0 : Int) ≤ 0 by decide), (show (0 : Int) < 1073741789 by decide)⟩, (show (0 : Int) ≤ 1 by decide), (show (1 : Int) < 1073741789 by decide)⟩
theorem Po.foldl_ev (x : Int) : ∀ (cs : List Int) (s : Int × Int), (cs.foldl (Po.st x) s).1 % 1073741789 = (s.1 + s.2 * Po.ev cs x) % 1073741789 := by
  intro cs
  induction cs with
  | nil => intro s; show s.1 % _ = (s.1 + s.2 * 0) % _; rw [Int.mul_zero, Int.add_zero]
  | cons c cs ih =>
    rintro ⟨S, P⟩
    show (cs.foldl (Po.st x) (Po.st x (S, P) c)).1 % 1073741789 = (S + P * (Po.ev cs x * x + c)) % 1073741789
    rw [ih]
    show ((S + P * c % 1073741789) % 1073741789 + P * x % 1073741789 * Po.ev cs x) % 1073741789 = _
    have h1 : P * x % 1073741789 * Po.ev cs x % 1073741789 = P * x * Po.ev cs x % 1073741789 := Po.mul (Int.emod_emod_of_dvd _ (Int.dvd_refl _)) rfl
    rw [Int.mul_add, Int.mul_comm (Po.ev cs x) x, ← Int.mul_assoc]
    generalize P * x % 1073741789 * Po.ev cs x = A at h1 ⊢
    generalize P * x * Po.ev cs x = B at h1 ⊢
    generalize P * c = C
    omega
/-- The sum is the polynomial's value. -/
theorem Po.fs_hv (x : Int) (cs : List Int) : (Po.fs x cs).1 = Po.hv cs x := by
  have h1 := Po.foldl_ev x cs (0, 1)
  have h2 := (Po.fs_bd x cs).1
  rw [← Po.hv_ev]
  rw [show (0 : Int) + 1 * Po.ev cs x = Po.ev cs x by omega] at h1
  rw [← h1]
  exact (Int.emod_eq_of_lt h2.1 h2.2).symm
/-- The difference and the sum as the program reckons them. -/
theorem Po.less_prog (a b : Int) : (a + 1073741789 - b) % 1073741789 = Po.less a b := by
  unfold Po.less
  rw [show a + 1073741789 - b = a - b + 1073741789 by omega]
theorem Po.sum_prog (l : List (Int × Int)) (x : Int) (k : Nat) : (Po.sum l x k + Po.part l k x * Po.Y l k % 1073741789) % 1073741789 = Po.sum l x (k + 1) := by
  show _ = (Po.sum l x k + Po.Y l k * Po.part l k x) % 1073741789
  rw [Int.mul_comm (Po.part l k x)]
  generalize Po.Y l k * Po.part l k x = A
  omega
theorem Po.dist_ne {l : List (Int × Int)} (h : Po.Dist l) (i j : Nat) (hi : i < l.length) (hj : j < l.length) (hij : j ≠ i) : Po.X l j ≠ Po.X l i := fun he => by
  have := h i j hi hj (fun e => hij e.symm)
  rw [he, Int.sub_self] at this
  exact this rfl
end Go.Proofs.Ytbhpealkhpginaa
