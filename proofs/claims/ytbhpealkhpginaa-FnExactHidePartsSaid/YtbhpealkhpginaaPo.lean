/-
  Polynomials modulo the order, plain: a polynomial is told by as many values as it has coefficients; the polynomial through given points.
-/
import Derived.Test.YtbhpealkhpginaaGr
namespace Go.Proofs.Ytbhpealkhpginaa

theorem Po.mul {a b c d : Int} (h : a % 1073741789 = b % 1073741789) (k : c % 1073741789 = d % 1073741789) : a * c % 1073741789 = b * d % 1073741789 := by
  rw [Int.mul_emod, h, k, ← Int.mul_emod]
def Po.inv (a : Int) : Int := Gr.pw 1073741789 a 1073741787
theorem Po.inv_mul (a : Int) (h : a % 1073741789 ≠ 0) : a * Po.inv (a % 1073741789) % 1073741789 = 1 := by
  have h1 := Gr.scalar (a % 1073741789) (by omega) (by omega)
  rw [← h1]
  exact Po.mul (Int.emod_emod_of_dvd a (Int.dvd_refl _)).symm rfl
theorem Po.zero {a b : Int} (h : a * b % 1073741789 = 0) (ha : a % 1073741789 ≠ 0) : b % 1073741789 = 0 := by
  have h1 := Po.inv_mul a ha
  have h2 : b * (a * Po.inv (a % 1073741789)) % 1073741789 = b % 1073741789 := by
    have := Po.mul (a := b) (b := b) rfl (show a * Po.inv (a % 1073741789) % 1073741789 = 1 % 1073741789 from h1)
    rwa [Int.mul_one] at this
  have h3 : b * (a * Po.inv (a % 1073741789)) = a * b * Po.inv (a % 1073741789) := by rw [← Int.mul_assoc, Int.mul_comm b a]
  rw [h3] at h2
  have h4 := Po.mul (c := Po.inv (a % 1073741789)) (show a * b % 1073741789 = 0 % 1073741789 from h) rfl
  rw [Int.zero_mul] at h4
  rw [← h2, h4]
  rfl
theorem Po.ne_mul {a b : Int} (ha : a % 1073741789 ≠ 0) (hb : b % 1073741789 ≠ 0) : a * b % 1073741789 ≠ 0 := fun h => hb (Po.zero h ha)
/-- The value of the polynomial with the coefficients cs, the constant one first. -/
def Po.ev : List Int → Int → Int
  | [], _ => 0
  | c :: cs, x => Po.ev cs x * x + c
def Po.add : List Int → List Int → List Int
  | [], ds => ds
  | c :: cs, [] => c :: cs
  | c :: cs, d :: ds => (c + d) :: Po.add cs ds
theorem Po.add_ev (x : Int) : ∀ cs ds, Po.ev (Po.add cs ds) x = Po.ev cs x + Po.ev ds x := by
  intro cs
  induction cs with
  | nil => intro ds; unfold Po.add; show _ = 0 + _; rw [Int.zero_add]
  | cons c cs ih =>
    intro ds
    cases ds with
    | nil => unfold Po.add; show _ = _ + 0; rw [Int.add_zero]
    | cons d ds =>
      unfold Po.add
      show Po.ev (Po.add cs ds) x * x + (c + d) = (Po.ev cs x * x + c) + (Po.ev ds x * x + d)
      rw [ih ds, Int.add_mul]
      omega
theorem Po.add_len {n : Nat} : ∀ cs ds, cs.length ≤ n → ds.length ≤ n → (Po.add cs ds).length ≤ n := by
  induction n with
  | zero =>
    intro cs ds h k
    cases cs with
    | nil => exact k
    | cons c cs => simp at h
  | succ n ih =>
    intro cs ds h k
    cases cs with
    | nil => exact k
    | cons c cs =>
      cases ds with
      | nil => exact h
      | cons d ds =>
        unfold Po.add
        simp only [List.length_cons] at h k ⊢
        have := ih cs ds (by omega) (by omega)
        omega
def Po.sc (k : Int) : List Int → List Int
  | [] => []
  | c :: cs => k * c :: Po.sc k cs
theorem Po.sc_ev (k x : Int) : ∀ cs, Po.ev (Po.sc k cs) x = k * Po.ev cs x := by
  intro cs
  induction cs with
  | nil => show (0 : Int) = k * 0; rw [Int.mul_zero]
  | cons c cs ih =>
    show Po.ev (Po.sc k cs) x * x + k * c = k * (Po.ev cs x * x + c)
    rw [ih, Int.mul_add, Int.mul_assoc]
theorem Po.sc_len (k : Int) : ∀ cs, (Po.sc k cs).length = cs.length := by
  intro cs
  induction cs with
  | nil => rfl
  | cons c cs ih => show (Po.sc k cs).length + 1 = cs.length + 1; rw [ih]
def Po.lin (a : Int) (cs : List Int) : List Int := Po.add (0 :: cs) (Po.sc (-a) cs)
theorem Po.lin_ev (a x : Int) (cs : List Int) : Po.ev (Po.lin a cs) x = Po.ev cs x * (x - a) := by
  unfold Po.lin
  rw [Po.add_ev, Po.sc_ev]
  show Po.ev cs x * x + 0 + -a * Po.ev cs x = _
  rw [Int.mul_sub, Int.neg_mul, Int.mul_comm a]
  omega
theorem Po.lin_len (a : Int) {n : Nat} (cs : List Int) (h : cs.length ≤ n) : (Po.lin a cs).length ≤ n + 1 :=
  Po.add_len _ _ (by simp only [List.length_cons]; omega) (by rw [Po.sc_len]; omega)
/-- What is left when the polynomial is divided by x - a. -/
def Po.quot (a : Int) : List Int → List Int
  | [] => []
  | [_] => []
  | _ :: d :: ds => Po.ev (d :: ds) a :: Po.quot a (d :: ds)
theorem Po.quot_ev (a x : Int) : ∀ cs, Po.ev cs x = (x - a) * Po.ev (Po.quot a cs) x + Po.ev cs a := by
  intro cs
  induction cs with
  | nil => show (0 : Int) = (x - a) * 0 + 0; rw [Int.mul_zero]; rfl
  | cons c cs ih =>
    cases cs with
    | nil => show 0 * x + c = (x - a) * 0 + (0 * a + c); rw [Int.mul_zero, Int.zero_mul, Int.zero_mul]; omega
    | cons d ds =>
      show Po.ev (d :: ds) x * x + c = (x - a) * (Po.ev (Po.quot a (d :: ds)) x * x + Po.ev (d :: ds) a) + (Po.ev (d :: ds) a * a + c)
      generalize Po.ev (Po.quot a (d :: ds)) x = Q at ih
      generalize Po.ev (d :: ds) a = A at ih
      rw [ih, Int.mul_add, Int.add_mul, Int.mul_assoc, Int.sub_mul (b := a) (c := A), Int.mul_comm A x, Int.mul_comm A a]
      omega
theorem Po.quot_len (a : Int) : ∀ cs, (Po.quot a cs).length = cs.length - 1 := by
  intro cs
  induction cs with
  | nil => rfl
  | cons c cs ih =>
    cases cs with
    | nil => rfl
    | cons d ds =>
      show (Po.quot a (d :: ds)).length + 1 = _
      rw [ih]
      simp only [List.length_cons]
      omega
/-- A polynomial of at most n coefficients that is 0 at n points is 0. -/
theorem Po.root (n : Nat) : ∀ (cs : List Int) (xs : Nat → Int), cs.length ≤ n → (∀ i j, i < n → j < n → i ≠ j → (xs i - xs j) % 1073741789 ≠ 0) → (∀ i, i < n → Po.ev cs (xs i) % 1073741789 = 0) → ∀ x, Po.ev cs x % 1073741789 = 0 := by
  induction n with
  | zero =>
    intro cs xs h _ _ x
    cases cs with
    | nil => rfl
    | cons c cs => simp at h
  | succ n ih =>
    intro cs xs h hd hz x
    have hq := ih (Po.quot (xs n) cs) xs (by rw [Po.quot_len]; omega) (fun i j hi hj => hd i j (by omega) (by omega)) (fun i hi => by
      have h1 := Po.quot_ev (xs n) (xs i) cs
      have h2 := hz i (by omega)
      have h3 := hz n (by omega)
      refine Po.zero (a := xs i - xs n) ?_ (hd i n (by omega) (by omega) (by omega))
      generalize (xs i - xs n) * Po.ev (Po.quot (xs n) cs) (xs i) = P at h1
      omega)
    have h1 := Po.quot_ev (xs n) x cs
    have h3 := hz n (by omega)
    have h4 := Po.mul (a := x - xs n) (b := x - xs n) rfl (show Po.ev (Po.quot (xs n) cs) x % 1073741789 = 0 % 1073741789 from hq x)
    rw [Int.mul_zero] at h4
    generalize (x - xs n) * Po.ev (Po.quot (xs n) cs) x = P at h1 h4
    omega
theorem Po.uniq (n : Nat) (cs ds : List Int) (xs : Nat → Int) (h : cs.length ≤ n) (k : ds.length ≤ n) (hd : ∀ i j, i < n → j < n → i ≠ j → (xs i - xs j) % 1073741789 ≠ 0)
    (hz : ∀ i, i < n → Po.ev cs (xs i) % 1073741789 = Po.ev ds (xs i) % 1073741789) (x : Int) : Po.ev cs x % 1073741789 = Po.ev ds x % 1073741789 := by
  have h1 := Po.root n (Po.add cs (Po.sc (-1) ds)) xs (Po.add_len _ _ h (by rw [Po.sc_len]; exact k)) hd (fun i hi => by
    rw [Po.add_ev, Po.sc_ev]
    have := hz i hi
    omega) x
  rw [Po.add_ev, Po.sc_ev] at h1
  omega
/-! The polynomial through points, as the model reckons it -/
def Po.X (l : List (Int × Int)) (k : Nat) : Int := (l.getD k (0, 0)).1
def Po.Y (l : List (Int × Int)) (k : Nat) : Int := (l.getD k (0, 0)).2
def Po.less (a b : Int) : Int := (a - b + 1073741789) % 1073741789
theorem Po.less_eq (a b : Int) : Po.less a b % 1073741789 = (a - b) % 1073741789 := by unfold Po.less; omega
def Po.up (l : List (Int × Int)) (i : Nat) (x : Int) : Nat → Int
  | 0 => 1
  | k + 1 => if k = i then Po.up l i x k else Po.up l i x k * Po.less x (Po.X l k) % 1073741789
theorem Po.up_bd (l : List (Int × Int)) (i : Nat) (x : Int) : ∀ k, 0 ≤ Po.up l i x k ∧ Po.up l i x k < 1073741789 := by
  intro k
  induction k with
  | zero => exact ⟨(show (0 : Int) ≤ 1 by decide), (show (1 : Int) < 1073741789 by decide)⟩
  | succ k ih =>
    unfold Po.up
    by_cases h : k = i
    · rw [if_pos h]; exact ih
    · rw [if_neg h]; exact ⟨Int.emod_nonneg _ (by decide), Int.emod_lt_of_pos _ (by decide)⟩
def Po.part (l : List (Int × Int)) (i : Nat) (x : Int) : Int := Po.up l i x l.length * Po.inv (Po.up l i (Po.X l i) l.length) % 1073741789
theorem Po.part_bd (l : List (Int × Int)) (i : Nat) (x : Int) : 0 ≤ Po.part l i x ∧ Po.part l i x < 1073741789 := ⟨Int.emod_nonneg _ (by decide), Int.emod_lt_of_pos _ (by decide)⟩
def Po.sum (l : List (Int × Int)) (x : Int) : Nat → Int
  | 0 => 0
  | k + 1 => (Po.sum l x k + Po.Y l k * Po.part l k x) % 1073741789
theorem Po.sum_bd (l : List (Int × Int)) (x : Int) (k : Nat) : 0 ≤ Po.sum l x k ∧ Po.sum l x k < 1073741789 := by
  cases k with
  | zero => exact ⟨(show (0 : Int) ≤ 0 by decide), (show (0 : Int) < 1073741789 by decide)⟩
  | succ k => exact ⟨Int.emod_nonneg _ (by decide), Int.emod_lt_of_pos _ (by decide)⟩
/-- The value at x of the polynomial through all points. -/
def Po.val (l : List (Int × Int)) (x : Int) : Int := Po.sum l x l.length
theorem Po.val_bd (l : List (Int × Int)) (x : Int) : 0 ≤ Po.val l x ∧ Po.val l x < 1073741789 := Po.sum_bd l x _
def Po.ub (l : List (Int × Int)) (i : Nat) : Nat → List Int
  | 0 => [1]
  | k + 1 => if k = i then Po.ub l i k else Po.lin (Po.X l k) (Po.ub l i k)
theorem Po.ub_ev (l : List (Int × Int)) (i : Nat) (x : Int) : ∀ k, Po.ev (Po.ub l i k) x % 1073741789 = Po.up l i x k % 1073741789 := by
  intro k
  induction k with
  | zero => show (0 * x + 1) % 1073741789 = 1 % 1073741789; rw [Int.zero_mul]; rfl
  | succ k ih =>
    unfold Po.ub Po.up
    by_cases h : k = i
    · rw [if_pos h, if_pos h]; exact ih
    · rw [if_neg h, if_neg h, Po.lin_ev, Int.emod_emod_of_dvd _ (Int.dvd_refl _)]
      exact Po.mul ih (Po.less_eq _ _).symm
theorem Po.ub_len (l : List (Int × Int)) (i : Nat) : ∀ k, (Po.ub l i k).length ≤ if i < k then k else k + 1 := by
  intro k
  induction k with
  | zero => exact Nat.le_refl 1
  | succ k ih =>
    unfold Po.ub
    by_cases h : k = i
    · rw [if_pos h, if_pos (by omega)]
      rw [if_neg (by omega)] at ih
      exact ih
    · rw [if_neg h]
      have := Po.lin_len (Po.X l k) _ ih
      by_cases h2 : i < k
      · rw [if_pos (by omega)]; rw [if_pos h2] at this; exact this
      · rw [if_neg (by omega)]; rw [if_neg h2] at this; exact this
theorem Po.up_zero (l : List (Int × Int)) (i : Nat) (x : Int) (j : Nat) (hj : j ≠ i) (hx : (x - Po.X l j) % 1073741789 = 0) : ∀ k, j < k → Po.up l i x k % 1073741789 = 0 := by
  intro k
  induction k with
  | zero => intro h; omega
  | succ k ih =>
    intro h
    unfold Po.up
    by_cases hk : k = i
    · rw [if_pos hk]; exact ih (by omega)
    · rw [if_neg hk, Int.emod_emod_of_dvd _ (Int.dvd_refl _)]
      by_cases hjk : j < k
      · have := Po.mul (c := Po.less x (Po.X l k)) (show Po.up l i x k % 1073741789 = 0 % 1073741789 from ih hjk) rfl
        rw [Int.zero_mul] at this
        exact this
      · have hjk2 : j = k := by omega
        subst hjk2
        have := Po.mul (a := Po.up l i x j) rfl (show Po.less x (Po.X l j) % 1073741789 = 0 % 1073741789 by rw [Po.less_eq, hx]; rfl)
        rw [Int.mul_zero] at this
        exact this
theorem Po.up_ne (l : List (Int × Int)) (i : Nat) (x : Int) : ∀ k, (∀ j, j < k → j ≠ i → (x - Po.X l j) % 1073741789 ≠ 0) → Po.up l i x k % 1073741789 ≠ 0 := by
  intro k
  induction k with
  | zero => intro _; show (1 : Int) % 1073741789 ≠ 0; decide
  | succ k ih =>
    intro h
    unfold Po.up
    by_cases hk : k = i
    · rw [if_pos hk]; exact ih (fun j hj => h j (by omega))
    · rw [if_neg hk, Int.emod_emod_of_dvd _ (Int.dvd_refl _)]
      exact Po.ne_mul (ih (fun j hj => h j (by omega))) (by rw [Po.less_eq]; exact h k (by omega) hk)
/-- No two points have the same X. -/
def Po.Dist (l : List (Int × Int)) : Prop := ∀ i j, i < l.length → j < l.length → i ≠ j → (Po.X l i - Po.X l j) % 1073741789 ≠ 0
def Po.pb (l : List (Int × Int)) : Nat → List Int
  | 0 => []
  | k + 1 => Po.add (Po.pb l k) (Po.sc (Po.Y l k * Po.inv (Po.up l k (Po.X l k) l.length)) (Po.ub l k l.length))
theorem Po.pb_ev (l : List (Int × Int)) (x : Int) : ∀ k, Po.ev (Po.pb l k) x % 1073741789 = Po.sum l x k % 1073741789 := by
  intro k
  induction k with
  | zero => rfl
  | succ k ih =>
    unfold Po.pb Po.sum
    rw [Po.add_ev, Po.sc_ev, Int.emod_emod_of_dvd _ (Int.dvd_refl _)]
    have h1 : Po.Y l k * Po.inv (Po.up l k (Po.X l k) l.length) * Po.ev (Po.ub l k l.length) x % 1073741789 = Po.Y l k * Po.part l k x % 1073741789 := by
      rw [Int.mul_assoc]
      refine Po.mul rfl ?_
      unfold Po.part
      rw [Int.emod_emod_of_dvd _ (Int.dvd_refl _), Int.mul_comm]
      exact Po.mul (Po.ub_ev l k x _) rfl
    generalize Po.Y l k * Po.inv (Po.up l k (Po.X l k) l.length) * Po.ev (Po.ub l k l.length) x = P at h1 ⊢
    generalize Po.Y l k * Po.part l k x = Q at h1 ⊢
    omega
theorem Po.pb_len (l : List (Int × Int)) : ∀ k, k ≤ l.length → (Po.pb l k).length ≤ l.length := by
  intro k
  induction k with
  | zero => intro _; exact Nat.zero_le _
  | succ k ih =>
    intro h
    refine Po.add_len _ _ (ih (by omega)) ?_
    rw [Po.sc_len]
    have := Po.ub_len l k l.length
    rwa [if_pos (by omega)] at this
/-- Its coefficients. -/
def Po.co (l : List (Int × Int)) : List Int := Po.pb l l.length
theorem Po.co_len (l : List (Int × Int)) : (Po.co l).length ≤ l.length := Po.pb_len l _ (Nat.le_refl _)
theorem Po.co_ev (l : List (Int × Int)) (x : Int) : Po.ev (Po.co l) x % 1073741789 = Po.val l x := by
  have := Po.pb_ev l x l.length
  have h := Po.val_bd l x
  unfold Po.co
  rw [this]
  exact Int.emod_eq_of_lt h.1 h.2
theorem Po.part_other {l : List (Int × Int)} (i j : Nat) (hj : j < l.length) (hij : j ≠ i) : Po.part l i (Po.X l j) = 0 := by
  have h1 := Po.up_zero l i (Po.X l j) j hij (by rw [Int.sub_self]; rfl) l.length hj
  have := Po.mul (c := Po.inv (Po.up l i (Po.X l i) l.length)) (show Po.up l i (Po.X l j) l.length % 1073741789 = 0 % 1073741789 from h1) rfl
  rw [Int.zero_mul] at this
  exact this
theorem Po.part_same {l : List (Int × Int)} (hd : Po.Dist l) (i : Nat) (hi : i < l.length) : Po.part l i (Po.X l i) = 1 := by
  have h1 := Po.up_ne l i (Po.X l i) l.length (fun j hj hji => hd i j hi hj (fun h => hji h.symm))
  have h2 := Po.up_bd l i (Po.X l i) l.length
  have h3 := Po.inv_mul _ h1
  rw [Int.emod_eq_of_lt h2.1 h2.2] at h3
  exact h3
theorem Po.sum_at {l : List (Int × Int)} (hd : Po.Dist l) (j : Nat) (hj : j < l.length) : ∀ k, k ≤ l.length → Po.sum l (Po.X l j) k % 1073741789 = if j < k then Po.Y l j % 1073741789 else 0 := by
  intro k
  induction k with
  | zero => intro _; rw [if_neg (by omega)]; rfl
  | succ k ih =>
    intro h
    have ih1 := ih (by omega)
    unfold Po.sum
    rw [Int.emod_emod_of_dvd _ (Int.dvd_refl _)]
    by_cases hjk : j = k
    · subst hjk
      rw [Po.part_same hd j hj, Int.mul_one, if_pos (by omega)]
      rw [if_neg (by omega)] at ih1
      omega
    · rw [Po.part_other k j hj hjk, Int.mul_zero, Int.add_zero, ih1]
      by_cases h2 : j < k
      · rw [if_pos h2, if_pos (by omega)]
      · rw [if_neg h2, if_neg (by omega)]
/-- It has the points. -/
theorem Po.val_at {l : List (Int × Int)} (hd : Po.Dist l) (j : Nat) (hj : j < l.length) : Po.val l (Po.X l j) = Po.Y l j % 1073741789 := by
  have h := Po.sum_at hd j hj l.length (Nat.le_refl _)
  rw [if_pos hj] at h
  have hb := Po.val_bd l (Po.X l j)
  rw [← h]
  exact (Int.emod_eq_of_lt hb.1 hb.2).symm
/-- It is the only one of so few coefficients. -/
theorem Po.val_uniq {l : List (Int × Int)} (hd : Po.Dist l) (cs : List Int) (hl : cs.length ≤ l.length) (h : ∀ j, j < l.length → Po.ev cs (Po.X l j) % 1073741789 = Po.Y l j % 1073741789) (x : Int) : Po.val l x = Po.ev cs x % 1073741789 := by
  rw [← Po.co_ev]
  refine Po.uniq l.length (Po.co l) cs (Po.X l) (Po.co_len l) hl hd (fun i hi => ?_) x
  rw [Po.co_ev, Po.val_at hd i hi, h i hi]
/-- Two lists of which the longer one lies on the polynomial of the other. -/
theorem Po.val_same {l m : List (Int × Int)} (hm : Po.Dist m) (hl : l.length ≤ m.length) (h : ∀ j, j < m.length → Po.val l (Po.X m j) = Po.Y m j % 1073741789) (x : Int) : Po.val m x = Po.val l x := by
  rw [Po.val_uniq hm (Po.co l) (Nat.le_trans (Po.co_len l) hl) (fun j hj => by rw [Po.co_ev]; exact h j hj) x, Po.co_ev]
end Go.Proofs.Ytbhpealkhpginaa
