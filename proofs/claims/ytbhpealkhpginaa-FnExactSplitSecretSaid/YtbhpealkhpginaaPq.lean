/-
  Shares, plain: valid lists, and what the laws ask of them.
-/
import Derived.Test.YtbhpealkhpginaaPo
namespace Go.Proofs.Ytbhpealkhpginaa

def Po.inX (x : Int) : Bool := decide (1 ≤ x) && decide (x ≤ 1073741788)
def Po.inY (y : Int) : Bool := decide (0 ≤ y) && decide (y ≤ 1073741788)
theorem Po.inX_iff (x : Int) : Po.inX x = true ↔ 1 ≤ x ∧ x ≤ 1073741788 := by unfold Po.inX; rw [Bool.and_eq_true, decide_eq_true_iff, decide_eq_true_iff]
theorem Po.inY_iff (y : Int) : Po.inY y = true ↔ 0 ≤ y ∧ y ≤ 1073741788 := by unfold Po.inY; rw [Bool.and_eq_true, decide_eq_true_iff, decide_eq_true_iff]
/-- None of the first k points has this X. -/
def Po.fresh (l : List (Int × Int)) (x : Int) : Nat → Bool
  | 0 => true
  | k + 1 => Po.fresh l x k && !(Po.X l k == x)
theorem Po.fresh_iff (l : List (Int × Int)) (x : Int) : ∀ k, Po.fresh l x k = true ↔ ∀ j, j < k → Po.X l j ≠ x := by
  intro k
  induction k with
  | zero => exact ⟨fun _ j hj => absurd hj (by omega), fun _ => rfl⟩
  | succ k ih =>
    unfold Po.fresh
    rw [Bool.and_eq_true, ih, Bool.not_eq_true', beq_eq_false_iff_ne]
    constructor
    · rintro ⟨h1, h2⟩ j hj
      by_cases hjk : j = k
      · rw [hjk]; exact h2
      · exact h1 j (by omega)
    · intro h
      exact ⟨fun j hj => h j (by omega), h k (by omega)⟩
theorem Po.fresh_no {l : List (Int × Int)} {x : Int} {j : Nat} (h : Po.X l j = x) (k : Nat) (hj : j < k) : Po.fresh l x k = false := by
  cases hf : Po.fresh l x k
  · rfl
  · exact absurd h ((Po.fresh_iff l x k).mp hf j hj)
def Po.gd (l : List (Int × Int)) : Nat → Bool
  | 0 => true
  | i + 1 => Po.gd l i && (Po.inX (Po.X l i) && Po.inY (Po.Y l i) && Po.fresh l (Po.X l i) i)
theorem Po.gd_iff (l : List (Int × Int)) : ∀ n, Po.gd l n = true ↔ ∀ i, i < n → (1 ≤ Po.X l i ∧ Po.X l i ≤ 1073741788) ∧ (0 ≤ Po.Y l i ∧ Po.Y l i ≤ 1073741788) ∧ ∀ j, j < i → Po.X l j ≠ Po.X l i := by
  intro n
  induction n with
  | zero => exact ⟨fun _ j hj => absurd hj (by omega), fun _ => rfl⟩
  | succ n ih =>
    unfold Po.gd
    rw [Bool.and_eq_true, ih, Bool.and_eq_true, Bool.and_eq_true, Po.inX_iff, Po.inY_iff, Po.fresh_iff]
    constructor
    · rintro ⟨h1, ⟨h2, h3⟩, h4⟩ i hi
      by_cases hin : i = n
      · rw [hin]; exact ⟨h2, h3, h4⟩
      · exact h1 i (by omega)
    · intro h
      exact ⟨fun i hi => h i (by omega), ⟨(h n (by omega)).1, (h n (by omega)).2.1⟩, (h n (by omega)).2.2⟩
theorem Po.gd_no {l : List (Int × Int)} (k : Nat) (h : (Po.inX (Po.X l k) && Po.inY (Po.Y l k) && Po.fresh l (Po.X l k) k) = false) : ∀ n, k < n → Po.gd l n = false := by
  intro n
  induction n with
  | zero => intro hk; omega
  | succ n ih =>
    intro hk
    unfold Po.gd
    by_cases hkn : k = n
    · rw [← hkn, h, Bool.and_false]
    · rw [ih (by omega), Bool.false_and]
def Po.room (n : Nat) : Bool := decide (1 ≤ n) && decide (n ≤ 8)
def Po.ok (l : List (Int × Int)) : Bool := Po.room l.length && Po.gd l l.length
theorem Po.ok_iff (l : List (Int × Int)) : Po.ok l = true ↔ (1 ≤ l.length ∧ l.length ≤ 8) ∧ ∀ i, i < l.length → (1 ≤ Po.X l i ∧ Po.X l i ≤ 1073741788) ∧ (0 ≤ Po.Y l i ∧ Po.Y l i ≤ 1073741788) ∧ ∀ j, j < i → Po.X l j ≠ Po.X l i := by
  unfold Po.ok Po.room
  rw [Bool.and_eq_true, Bool.and_eq_true, decide_eq_true_iff, decide_eq_true_iff, Po.gd_iff]
theorem Po.ok_no_room {l : List (Int × Int)} (h : ¬ (1 ≤ l.length ∧ l.length ≤ 8)) : Po.ok l = false := by
  cases hf : Po.ok l
  · rfl
  · exact absurd ((Po.ok_iff l).mp hf).1 h
theorem Po.ok_no_gd {l : List (Int × Int)} (h : Po.gd l l.length = false) : Po.ok l = false := by unfold Po.ok; rw [h, Bool.and_false]
theorem Po.ok_yes {l : List (Int × Int)} (h0 : 1 ≤ l.length ∧ l.length ≤ 8) (h : Po.gd l l.length = true) : Po.ok l = true := (Po.ok_iff l).mpr ⟨h0, (Po.gd_iff l _).mp h⟩
/-- Points whose X are small and differ. -/
theorem Po.dist_of {l : List (Int × Int)} (h : ∀ i, i < l.length → 0 ≤ Po.X l i ∧ Po.X l i ≤ 1073741788) (k : ∀ i j, i < l.length → j < i → Po.X l j ≠ Po.X l i) : Po.Dist l := by
  intro i j hi hj hij
  have h1 := h i hi
  have h2 := h j hj
  rcases Nat.lt_or_gt_of_ne hij with hlt | hlt
  · have := k j i hj hlt
    omega
  · have := k i j hi hlt
    omega
theorem Po.ok_dist {l : List (Int × Int)} (h : Po.ok l = true) : Po.Dist l := by
  have h1 := ((Po.ok_iff l).mp h).2
  exact Po.dist_of (fun i hi => by have := (h1 i hi).1; omega) (fun i j hi hj => (h1 i hi).2.2 j hj)
theorem Po.ok_at {l : List (Int × Int)} (h : Po.ok l = true) (j : Nat) (hj : j < l.length) : Po.val l (Po.X l j) = Po.Y l j := by
  have h1 := (((Po.ok_iff l).mp h).2 j hj).2.1
  rw [Po.val_at (Po.ok_dist h) j hj]
  omega
/-- What JoinParts answers. -/
def Po.join (l : List (Int × Int)) : Int := if Po.ok l then Po.val l 0 else 0
theorem Po.join_yes {l : List (Int × Int)} (h : Po.ok l = true) : Po.join l = Po.val l 0 := by unfold Po.join; rw [h]; rfl
theorem Po.join_no {l : List (Int × Int)} (h : Po.ok l = false) : Po.join l = 0 := by unfold Po.join; rw [h]; rfl
theorem Po.getD_app (l : List (Int × Int)) (p : Int × Int) (j : Nat) (hj : j < l.length) : (l ++ [p]).getD j (0, 0) = l.getD j (0, 0) := by
  rw [List.getD_eq_getElem?_getD, List.getD_eq_getElem?_getD, List.getElem?_append_left hj]
theorem Po.getD_end (l : List (Int × Int)) (p : Int × Int) : (l ++ [p]).getD l.length (0, 0) = p := by
  rw [List.getD_eq_getElem?_getD, List.getElem?_append_right (Nat.le_refl _), Nat.sub_self]
  rfl
theorem Po.X_app (l : List (Int × Int)) (p : Int × Int) (j : Nat) (hj : j < l.length) : Po.X (l ++ [p]) j = Po.X l j ∧ Po.Y (l ++ [p]) j = Po.Y l j := by
  unfold Po.X Po.Y
  rw [Po.getD_app l p j hj]
  exact ⟨rfl, rfl⟩
theorem Po.X_end (l : List (Int × Int)) (p : Int × Int) : Po.X (l ++ [p]) l.length = p.1 ∧ Po.Y (l ++ [p]) l.length = p.2 := by
  unfold Po.X Po.Y
  rw [Po.getD_end]
  exact ⟨rfl, rfl⟩
theorem Po.len_app (l : List (Int × Int)) (p : Int × Int) : (l ++ [p]).length = l.length + 1 := by rw [List.length_append]; rfl
/-! The order of shares -/
def Po.bk (l : List (Int × Int)) : Nat → List (Int × Int)
  | 0 => []
  | t + 1 => Po.bk l t ++ [l.getD (l.length - 1 - t) (0, 0)]
theorem Po.bk_len (l : List (Int × Int)) : ∀ t, (Po.bk l t).length = t := by
  intro t
  induction t with
  | zero => rfl
  | succ t ih => unfold Po.bk; rw [Po.len_app, ih]
theorem Po.bk_get (l : List (Int × Int)) : ∀ t j, j < t → (Po.bk l t).getD j (0, 0) = l.getD (l.length - 1 - j) (0, 0) := by
  intro t
  induction t with
  | zero => intro j hj; omega
  | succ t ih =>
    intro j hj
    unfold Po.bk
    by_cases h : j < t
    · rw [Po.getD_app _ _ j (by rw [Po.bk_len]; exact h)]
      exact ih j h
    · have hjt : j = t := by omega
      subst hjt
      have := Po.getD_end (Po.bk l j) (l.getD (l.length - 1 - j) (0, 0))
      rwa [Po.bk_len] at this
theorem Po.bk_ok {l : List (Int × Int)} (h : Po.ok l = true) : Po.ok (Po.bk l l.length) = true ∧ Po.val (Po.bk l l.length) 0 = Po.val l 0 := by
  have h1 := (Po.ok_iff l).mp h
  have hX : ∀ j, j < l.length → Po.X (Po.bk l l.length) j = Po.X l (l.length - 1 - j) := fun j hj => by unfold Po.X; rw [Po.bk_get l _ j hj]
  have hY : ∀ j, j < l.length → Po.Y (Po.bk l l.length) j = Po.Y l (l.length - 1 - j) := fun j hj => by unfold Po.Y; rw [Po.bk_get l _ j hj]
  have hok : Po.ok (Po.bk l l.length) = true := by
    refine (Po.ok_iff _).mpr ⟨by rw [Po.bk_len]; exact h1.1, fun i hi => ?_⟩
    rw [Po.bk_len] at hi
    rw [hX i hi, hY i hi]
    have h2 := h1.2 (l.length - 1 - i) (by omega)
    refine ⟨h2.1, h2.2.1, fun j hj => ?_⟩
    rw [hX j (by omega)]
    exact fun he => (h1.2 (l.length - 1 - j) (by omega)).2.2 (l.length - 1 - i) (by omega) he.symm
  refine ⟨hok, Po.val_same (Po.ok_dist hok) (by rw [Po.bk_len]; exact Nat.le_refl _) (fun j hj => ?_) 0⟩
  rw [Po.bk_len] at hj
  rw [hX j hj, hY j hj]
  exact Po.val_at (Po.ok_dist h) _ (by omega)
/-! One share more -/
theorem Po.more {l : List (Int × Int)} (h : Po.ok l = true) (x : Int) (hm : Po.ok (l ++ [(x, Po.val l x)]) = true) : Po.val (l ++ [(x, Po.val l x)]) 0 = Po.val l 0 := by
  refine Po.val_same (Po.ok_dist hm) (by rw [Po.len_app]; omega) (fun j hj => ?_) 0
  rw [Po.len_app] at hj
  by_cases hjl : j < l.length
  · rw [(Po.X_app l _ j hjl).1, (Po.X_app l _ j hjl).2]
    exact Po.val_at (Po.ok_dist h) j hjl
  · have hjl2 : j = l.length := by omega
    subst hjl2
    rw [(Po.X_end l _).1, (Po.X_end l _).2]
    have := Po.val_bd l x
    exact (Int.emod_eq_of_lt this.1 this.2).symm
/-! Any secret is possible -/
def Po.all (s : Int) (l : List (Int × Int)) : List (Int × Int) := (0, s) :: l
theorem Po.all_X (s : Int) (l : List (Int × Int)) (j : Nat) : Po.X (Po.all s l) (j + 1) = Po.X l j ∧ Po.Y (Po.all s l) (j + 1) = Po.Y l j := ⟨rfl, rfl⟩
theorem Po.all_dist {l : List (Int × Int)} (h : Po.ok l = true) (s : Int) : Po.Dist (Po.all s l) := by
  have h1 := ((Po.ok_iff l).mp h).2
  have hlen : (Po.all s l).length = l.length + 1 := rfl
  refine Po.dist_of (fun i hi => ?_) (fun i j hi hj => ?_)
  · cases i with
    | zero => exact ⟨Int.le_refl 0, (show (0 : Int) ≤ 1073741788 by decide)⟩
    | succ i => rw [(Po.all_X s l i).1]; have := (h1 i (by omega)).1; omega
  · cases i with
    | zero => omega
    | succ i =>
      have h2 := h1 i (by omega)
      rw [(Po.all_X s l i).1]
      cases j with
      | zero => show (0 : Int) ≠ _; omega
      | succ j => rw [(Po.all_X s l j).1]; exact h2.2.2 j (by omega)
theorem Po.hide {l : List (Int × Int)} (h : Po.ok l = true) (s x : Int) (hx : 1 ≤ x ∧ x ≤ 1073741788) (hs : 0 ≤ s ∧ s ≤ 1073741788) (hf : Po.fresh l x l.length = true) (h8 : l.length < 8) :
    Po.ok (l ++ [(x, Po.val (Po.all s l) x)]) = true ∧ Po.val (l ++ [(x, Po.val (Po.all s l) x)]) 0 = s := by
  have h1 := (Po.ok_iff l).mp h
  have hf1 := (Po.fresh_iff l x _).mp hf
  have hv := Po.val_bd (Po.all s l) x
  have hd := Po.all_dist h s
  have hlen : (Po.all s l).length = l.length + 1 := rfl
  have hok : Po.ok (l ++ [(x, Po.val (Po.all s l) x)]) = true := by
    refine (Po.ok_iff _).mpr ⟨by rw [Po.len_app]; omega, fun i hi => ?_⟩
    rw [Po.len_app] at hi
    by_cases hil : i < l.length
    · rw [(Po.X_app l _ i hil).1, (Po.X_app l _ i hil).2]
      have h2 := h1.2 i hil
      exact ⟨h2.1, h2.2.1, fun j hj => by rw [(Po.X_app l _ j (by omega)).1]; exact h2.2.2 j hj⟩
    · have hil2 : i = l.length := by omega
      subst hil2
      rw [(Po.X_end l _).1, (Po.X_end l _).2]
      exact ⟨hx, ⟨hv.1, by show Po.val (Po.all s l) x ≤ _; omega⟩, fun j hj => by rw [(Po.X_app l _ j hj).1]; exact hf1 j hj⟩
  refine ⟨hok, ?_⟩
  rw [Po.val_same (l := Po.all s l) (Po.ok_dist hok) (by rw [Po.len_app, hlen]; exact Nat.le_refl _) (fun j hj => ?_) 0]
  · have := Po.val_at hd 0 (by omega)
    rw [show Po.X (Po.all s l) 0 = 0 from rfl, show Po.Y (Po.all s l) 0 = s from rfl] at this
    omega
  · rw [Po.len_app] at hj
    by_cases hjl : j < l.length
    · rw [(Po.X_app l _ j hjl).1, (Po.X_app l _ j hjl).2]
      have := Po.val_at hd (j + 1) (by omega)
      rwa [(Po.all_X s l j).1, (Po.all_X s l j).2] at this
    · have hjl2 : j = l.length := by omega
      subst hjl2
      rw [(Po.X_end l _).1, (Po.X_end l _).2]
      exact (Int.emod_eq_of_lt hv.1 hv.2).symm
/-! Shares of a polynomial -/
def Po.hv : List Int → Int → Int
  | [], _ => 0
  | c :: cs, x => (Po.hv cs x * x + c) % 1073741789
theorem Po.hv_bd (x : Int) (cs : List Int) : 0 ≤ Po.hv cs x ∧ Po.hv cs x < 1073741789 := by
  cases cs with
  | nil => exact ⟨(show (0 : Int) ≤ 0 by decide), (show (0 : Int) < 1073741789 by decide)⟩
  | cons c cs => exact ⟨Int.emod_nonneg _ (by decide), Int.emod_lt_of_pos _ (by decide)⟩
theorem Po.hv_ev (x : Int) : ∀ cs, Po.ev cs x % 1073741789 = Po.hv cs x := by
  intro cs
  induction cs with
  | nil => rfl
  | cons c cs ih =>
    show (Po.ev cs x * x + c) % 1073741789 = (Po.hv cs x * x + c) % 1073741789
    have h := Po.mul (a := Po.ev cs x) (b := Po.hv cs x) (c := x) (d := x) (by have := Po.hv_bd x cs; rw [ih]; exact (Int.emod_eq_of_lt this.1 this.2).symm) rfl
    generalize Po.ev cs x * x = P at h ⊢
    generalize Po.hv cs x * x = Q at h ⊢
    omega
theorem Po.hv_zero (c : Int) (cs : List Int) (h0 : 0 ≤ c) (h1 : c ≤ 1073741788) : Po.hv (c :: cs) 0 = c := by
  show (Po.hv cs 0 * 0 + c) % 1073741789 = c
  rw [Int.mul_zero]
  omega
def Po.sh (cs xs : List Int) : List (Int × Int) := xs.map fun x => (x, Po.hv cs x)
theorem Po.sh_len (cs xs : List Int) : (Po.sh cs xs).length = xs.length := List.length_map ..
theorem Po.sh_app (cs xs : List Int) (x : Int) : Po.sh cs (xs ++ [x]) = Po.sh cs xs ++ [(x, Po.hv cs x)] := by unfold Po.sh; rw [List.map_append]; rfl
theorem Po.sh_X (cs xs : List Int) (j : Nat) (hj : j < xs.length) : Po.X (Po.sh cs xs) j = xs.getD j 0 ∧ Po.Y (Po.sh cs xs) j = Po.hv cs (xs.getD j 0) := by
  unfold Po.X Po.Y Po.sh
  rw [List.getD_eq_getElem?_getD, List.getD_eq_getElem?_getD, List.getElem?_map, List.getElem?_eq_getElem hj]
  exact ⟨rfl, rfl⟩
/-- Growing numbers from 1 to m. -/
def Po.Gro (m : Int) (xs : List Int) : Prop := (∀ j, j < xs.length → 1 ≤ xs.getD j 0 ∧ xs.getD j 0 ≤ m) ∧ ∀ i j, i < xs.length → j < i → xs.getD j 0 < xs.getD i 0
theorem Po.gro_nil (m : Int) : Po.Gro m [] := ⟨fun j hj => absurd hj (by simp), fun i _ hi => absurd hi (by simp)⟩
theorem Po.gro_up {m n : Int} {xs : List Int} (h : Po.Gro m xs) (hm : m ≤ n) : Po.Gro n xs := ⟨fun j hj => ⟨(h.1 j hj).1, Int.le_trans (h.1 j hj).2 hm⟩, h.2⟩
theorem Po.gro_app {m : Int} {xs : List Int} (h : Po.Gro m xs) (h0 : 0 ≤ m) : Po.Gro (m + 1) (xs ++ [m + 1]) := by
  have hl : (xs ++ [m + 1]).length = xs.length + 1 := by rw [List.length_append]; rfl
  have ha : ∀ j, j < xs.length → (xs ++ [m + 1]).getD j 0 = xs.getD j 0 := fun j hj => by rw [List.getD_eq_getElem?_getD, List.getD_eq_getElem?_getD, List.getElem?_append_left hj]
  have he : (xs ++ [m + 1]).getD xs.length 0 = m + 1 := by rw [List.getD_eq_getElem?_getD, List.getElem?_append_right (Nat.le_refl _), Nat.sub_self]; rfl
  refine ⟨fun j hj => ?_, fun i j hi hj => ?_⟩
  · by_cases hjl : j < xs.length
    · rw [ha j hjl]
      have := h.1 j hjl
      omega
    · rw [show j = xs.length by omega, he]
      omega
  · by_cases hil : i < xs.length
    · rw [ha i hil, ha j (by omega)]
      exact h.2 i j hil hj
    · rw [show i = xs.length by omega, he, ha j (by omega)]
      have := h.1 j (by omega)
      omega
theorem Po.sh_ok {m : Int} {cs xs : List Int} (h : Po.Gro m xs) (hm : m ≤ 1073741788) (h0 : 1 ≤ xs.length ∧ xs.length ≤ 8) : Po.ok (Po.sh cs xs) = true := by
  refine (Po.ok_iff _).mpr ⟨by rw [Po.sh_len]; exact h0, fun i hi => ?_⟩
  rw [Po.sh_len] at hi
  rw [(Po.sh_X cs xs i hi).1, (Po.sh_X cs xs i hi).2]
  have h1 := h.1 i hi
  have h2 := Po.hv_bd (xs.getD i 0) cs
  exact ⟨by omega, by omega, fun j hj => by rw [(Po.sh_X cs xs j (by omega)).1]; have := h.2 i j hi hj; omega⟩
/-- Enough shares tell the polynomial. -/
theorem Po.sh_val {m : Int} {cs xs : List Int} (h : Po.Gro m xs) (hm : m ≤ 1073741788) (h0 : 1 ≤ xs.length ∧ xs.length ≤ 8) (hc : cs.length ≤ xs.length) : Po.val (Po.sh cs xs) 0 = Po.hv cs 0 := by
  rw [Po.val_uniq (Po.ok_dist (Po.sh_ok h hm h0)) cs (by rw [Po.sh_len]; exact hc) (fun j hj => ?_) 0, Po.hv_ev]
  rw [Po.sh_len] at hj
  rw [(Po.sh_X cs xs j hj).1, (Po.sh_X cs xs j hj).2, Po.hv_ev]
  have := Po.hv_bd (xs.getD j 0) cs
  exact (Int.emod_eq_of_lt this.1 this.2).symm
/-- The numbers of those of the first k that f takes, one greater. -/
def Po.sub (f : Nat → Bool) : Nat → List Int
  | 0 => []
  | k + 1 => if f k then Po.sub f k ++ [(k : Int) + 1] else Po.sub f k
theorem Po.sub_gro (f : Nat → Bool) : ∀ k : Nat, Po.Gro (k : Int) (Po.sub f k) ∧ (Po.sub f k).length ≤ k := by
  intro k
  induction k with
  | zero => exact ⟨Po.gro_nil _, Nat.le_refl 0⟩
  | succ k ih =>
    unfold Po.sub
    by_cases h : f k = true
    · rw [if_pos h, Int.natCast_add]
      exact ⟨Po.gro_app ih.1 (Int.natCast_nonneg k), by rw [List.length_append]; have := ih.2; show _ + 1 ≤ k + 1; omega⟩
    · rw [if_neg h, Int.natCast_add]
      exact ⟨Po.gro_up ih.1 (by omega), by have := ih.2; omega⟩
theorem Po.sub_all : ∀ k : Nat, (Po.sub (fun _ => true) k).length = k := by
  intro k
  induction k with
  | zero => rfl
  | succ k ih => unfold Po.sub; rw [if_pos rfl, List.length_append, ih]; rfl
end Go.Proofs.Ytbhpealkhpginaa
