/-
  Plain mathematics of reading, part by part.
-/
import Derived.Test.YtohameoomlehlabTs
import Derived.Test.YtohameoomlehlabDg
namespace Go.Proofs.Ytohameoomlehlab

theorem Tr.assoc (a b c : ByteArray) : a ++ b ++ c = a ++ (b ++ c) := by
  apply ByteArray.ext
  simp [ByteArray.data_append]
theorem Tr.nilL (a : ByteArray) : ByteArray.empty ++ a = a := by
  apply ByteArray.ext
  simp
theorem Tr.nilR (a : ByteArray) : a ++ ByteArray.empty = a := by
  apply ByteArray.ext
  simp
/-! ### reading, part by part -/
def Tr.dig (s : ByteArray) : Option (Int × ByteArray) := if s.size < 4 then none else some (Dg.num (En.front s 4), En.rest s 4)
theorem Tr.dig_fw (d : Int) (t : ByteArray) (h : 0 ≤ d ∧ d ≤ 4294967295) : Tr.dig (Dg.bytes d ++ t) = some (d, t) := by
  have hz := Dg.bytes_size d
  have h1 := En.front_append (Dg.bytes d) t
  have h2 := En.rest_append (Dg.bytes d) t
  rw [hz] at h1 h2
  unfold Tr.dig
  rw [if_neg (by rw [ByteArray.size_append, hz]; omega)]
  show some (Dg.num (En.front (Dg.bytes d ++ t) ((4 : Nat) : Int)), En.rest (Dg.bytes d ++ t) ((4 : Nat) : Int)) = _
  rw [h1, h2, Dg.num_bytes d h.1 h.2]
theorem Tr.dig_bw {s t : ByteArray} {d : Int} (h : Tr.dig s = some (d, t)) : Dg.bytes d ++ t = s ∧ (0 ≤ d ∧ d ≤ 4294967295) := by
  unfold Tr.dig at h
  split at h
  · cases h
  · rename_i hs
    cases h
    refine ⟨?_, Dg.num_bd _⟩
    have hz : (En.front s 4).size = 4 := by
      have := En.size_front s 4 (by omega)
      exact this
    rw [Dg.bytes_num _ hz]
    exact En.front_rest s 4 (by omega) (by omega)
theorem En.bel_fw (n top : Int) (t : ByteArray) (h0 : 0 ≤ n) (h1 : n ≤ top) (h2 : n ≤ 4294967295) : En.bel (En.num n ++ t) top = some (n, t) :=
  En.bel_ok (En.dec_num n t h0 h2) (by simp only []; omega)
theorem En.bel_bw {s t : ByteArray} {n top : Int} (h : En.bel s top = some (n, t)) : En.num n ++ t = s ∧ 0 ≤ n ∧ n ≤ top ∧ n ≤ 4294967295 := by
  obtain ⟨h1, h2⟩ := En.bel_inv h
  have h3 := En.dec_bd h1
  exact ⟨En.num_dec h1, h3.1, h2, h3.2.1⟩
section
variable {α : Type}
/-- The first k of what stands one behind the other. -/
def Tr.rep (p : ByteArray → Option (α × ByteArray)) (s : ByteArray) : Nat → Option (List α × ByteArray)
  | 0 => some ([], s)
  | k + 1 => match Tr.rep p s k with
    | none => none
    | some x => match p x.2 with
      | none => none
      | some y => some (x.1 ++ [y.1], y.2)
def Tr.cat (e : α → ByteArray) : List α → ByteArray
  | [] => ByteArray.empty
  | x :: l => e x ++ Tr.cat e l
theorem Tr.cat_append (e : α → ByteArray) (a b : List α) : Tr.cat e (a ++ b) = Tr.cat e a ++ Tr.cat e b := by
  induction a with
  | nil => exact (Tr.nilL _).symm
  | cons x a ih => show e x ++ Tr.cat e (a ++ b) = e x ++ Tr.cat e a ++ Tr.cat e b; rw [ih, Tr.assoc]
theorem Tr.cat_snoc (e : α → ByteArray) (a : List α) (x : α) : Tr.cat e (a ++ [x]) = Tr.cat e a ++ e x := by
  rw [Tr.cat_append]
  show Tr.cat e a ++ (e x ++ ByteArray.empty) = _
  rw [Tr.nilR]
theorem Tr.rep_none {p : ByteArray → Option (α × ByteArray)} {s : ByteArray} {k : Nat} (h : Tr.rep p s k = none) : ∀ m, k ≤ m → Tr.rep p s m = none := by
  intro m hm
  induction m with
  | zero =>
    have : k = 0 := by omega
    rw [this] at h
    exact h
  | succ m ih =>
    by_cases hk : k = m + 1
    · rw [hk] at h; exact h
    · have := ih (by omega)
      unfold Tr.rep
      rw [this]
theorem Tr.rep_bad {p : ByteArray → Option (α × ByteArray)} {s : ByteArray} {k : Nat} {x : List α × ByteArray} (h : Tr.rep p s k = some x) (h2 : p x.2 = none) : Tr.rep p s (k + 1) = none := by
  simp only [Tr.rep, h, h2]
theorem Tr.rep_ok {p : ByteArray → Option (α × ByteArray)} {s : ByteArray} {k : Nat} {x : List α × ByteArray} {y : α × ByteArray} (h : Tr.rep p s k = some x) (h2 : p x.2 = some y) : Tr.rep p s (k + 1) = some (x.1 ++ [y.1], y.2) := by
  simp only [Tr.rep, h, h2]
theorem Tr.rep_fw {e : α → ByteArray} {p : ByteArray → Option (α × ByteArray)} {ok : α → Prop} (hfw : ∀ x t, ok x → p (e x ++ t) = some (x, t)) (l : List α) (hl : ∀ x ∈ l, ok x) (t : ByteArray) :
    ∀ k, k ≤ l.length → Tr.rep p (Tr.cat e l ++ t) k = some (l.take k, Tr.cat e (l.drop k) ++ t) := by
  intro k
  induction k with
  | zero => intro _; simp [Tr.rep]
  | succ k ih =>
    intro hk
    have h1 := ih (by omega)
    have hd : l.drop k = l[k] :: l.drop (k + 1) := List.drop_eq_getElem_cons (by omega)
    refine (Tr.rep_ok (y := (l[k], Tr.cat e (l.drop (k + 1)) ++ t)) h1 ?_).trans ?_
    · simp only []
      rw [hd]
      show p (e l[k] ++ Tr.cat e (l.drop (k + 1)) ++ t) = _
      rw [Tr.assoc]
      exact hfw _ _ (hl _ (List.getElem_mem (by omega)))
    · rw [List.take_add_one, List.getElem?_eq_getElem (by omega)]
      rfl
theorem Tr.rep_all {e : α → ByteArray} {p : ByteArray → Option (α × ByteArray)} {ok : α → Prop} (hfw : ∀ x t, ok x → p (e x ++ t) = some (x, t)) (l : List α) (hl : ∀ x ∈ l, ok x) (t : ByteArray) :
    Tr.rep p (Tr.cat e l ++ t) l.length = some (l, t) := by
  have h := Tr.rep_fw hfw l hl t l.length (Nat.le_refl _)
  rw [List.take_length, List.drop_length] at h
  rw [h]
  show some (l, ByteArray.empty ++ t) = _
  rw [Tr.nilL]
theorem Tr.rep_bw {e : α → ByteArray} {p : ByteArray → Option (α × ByteArray)} {ok : α → Prop} (hbw : ∀ s x t, p s = some (x, t) → e x ++ t = s ∧ ok x) {s : ByteArray} :
    ∀ {k : Nat} {x : List α × ByteArray}, Tr.rep p s k = some x → Tr.cat e x.1 ++ x.2 = s ∧ x.1.length = k ∧ ∀ y ∈ x.1, ok y := by
  intro k
  induction k with
  | zero =>
    intro x h
    simp [Tr.rep] at h
    subst h
    exact ⟨Tr.nilL _, rfl, by simp⟩
  | succ k ih =>
    intro x h
    cases h1 : Tr.rep p s k with
    | none => simp only [Tr.rep, h1] at h; cases h
    | some z =>
      cases h2 : p z.2 with
      | none => rw [Tr.rep_bad h1 h2] at h; cases h
      | some y =>
        rw [Tr.rep_ok h1 h2] at h
        cases h
        obtain ⟨g1, g2, g3⟩ := ih h1
        obtain ⟨q1, q2⟩ := hbw z.2 y.1 y.2 (by rw [h2])
        refine ⟨?_, by simp [g2], fun u hu => ?_⟩
        · rw [Tr.cat_snoc, Tr.assoc, q1, g1]
        · rcases List.mem_append.1 hu with h | h
          · exact g3 u h
          · simp at h; subst h; exact q2
end
end Go.Proofs.Ytohameoomlehlab
