/-
  Plain mathematics of scripts: operations, nesting, words, texts.
-/
import Derived.Test.YtohameoomlehlabHi
namespace Go.Proofs.Ytohameoomlehlab

/-- An operation of a script. -/
structure Jo where
  c : Int
  a : Int
  b : Int
  t : ByteArray
/-- Are the fields valid? -/
def Jo.fld (x : Jo) : Bool :=
  decide (0 ≤ x.c ∧ x.c ≤ 14) &&
  (if x.c = 0 then decide (x.a = 0 ∧ x.b = 0 ∧ x.t.size ≤ 80)
   else decide (x.t.size = 0) &&
    (if x.c = 12 then decide (1 ≤ x.a ∧ x.a ≤ x.b ∧ x.b ≤ 5)
     else decide (x.b = 0) && (if x.c = 13 then decide (0 ≤ x.a ∧ x.a ≤ 9999) else if x.c = 14 then decide (1 ≤ x.a ∧ x.a ≤ 99) else decide (x.a = 0))))
/-- The conditions that are open behind one more operation; true: its else may still come. -/
def Jo.step (st : List Bool) (c : Int) : Option (List Bool) :=
  if c = 6 then (if st.length < 4 then some (true :: st) else none)
  else if c = 7 then (match st with
    | true :: r => some (false :: r)
    | _ => none)
  else if c = 8 then (match st with
    | _ :: r => some r
    | [] => none)
  else some st
def Jo.nest : List Bool → List Jo → Option (List Bool)
  | st, [] => some st
  | st, x :: l => match Jo.step st x.c with
    | none => none
    | some s => Jo.nest s l
/-- Is it a script? -/
def Jo.ok (l : List Jo) : Bool := decide (l.length ≤ 40) && l.all Jo.fld && (Jo.nest [] l == some [])
theorem Jo.ok_iff (l : List Jo) : Jo.ok l = true ↔ l.length ≤ 40 ∧ (∀ x ∈ l, Jo.fld x = true) ∧ Jo.nest [] l = some [] := by
  unfold Jo.ok
  simp [and_assoc]
theorem Jo.nest_snoc (st : List Bool) (l : List Jo) (x : Jo) : Jo.nest st (l ++ [x]) = match Jo.nest st l with
    | none => none
    | some s => Jo.step s x.c := by
  induction l generalizing st with
  | nil => simp only [List.nil_append, Jo.nest]; cases Jo.step st x.c <;> rfl
  | cons y l ih =>
    simp only [List.cons_append, Jo.nest]
    cases Jo.step st y.c with
    | none => rfl
    | some s => exact ih s
theorem Jo.step_len {st s : List Bool} {c : Int} (h : Jo.step st c = some s) (hl : st.length ≤ 4) : s.length ≤ 4 := by
  unfold Jo.step at h
  split at h
  · split at h
    · cases h; simp; omega
    · cases h
  · split at h
    · split at h
      · cases h; simpa using hl
      · cases h
    · split at h
      · split at h
        · cases h; simp at hl; omega
        · cases h
      · cases h; exact hl
/-- Behind a bad beginning there is no script. -/
theorem Jo.nest_none {st : List Bool} {l m : List Jo} (h : Jo.nest st l = none) : Jo.nest st (l ++ m) = none := by
  induction l generalizing st with
  | nil => cases h
  | cons y l ih =>
    simp only [List.cons_append, Jo.nest] at h ⊢
    cases hs : Jo.step st y.c with
    | none => rfl
    | some s => rw [hs] at h; exact ih h

/-! ### strings as lists of numbers -/
/-- The bytes of a string. -/
def Jo.L (s : ByteArray) : List Int := s.data.toList.map fun c => (c.toNat : Int)
theorem Jo.L_len (s : ByteArray) : (Jo.L s).length = s.size := by unfold Jo.L; rw [List.length_map, Array.length_toList]; rfl
theorem Jo.L_bd {s : ByteArray} : ∀ x ∈ Jo.L s, 0 ≤ x ∧ x < 256 := by
  intro x hx
  unfold Jo.L at hx
  obtain ⟨c, _, rfl⟩ := List.mem_map.1 hx
  have := c.toNat_lt
  omega
theorem Jo.L_append (s t : ByteArray) : Jo.L (s ++ t) = Jo.L s ++ Jo.L t := by
  unfold Jo.L
  rw [ByteArray.data_append, Array.toList_append, List.map_append]
theorem Jo.L_get (s : ByteArray) (k : Nat) (h : k < s.size) : (Jo.L s)[k]? = some (En.byt s k) := by
  unfold Jo.L En.byt
  have h' : k < s.data.toList.length := by rw [Array.length_toList]; exact h
  rw [List.getElem?_map, List.getElem?_eq_getElem h']
  rfl
theorem Jo.L_str (l : List Int) (h : ∀ x ∈ l, 0 ≤ x ∧ x < 256) : Jo.L (strOfNums l) = l := by
  unfold Jo.L
  rw [strOfNums_data, List.map_map]
  conv => rhs; rw [← List.map_id l]
  apply List.map_congr_left
  intro x hx
  have := h x hx
  exact En.u8 this.1 this.2
theorem Jo.str_L (s : ByteArray) : strOfNums (Jo.L s) = s := by
  apply ByteArray.ext
  apply Array.toList_inj.1
  rw [strOfNums_data]
  unfold Jo.L
  rw [List.map_map]
  conv => rhs; rw [← List.map_id s.data.toList]
  apply List.map_congr_left
  intro x _
  simp
theorem Jo.str_append (a b : List Int) : strOfNums (a ++ b) = strOfNums a ++ strOfNums b := by
  apply ByteArray.ext
  apply Array.toList_inj.1
  rw [ByteArray.data_append, Array.toList_append, strOfNums_data, strOfNums_data, strOfNums_data, List.map_append]
theorem Jo.L_inj {s t : ByteArray} (h : Jo.L s = Jo.L t) : s = t := by rw [← Jo.str_L s, ← Jo.str_L t, h]
theorem Jo.L_extract (s : ByteArray) (i j : Nat) : Jo.L (s.extract i j) = ((Jo.L s).drop i).take (j - i) := by
  unfold Jo.L
  rw [ByteArray.data_extract, Array.toList_extract, List.extract_eq_take_drop, List.map_take, List.map_drop]

/-! ### parts between marks -/
def Jo.split (m : Int) : List Int → List (List Int)
  | [] => [[]]
  | c :: l => if c = m then [] :: Jo.split m l else match Jo.split m l with
    | [] => [[c]]
    | p :: ps => (c :: p) :: ps
def Jo.join (m : Int) : List (List Int) → List Int
  | [] => []
  | [p] => p
  | p :: q :: r => p ++ m :: Jo.join m (q :: r)
theorem Jo.split_ne (m : Int) (l : List Int) : ∃ p ps, Jo.split m l = p :: ps := by
  cases l with
  | nil => exact ⟨_, _, rfl⟩
  | cons c l =>
    unfold Jo.split
    split
    · exact ⟨_, _, rfl⟩
    · split
      · exact ⟨_, _, rfl⟩
      · exact ⟨_, _, rfl⟩
theorem Jo.join_split (m : Int) (l : List Int) : Jo.join m (Jo.split m l) = l := by
  induction l with
  | nil => rfl
  | cons c l ih =>
    obtain ⟨p, ps, hp⟩ := Jo.split_ne m l
    unfold Jo.split
    rw [hp] at ih ⊢
    split
    · rename_i h; subst h
      show [] ++ c :: Jo.join c (p :: ps) = _
      rw [ih]; rfl
    · cases ps with
      | nil => show c :: p = _; rw [show p = l from ih]
      | cons q r => show (c :: p) ++ m :: Jo.join m (q :: r) = _; rw [List.cons_append, show p ++ m :: Jo.join m (q :: r) = l from ih]
theorem Jo.split_no (m : Int) (l : List Int) : ∀ p ∈ Jo.split m l, m ∉ p := by
  induction l with
  | nil => intro p hp; simp [Jo.split] at hp; subst hp; simp
  | cons c l ih =>
    obtain ⟨p, ps, hp⟩ := Jo.split_ne m l
    unfold Jo.split
    rw [hp] at ih ⊢
    split
    · intro q hq
      rcases List.mem_cons.1 hq with rfl | hq
      · simp
      · exact ih q hq
    · rename_i hc
      intro q hq
      rcases List.mem_cons.1 hq with rfl | hq
      · intro h
        rcases List.mem_cons.1 h with h | h
        · exact hc h.symm
        · exact ih p (List.mem_cons_self ..) h
      · exact ih q (List.mem_cons_of_mem _ hq)
theorem Jo.split_plain (m : Int) (p : List Int) (h : m ∉ p) : Jo.split m p = [p] := by
  induction p with
  | nil => rfl
  | cons c p ih =>
    have h1 : c ≠ m := fun e => h (by rw [e]; exact List.mem_cons_self ..)
    unfold Jo.split
    rw [ih (fun e => h (List.mem_cons_of_mem _ e)), if_neg h1]
theorem Jo.split_mark (m : Int) (p l : List Int) (h : m ∉ p) : Jo.split m (p ++ m :: l) = p :: Jo.split m l := by
  induction p with
  | nil => show Jo.split m (m :: l) = _; conv => lhs; unfold Jo.split
           rw [if_pos rfl]
  | cons c p ih =>
    have h1 : c ≠ m := fun e => h (by rw [e]; exact List.mem_cons_self ..)
    show Jo.split m (c :: (p ++ m :: l)) = _
    conv => lhs; unfold Jo.split
    rw [ih (fun e => h (List.mem_cons_of_mem _ e)), if_neg h1]
theorem Jo.split_join (m : Int) (ps : List (List Int)) (hne : ps ≠ []) (h : ∀ p ∈ ps, m ∉ p) : Jo.split m (Jo.join m ps) = ps := by
  induction ps with
  | nil => exact absurd rfl hne
  | cons p ps ih =>
    cases ps with
    | nil => exact Jo.split_plain m p (h p (List.mem_cons_self ..))
    | cons q r =>
      show Jo.split m (p ++ m :: Jo.join m (q :: r)) = _
      rw [Jo.split_mark m p _ (h p (List.mem_cons_self ..)), ih (by simp) (fun x hx => h x (List.mem_cons_of_mem _ hx))]
/-- One more character. -/
def Jo.put (m c : Int) : List (List Int) → List (List Int)
  | [] => []
  | [p] => if c = m then [p, []] else [p ++ [c]]
  | p :: q :: r => p :: Jo.put m c (q :: r)
theorem Jo.put_cons {m c : Int} {p : List Int} {ps : List (List Int)} (h : ps ≠ []) : Jo.put m c (p :: ps) = p :: Jo.put m c ps := by
  cases ps with
  | nil => exact absurd rfl h
  | cons q r => rfl
theorem Jo.put_ne (m c : Int) (p : List Int) (ps : List (List Int)) : ∃ q qs, Jo.put m c (p :: ps) = q :: qs := by
  cases ps with
  | nil =>
    unfold Jo.put
    split
    · exact ⟨_, _, rfl⟩
    · exact ⟨_, _, rfl⟩
  | cons q r => exact ⟨_, _, rfl⟩
theorem Jo.put_head (m c d : Int) (p : List Int) (ps : List (List Int)) : Jo.put m c ((d :: p) :: ps) = match Jo.put m c (p :: ps) with
    | [] => []
    | q :: qs => (d :: q) :: qs := by
  cases ps with
  | nil =>
    unfold Jo.put
    split <;> rfl
  | cons q r => rfl
theorem Jo.split_snoc (m c : Int) (l : List Int) : Jo.split m (l ++ [c]) = Jo.put m c (Jo.split m l) := by
  induction l with
  | nil =>
    show Jo.split m [c] = _
    unfold Jo.split Jo.put
    split <;> simp [Jo.split]
  | cons d l ih =>
    obtain ⟨p, ps, hp⟩ := Jo.split_ne m l
    show Jo.split m (d :: (l ++ [c])) = _
    conv => lhs; unfold Jo.split
    conv => rhs; unfold Jo.split
    rw [ih, hp]
    split
    · exact (Jo.put_cons (p := []) (ps := p :: ps) (by simp)).symm
    · rw [Jo.put_head]
      obtain ⟨q, qs, hq⟩ := Jo.put_ne m c p ps
      rw [hq]
end Go.Proofs.Ytohameoomlehlab
