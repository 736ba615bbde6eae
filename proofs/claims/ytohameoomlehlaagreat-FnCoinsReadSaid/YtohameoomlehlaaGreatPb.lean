/-
  Plain mathematics of scripts: words and texts, written and read.
-/
import Derived.Test.YtohameoomlehlaaGreatPa
namespace Go.Proofs.YtohameoomlehlaaGreat

/-- The names of operations, in the order of their codes. -/
def Jo.names : List (List Int) := [[120], [100, 117, 112], [100, 114, 111, 112], [115, 119, 97, 112], [101, 113, 117, 97, 108], [110, 111, 116], [105, 102], [101, 108, 115, 101], [101, 110, 100], [118, 101, 114, 105, 102, 121], [100, 105, 103, 101, 115, 116], [115, 105, 103, 110], [109, 97, 110, 121], [97, 102, 116, 101, 114], [111, 108, 100, 101, 114]]
def Jo.name (c : Nat) : List Int := Jo.names.getD c []
/-- The decimal digits of a number from 0 to 9999. -/
def Jo.dec (n : Int) : List Int :=
  if n < 10 then [48 + n] else if n < 100 then [48 + n / 10, 48 + n % 10] else if n < 1000 then [48 + n / 100, 48 + n / 10 % 10, 48 + n % 10]
  else [48 + n / 1000, 48 + n / 100 % 10, 48 + n / 10 % 10, 48 + n % 10]
/-- Is it a digit? -/
def Jo.dg (c : Int) : Bool := decide (48 ≤ c ∧ c ≤ 57)
/-- The number of at most four digits without leading zeros, or -1. -/
def Jo.num (p : List Int) : Int := match p with
  | [a] => if Jo.dg a then a - 48 else -1
  | [a, b] => if a ≠ 48 ∧ Jo.dg a ∧ Jo.dg b then (a - 48) * 10 + (b - 48) else -1
  | [a, b, c] => if a ≠ 48 ∧ Jo.dg a ∧ Jo.dg b ∧ Jo.dg c then ((a - 48) * 10 + (b - 48)) * 10 + (c - 48) else -1
  | [a, b, c, d] => if a ≠ 48 ∧ Jo.dg a ∧ Jo.dg b ∧ Jo.dg c ∧ Jo.dg d then (((a - 48) * 10 + (b - 48)) * 10 + (c - 48)) * 10 + (d - 48) else -1
  | _ => -1
theorem Jo.dg_iff (c : Int) : Jo.dg c = true ↔ 48 ≤ c ∧ c ≤ 57 := by unfold Jo.dg; simp
theorem Jo.num_dec {n : Int} (h0 : 0 ≤ n) (h1 : n ≤ 9999) : Jo.num (Jo.dec n) = n := by
  unfold Jo.dec
  split
  · simp only [Jo.num, Jo.dg_iff]
    rw [if_pos (by omega)]; omega
  · split
    · simp only [Jo.num, Jo.dg_iff]
      rw [if_pos (by omega)]; omega
    · split
      · simp only [Jo.num, Jo.dg_iff]
        rw [if_pos (by omega)]; omega
      · simp only [Jo.num, Jo.dg_iff]
        rw [if_pos (by omega)]; omega
theorem Jo.dec_num {p : List Int} (h : 0 ≤ Jo.num p) : Jo.dec (Jo.num p) = p ∧ Jo.num p ≤ 9999 := by
  unfold Jo.num at h ⊢
  split at h
  · split at h
    · rename_i hd
      rw [if_pos hd]
      rw [Jo.dg_iff] at hd
      unfold Jo.dec
      rw [if_pos (by omega)]
      refine ⟨?_, by omega⟩
      congr 1; omega
    · omega
  · split at h
    · rename_i hd
      rw [if_pos hd]
      simp only [Jo.dg_iff] at hd
      unfold Jo.dec
      rw [if_neg (by omega), if_pos (by omega)]
      refine ⟨?_, by omega⟩
      simp only [List.cons.injEq, and_true]
      omega
    · omega
  · split at h
    · rename_i hd
      rw [if_pos hd]
      simp only [Jo.dg_iff] at hd
      unfold Jo.dec
      rw [if_neg (by omega), if_neg (by omega), if_pos (by omega)]
      refine ⟨?_, by omega⟩
      simp only [List.cons.injEq, and_true]
      omega
    · omega
  · split at h
    · rename_i hd
      rw [if_pos hd]
      simp only [Jo.dg_iff] at hd
      unfold Jo.dec
      rw [if_neg (by omega), if_neg (by omega), if_neg (by omega)]
      refine ⟨?_, by omega⟩
      simp only [List.cons.injEq, and_true]
      omega
    · omega
  · omega
theorem Jo.dec_dg {n : Int} (h0 : 0 ≤ n) (h1 : n ≤ 9999) : (∀ x ∈ Jo.dec n, 48 ≤ x ∧ x ≤ 57) ∧ 1 ≤ (Jo.dec n).length ∧ (Jo.dec n).length ≤ 4 := by
  unfold Jo.dec
  split
  · refine ⟨fun x hx => ?_, by simp, by simp⟩
    simp only [List.mem_cons, List.not_mem_nil, or_false] at hx
    omega
  · split
    · refine ⟨fun x hx => ?_, by simp, by simp⟩
      simp only [List.mem_cons, List.not_mem_nil, or_false] at hx
      omega
    · split
      · refine ⟨fun x hx => ?_, by simp, by simp⟩
        simp only [List.mem_cons, List.not_mem_nil, or_false] at hx
        omega
      · refine ⟨fun x hx => ?_, by simp, by simp⟩
        simp only [List.mem_cons, List.not_mem_nil, or_false] at hx
        omega
/-- The word of an operation. -/
def Jo.word (x : Jo) : List Int :=
  if x.c = 0 then 120 :: Hx.of x.t x.t.size
  else if x.c = 12 then Jo.name 12 ++ 58 :: (Jo.dec x.a ++ 58 :: Jo.dec x.b)
  else if x.c = 13 ∨ x.c = 14 then Jo.name x.c.toNat ++ 58 :: Jo.dec x.a
  else Jo.name x.c.toNat
/-- The text of a script. -/
def Jo.text (l : List Jo) : List Int := Jo.join 32 (l.map Jo.word)
/-- How many numbers a word has. -/
def Jo.args (c : Nat) : Nat := if c = 12 then 2 else if c = 13 ∨ c = 14 then 1 else 0
/-- The code, 1 to 14, whose name it is. -/
def Jo.find (p : List Int) : Option Nat := (List.range 15).find? fun c => decide (1 ≤ c) && (Jo.name c == p)
instance (s : ByteArray) (k : Nat) : Decidable (Hx.ok s k) := by unfold Hx.ok; infer_instance
instance (s : ByteArray) : Decidable (Hx.good s) := by unfold Hx.good; infer_instance
/-- The number with index i, or 0 where the code has none. -/
def Jo.argn (ps : List (List Int)) (i c : Nat) : Int := if i < Jo.args c then Jo.num (ps.getD i []) else 0
/-- The operation of a word that is none with x. -/
def Jo.opW (w : List Int) : Option Jo := match Jo.split 58 w with
  | [] => none
  | p :: ps => match Jo.find p with
    | none => none
    | some c => if ps.length = Jo.args c then some ⟨(c : Int), Jo.argn ps 0 c, Jo.argn ps 1 c, ⟨#[]⟩⟩ else none
/-- The operation of a word. -/
def Jo.opOf (w : List Int) : Option Jo :=
  if w.head? = some 120 then (if Hx.good (strOfNums w.tail) then some ⟨0, 0, 0, strOfNums (Hx.nums (strOfNums w.tail) ((strOfNums w.tail).size / 2))⟩ else none)
  else Jo.opW w
def Jo.ops : List (List Int) → Option (List Jo)
  | [] => some []
  | w :: ws => match Jo.opOf w with
    | none => none
    | some x => match Jo.ops ws with
      | none => none
      | some l => some (x :: l)
/-- The script of a text. -/
def Jo.parse (s : List Int) : Option (List Jo) :=
  if s = [] then some [] else if 7000 < s.length then none else match Jo.ops (Jo.split 32 s) with
    | none => none
    | some l => if Jo.ok l = true then some l else none
theorem Jo.find_name : ∀ c : Fin 15, 1 ≤ c.val → Jo.find (Jo.name c.val) = some c.val := by decide +kernel
theorem Jo.find_some {p : List Int} {c : Nat} (h : Jo.find p = some c) : Jo.name c = p ∧ 1 ≤ c ∧ c ≤ 14 := by
  have h1 := List.find?_some h
  have h2 := List.mem_of_find?_eq_some h
  simp only [Bool.and_eq_true, decide_eq_true_eq, beq_iff_eq, List.mem_range] at h1 h2
  exact ⟨h1.2, h1.1, by omega⟩
theorem Jo.name_plain : ∀ c : Fin 15, (32 : Int) ∉ Jo.name c.val ∧ (58 : Int) ∉ Jo.name c.val ∧ (1 ≤ c.val → (Jo.name c.val).head? ≠ some 120) ∧ Jo.name c.val ≠ [] ∧ (Jo.name c.val).length ≤ 6 := by decide +kernel
theorem Jo.dec_plain {n : Int} (h0 : 0 ≤ n) (h1 : n ≤ 9999) (m : Int) (hm : m = 32 ∨ m = 58) : m ∉ Jo.dec n := fun h => by
  have := (Jo.dec_dg h0 h1).1 m h
  omega
theorem Hx.of_bd (s : ByteArray) (k : Nat) : ∀ x ∈ Hx.of s k, 48 ≤ x ∧ x ≤ 102 := by
  induction k with
  | zero => intro x hx; cases hx
  | succ k ih =>
    intro x hx
    simp only [Hx.of, List.mem_append, List.mem_cons, List.not_mem_nil, or_false] at hx
    have hb := En.byt_bd s k
    rcases hx with hx | rfl | rfl
    · exact ih x hx
    · unfold Hx.dig; split <;> omega
    · unfold Hx.dig; split <;> omega
theorem Jo.size_zero {t : ByteArray} (h : t.size = 0) : t = ⟨#[]⟩ := by
  cases t with
  | mk d =>
    have : d.size = 0 := h
    simp at this
    subst this
    rfl
/-- The kinds of operations. -/
theorem Jo.kinds {x : Jo} (h : Jo.fld x = true) :
    (x = ⟨0, 0, 0, x.t⟩ ∧ x.t.size ≤ 80) ∨ (x = ⟨12, x.a, x.b, ⟨#[]⟩⟩ ∧ 1 ≤ x.a ∧ x.a ≤ x.b ∧ x.b ≤ 5) ∨ (x = ⟨13, x.a, 0, ⟨#[]⟩⟩ ∧ 0 ≤ x.a ∧ x.a ≤ 9999) ∨ (x = ⟨14, x.a, 0, ⟨#[]⟩⟩ ∧ 1 ≤ x.a ∧ x.a ≤ 99) ∨
    (∃ k : Nat, x = ⟨(k : Int), 0, 0, ⟨#[]⟩⟩ ∧ 1 ≤ k ∧ k ≤ 11) := by
  obtain ⟨c, a, b, t⟩ := x
  unfold Jo.fld at h
  simp only [Bool.and_eq_true, decide_eq_true_eq] at h
  obtain ⟨⟨c0, c1⟩, h⟩ := h
  split at h
  · rename_i hc
    simp only [decide_eq_true_eq] at h
    obtain ⟨rfl, rfl, ht⟩ := h
    subst hc
    exact .inl ⟨rfl, ht⟩
  · rename_i hc0
    simp only [Bool.and_eq_true, decide_eq_true_eq] at h
    obtain ⟨ht, h⟩ := h
    have hte := Jo.size_zero ht
    subst hte
    split at h
    · rename_i hc
      subst hc
      simp only [decide_eq_true_eq] at h
      exact .inr (.inl ⟨rfl, h⟩)
    · rename_i hc12
      simp only [Bool.and_eq_true, decide_eq_true_eq] at h
      obtain ⟨rfl, h⟩ := h
      split at h
      · rename_i hc
        subst hc
        simp only [decide_eq_true_eq] at h
        exact .inr (.inr (.inl ⟨rfl, h⟩))
      · rename_i hc13
        split at h
        · rename_i hc
          subst hc
          simp only [decide_eq_true_eq] at h
          exact .inr (.inr (.inr (.inl ⟨rfl, h⟩)))
        · rename_i hc14
          simp only [decide_eq_true_eq] at h
          subst h
          obtain ⟨k, rfl⟩ := Int.eq_ofNat_of_zero_le c0
          exact .inr (.inr (.inr (.inr ⟨k, rfl, by omega, by omega⟩)))
theorem Jo.word_k {k : Nat} (h1 : 1 ≤ k) (h2 : k ≤ 11) : Jo.word ⟨(k : Int), 0, 0, ⟨#[]⟩⟩ = Jo.name k := by
  unfold Jo.word
  rw [if_neg (show ¬ (k : Int) = 0 by omega), if_neg (show ¬ (k : Int) = 12 by omega), if_neg (show ¬ ((k : Int) = 13 ∨ (k : Int) = 14) by omega)]
  rfl
theorem Jo.head_append {p q : List Int} (h : p ≠ []) : (p ++ q).head? = p.head? := by
  cases p with
  | nil => exact absurd rfl h
  | cons a p => rfl
theorem Jo.opW_two {c : Nat} (h1 : 1 ≤ c) (h2 : c < 15) (p q : List Int) (hp : (58 : Int) ∉ p) (hq : (58 : Int) ∉ q) (ha : Jo.args c = 2) :
    Jo.opOf (Jo.name c ++ 58 :: (p ++ 58 :: q)) = some ⟨(c : Int), Jo.num p, Jo.num q, ⟨#[]⟩⟩ := by
  obtain ⟨_, n2, n3, n4, _⟩ := Jo.name_plain ⟨c, h2⟩
  unfold Jo.opOf
  rw [Jo.head_append n4, if_neg (n3 h1)]
  unfold Jo.opW
  rw [Jo.split_mark 58 _ _ n2, Jo.split_mark 58 _ _ hp, Jo.split_plain 58 _ hq]
  simp only [Jo.find_name ⟨c, h2⟩ h1]
  rw [if_pos (by rw [ha]; rfl)]
  unfold Jo.argn
  rw [ha]
  rfl
theorem Jo.opW_one {c : Nat} (h1 : 1 ≤ c) (h2 : c < 15) (p : List Int) (hp : (58 : Int) ∉ p) (ha : Jo.args c = 1) :
    Jo.opOf (Jo.name c ++ 58 :: p) = some ⟨(c : Int), Jo.num p, 0, ⟨#[]⟩⟩ := by
  obtain ⟨_, n2, n3, n4, _⟩ := Jo.name_plain ⟨c, h2⟩
  unfold Jo.opOf
  rw [Jo.head_append n4, if_neg (n3 h1)]
  unfold Jo.opW
  rw [Jo.split_mark 58 _ _ n2, Jo.split_plain 58 _ hp]
  simp only [Jo.find_name ⟨c, h2⟩ h1]
  rw [if_pos (by rw [ha]; rfl)]
  unfold Jo.argn
  rw [ha]
  rfl
theorem Jo.opW_zero {c : Nat} (h1 : 1 ≤ c) (h2 : c < 15) (ha : Jo.args c = 0) : Jo.opOf (Jo.name c) = some ⟨(c : Int), 0, 0, ⟨#[]⟩⟩ := by
  obtain ⟨_, n2, n3, n4, _⟩ := Jo.name_plain ⟨c, h2⟩
  unfold Jo.opOf
  rw [if_neg (n3 h1)]
  unfold Jo.opW
  rw [Jo.split_plain 58 _ n2]
  simp only [Jo.find_name ⟨c, h2⟩ h1]
  rw [if_pos (by rw [ha]; rfl)]
  unfold Jo.argn
  rw [ha]
  rfl
theorem Jo.opOf_word {x : Jo} (h : Jo.fld x = true) : Jo.opOf (Jo.word x) = some x := by
  rcases Jo.kinds h with ⟨e, ht⟩ | ⟨e, h1, h2, h3⟩ | ⟨e, h1, h2⟩ | ⟨e, h1, h2⟩ | ⟨k, e, h1, h2⟩
  · rw [e]
    unfold Jo.word Jo.opOf
    simp only [if_true, List.head?_cons, List.tail_cons]
    have hg := Hx.str_good x.t
    have hb := Hx.str_back x.t
    unfold Hx.str at hg hb
    rw [if_pos hg, hb]
  · rw [e]
    have hw : Jo.word ⟨12, x.a, x.b, ⟨#[]⟩⟩ = Jo.name 12 ++ 58 :: (Jo.dec x.a ++ 58 :: Jo.dec x.b) := rfl
    rw [hw, Jo.opW_two (c := 12) (by omega) (by omega) _ _ (Jo.dec_plain (by omega) (by omega) 58 (.inr rfl)) (Jo.dec_plain (by omega) (by omega) 58 (.inr rfl)) rfl, Jo.num_dec (by omega) (by omega), Jo.num_dec (by omega) (by omega)]
    rfl
  · rw [e]
    have hw : Jo.word ⟨13, x.a, 0, ⟨#[]⟩⟩ = Jo.name 13 ++ 58 :: Jo.dec x.a := rfl
    rw [hw, Jo.opW_one (c := 13) (by omega) (by omega) _ (Jo.dec_plain (by omega) (by omega) 58 (.inr rfl)) rfl, Jo.num_dec (by omega) (by omega)]
    rfl
  · rw [e]
    have hw : Jo.word ⟨14, x.a, 0, ⟨#[]⟩⟩ = Jo.name 14 ++ 58 :: Jo.dec x.a := rfl
    rw [hw, Jo.opW_one (c := 14) (by omega) (by omega) _ (Jo.dec_plain (by omega) (by omega) 58 (.inr rfl)) rfl, Jo.num_dec (by omega) (by omega)]
    rfl
  · rw [e, Jo.word_k h1 h2, Jo.opW_zero h1 (by omega) (by unfold Jo.args; rw [if_neg (by omega), if_neg (by omega)])]
theorem Jo.args_iff (c : Nat) : Jo.args c = if c = 12 then 2 else if c = 13 ∨ c = 14 then 1 else 0 := rfl
/-- A word with valid fields is written as it was read. -/
theorem Jo.word_opOf {w : List Int} {x : Jo} (hw : ∀ c ∈ w, 0 ≤ c ∧ c < 256) (h : Jo.opOf w = some x) (hf : Jo.fld x = true) : Jo.word x = w := by
  unfold Jo.opOf at h
  split at h
  · rename_i hh
    obtain ⟨r, rfl⟩ : ∃ r, w = 120 :: r := by
      cases w with
      | nil => cases hh
      | cons a r => simp at hh; subst hh; exact ⟨r, rfl⟩
    rw [List.tail_cons] at h
    split at h
    · rename_i hg
      cases h
      have hs := Hx.str_from _ hg
      unfold Hx.str at hs
      unfold Jo.word
      rw [if_pos rfl]
      have h1 := congrArg Jo.L hs
      rw [Jo.L_str _ (fun x hx => by have := Hx.of_bd _ _ x hx; omega), Jo.L_str _ (fun x hx => hw x (List.mem_cons_of_mem _ hx))] at h1
      rw [h1]
    · cases h
  · unfold Jo.opW at h
    have hj := Jo.join_split 58 w
    obtain ⟨p, ps, hp⟩ := Jo.split_ne 58 w
    rw [hp] at h hj
    simp only at h
    split at h
    · cases h
    · rename_i c hc
      obtain ⟨hn, c1, c2⟩ := Jo.find_some hc
      split at h
      · rename_i hl
        cases h
        unfold Jo.args at hl
        split at hl
        · rename_i h12
          subst h12
          match ps, hl with
          | [q, r], _ =>
            have hx := Jo.kinds hf
            simp only [Jo.argn, Jo.args, List.getD_cons_zero, List.getD_cons_succ] at hx hf ⊢
            simp only [if_true, show (0 : Nat) < 2 by decide, show (1 : Nat) < 2 by decide] at hx hf ⊢
            have hq : 0 ≤ Jo.num q ∧ 0 ≤ Jo.num r := by
              unfold Jo.fld at hf
              simp at hf
              omega
            show Jo.name 12 ++ 58 :: (Jo.dec (Jo.num q) ++ 58 :: Jo.dec (Jo.num r)) = w
            rw [(Jo.dec_num hq.1).1, (Jo.dec_num hq.2).1, hn]
            exact hj
        · rename_i h12
          split at hl
          · rename_i h13
            match ps, hl with
            | [q], _ =>
              have ha : Jo.args c = 1 := by unfold Jo.args; rw [if_neg h12, if_pos h13]
              unfold Jo.argn at hf ⊢
              rw [ha] at hf ⊢
              simp only [show (0 : Nat) < 1 by decide, if_true, show ¬ (1 : Nat) < 1 by decide, if_false, List.getD_cons_zero] at hf ⊢
              have hq : 0 ≤ Jo.num q := by
                unfold Jo.fld at hf
                rcases h13 with rfl | rfl <;> (simp at hf; omega)
              have hword : Jo.word ⟨(c : Int), Jo.num q, 0, ⟨#[]⟩⟩ = Jo.name c ++ 58 :: Jo.dec (Jo.num q) := by
                rcases h13 with rfl | rfl <;> rfl
              rw [hword, (Jo.dec_num hq).1, hn]
              exact hj
          · rename_i h13
            match ps, hl with
            | [], _ =>
              have ha : Jo.args c = 0 := by unfold Jo.args; rw [if_neg h12, if_neg h13]
              unfold Jo.argn
              rw [ha]
              simp only [Nat.not_lt_zero, if_false]
              rw [Jo.word_k c1 (by omega), hn]
              exact hj
      · cases h
theorem Jo.word_plain {x : Jo} (h : Jo.fld x = true) : (32 : Int) ∉ Jo.word x ∧ Jo.word x ≠ [] ∧ (Jo.word x).length ≤ 161 ∧ ∀ c ∈ Jo.word x, 0 ≤ c ∧ c < 256 := by
  have hnb : ∀ c : Fin 15, ∀ y ∈ Jo.name c.val, 0 ≤ y ∧ y < 256 := by decide +kernel
  rcases Jo.kinds h with ⟨e, ht⟩ | ⟨e, h1, h2, h3⟩ | ⟨e, h1, h2⟩ | ⟨e, h1, h2⟩ | ⟨k, e, h1, h2⟩
  · rw [e]
    show (32 : Int) ∉ 120 :: Hx.of x.t x.t.size ∧ 120 :: Hx.of x.t x.t.size ≠ [] ∧ (120 :: Hx.of x.t x.t.size).length ≤ 161 ∧ ∀ c ∈ 120 :: Hx.of x.t x.t.size, 0 ≤ c ∧ c < 256
    refine ⟨fun hm => ?_, by simp, by rw [List.length_cons, Hx.of_len]; omega, fun c hc => ?_⟩
    · rcases List.mem_cons.1 hm with hm | hm
      · omega
      · have := Hx.of_bd _ _ _ hm; omega
    · rcases List.mem_cons.1 hc with hm | hm
      · omega
      · have := Hx.of_bd _ _ _ hm; omega
  · rw [e]
    have hw : Jo.word ⟨12, x.a, x.b, ⟨#[]⟩⟩ = Jo.name 12 ++ 58 :: (Jo.dec x.a ++ 58 :: Jo.dec x.b) := rfl
    obtain ⟨n1, _, _, n4, n5⟩ := Jo.name_plain ⟨12, by omega⟩
    obtain ⟨a1, a2, a3⟩ := Jo.dec_dg (n := x.a) (by omega) (by omega)
    obtain ⟨b1, b2, b3⟩ := Jo.dec_dg (n := x.b) (by omega) (by omega)
    have hn := hnb ⟨12, by omega⟩
    simp only at n1 n4 n5 hn
    rw [hw]
    refine ⟨fun hm => ?_, by simp, by simp only [List.length_append, List.length_cons]; omega, fun c hc => ?_⟩
    · simp only [List.mem_append, List.mem_cons] at hm
      rcases hm with hm | hm | hm | hm | hm
      · exact n1 hm
      · omega
      · have := a1 _ hm; omega
      · omega
      · have := b1 _ hm; omega
    · simp only [List.mem_append, List.mem_cons] at hc
      rcases hc with hm | hm | hm | hm | hm
      · exact hn _ hm
      · omega
      · have := a1 _ hm; omega
      · omega
      · have := b1 _ hm; omega
  · rw [e]
    have hw : Jo.word ⟨13, x.a, 0, ⟨#[]⟩⟩ = Jo.name 13 ++ 58 :: Jo.dec x.a := rfl
    obtain ⟨n1, _, _, n4, n5⟩ := Jo.name_plain ⟨13, by omega⟩
    obtain ⟨a1, a2, a3⟩ := Jo.dec_dg (n := x.a) (by omega) (by omega)
    have hn := hnb ⟨13, by omega⟩
    simp only at n1 n4 n5 hn
    rw [hw]
    refine ⟨fun hm => ?_, by simp, by simp only [List.length_append, List.length_cons]; omega, fun c hc => ?_⟩
    · simp only [List.mem_append, List.mem_cons] at hm
      rcases hm with hm | hm | hm
      · exact n1 hm
      · omega
      · have := a1 _ hm; omega
    · simp only [List.mem_append, List.mem_cons] at hc
      rcases hc with hm | hm | hm
      · exact hn _ hm
      · omega
      · have := a1 _ hm; omega
  · rw [e]
    have hw : Jo.word ⟨14, x.a, 0, ⟨#[]⟩⟩ = Jo.name 14 ++ 58 :: Jo.dec x.a := rfl
    obtain ⟨n1, _, _, n4, n5⟩ := Jo.name_plain ⟨14, by omega⟩
    obtain ⟨a1, a2, a3⟩ := Jo.dec_dg (n := x.a) (by omega) (by omega)
    have hn := hnb ⟨14, by omega⟩
    simp only at n1 n4 n5 hn
    rw [hw]
    refine ⟨fun hm => ?_, by simp, by simp only [List.length_append, List.length_cons]; omega, fun c hc => ?_⟩
    · simp only [List.mem_append, List.mem_cons] at hm
      rcases hm with hm | hm | hm
      · exact n1 hm
      · omega
      · have := a1 _ hm; omega
    · simp only [List.mem_append, List.mem_cons] at hc
      rcases hc with hm | hm | hm
      · exact hn _ hm
      · omega
      · have := a1 _ hm; omega
  · rw [e, Jo.word_k h1 h2]
    obtain ⟨n1, _, _, n4, n5⟩ := Jo.name_plain ⟨k, by omega⟩
    exact ⟨n1, n4, by simp only at n5; omega, hnb ⟨k, by omega⟩⟩
theorem Jo.ops_words {l : List Jo} (h : ∀ x ∈ l, Jo.fld x = true) : Jo.ops (l.map Jo.word) = some l := by
  induction l with
  | nil => rfl
  | cons x l ih =>
    simp only [List.map_cons, Jo.ops]
    rw [Jo.opOf_word (h x (List.mem_cons_self ..)), ih (fun y hy => h y (List.mem_cons_of_mem _ hy))]
theorem Jo.words_ops {ws : List (List Int)} {l : List Jo} (hw : ∀ w ∈ ws, ∀ c ∈ w, 0 ≤ c ∧ c < 256) (h : Jo.ops ws = some l) (hf : ∀ x ∈ l, Jo.fld x = true) : l.map Jo.word = ws := by
  induction ws generalizing l with
  | nil => cases h; rfl
  | cons w ws ih =>
    simp only [Jo.ops] at h
    split at h
    · cases h
    · rename_i x hx
      split at h
      · cases h
      · rename_i m hm
        cases h
        rw [List.map_cons, Jo.word_opOf (hw w (List.mem_cons_self ..)) hx (hf x (List.mem_cons_self ..)), ih (fun v hv => hw v (List.mem_cons_of_mem _ hv)) hm (fun y hy => hf y (List.mem_cons_of_mem _ hy))]
theorem Jo.join_len (m : Int) (n : Nat) (ps : List (List Int)) (h : ∀ p ∈ ps, p.length ≤ n) : (Jo.join m ps).length ≤ (n + 1) * ps.length := by
  induction ps with
  | nil => simp [Jo.join]
  | cons p ps ih =>
    have h1 := h p (List.mem_cons_self ..)
    cases ps with
    | nil => show p.length ≤ _; simp; omega
    | cons q r =>
      have h2 := ih (fun x hx => h x (List.mem_cons_of_mem _ hx))
      show (p ++ m :: Jo.join m (q :: r)).length ≤ _
      rw [List.length_append, List.length_cons]
      rw [List.length_cons (a := p), Nat.mul_add]
      omega
theorem Jo.join_mem (m : Int) (ps : List (List Int)) : ∀ c ∈ Jo.join m ps, c = m ∨ ∃ p ∈ ps, c ∈ p := by
  induction ps with
  | nil => intro c hc; cases hc
  | cons p ps ih =>
    intro c hc
    cases ps with
    | nil => exact .inr ⟨p, List.mem_cons_self .., hc⟩
    | cons q r =>
      have hc' : c ∈ p ++ m :: Jo.join m (q :: r) := hc
      rcases List.mem_append.1 hc' with h | h
      · exact .inr ⟨p, List.mem_cons_self .., h⟩
      · rcases List.mem_cons.1 h with h | h
        · exact .inl h
        · rcases ih c h with h | ⟨p', h1, h2⟩
          · exact .inl h
          · exact .inr ⟨p', List.mem_cons_of_mem _ h1, h2⟩
theorem Jo.text_bd {l : List Jo} (h : Jo.ok l = true) : (Jo.text l).length ≤ 6480 ∧ ∀ c ∈ Jo.text l, 0 ≤ c ∧ c < 256 := by
  obtain ⟨h1, h2, _⟩ := (Jo.ok_iff l).1 h
  constructor
  · have := Jo.join_len 32 161 (l.map Jo.word) (fun p hp => by
      obtain ⟨x, hx, rfl⟩ := List.mem_map.1 hp
      exact (Jo.word_plain (h2 x hx)).2.2.1)
    rw [List.length_map] at this
    unfold Jo.text
    omega
  · intro c hc
    rcases Jo.join_mem 32 _ c hc with h | ⟨p, hp, hcp⟩
    · omega
    · obtain ⟨x, hx, rfl⟩ := List.mem_map.1 hp
      exact (Jo.word_plain (h2 x hx)).2.2.2 c hcp
/-- What is written is read. -/
theorem Jo.parse_text {l : List Jo} (h : Jo.ok l = true) : Jo.parse (Jo.text l) = some l := by
  obtain ⟨h1, h2, _⟩ := (Jo.ok_iff l).1 h
  have hb := (Jo.text_bd h).1
  unfold Jo.parse
  cases l with
  | nil => rfl
  | cons x m =>
    have hx := Jo.word_plain (h2 x (List.mem_cons_self ..))
    have hne : Jo.text (x :: m) ≠ [] := by
      unfold Jo.text
      cases m with
      | nil => exact hx.2.1
      | cons y m =>
        show Jo.word x ++ 32 :: _ ≠ []
        simp
    rw [if_neg hne, if_neg (by omega)]
    have hs : Jo.split 32 (Jo.text (x :: m)) = (x :: m).map Jo.word := Jo.split_join 32 _ (by simp) (fun p hp => by
      obtain ⟨y, hy, rfl⟩ := List.mem_map.1 hp
      exact (Jo.word_plain (h2 y hy)).1)
    rw [hs, Jo.ops_words h2]
    simp only
    rw [if_pos h]
theorem Jo.split_bd {m : Int} {l : List Int} (h : ∀ c ∈ l, 0 ≤ c ∧ c < 256) : ∀ p ∈ Jo.split m l, ∀ c ∈ p, 0 ≤ c ∧ c < 256 := by
  induction l with
  | nil => intro p hp c hc; simp [Jo.split] at hp; subst hp; cases hc
  | cons d l ih =>
    have ih' := ih (fun c hc => h c (List.mem_cons_of_mem _ hc))
    obtain ⟨q, qs, hq⟩ := Jo.split_ne m l
    intro p hp c hc
    unfold Jo.split at hp
    rw [hq] at hp ih'
    split at hp
    · rcases List.mem_cons.1 hp with rfl | hp
      · cases hc
      · exact ih' p hp c hc
    · rcases List.mem_cons.1 hp with rfl | hp
      · rcases List.mem_cons.1 hc with rfl | hc
        · exact h _ (List.mem_cons_self ..)
        · exact ih' q (List.mem_cons_self ..) c hc
      · exact ih' p (List.mem_cons_of_mem _ hp) c hc
/-- A script is written in one way. -/
theorem Jo.text_parse {s : List Int} {l : List Jo} (hs : ∀ c ∈ s, 0 ≤ c ∧ c < 256) (h : Jo.parse s = some l) : Jo.text l = s ∧ Jo.ok l = true := by
  unfold Jo.parse at h
  split at h
  · rename_i h0
    cases h
    exact ⟨h0.symm, by decide⟩
  · split at h
    · cases h
    · split at h
      · cases h
      · rename_i m hm
        split at h
        · rename_i hok
          cases h
          refine ⟨?_, hok⟩
          unfold Jo.text
          rw [Jo.words_ops (Jo.split_bd hs) hm ((Jo.ok_iff _).1 hok).2.1, Jo.join_split]
        · cases h
end Go.Proofs.YtohameoomlehlaaGreat
