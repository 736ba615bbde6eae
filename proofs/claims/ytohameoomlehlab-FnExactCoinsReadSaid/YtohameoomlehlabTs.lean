/-
  Lists of strings written and read: contracts of EncodeTexts, DecodeTexts (program and model), and what they call.
-/
import Derived.Test.YtohameoomlehlabTx
import Derived.Test.YtohameoomlehlabSl
import Derived.Test.YtohameoomlehlabHi
import Derived.Test.YtohameoomlehlabShelf
namespace Go.Proofs.Ytohameoomlehlab
open Go.RowKit

/-! ### plain -/
/-- The strings' encodings, one behind the other. -/
def En.cat : List ByteArray → ByteArray
  | [] => ByteArray.empty
  | s :: l => En.text s ++ En.cat l
theorem En.cat_append (a b : List ByteArray) : En.cat (a ++ b) = En.cat a ++ En.cat b := by
  induction a with
  | nil => simp [En.cat]
  | cons s l ih => simp only [List.cons_append, En.cat, ih, ByteArray.append_assoc]
theorem En.cat_snoc (a : List ByteArray) (s : ByteArray) : En.cat (a ++ [s]) = En.cat a ++ En.text s := by
  rw [En.cat_append]
  simp [En.cat]
/-- The encoding of a list. -/
def En.texts (ss : List ByteArray) : ByteArray := En.num ss.length ++ En.cat ss
def En.fit (ss : List ByteArray) (top : Int) : Prop := (∀ s ∈ ss, s.size ≤ 4000) ∧ (ss.length : Int) ≤ top
theorem En.take_snoc (ss : List ByteArray) (k : Nat) (h : k < ss.length) : ss.take (k + 1) = ss.take k ++ [ss.getD k ByteArray.empty] := by
  rw [List.take_succ_eq_append_getElem h, List.getD_eq_getElem?_getD, List.getElem?_eq_getElem h]
  rfl
theorem En.cat_take (ss : List ByteArray) (k : Nat) (h : k < ss.length) : En.cat (ss.take (k + 1)) = En.cat (ss.take k) ++ En.text (ss.getD k ByteArray.empty) := by
  rw [En.take_snoc _ _ h, En.cat_snoc]
theorem En.text_size (s : ByteArray) (h : s.size ≤ 4000) : (En.text s).size ≤ 4005 := by
  unfold En.text
  rw [ByteArray.size_append]
  have := En.size_num s.size
  omega
theorem En.cat_size (ss : List ByteArray) (h : ∀ s ∈ ss, s.size ≤ 4000) : (En.cat ss).size ≤ 4005 * ss.length := by
  induction ss with
  | nil => simp [En.cat]
  | cons s l ih =>
    have h1 := En.text_size s (h s (by simp))
    have h2 := ih (fun t ht => h t (by simp [ht]))
    simp only [En.cat, ByteArray.size_append, List.length_cons]
    omega
/-- Reading k strings. -/
def En.decL (s : ByteArray) : Nat → Option (List ByteArray × ByteArray)
  | 0 => some ([], s)
  | k + 1 => match En.decL s k with
    | none => none
    | some x => match En.decT x.2 with
      | none => none
      | some y => some (x.1 ++ [y.1], y.2)
theorem En.decL_none {s : ByteArray} {k : Nat} (h : En.decL s k = none) : ∀ m, k ≤ m → En.decL s m = none := by
  intro m hm
  induction m with
  | zero => have : k = 0 := by omega
            subst this; exact h
  | succ m ih =>
    by_cases hk : k ≤ m
    · simp only [En.decL, ih hk]
    · have : k = m + 1 := by omega
      subst this; exact h
theorem En.decL_bad {s : ByteArray} {k : Nat} {x : List ByteArray × ByteArray} (h : En.decL s k = some x) (h2 : En.decT x.2 = none) : En.decL s (k + 1) = none := by simp only [En.decL, h, h2]
theorem En.decL_ok {s : ByteArray} {k : Nat} {x : List ByteArray × ByteArray} {y : ByteArray × ByteArray} (h : En.decL s k = some x) (h2 : En.decT x.2 = some y) : En.decL s (k + 1) = some (x.1 ++ [y.1], y.2) := by simp only [En.decL, h, h2]
theorem En.decL_inv {s : ByteArray} : ∀ {k : Nat} {x : List ByteArray × ByteArray}, En.decL s k = some x → En.cat x.1 ++ x.2 = s ∧ x.1.length = k ∧ ∀ t ∈ x.1, t.size ≤ 4000 := by
  intro k
  induction k with
  | zero => intro x h; cases h; simp [En.cat]
  | succ k ih =>
    intro x h
    simp only [En.decL] at h
    split at h
    · cases h
    · rename_i y hy
      split at h
      · cases h
      · rename_i z hz
        cases h
        obtain ⟨h1, h2, h3⟩ := ih hy
        obtain ⟨h4, h5⟩ := En.text_decT (s := y.2) (t := z.1) (r := z.2) hz
        refine ⟨?_, by simp [h2], fun t ht => ?_⟩
        · rw [En.cat_snoc, ByteArray.append_assoc, h4, h1]
        · rcases List.mem_append.1 ht with ht | ht
          · exact h3 t ht
          · simp at ht; subst ht; exact h5
theorem En.decL_cat (ss : List ByteArray) (h : ∀ s ∈ ss, s.size ≤ 4000) : ∀ k, k ≤ ss.length → En.decL (En.cat ss) k = some (ss.take k, En.cat (ss.drop k)) := by
  intro k
  induction k with
  | zero => intro _; simp [En.decL]
  | succ k ih =>
    intro hk
    have hd : ss.drop k = ss[k]'(by omega) :: ss.drop (k + 1) := (List.drop_eq_getElem_cons (by omega))
    have h1 : En.decT (En.cat (ss.drop k)) = some (ss[k]'(by omega), En.cat (ss.drop (k + 1))) := by
      rw [hd]
      exact En.decT_text _ _ (h _ (List.getElem_mem _))
    rw [En.decL_ok (ih (by omega)) h1, List.take_succ_eq_append_getElem (by omega)]
/-- Reading a list to the string's end. -/
def En.decTs (s : ByteArray) : Option (List ByteArray) := match En.bel s 40 with
  | none => none
  | some x => match En.decL x.2 x.1.toNat with
    | none => none
    | some y => if y.2.size = 0 then some y.1 else none
theorem En.decTs_bel {s : ByteArray} (h : En.bel s 40 = none) : En.decTs s = none := by unfold En.decTs; rw [h]
theorem En.decTs_list {s : ByteArray} {x : Int × ByteArray} (h : En.bel s 40 = some x) (h2 : En.decL x.2 x.1.toNat = none) : En.decTs s = none := by unfold En.decTs; rw [h]; simp only [h2]
theorem En.decTs_rest {s : ByteArray} {x : Int × ByteArray} {y : List ByteArray × ByteArray} (h : En.bel s 40 = some x) (h2 : En.decL x.2 x.1.toNat = some y) (h3 : y.2.size ≠ 0) : En.decTs s = none := by
  unfold En.decTs; rw [h]; simp only [h2]; exact if_neg h3
theorem En.decTs_ok {s : ByteArray} {x : Int × ByteArray} {y : List ByteArray × ByteArray} (h : En.bel s 40 = some x) (h2 : En.decL x.2 x.1.toNat = some y) (h3 : y.2.size = 0) : En.decTs s = some y.1 := by
  unfold En.decTs; rw [h]; simp only [h2]; exact if_pos h3
theorem ba_nil {s : ByteArray} (h : s.size = 0) : s = ⟨#[]⟩ := by
  cases s with | mk d => simp [ByteArray.size] at h; subst h; rfl
/-- What is encoded is decoded. -/
theorem En.decTs_texts (ss : List ByteArray) (h : En.fit ss 40) : En.decTs (En.texts ss) = some ss := by
  have hb : En.bel (En.texts ss) 40 = some ((ss.length : Int), En.cat ss) :=
    En.bel_ok (En.dec_num _ _ (by omega) (by have := h.2; omega)) (by have := h.2; simp only []; omega)
  have hl := En.decL_cat ss h.1 ss.length (Nat.le_refl _)
  rw [List.take_length, List.drop_length] at hl
  exact En.decTs_ok hb (by simpa using hl) rfl
/-- What is decoded has one encoding. -/
theorem En.texts_decTs {s : ByteArray} {ss : List ByteArray} (h : En.decTs s = some ss) : En.texts ss = s ∧ En.fit ss 40 := by
  unfold En.decTs at h
  split at h
  · cases h
  · rename_i x hx
    split at h
    · cases h
    · rename_i y hy
      split at h
      · rename_i h0
        cases h
        obtain ⟨n, r⟩ := x
        obtain ⟨hd, ht⟩ := En.bel_inv hx
        have hbd := En.dec_bd hd
        simp only [] at ht hy
        obtain ⟨h1, h2, h3⟩ := En.decL_inv hy
        have hlen : (y.1.length : Int) = n := by omega
        refine ⟨?_, h3, by omega⟩
        unfold En.texts
        rw [hlen]
        rw [ba_nil h0] at h1
        have h4 : En.cat y.1 = r := by rw [← h1]; exact (ByteArray.append_empty).symm
        rw [h4]
        exact En.num_dec hd
      · cases h
end Go.Proofs.Ytohameoomlehlab
