/-
  Plain mathematics of coins: what is valid, places, adding, cutting, bytes, reading.
-/
import Derived.Test.YtohameoomlehlabT0
namespace Go.Proofs.Ytohameoomlehlab

structure Co where
  tx : Int
  out : Int
  amt : Int
  lock : ByteArray
  ht : Int
  rew : Bool
def Co.z : Co := ⟨0, 0, 0, ByteArray.empty, 0, false⟩
def Co.nth (l : List Co) (j : Nat) : Co := l.getD j Co.z
theorem Co.nth_get {l : List Co} {j : Nat} (h : j < l.length) : l[j]? = some (Co.nth l j) := by
  unfold Co.nth
  rw [List.getD_eq_getElem?_getD, List.getElem?_eq_getElem h]
  rfl
theorem Co.nth_mem {l : List Co} {j : Nat} (h : j < l.length) : Co.nth l j ∈ l := List.mem_of_getElem? (Co.nth_get h)
theorem Co.mem_nth {l : List Co} {c : Co} (h : c ∈ l) : ∃ j, j < l.length ∧ Co.nth l j = c := by
  obtain ⟨j, hj, rfl⟩ := List.getElem_of_mem h
  refine ⟨j, hj, ?_⟩
  unfold Co.nth
  rw [List.getD_eq_getElem?_getD, List.getElem?_eq_getElem hj]
  rfl
theorem Co.ext_nth {l m : List Co} (h : l.length = m.length) (h2 : ∀ j, j < l.length → Co.nth l j = Co.nth m j) : l = m := by
  apply List.ext_getElem?
  intro j
  by_cases hj : j < l.length
  · rw [Co.nth_get hj, Co.nth_get (by omega), h2 j hj]
  · rw [List.getElem?_eq_none (by omega), List.getElem?_eq_none (by omega)]
/-! ### valid coins -/
def Co.ok (c : Co) : Bool := (decide (0 ≤ c.tx) && decide (c.tx ≤ 4294967295)) && ((decide (0 ≤ c.out) && decide (c.out ≤ 5)) && ((decide (1 ≤ c.amt) && decide (c.amt ≤ 1000000)) && (decide ((c.lock.size : Int) ≤ 300) && (decide (0 ≤ c.ht) && decide (c.ht ≤ 9999)))))
structure Co.Ok (c : Co) : Prop where
  tx : 0 ≤ c.tx ∧ c.tx ≤ 4294967295
  out : 0 ≤ c.out ∧ c.out ≤ 5
  amt : 1 ≤ c.amt ∧ c.amt ≤ 1000000
  lock : c.lock.size ≤ 300
  ht : 0 ≤ c.ht ∧ c.ht ≤ 9999
theorem Co.ok_iff (c : Co) : c.ok = true ↔ c.Ok := by
  unfold Co.ok
  simp only [Bool.and_eq_true, decide_eq_true_eq]
  constructor
  · rintro ⟨h1, h2, h3, h4, h5⟩
    exact ⟨h1, h2, h3, by omega, h5⟩
  · rintro ⟨h1, h2, h3, h4, h5⟩
    exact ⟨h1, h2, h3, by omega, h5⟩
/-- Whether a coin is before a place. -/
def Co.less (c : Co) (t o : Int) : Bool := decide (c.tx < t) || (decide (c.tx = t) && decide (c.out < o))
theorem Co.less_iff (c : Co) (t o : Int) : c.less t o = true ↔ c.tx < t ∨ (c.tx = t ∧ c.out < o) := by
  unfold Co.less
  simp only [Bool.or_eq_true, Bool.and_eq_true, decide_eq_true_eq]
theorem Co.less_no (c : Co) (t o : Int) : c.less t o = false ↔ ¬ (c.tx < t ∨ (c.tx = t ∧ c.out < o)) := by
  rw [← Co.less_iff]
  cases c.less t o <;> simp
/-- The step of CoinsOk at index j. -/
def Co.step (l : List Co) (j : Nat) : Bool := (Co.nth l j).ok && (decide (j = 0) || (Co.nth l (j - 1)).less (Co.nth l j).tx (Co.nth l j).out)
def Co.lok (l : List Co) : Bool := decide (l.length ≤ 80) && (List.range l.length).all (Co.step l)
theorem Co.lok_iff (l : List Co) : Co.lok l = true ↔ l.length ≤ 80 ∧ ∀ j, j < l.length → Co.step l j = true := by
  unfold Co.lok
  simp only [Bool.and_eq_true, decide_eq_true_eq, List.all_eq_true, List.mem_range]
theorem Co.lok_bad {l : List Co} {j : Nat} (hj : j < l.length) (h : Co.step l j = false) : Co.lok l = false := by
  cases hl : Co.lok l with
  | false => rfl
  | true => have := ((Co.lok_iff l).1 hl).2 j hj; rw [h] at this; cases this
theorem Co.lok_long {l : List Co} (h : 80 < l.length) : Co.lok l = false := by
  cases hl : Co.lok l with
  | false => rfl
  | true => have := ((Co.lok_iff l).1 hl).1; omega
/-- The same, said of every two. -/
structure Co.Good (l : List Co) : Prop where
  len : l.length ≤ 80
  ok : ∀ j, j < l.length → (Co.nth l j).Ok
  asc : ∀ i j, i < j → j < l.length → (Co.nth l i).tx < (Co.nth l j).tx ∨ ((Co.nth l i).tx = (Co.nth l j).tx ∧ (Co.nth l i).out < (Co.nth l j).out)
theorem Co.good_iff (l : List Co) : Co.lok l = true ↔ Co.Good l := by
  rw [Co.lok_iff]
  constructor
  · rintro ⟨h1, h2⟩
    refine ⟨h1, fun j hj => ?_, ?_⟩
    · have := h2 j hj
      unfold Co.step at this
      simp only [Bool.and_eq_true] at this
      exact (Co.ok_iff _).1 this.1
    · intro i j
      induction j with
      | zero => intro h; omega
      | succ j ih =>
        intro hij hj
        have h3 := h2 (j + 1) hj
        unfold Co.step at h3
        simp only [Bool.and_eq_true, Bool.or_eq_true, decide_eq_true_eq, Co.less_iff] at h3
        have h4 := h3.2.resolve_left (by omega)
        rw [show j + 1 - 1 = j by omega] at h4
        by_cases he : i = j
        · subst he; exact h4
        · have h5 := ih (by omega) (by omega)
          omega
  · rintro ⟨h1, h2, h3⟩
    refine ⟨h1, fun j hj => ?_⟩
    unfold Co.step
    rw [(Co.ok_iff _).2 (h2 j hj), Bool.true_and]
    by_cases h0 : j = 0
    · rw [decide_eq_true h0, Bool.true_or]
    · rw [(Co.less_iff _ _ _).2 (h3 (j - 1) j (by omega) hj), Bool.or_true]
/-! ### places -/
/-- How many coins are before a place. -/
def Co.at_ (l : List Co) (t o : Int) : Nat := (l.takeWhile fun c => c.less t o).length
theorem Co.at_uniq (l : List Co) (t o : Int) : ∀ k, k ≤ l.length → (∀ j, j < k → (Co.nth l j).less t o = true) → (k < l.length → (Co.nth l k).less t o = false) → Co.at_ l t o = k := by
  induction l with
  | nil => intro k hk _ _; simp at hk; subst hk; rfl
  | cons c l ih =>
    intro k hk h1 h2
    cases k with
    | zero =>
      have h3 : c.less t o = false := h2 (by simp)
      unfold Co.at_
      rw [List.takeWhile_cons, h3]
      rfl
    | succ k =>
      have h3 : c.less t o = true := h1 0 (by omega)
      have h4 := ih k (by simpa using hk) (fun j hj => h1 (j + 1) (by omega)) (fun hl => h2 (by simpa using hl))
      unfold Co.at_ at h4 ⊢
      rw [List.takeWhile_cons, h3]
      simp [h4]
theorem Co.at_spec (l : List Co) (t o : Int) : Co.at_ l t o ≤ l.length ∧ (∀ j, j < Co.at_ l t o → (Co.nth l j).less t o = true) ∧ (Co.at_ l t o < l.length → (Co.nth l (Co.at_ l t o)).less t o = false) := by
  induction l with
  | nil => exact ⟨Nat.le_refl _, fun j hj => absurd hj (Nat.not_lt_zero _), fun h => absurd h (Nat.not_lt_zero _)⟩
  | cons c l ih =>
    cases h : c.less t o with
    | false =>
      have h0 : Co.at_ (c :: l) t o = 0 := by unfold Co.at_; rw [List.takeWhile_cons, h]; rfl
      rw [h0]
      exact ⟨Nat.zero_le _, fun j hj => absurd hj (Nat.not_lt_zero _), fun _ => h⟩
    | true =>
      have h0 : Co.at_ (c :: l) t o = Co.at_ l t o + 1 := by unfold Co.at_; rw [List.takeWhile_cons, h]; rfl
      rw [h0]
      refine ⟨by simpa using ih.1, fun j hj => ?_, fun hl => ih.2.2 (by simpa using hl)⟩
      cases j with
      | zero => exact h
      | succ j => exact ih.2.1 j (by omega)
def Co.has (l : List Co) (t o : Int) : Bool := decide (Co.at_ l t o < l.length) && (decide ((Co.nth l (Co.at_ l t o)).tx = t) && decide ((Co.nth l (Co.at_ l t o)).out = o))
theorem Co.has_iff (l : List Co) (t o : Int) : Co.has l t o = true ↔ Co.at_ l t o < l.length ∧ (Co.nth l (Co.at_ l t o)).tx = t ∧ (Co.nth l (Co.at_ l t o)).out = o := by
  unfold Co.has
  simp only [Bool.and_eq_true, decide_eq_true_eq]
def Co.find (l : List Co) (t o : Int) : Option Co := if Co.lok l = true then (if Co.has l t o = true then some (Co.nth l (Co.at_ l t o)) else none) else none
/-- The coins of a valid list stand at their places. -/
theorem Co.at_nth {l : List Co} (h : Co.Good l) {i : Nat} (hi : i < l.length) : Co.at_ l (Co.nth l i).tx (Co.nth l i).out = i :=
  Co.at_uniq l _ _ i (Nat.le_of_lt hi) (fun j hj => (Co.less_iff _ _ _).2 (h.asc j i hj hi)) (fun _ => (Co.less_no _ _ _).2 (by omega))
theorem Co.has_nth {l : List Co} (h : Co.Good l) {i : Nat} (hi : i < l.length) : Co.has l (Co.nth l i).tx (Co.nth l i).out = true := by
  rw [Co.has_iff, Co.at_nth h hi]
  exact ⟨hi, rfl, rfl⟩
theorem Co.find_nth {l : List Co} (h : Co.lok l = true) {i : Nat} (hi : i < l.length) : Co.find l (Co.nth l i).tx (Co.nth l i).out = some (Co.nth l i) := by
  have hg := (Co.good_iff l).1 h
  unfold Co.find
  rw [if_pos h, if_pos (Co.has_nth hg hi), Co.at_nth hg hi]
theorem Co.find_some {l : List Co} {t o : Int} {c : Co} (h : Co.find l t o = some c) : Co.lok l = true ∧ Co.has l t o = true ∧ c = Co.nth l (Co.at_ l t o) ∧ c.tx = t ∧ c.out = o := by
  unfold Co.find at h
  split at h
  · rename_i h1
    split at h
    · rename_i h2
      cases h
      exact ⟨h1, h2, rfl, ((Co.has_iff _ _ _).1 h2).2⟩
    · cases h
  · cases h
/-! ### one more, one less -/
/-- One more at index k. -/
def Co.put (l : List Co) (k : Nat) (c : Co) : List Co := l.take k ++ c :: l.drop k
theorem Co.put_length {l : List Co} {k : Nat} (hk : k ≤ l.length) (c : Co) : (Co.put l k c).length = l.length + 1 := by
  unfold Co.put
  simp
  omega
theorem Co.nth_put {l : List Co} {k : Nat} (hk : k ≤ l.length) (c : Co) (j : Nat) : Co.nth (Co.put l k c) j = if j < k then Co.nth l j else if j = k then c else Co.nth l (j - 1) := by
  unfold Co.nth Co.put
  rw [List.getD_eq_getElem?_getD, List.getD_eq_getElem?_getD, List.getD_eq_getElem?_getD]
  have hl : (l.take k).length = k := by simp; omega
  split
  · rename_i h
    rw [List.getElem?_append_left (by omega), List.getElem?_take, if_pos h]
  · rename_i h
    rw [List.getElem?_append_right (by omega), hl]
    split
    · rename_i h2
      rw [h2, Nat.sub_self]
      rfl
    · rename_i h2
      rw [show j - k = (j - k - 1) + 1 by omega, List.getElem?_cons_succ, List.getElem?_drop, show k + (j - k - 1) = j - 1 by omega]
/-- One less, without index k. -/
def Co.cut (l : List Co) (k : Nat) : List Co := l.take k ++ l.drop (k + 1)
theorem Co.cut_length {l : List Co} {k : Nat} (hk : k < l.length) : (Co.cut l k).length = l.length - 1 := by
  unfold Co.cut
  simp
  omega
theorem Co.nth_cut {l : List Co} {k : Nat} (hk : k < l.length) (j : Nat) : Co.nth (Co.cut l k) j = if j < k then Co.nth l j else Co.nth l (j + 1) := by
  unfold Co.nth Co.cut
  rw [List.getD_eq_getElem?_getD, List.getD_eq_getElem?_getD, List.getD_eq_getElem?_getD]
  have hl : (l.take k).length = k := by simp; omega
  split
  · rename_i h
    rw [List.getElem?_append_left (by omega), List.getElem?_take, if_pos h]
  · rename_i h
    rw [List.getElem?_append_right (by omega), hl, List.getElem?_drop, show k + 1 + (j - k) = j + 1 by omega]
theorem Co.cut_put {l : List Co} {k : Nat} (hk : k ≤ l.length) (c : Co) : Co.cut (Co.put l k c) k = l := by
  have h1 := Co.put_length hk c
  have h2 := Co.cut_length (l := Co.put l k c) (k := k) (by omega)
  refine Co.ext_nth (by omega) fun j hj => ?_
  rw [Co.nth_cut (by omega), Co.nth_put hk, Co.nth_put hk]
  split
  · rfl
  · rw [if_neg (by omega), if_neg (by omega), Nat.add_sub_cancel]
theorem Co.put_cut {l : List Co} {k : Nat} (hk : k < l.length) : Co.put (Co.cut l k) k (Co.nth l k) = l := by
  have h1 := Co.cut_length hk
  have h2 := Co.put_length (l := Co.cut l k) (k := k) (by omega) (Co.nth l k)
  refine Co.ext_nth (by omega) fun j hj => ?_
  rw [Co.nth_put (by omega), Co.nth_cut hk, Co.nth_cut hk]
  split
  · rfl
  · split
    · rename_i h; rw [h]
    · rw [if_neg (by omega), show j - 1 + 1 = j by omega]
/-- Coins with one more. -/
def Co.add (l : List Co) (c : Co) : Option (List Co) := if Co.lok l = true then (if c.ok = true then (if l.length = 80 then none else if Co.has l c.tx c.out = true then none else some (Co.put l (Co.at_ l c.tx c.out) c)) else none) else none
theorem Co.add_some {l m : List Co} {c : Co} (h : Co.add l c = some m) : Co.lok l = true ∧ c.ok = true ∧ l.length ≠ 80 ∧ Co.has l c.tx c.out = false ∧ m = Co.put l (Co.at_ l c.tx c.out) c := by
  unfold Co.add at h
  split at h
  · rename_i h1
    split at h
    · rename_i h2
      split at h
      · cases h
      · rename_i h3
        split at h
        · cases h
        · rename_i h4
          cases h
          exact ⟨h1, h2, h3, by simpa using h4, rfl⟩
    · cases h
  · cases h
theorem Co.put_good {l : List Co} {c : Co} (hl : Co.Good l) (hc : c.Ok) (hn : l.length < 80) (hh : Co.has l c.tx c.out = false) : Co.Good (Co.put l (Co.at_ l c.tx c.out) c) ∧ Co.at_ (Co.put l (Co.at_ l c.tx c.out) c) c.tx c.out = Co.at_ l c.tx c.out := by
  obtain ⟨k1, k2, k3⟩ := Co.at_spec l c.tx c.out
  have k4 : Co.at_ l c.tx c.out < l.length → ¬ ((Co.nth l (Co.at_ l c.tx c.out)).tx = c.tx ∧ (Co.nth l (Co.at_ l c.tx c.out)).out = c.out) := fun hk hq => by
    have := (Co.has_iff l c.tx c.out).2 ⟨hk, hq⟩
    rw [hh] at this
    cases this
  generalize Co.at_ l c.tx c.out = k at k1 k2 k3 k4 ⊢
  have hlen := Co.put_length k1 c
  have hbelow : ∀ j, j < k → (Co.nth l j).tx < c.tx ∨ ((Co.nth l j).tx = c.tx ∧ (Co.nth l j).out < c.out) := fun j hj => (Co.less_iff _ _ _).1 (k2 j hj)
  have habove : ∀ j, k ≤ j → j < l.length → c.tx < (Co.nth l j).tx ∨ (c.tx = (Co.nth l j).tx ∧ c.out < (Co.nth l j).out) := by
    intro j hj hjl
    have h1 := (Co.less_no _ _ _).1 (k3 (by omega))
    have h2 := k4 (by omega)
    by_cases he : j = k
    · subst he; omega
    · have h3 := hl.asc k j (by omega) hjl
      omega
  refine ⟨⟨by omega, fun j hj => ?_, fun i j hij hj => ?_⟩, ?_⟩
  · rw [Co.nth_put k1]
    split
    · exact hl.ok j (by omega)
    · split
      · exact hc
      · exact hl.ok _ (by omega)
  · rw [Co.nth_put k1, Co.nth_put k1]
    by_cases a1 : j < k
    · rw [if_pos (by omega), if_pos a1]
      exact hl.asc i j hij (by omega)
    · rw [if_neg a1]
      by_cases a2 : j = k
      · rw [if_pos a2, if_pos (by omega)]
        exact hbelow i (by omega)
      · rw [if_neg a2]
        by_cases a3 : i < k
        · rw [if_pos a3]
          exact hl.asc i (j - 1) (by omega) (by omega)
        · rw [if_neg a3]
          by_cases a4 : i = k
          · rw [if_pos a4]
            exact habove (j - 1) (by omega) (by omega)
          · rw [if_neg a4]
            exact hl.asc (i - 1) (j - 1) (by omega) (by omega)
  · refine Co.at_uniq _ _ _ k (by omega) (fun j hj => ?_) (fun _ => ?_)
    · rw [Co.nth_put k1, if_pos hj]
      exact k2 j hj
    · rw [Co.nth_put k1, if_neg (by omega), if_pos rfl]
      exact (Co.less_no _ _ _).2 (by omega)
theorem Co.cut_good {l : List Co} {k : Nat} (hl : Co.Good l) (hk : k < l.length) : Co.Good (Co.cut l k) ∧ Co.has (Co.cut l k) (Co.nth l k).tx (Co.nth l k).out = false ∧ Co.at_ (Co.cut l k) (Co.nth l k).tx (Co.nth l k).out = k := by
  have hlen := Co.cut_length hk
  have hl80 := hl.len
  have hat : Co.at_ (Co.cut l k) (Co.nth l k).tx (Co.nth l k).out = k := by
    refine Co.at_uniq _ _ _ k (by omega) (fun j hj => ?_) (fun h2 => ?_)
    · rw [Co.nth_cut hk, if_pos hj]
      exact (Co.less_iff _ _ _).2 (hl.asc j k hj hk)
    · rw [Co.nth_cut hk, if_neg (by omega)]
      have := hl.asc k (k + 1) (by omega) (by omega)
      exact (Co.less_no _ _ _).2 (by omega)
  refine ⟨⟨by omega, fun j hj => ?_, fun i j hij hj => ?_⟩, ?_, hat⟩
  · rw [Co.nth_cut hk]
    split
    · exact hl.ok j (by omega)
    · exact hl.ok _ (by omega)
  · rw [Co.nth_cut hk, Co.nth_cut hk]
    by_cases a1 : j < k
    · rw [if_pos (by omega), if_pos a1]
      exact hl.asc i j hij (by omega)
    · rw [if_neg a1]
      split
      · exact hl.asc i (j + 1) (by omega) (by omega)
      · exact hl.asc (i + 1) (j + 1) (by omega) (by omega)
  · cases hh : Co.has (Co.cut l k) (Co.nth l k).tx (Co.nth l k).out with
    | false => rfl
    | true =>
      have h1 := (Co.has_iff _ _ _).1 hh
      rw [hat, Co.nth_cut hk, if_neg (by omega)] at h1
      have := hl.asc k (k + 1) (by omega) (by omega)
      omega
/-- Coins without one, and that one. -/
def Co.spend (l : List Co) (t o : Int) : Option (List Co × Co) := match Co.find l t o with
  | none => none
  | some c => some (Co.cut l (Co.at_ l t o), c)
theorem Co.spend_none {l : List Co} {t o : Int} (h : Co.find l t o = none) : Co.spend l t o = none := by
  unfold Co.spend
  rw [h]
theorem Co.spend_some {l : List Co} {t o : Int} {c : Co} (h : Co.find l t o = some c) : Co.spend l t o = some (Co.cut l (Co.at_ l t o), c) := by
  unfold Co.spend
  rw [h]
/-- What was added can be spent. -/
theorem Co.spend_add {l m : List Co} {c : Co} (h : Co.add l c = some m) : Co.spend m c.tx c.out = some (l, c) := by
  obtain ⟨h1, h2, h3, h4, rfl⟩ := Co.add_some h
  have hg := (Co.good_iff l).1 h1
  have hlen := hg.len
  obtain ⟨g1, g2⟩ := Co.put_good hg ((Co.ok_iff c).1 h2) (by omega) h4
  obtain ⟨k1, _, _⟩ := Co.at_spec l c.tx c.out
  have hn : Co.nth (Co.put l (Co.at_ l c.tx c.out) c) (Co.at_ l c.tx c.out) = c := by
    rw [Co.nth_put k1, if_neg (by omega), if_pos rfl]
  have hf : Co.find (Co.put l (Co.at_ l c.tx c.out) c) c.tx c.out = some c := by
    unfold Co.find
    rw [if_pos ((Co.good_iff _).2 g1), if_pos ((Co.has_iff _ _ _).2 ?_), g2, hn]
    rw [g2, hn, Co.put_length k1]
    exact ⟨by omega, rfl, rfl⟩
  rw [Co.spend_some hf, g2, Co.cut_put k1]
/-- What was spent can be added. -/
theorem Co.add_spend {l m : List Co} {t o : Int} {c : Co} (h : Co.spend l t o = some (m, c)) : Co.add m c = some l ∧ c.tx = t ∧ c.out = o := by
  cases hf : Co.find l t o with
  | none => rw [Co.spend_none hf] at h; cases h
  | some x =>
    rw [Co.spend_some hf] at h
    cases h
    obtain ⟨h1, h2, h3, h4, h5⟩ := Co.find_some hf
    have hg := (Co.good_iff l).1 h1
    have hk := ((Co.has_iff _ _ _).1 h2).1
    obtain ⟨g1, g2, g3⟩ := Co.cut_good hg hk
    have hlen := Co.cut_length hk
    have hl80 := hg.len
    refine ⟨?_, h4, h5⟩
    rw [← h3] at g2 g3
    unfold Co.add
    rw [if_pos ((Co.good_iff _).2 g1), if_pos ((Co.ok_iff _).2 (h3 ▸ hg.ok _ hk)), if_neg (by omega), if_neg (by rw [g2]; decide), g3, h3, Co.put_cut hk]
theorem Co.tail_good {l : List Co} (h : Co.Good l) (j : Nat) : Co.Good (l.drop j) := by
  have hn : ∀ i, Co.nth (l.drop j) i = Co.nth l (j + i) := fun i => by
    unfold Co.nth
    rw [List.getD_eq_getElem?_getD, List.getD_eq_getElem?_getD, List.getElem?_drop]
  have hlen := h.len
  refine ⟨by simp; omega, fun i hi => ?_, fun a b hab hb => ?_⟩
  · rw [hn]
    exact h.ok _ (by simp at hi; omega)
  · rw [hn, hn]
    exact h.asc _ _ (by omega) (by simp at hb; omega)
/-! ### the sum -/
def Co.sum : List Co → Int
  | [] => 0
  | c :: l => c.amt + Co.sum l
theorem Co.sum_append (l m : List Co) : Co.sum (l ++ m) = Co.sum l + Co.sum m := by
  induction l with
  | nil => simp [Co.sum]
  | cons c l ih => simp [Co.sum, ih]; omega
theorem Co.sum_take {l : List Co} {k : Nat} (hk : k < l.length) : Co.sum (l.take (k + 1)) = Co.sum (l.take k) + (Co.nth l k).amt := by
  rw [List.take_add_one, Co.nth_get hk, Co.sum_append]
  simp [Co.sum]
theorem Co.sum_bd {l : List Co} (h : ∀ c ∈ l, 1 ≤ c.amt ∧ c.amt ≤ 1000000) : 0 ≤ Co.sum l ∧ Co.sum l ≤ (l.length : Int) * 1000000 := by
  induction l with
  | nil => simp [Co.sum]
  | cons c l ih =>
    have h1 := ih fun x hx => h x (List.mem_cons_of_mem _ hx)
    have h2 := h c List.mem_cons_self
    simp only [Co.sum, List.length_cons]
    omega
theorem Co.good_mem {l : List Co} (h : Co.Good l) : ∀ c ∈ l, c.Ok := fun c hc => by
  obtain ⟨j, hj, rfl⟩ := Co.mem_nth hc
  exact h.ok j hj
theorem Co.sum_put {l : List Co} {k : Nat} (c : Co) : Co.sum (Co.put l k c) = Co.sum l + c.amt := by
  have h1 : Co.sum l = Co.sum (l.take k) + Co.sum (l.drop k) := by rw [← Co.sum_append, List.take_append_drop]
  unfold Co.put
  rw [Co.sum_append, h1]
  simp only [Co.sum]
  omega
theorem Co.sum_cut {l : List Co} {k : Nat} (hk : k < l.length) : Co.sum (Co.cut l k) + (Co.nth l k).amt = Co.sum l := by
  have h1 := Co.sum_put (l := Co.cut l k) (k := k) (Co.nth l k)
  rw [Co.put_cut hk] at h1
  exact h1.symm
def Co.total (l : List Co) : Int := if Co.lok l = true then Co.sum l else -1
/-! ### bytes -/
def Co.flag (b : Bool) : ByteArray := ⟨#[if b then 1 else 0]⟩
def Co.enc (c : Co) : ByteArray := Dg.bytes c.tx ++ (En.num c.out ++ (En.num c.amt ++ (En.text c.lock ++ (En.num c.ht ++ Co.flag c.rew))))
def Co.bytes (l : List Co) : ByteArray := En.num l.length ++ Tr.cat Co.enc l
def Co.rdF (s : ByteArray) : Option (Bool × ByteArray) := if s.size < 1 then none else if 1 < En.lev s 0 1 then none else some (decide (En.lev s 0 1 = 1), En.rest s 1)
def Co.rd (s : ByteArray) : Option (Co × ByteArray) := match Tr.dig s with
  | none => none
  | some a => match En.dec a.2 with
    | none => none
    | some b => match En.dec b.2 with
      | none => none
      | some c => match En.decT c.2 with
        | none => none
        | some d => match En.dec d.2 with
          | none => none
          | some e => match Co.rdF e.2 with
            | none => none
            | some f => some (⟨a.1, b.1, c.1, d.1, e.1, f.1⟩, f.2)
/-- What can be written so that it is read again. -/
structure Co.Fit (c : Co) : Prop where
  tx : 0 ≤ c.tx ∧ c.tx ≤ 4294967295
  out : 0 ≤ c.out ∧ c.out ≤ 4294967295
  amt : 0 ≤ c.amt ∧ c.amt ≤ 4294967295
  lock : c.lock.size ≤ 4000
  ht : 0 ≤ c.ht ∧ c.ht ≤ 4294967295
theorem Co.Ok.fit {c : Co} (h : c.Ok) : c.Fit := ⟨h.tx, by have := h.out; omega, by have := h.amt; omega, by have := h.lock; omega, by have := h.ht; omega⟩
theorem Co.rdF_fw (b : Bool) (t : ByteArray) : Co.rdF (Co.flag b ++ t) = some (b, t) := by
  have h0 : Co.flag b ++ t = ⟨((if b then (1 : UInt8) else 0) :: t.data.toList).toArray⟩ := by
    conv => lhs; rw [← En.mk_self t]
    unfold Co.flag
    exact ByteArray.mk_append_mk _ _
  unfold Co.rdF
  rw [h0, En.lev_one, En.byt_mk, En.rest_mk, En.size_mk]
  cases b
  · simp
  · simp
theorem Co.rdF_bw {s t : ByteArray} {b : Bool} (h : Co.rdF s = some (b, t)) : Co.flag b ++ t = s := by
  obtain ⟨l, rfl⟩ : ∃ l : List UInt8, s = ⟨l.toArray⟩ := ⟨s.data.toList, (En.mk_self s).symm⟩
  rcases l with _ | ⟨b0, l1⟩
  · unfold Co.rdF at h
    rw [En.size_mk] at h
    simp at h
  unfold Co.rdF at h
  rw [En.lev_one, En.byt_mk, En.rest_mk, En.size_mk, if_neg (by simp)] at h
  simp only [List.getElem?_cons_zero, Option.getD_some] at h
  split at h
  · cases h
  · rename_i h1
    cases h
    have hb0 : b0 = (if decide ((b0.toNat : Int) = 1) = true then 1 else 0) := by
      by_cases h2 : (b0.toNat : Int) = 1
      · rw [decide_eq_true h2, if_pos rfl]
        exact UInt8.toNat_inj.1 (by show b0.toNat = 1; omega)
      · rw [decide_eq_false h2, if_neg (by decide)]
        exact UInt8.toNat_inj.1 (by show b0.toNat = 0; omega)
    unfold Co.flag
    rw [← hb0]
    exact ByteArray.mk_append_mk _ _
theorem Co.rd_fw (c : Co) (t : ByteArray) (h : c.Fit) : Co.rd (c.enc ++ t) = some (c, t) := by
  unfold Co.rd Co.enc
  rw [Tr.assoc, Tr.dig_fw _ _ h.tx]
  simp only
  rw [Tr.assoc, En.dec_num _ _ h.out.1 h.out.2]
  simp only
  rw [Tr.assoc, En.dec_num _ _ h.amt.1 h.amt.2]
  simp only
  rw [Tr.assoc, En.decT_text _ _ h.lock]
  simp only
  rw [Tr.assoc, En.dec_num _ _ h.ht.1 h.ht.2]
  simp only
  rw [Co.rdF_fw]
theorem Co.rd_bw (s : ByteArray) (c : Co) (t : ByteArray) (h : Co.rd s = some (c, t)) : c.enc ++ t = s ∧ c.Fit := by
  unfold Co.rd at h
  split at h
  · cases h
  rename_i a ha
  split at h
  · cases h
  rename_i b hb
  split at h
  · cases h
  rename_i m hm
  split at h
  · cases h
  rename_i d hd
  split at h
  · cases h
  rename_i e he
  split at h
  · cases h
  rename_i f hf
  cases h
  obtain ⟨a1, a2⟩ := Tr.dig_bw (s := s) (d := a.1) (t := a.2) ha
  have b1 := En.num_dec (s := a.2) (n := b.1) (r := b.2) hb
  have b2 := En.dec_bd (s := a.2) (n := b.1) (r := b.2) hb
  have m1 := En.num_dec (s := b.2) (n := m.1) (r := m.2) hm
  have m2 := En.dec_bd (s := b.2) (n := m.1) (r := m.2) hm
  obtain ⟨d1, d2⟩ := En.text_decT (s := m.2) (t := d.1) (r := d.2) hd
  have e1 := En.num_dec (s := d.2) (n := e.1) (r := e.2) he
  have e2 := En.dec_bd (s := d.2) (n := e.1) (r := e.2) he
  have f1 := Co.rdF_bw (s := e.2) (b := f.1) (t := f.2) hf
  refine ⟨?_, ⟨a2, ⟨b2.1, b2.2.1⟩, ⟨m2.1, m2.2.1⟩, d2, ⟨e2.1, e2.2.1⟩⟩⟩
  unfold Co.enc
  rw [Tr.assoc, Tr.assoc, Tr.assoc, Tr.assoc, Tr.assoc, f1, e1, d1, m1, b1, a1]
/-- The coins of a string. -/
def Co.read (s : ByteArray) : Option (List Co) := match En.bel s 80 with
  | none => none
  | some e => match Tr.rep Co.rd e.2 e.1.toNat with
    | none => none
    | some x => if x.2.size = 0 then (if Co.lok x.1 = true then some x.1 else none) else none
theorem Co.read_bel {s : ByteArray} (h : En.bel s 80 = none) : Co.read s = none := by
  unfold Co.read
  rw [h]
theorem Co.read_rep {s : ByteArray} {e : Int × ByteArray} (h : En.bel s 80 = some e) (h2 : Tr.rep Co.rd e.2 e.1.toNat = none) : Co.read s = none := by
  unfold Co.read
  rw [h]
  simp only [h2]
theorem Co.read_ok {s : ByteArray} {e : Int × ByteArray} {x : List Co × ByteArray} (h : En.bel s 80 = some e) (h2 : Tr.rep Co.rd e.2 e.1.toNat = some x) : Co.read s = if x.2.size = 0 then (if Co.lok x.1 = true then some x.1 else none) else none := by
  unfold Co.read
  rw [h]
  simp only [h2]
theorem Co.fits {l : List Co} (h : Co.lok l = true) : ∀ c ∈ l, c.Fit := fun c hc => (Co.good_mem ((Co.good_iff l).1 h) c hc).fit
theorem Co.read_bytes {l : List Co} (h : Co.lok l = true) : Co.read (Co.bytes l) = some l := by
  have hl := ((Co.lok_iff l).1 h).1
  have h1 := Tr.rep_all (e := Co.enc) (p := Co.rd) (ok := Co.Fit) Co.rd_fw l (Co.fits h) ByteArray.empty
  rw [Tr.nilR] at h1
  unfold Co.bytes
  rw [Co.read_ok (En.bel_fw (l.length : Int) 80 _ (by omega) (by omega) (by omega)) (by simpa using h1)]
  exact (if_pos rfl).trans (if_pos h)
theorem Co.bytes_read {s : ByteArray} {l : List Co} (h : Co.read s = some l) : Co.bytes l = s ∧ Co.lok l = true := by
  cases he : En.bel s 80 with
  | none => rw [Co.read_bel he] at h; cases h
  | some e =>
    cases hx : Tr.rep Co.rd e.2 e.1.toNat with
    | none => rw [Co.read_rep he hx] at h; cases h
    | some x =>
      rw [Co.read_ok he hx] at h
      split at h
      · rename_i h0
        split at h
        · rename_i hk
          cases h
          obtain ⟨e1, e2, e3, e4⟩ := En.bel_bw (s := s) (n := e.1) (t := e.2) he
          obtain ⟨x1, x2, _⟩ := Tr.rep_bw (e := Co.enc) (p := Co.rd) (ok := Co.Fit) Co.rd_bw hx
          refine ⟨?_, hk⟩
          have hz : x.2 = ByteArray.empty := by
            apply ByteArray.ext
            exact Array.eq_empty_of_size_eq_zero h0
          rw [hz, Tr.nilR] at x1
          unfold Co.bytes
          rw [x1, x2, show ((e.1.toNat : Nat) : Int) = e.1 by omega, e1]
        · cases h
      · cases h
def Co.dig (l : List Co) : Int := if Co.lok l = true then Dg.of (Co.bytes l) else -1
/-- The bytes, step by step. -/
def Co.bts (l : List Co) (k : Nat) : ByteArray := En.num l.length ++ Tr.cat Co.enc (l.take k)
theorem Co.bts_zero (l : List Co) : Co.bts l 0 = En.num l.length := by
  unfold Co.bts
  exact Tr.nilR _
theorem Co.bts_succ {l : List Co} {k : Nat} (hk : k < l.length) : Co.bts l (k + 1) = Co.bts l k ++ (Co.nth l k).enc := by
  unfold Co.bts
  rw [List.take_add_one, Co.nth_get hk]
  show En.num l.length ++ Tr.cat Co.enc (l.take k ++ [Co.nth l k]) = _
  rw [Tr.cat_snoc, Tr.assoc]
theorem Co.bts_all (l : List Co) : Co.bts l l.length = Co.bytes l := by
  unfold Co.bts Co.bytes
  rw [List.take_length]
theorem Co.flag_size (b : Bool) : (Co.flag b).size = 1 := rfl
theorem Co.enc_size {c : Co} (h : c.Fit) : c.enc.size ≤ 4100 := by
  have h1 := Dg.bytes_size c.tx
  have h2 := En.size_num c.out
  have h3 := En.size_num c.amt
  have h4 := En.text_size c.lock h.lock
  have h5 := En.size_num c.ht
  have h6 := Co.flag_size c.rew
  unfold Co.enc
  simp only [ByteArray.size_append]
  omega
theorem Co.bts_size {l : List Co} (h : ∀ c ∈ l, c.Fit) : ∀ k, k ≤ l.length → (Co.bts l k).size ≤ 10 + k * 4100 := by
  intro k
  induction k with
  | zero =>
    intro _
    rw [Co.bts_zero]
    have := En.size_num (l.length : Int)
    omega
  | succ k ih =>
    intro hk
    have h1 := ih (by omega)
    have h2 := Co.enc_size (h _ (Co.nth_mem (show k < l.length by omega)))
    rw [Co.bts_succ (by omega), ByteArray.size_append]
    omega
end Go.Proofs.Ytohameoomlehlab
