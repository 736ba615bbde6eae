/-
  Plain: sizes of what a transaction's bytes are made of, step by step.
-/
import Derived.Test.YtedjbikphdflhabTb
namespace Go.Proofs.Ytedjbikphdflhab

theorem Tr.cat_take {α : Type} (e : α → ByteArray) (l : List α) (d : α) (k : Nat) (hk : k < l.length) : Tr.cat e (l.take (k + 1)) = Tr.cat e (l.take k) ++ e (l.getD k d) := by
  rw [List.take_add_one, List.getElem?_eq_getElem hk, Option.toList_some, Tr.cat_snoc, List.getD_eq_getElem?_getD, List.getElem?_eq_getElem hk]
  rfl
theorem Tr.cat_size {α : Type} (e : α → ByteArray) (l : List α) (N : Nat) (h : ∀ x ∈ l, (e x).size ≤ N) : (Tr.cat e l).size ≤ l.length * N := by
  induction l with
  | nil => exact Nat.zero_le _
  | cons x l ih =>
    show (e x ++ Tr.cat e l).size ≤ _
    rw [ByteArray.size_append, List.length_cons, Nat.add_mul, Nat.one_mul]
    have h1 := h x (by simp)
    have h2 := ih (fun y hy => h y (by simp [hy]))
    omega
theorem Tr.cat_take_size {α : Type} (e : α → ByteArray) (l : List α) (N k : Nat) (h : ∀ x ∈ l, (e x).size ≤ N) (hl : l.length ≤ 6) : (Tr.cat e (l.take k)).size ≤ 6 * N := by
  have h1 := Tr.cat_size e (l.take k) N (fun x hx => h x (List.mem_of_mem_take hx))
  have h2 : (l.take k).length ≤ 6 := by rw [List.length_take]; omega
  exact Nat.le_trans h1 (Nat.mul_le_mul_right N h2)
theorem Tr.text_size {s : ByteArray} {n : Nat} (h : s.size ≤ n) : (En.text s).size ≤ 5 + n := by
  unfold En.text
  rw [ByteArray.size_append]
  have := En.size_num s.size
  omega
theorem Tr.texts_size {l : List ByteArray} (h1 : l.length ≤ 24) (h2 : ∀ s ∈ l, s.size ≤ 80) : (En.texts l).size ≤ 2045 := by
  unfold En.texts
  rw [ByteArray.size_append, En.cat_tr]
  have h3 := En.size_num l.length
  have h4 := Tr.cat_size En.text l 85 (fun s hs => Tr.text_size (h2 s hs))
  omega
theorem Tr.In.enc_size (w : Bool) {x : Tr.In} (h : Vm.fits x.wit) : (x.enc w).size ≤ 2054 := by
  unfold Tr.In.enc
  rw [ByteArray.size_append, ByteArray.size_append, Dg.bytes_size]
  have h1 := En.size_num x.out
  have h2 := Tr.texts_size h.1 h.2
  have h3 : ByteArray.empty.size = 0 := rfl
  split <;> omega
theorem Tr.Out.enc_size {x : Tr.Out} (h : x.lock.size ≤ 300) : x.enc.size ≤ 310 := by
  unfold Tr.Out.enc
  rw [ByteArray.size_append]
  have h1 := En.size_num x.amt
  have h2 := Tr.text_size h
  omega
/-- All that a transaction which is valid by itself keeps, but for the count of its bytes. -/
structure Tr.mid (t : Tr) : Prop where
  nin : t.ins.length ≤ 6
  ins : ∀ x ∈ t.ins, (0 ≤ x.tx ∧ x.tx ≤ 4294967295) ∧ (0 ≤ x.out ∧ x.out ≤ 5) ∧ Vm.fits x.wit
  nout : t.outs.length ≤ 6
  outs : ∀ x ∈ t.outs, (1 ≤ x.amt ∧ x.amt ≤ 1000000) ∧ x.lock.size ≤ 300
  after : 0 ≤ t.after ∧ t.after ≤ 9999
  note : t.note.size ≤ 20
theorem Tr.In.ok_iff (x : Tr.In) : x.ok = true ↔ (0 ≤ x.tx ∧ x.tx ≤ 4294967295) ∧ (0 ≤ x.out ∧ x.out ≤ 5) ∧ Vm.fits x.wit := by
  unfold Tr.In.ok
  simp only [Bool.and_eq_true, decide_eq_true_eq]
theorem Tr.Out.ok_iff (x : Tr.Out) : x.ok = true ↔ (1 ≤ x.amt ∧ x.amt ≤ 1000000) ∧ x.lock.size ≤ 300 := by
  unfold Tr.Out.ok
  simp only [Bool.and_eq_true, decide_eq_true_eq]
theorem Tr.mid_of {t : Tr} (h1 : Tr.insOk t.ins = true) (h2 : Tr.outsOk t.outs = true) (h3 : 0 ≤ t.after ∧ t.after ≤ 9999) (h4 : t.note.size ≤ 20) : t.mid := by
  unfold Tr.insOk at h1
  unfold Tr.outsOk at h2
  simp only [Bool.and_eq_true, decide_eq_true_eq, List.all_eq_true] at h1 h2
  exact ⟨h1.2, fun x hx => (Tr.In.ok_iff x).1 (h1.1.1 x hx), h2.1.2, fun x hx => (Tr.Out.ok_iff x).1 (h2.2.1 x hx), h3, h4⟩
theorem Tr.ok_mid {t : Tr} (h : t.ok = true) : t.mid := by
  unfold Tr.ok at h
  simp only [Bool.and_eq_true, decide_eq_true_eq] at h
  obtain ⟨⟨⟨⟨h1, h2⟩, h3⟩, h4⟩, _⟩ := h
  exact Tr.mid_of h1 h2 h3 h4
/-- The bytes after k inputs, after all of them and j outputs, and at the end. -/
def Tr.s1 (w : Bool) (t : Tr) (k : Nat) : ByteArray := En.num t.ins.length ++ Tr.cat (Tr.In.enc w) (t.ins.take k)
def Tr.s2 (w : Bool) (t : Tr) (k : Nat) : ByteArray := Tr.s1 w t t.ins.length ++ En.num t.outs.length ++ Tr.cat Tr.Out.enc (t.outs.take k)
theorem Tr.s1_zero (w : Bool) (t : Tr) : Tr.s1 w t 0 = En.num t.ins.length := by
  unfold Tr.s1
  rw [List.take_zero]
  exact Tr.nilR _
theorem Tr.s1_succ (w : Bool) (t : Tr) (k : Nat) (hk : k < t.ins.length) : Tr.s1 w t (k + 1) = Tr.s1 w t k ++ (Tr.inAt t.ins k).enc w := by
  unfold Tr.s1
  rw [Tr.cat_take _ _ Tr.z k hk, Tr.assoc]
  rfl
theorem Tr.s2_zero (w : Bool) (t : Tr) : Tr.s2 w t 0 = Tr.s1 w t t.ins.length ++ En.num t.outs.length := by
  unfold Tr.s2
  rw [List.take_zero]
  exact Tr.nilR _
theorem Tr.s2_succ (w : Bool) (t : Tr) (k : Nat) (hk : k < t.outs.length) : Tr.s2 w t (k + 1) = Tr.s2 w t k ++ (Tr.outAt t.outs k).enc := by
  unfold Tr.s2
  rw [Tr.cat_take _ _ Tr.zo k hk, Tr.assoc _ (Tr.cat Tr.Out.enc (t.outs.take k))]
  rfl
theorem Tr.s2_end (w : Bool) (t : Tr) : Tr.s2 w t t.outs.length ++ En.num t.after ++ En.text t.note = Tr.enc w t := by
  unfold Tr.s2 Tr.s1 Tr.enc
  rw [List.take_length, List.take_length]
  simp only [Tr.assoc]
theorem Tr.s1_size (w : Bool) {t : Tr} (h : t.mid) (k : Nat) : (Tr.s1 w t k).size ≤ 13000 := by
  unfold Tr.s1
  rw [ByteArray.size_append]
  have h1 := En.size_num t.ins.length
  have h2 := Tr.cat_take_size (Tr.In.enc w) t.ins 2054 k (fun x hx => Tr.In.enc_size w (h.ins x hx).2.2) h.nin
  omega
theorem Tr.s2_size (w : Bool) {t : Tr} (h : t.mid) (k : Nat) : (Tr.s2 w t k).size ≤ 15000 := by
  unfold Tr.s2
  rw [ByteArray.size_append, ByteArray.size_append]
  have h0 := Tr.s1_size w h t.ins.length
  have h1 := En.size_num t.outs.length
  have h2 := Tr.cat_take_size Tr.Out.enc t.outs 310 k (fun x hx => Tr.Out.enc_size (h.outs x hx).2) h.nout
  omega
theorem Tr.enc_size (w : Bool) {t : Tr} (h : t.mid) : (Tr.enc w t).size ≤ 15100 := by
  rw [← Tr.s2_end, ByteArray.size_append, ByteArray.size_append]
  have h0 := Tr.s2_size w h t.outs.length
  have h1 := En.size_num t.after
  have h2 := Tr.text_size h.note
  omega
end Go.Proofs.Ytedjbikphdflhab
