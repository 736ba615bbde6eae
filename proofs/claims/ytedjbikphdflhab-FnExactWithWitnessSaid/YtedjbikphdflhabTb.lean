/-
  What slices of inputs and of outputs hold.
-/
import Derived.Test.YtedjbikphdflhabTa
import Derived.Test.YtedjbikphdflhabBk
import Derived.Test.YtedjbikphdflhabOw
import Derived.Test.YtedjbikphdflhabSl
import Derived.Below
import Derived.WalkKit
import Derived.WalkSpells
import Derived.LoopTactic
namespace Go.Proofs.Ytedjbikphdflhab
open Go.RowKit

def Tr.inAt (l : List Tr.In) (j : Nat) : Tr.In := l.getD j Tr.z
def Tr.outAt (l : List Tr.Out) (j : Nat) : Tr.Out := l.getD j Tr.zo
theorem Tr.inAt_get {l : List Tr.In} {j : Nat} (h : j < l.length) : l[j]? = some (Tr.inAt l j) := by
  unfold Tr.inAt
  rw [List.getD_eq_getElem?_getD, List.getElem?_eq_getElem h]
  rfl
theorem Tr.outAt_get {l : List Tr.Out} {j : Nat} (h : j < l.length) : l[j]? = some (Tr.outAt l j) := by
  unfold Tr.outAt
  rw [List.getD_eq_getElem?_getD, List.getElem?_eq_getElem h]
  rfl
theorem Tr.inAt_mem {l : List Tr.In} {j : Nat} (h : j < l.length) : Tr.inAt l j ∈ l := List.mem_of_getElem? (Tr.inAt_get h)
theorem Tr.outAt_mem {l : List Tr.Out} {j : Nat} (h : j < l.length) : Tr.outAt l j ∈ l := List.mem_of_getElem? (Tr.outAt_get h)
/-- An input's cells and what its witness holds; the witness's block is no older than lo. -/
structure InC (lo : Nat) (w : World) (b o : Nat) (x : Tr.In) (wa : Option Addr) (wc : Nat) : Prop where
  tx : w.cell? ⟨b, o, none⟩ = some (.int .i64 x.tx)
  out : w.cell? ⟨b, o + 1, none⟩ = some (.int .i64 x.out)
  wit : w.cell? ⟨b, o + 2, none⟩ = some (.slice wa x.wit.length wc)
  row : SR w wa x.wit.length x.wit
  low : 0 < x.wit.length → ∀ g off, wa = some ⟨g, off, none⟩ → lo ≤ g
theorem InC.grown {lo : Nat} {w w' : World} {b o : Nat} {x : Tr.In} {wa : Option Addr} {wc : Nat} {row : Option Nat} (h : InC lo w b o x wa wc) (hg : w.grownBy w' row) (hb : some b ≠ row) (hr : ∀ r, row = some r → r < lo) : InC lo w' b o x wa wc :=
  ⟨hg.cell h.tx (by simpa using hb), hg.cell h.out (by simpa using hb), hg.cell h.wit (by simpa using hb),
   h.row.grown hg (fun h0 g off he e => by have := h.low h0 g off he; have := hr g e.symm; omega), h.low⟩
theorem InC.mono {lo lo' : Nat} {w : World} {b o : Nat} {x : Tr.In} {wa : Option Addr} {wc : Nat} (h : InC lo w b o x wa wc) (hl : lo' ≤ lo) : InC lo' w b o x wa wc :=
  ⟨h.tx, h.out, h.wit, h.row, fun h0 g off he => Nat.le_trans hl (h.low h0 g off he)⟩
/-- The slice at a holds the len inputs l; all its blocks are no older than lo. -/
def InL (lo : Nat) (w : World) (a : Option Addr) (len : Nat) (l : List Tr.In) : Prop :=
  l.length = len ∧ (0 < len → ∃ b off, a = some ⟨b, off, none⟩ ∧ lo ≤ b ∧ b < w.heap.size ∧ ∀ j, j < len → ∃ wa wc, InC lo w b (off + j * 3) (Tr.inAt l j) wa wc)
theorem InL.grown {lo : Nat} {w w' : World} {a : Option Addr} {len : Nat} {l : List Tr.In} {row : Option Nat} (h : InL lo w a len l) (hg : w.grownBy w' row) (hr : ∀ r, row = some r → r < lo) : InL lo w' a len l :=
  ⟨h.1, fun h0 => by
    obtain ⟨b, off, rfl, hlo, hb, hc⟩ := h.2 h0
    refine ⟨b, off, rfl, hlo, Nat.lt_of_lt_of_le hb hg.size, fun j hj => ?_⟩
    obtain ⟨wa, wc, hi⟩ := hc j hj
    exact ⟨wa, wc, hi.grown hg (fun e => by have := hr b e.symm; omega) hr⟩⟩
theorem InL.below {lo : Nat} {w w' : World} {a : Option Addr} {len : Nat} {l : List Tr.In} (h : InL lo w a len l) (hb : Below w.heap.size w w') : InL lo w' a len l :=
  h.grown (row := none) ⟨hb.os, hb.tape, hb.output, hb.size, fun k hk _ => hb.block k hk⟩ (fun _ e => by cases e)
theorem InL.alloc {lo : Nat} {w : World} {a : Option Addr} {len : Nat} {l : List Tr.In} (h : InL lo w a len l) (o : Obj) : InL lo (w.alloc o) a len l :=
  h.grown (World.grownBy_alloc w o none) (fun _ e => by cases e)
theorem InL.drew {lo : Nat} {w : World} {a : Option Addr} {len : Nat} {l : List Tr.In} (h : InL lo w a len l) : InL lo w.drew a len l :=
  h.below (Below.refl _ _).drew
/-- The slice at a holds the len outputs l. -/
def OuL (lo : Nat) (w : World) (a : Option Addr) (len : Nat) (l : List Tr.Out) : Prop :=
  l.length = len ∧ (0 < len → ∃ b off, a = some ⟨b, off, none⟩ ∧ lo ≤ b ∧ b < w.heap.size ∧ ∀ j, j < len → w.cell? ⟨b, off + j * 2, none⟩ = some (.int .i64 (Tr.outAt l j).amt) ∧ w.cell? ⟨b, off + j * 2 + 1, none⟩ = some (.string (Tr.outAt l j).lock))
theorem OuL.grown {lo : Nat} {w w' : World} {a : Option Addr} {len : Nat} {l : List Tr.Out} {row : Option Nat} (h : OuL lo w a len l) (hg : w.grownBy w' row) (hr : ∀ r, row = some r → r < lo) : OuL lo w' a len l :=
  ⟨h.1, fun h0 => by
    obtain ⟨b, off, rfl, hlo, hb, hc⟩ := h.2 h0
    have hn : some b ≠ row := fun e => by have := hr b e.symm; omega
    exact ⟨b, off, rfl, hlo, Nat.lt_of_lt_of_le hb hg.size, fun j hj => ⟨hg.cell (hc j hj).1 (by simpa using hn), hg.cell (hc j hj).2 (by simpa using hn)⟩⟩⟩
theorem OuL.below {lo : Nat} {w w' : World} {a : Option Addr} {len : Nat} {l : List Tr.Out} (h : OuL lo w a len l) (hb : Below w.heap.size w w') : OuL lo w' a len l :=
  h.grown (row := none) ⟨hb.os, hb.tape, hb.output, hb.size, fun k hk _ => hb.block k hk⟩ (fun _ e => by cases e)
theorem OuL.alloc {lo : Nat} {w : World} {a : Option Addr} {len : Nat} {l : List Tr.Out} (h : OuL lo w a len l) (o : Obj) : OuL lo (w.alloc o) a len l :=
  h.grown (World.grownBy_alloc w o none) (fun _ e => by cases e)
theorem OuL.drew {lo : Nat} {w : World} {a : Option Addr} {len : Nat} {l : List Tr.Out} (h : OuL lo w a len l) : OuL lo w.drew a len l :=
  h.below (Below.refl _ _).drew
/-- A transaction as a value: two slices and what they hold. -/
structure TrR (lo : Nat) (w : World) (a : Option Addr) (n : Nat) (b : Option Addr) (m : Nat) (t : Tr) : Prop where
  ins : InL lo w a n t.ins
  outs : OuL lo w b m t.outs
theorem TrR.grown {lo : Nat} {w w' : World} {a b : Option Addr} {n m : Nat} {t : Tr} {row : Option Nat} (h : TrR lo w a n b m t) (hg : w.grownBy w' row) (hr : ∀ r, row = some r → r < lo) : TrR lo w' a n b m t := ⟨h.ins.grown hg hr, h.outs.grown hg hr⟩
theorem TrR.below {lo : Nat} {w w' : World} {a b : Option Addr} {n m : Nat} {t : Tr} (h : TrR lo w a n b m t) (hb : Below w.heap.size w w') : TrR lo w' a n b m t := ⟨h.ins.below hb, h.outs.below hb⟩
theorem TrR.alloc {lo : Nat} {w : World} {a b : Option Addr} {n m : Nat} {t : Tr} (h : TrR lo w a n b m t) (o : Obj) : TrR lo (w.alloc o) a n b m t := ⟨h.ins.alloc o, h.outs.alloc o⟩
theorem TrR.drew {lo : Nat} {w : World} {a b : Option Addr} {n m : Nat} {t : Tr} (h : TrR lo w a n b m t) : TrR lo w.drew a n b m t := ⟨h.ins.drew, h.outs.drew⟩
/-- Sizes that a machine's number counts. -/
structure Tr.small (t : Tr) : Prop where
  nin : t.ins.length ≤ 1048576
  nout : t.outs.length ≤ 1048576
  wit : ∀ x ∈ t.ins, x.wit.length ≤ 1048576 ∧ ∀ s ∈ x.wit, s.size ≤ 1048576
  num : ∀ x ∈ t.ins, (-9223372036854775808 ≤ x.tx ∧ x.tx ≤ 9223372036854775807) ∧ (-9223372036854775808 ≤ x.out ∧ x.out ≤ 9223372036854775807)
  lock : ∀ x ∈ t.outs, x.lock.size ≤ 1048576
  note : t.note.size ≤ 1048576
/-! ### what is found out step by step -/
theorem Tr.insOk_bad {l : List Tr.In} {j : Nat} (hj : j < l.length) (h : (Tr.inAt l j).ok = false) : Tr.insOk l = false := by
  unfold Tr.insOk
  have : l.all Tr.In.ok = false := by
    rw [Bool.eq_false_iff]
    intro h2
    have := List.all_eq_true.1 h2 _ (Tr.inAt_mem hj)
    rw [h] at this
    cases this
  rw [this]
  rfl
theorem Tr.insOk_twice {l : List Tr.In} {i k : Nat} (hi : i < l.length) (hk : k < i) (h : (Tr.inAt l k).same (Tr.inAt l i) = true) : Tr.insOk l = false := by
  unfold Tr.insOk
  have : Tr.apart l = false := by
    rw [Bool.eq_false_iff]
    intro h2
    have h3 := List.all_eq_true.1 h2 i (List.mem_range.2 hi)
    have h4 := List.all_eq_true.1 h3 k (List.mem_range.2 hk)
    unfold Tr.inAt at h
    rw [h] at h4
    cases h4
  rw [this, Bool.and_false]
  rfl
theorem Tr.insOk_end {l : List Tr.In} (h : ∀ j, j < l.length → (Tr.inAt l j).ok = true) (h2 : ∀ i, i < l.length → ∀ k, k < i → (Tr.inAt l k).same (Tr.inAt l i) = false) : Tr.insOk l = decide (l.length ≤ 6) := by
  unfold Tr.insOk
  have h3 : l.all Tr.In.ok = true := by
    rw [List.all_eq_true]
    intro x hx
    obtain ⟨j, hj, rfl⟩ := List.mem_iff_getElem.1 hx
    have h4 := h j hj
    unfold Tr.inAt at h4
    rw [List.getD_eq_getElem?_getD, List.getElem?_eq_getElem hj] at h4
    exact h4
  have h4 : Tr.apart l = true := by
    unfold Tr.apart
    rw [List.all_eq_true]
    intro i hi
    rw [List.all_eq_true]
    intro k hk
    have := h2 i (List.mem_range.1 hi) k (List.mem_range.1 hk)
    unfold Tr.inAt at this
    rw [this]
    rfl
  rw [h3, h4]
  rfl
theorem Tr.sum_take (l : List Tr.Out) (k : Nat) (hk : k < l.length) : Tr.sum (l.take (k + 1)) = Tr.sum (l.take k) + (Tr.outAt l k).amt := by
  unfold Tr.sum
  rw [List.take_add_one, Tr.outAt_get hk, Option.toList_some, List.foldl_append]
  rfl
theorem Tr.outsOk_bad {l : List Tr.Out} {j : Nat} (hj : j < l.length) (h : (Tr.outAt l j).ok = false) : Tr.outsOk l = false := by
  unfold Tr.outsOk
  have : l.all Tr.Out.ok = false := by
    rw [Bool.eq_false_iff]
    intro h2
    have := List.all_eq_true.1 h2 _ (Tr.outAt_mem hj)
    rw [h] at this
    cases this
  rw [this]
  simp
theorem Tr.outsOk_end {l : List Tr.Out} (h0 : 1 ≤ l.length ∧ l.length ≤ 6) (h : ∀ j, j < l.length → (Tr.outAt l j).ok = true) : Tr.outsOk l = decide (Tr.sum l ≤ 1000000) := by
  unfold Tr.outsOk
  have h3 : l.all Tr.Out.ok = true := by
    rw [List.all_eq_true]
    intro x hx
    obtain ⟨j, hj, rfl⟩ := List.mem_iff_getElem.1 hx
    have h4 := h j hj
    unfold Tr.outAt at h4
    rw [List.getD_eq_getElem?_getD, List.getElem?_eq_getElem hj] at h4
    exact h4
  rw [h3]
  simp [h0.1, h0.2]
theorem Tr.outsOk_len {l : List Tr.Out} (h : ¬ (1 ≤ l.length ∧ l.length ≤ 6)) : Tr.outsOk l = false := by
  unfold Tr.outsOk
  have : (decide (1 ≤ l.length) && decide (l.length ≤ 6)) = false := by
    rw [Bool.eq_false_iff]
    intro h2
    simp at h2
    exact h ⟨h2.1, h2.2⟩
  rw [this]
  rfl
end Go.Proofs.Ytedjbikphdflhab
