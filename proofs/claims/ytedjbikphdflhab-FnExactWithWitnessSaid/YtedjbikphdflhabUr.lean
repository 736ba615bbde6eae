/-
  The laws' marks on what a call owns: each cell of a row gets a mark of its own, and no block beside the rows changes.
-/
import Derived.Test.YtedjbikphdflhabUn
import Derived.Test.YtedjbikphdflhabTw
namespace Go.Proofs.Ytedjbikphdflhab
open Go.RowKit

/-- Of the blocks that there were, none below lo and none from hi on has changed. -/
structure Seg (lo hi : Nat) (w w' : World) : Prop where
  os : w'.os = w.os
  tape : w'.tape = w.tape
  output : w'.output = w.output
  size : w.heap.size ≤ w'.heap.size
  block : ∀ q, q < w.heap.size → (q < lo ∨ hi ≤ q) → w'.heap[q]? = w.heap[q]?
theorem Seg.refl (lo hi : Nat) (w : World) : Seg lo hi w w := ⟨rfl, rfl, rfl, Nat.le_refl _, fun _ _ _ => rfl⟩
theorem Seg.trans {lo hi : Nat} {a b c : World} (h : Seg lo hi a b) (k : Seg lo hi b c) : Seg lo hi a c :=
  ⟨k.os.trans h.os, k.tape.trans h.tape, k.output.trans h.output, Nat.le_trans h.size k.size, fun q hq hr => (k.block q (Nat.lt_of_lt_of_le hq h.size) hr).trans (h.block q hq hr)⟩
theorem Seg.of_below {lo hi : Nat} {w w' : World} (h : Below w.heap.size w w') : Seg lo hi w w' := ⟨h.os, h.tape, h.output, h.size, fun q hq _ => h.block q hq⟩
theorem Seg.of_grown {lo hi : Nat} {w w' : World} {row : Option Nat} (h : w.grownBy w' row) (hr : ∀ g, row = some g → lo ≤ g ∧ g < hi) : Seg lo hi w w' :=
  ⟨h.os, h.tape, h.output, h.size, fun q hq hq2 => h.block q hq fun e => by have := hr q e.symm; omega⟩
theorem Seg.below {lo hi N : Nat} {w w' : World} (h : Seg lo hi w w') (h1 : N ≤ lo) (h2 : N ≤ w.heap.size) : Below N w w' :=
  ⟨h.os, h.tape, h.output, h.size, fun q hq => h.block q (by omega) (.inl (by omega))⟩
theorem own_seg {lo hi base k n : Nat} {e : TypeId} {v : Value} {xs : List Value} {w w' : World} (h : w.ownsRow base e k v n xs) (hs : Seg lo hi w w') (hv : ∀ g, v.ownBlock = some g → g < lo ∨ hi ≤ g) : w'.ownsRow base e k v n xs := by
  obtain ⟨hl, h⟩ := h
  rcases h with ⟨he, h0⟩ | ⟨g, cap, cur, he, hg, hh, h5, h6, h7, h8⟩
  · exact ⟨hl, .inl ⟨he, h0⟩⟩
  · exact ⟨hl, .inr ⟨g, cap, cur, he, hg, (hs.block g (lt_of_block hh) (hv g (by rw [he]; rfl))).trans hh, h5, h6, h7, h8⟩⟩
theorem Bk.seg {lo hi B : Nat} {t : TypeId} {cs : Array Value} {w w' : World} (h : Bk B t cs w) (hs : Seg lo hi w w') (hB : B < lo ∨ hi ≤ B) : Bk B t cs w' := ⟨(hs.block B h.lt hB).trans h.held⟩
/-- All blocks of a transaction's inputs lie below hi. -/
def UpI (hi : Nat) (v : Value) (l : List (Tr.In × Value)) : Prop := (∀ g, v.ownBlock = some g → g < hi) ∧ ∀ x ∈ l, ∀ g, x.2.ownBlock = some g → g < hi
theorem OwnI.up {base : Nat} {w : World} {v : Value} {l : List (Tr.In × Value)} (h : OwnI base w v l) : UpI w.heap.size v l := ⟨fun g hg => (h.1.lt g hg).2, fun x hx g hg => ((h.2 x hx).2.lt g hg).2⟩
theorem OwnI.segHi {base lo hi : Nat} {w w' : World} {v : Value} {l : List (Tr.In × Value)} (h : OwnI base w v l) (hs : Seg lo hi w w') (hb : hi ≤ base) : OwnI base w' v l :=
  ⟨own_seg h.1 hs fun g hg => .inr (Nat.le_trans hb (h.1.lt g hg).1), fun x hx => ⟨(h.2 x hx).1, own_seg (h.2 x hx).2 hs fun g hg => .inr (Nat.le_trans hb ((h.2 x hx).2.lt g hg).1)⟩⟩
theorem OwnI.segLo {base lo hi : Nat} {w w' : World} {v : Value} {l : List (Tr.In × Value)} (h : OwnI base w v l) (hs : Seg lo hi w w') (hb : UpI lo v l) : OwnI base w' v l :=
  ⟨own_seg h.1 hs fun g hg => .inl (hb.1 g hg), fun x hx => ⟨(h.2 x hx).1, own_seg (h.2 x hx).2 hs fun g hg => .inl (hb.2 x hx g hg)⟩⟩
theorem OwnO.segHi {base lo hi : Nat} {w w' : World} {v : Value} {l : List Tr.Out} (h : OwnO base w v l) (hs : Seg lo hi w w') (hb : hi ≤ base) : OwnO base w' v l :=
  own_seg h hs fun g hg => .inr (Nat.le_trans hb (World.ownsRow.lt h g hg).1)
theorem OwnO.segLo {base lo hi : Nat} {w w' : World} {v : Value} {l : List Tr.Out} (h : OwnO base w v l) (hs : Seg lo hi w w') (hb : ∀ g, v.ownBlock = some g → g < lo) : OwnO base w' v l :=
  own_seg h hs fun g hg => .inl (hb g hg)
/-- A row of outputs stays. -/
def KeepO (w w' : World) : Prop := ∀ (B : Nat) (v : Value) (m : Nat) (xs : List Value), w.ownsRow B 80 2 v m xs → w'.ownsRow B 80 2 v m xs
theorem KeepO.refl (w : World) : KeepO w w := fun _ _ _ _ h => h
theorem KeepO.trans {a b c : World} (h : KeepO a b) (k : KeepO b c) : KeepO a c := fun B v m xs q => k B v m xs (h B v m xs q)
/-- The n marks from number k on. -/
def Mk.marks (k : Int) (n : Nat) : List ByteArray := (List.range n).map fun (j : Nat) => Mk.mark (k + (j : Int))
theorem Mk.marks_length (k : Int) (n : Nat) : (Mk.marks k n).length = n := by simp [Mk.marks]
theorem Mk.marks_snoc (k : Int) (n : Nat) : Mk.marks k (n + 1) = Mk.marks k n ++ [Mk.mark (k + (n : Int))] := by simp [Mk.marks, List.range_succ]
theorem Mk.marks_getD (k : Int) (n j : Nat) (h : j < n) : (Mk.marks k n).getD j ByteArray.empty = Mk.mark (k + (j : Int)) := by
  unfold Mk.marks
  rw [List.getD_eq_getElem?_getD, List.getElem?_map, List.getElem?_range h]
  rfl
/-- The inputs, marked from number k on. -/
def Tr.mkI : Int → List (Tr.In × Value) → List (Tr.In × Value)
  | _, [] => []
  | k, x :: l => (⟨k, k + 1, Mk.marks (k + 1 + 1) x.1.wit.length⟩, x.2) :: Tr.mkI (k + 1 + 1 + (x.1.wit.length : Int)) l
/-- The number behind the inputs' marks. -/
def Tr.mkE : Int → List (Tr.In × Value) → Int
  | k, [] => k
  | k, x :: l => Tr.mkE (k + 1 + 1 + (x.1.wit.length : Int)) l
theorem Tr.mkI_append (l m : List (Tr.In × Value)) : ∀ k, Tr.mkI k (l ++ m) = Tr.mkI k l ++ Tr.mkI (Tr.mkE k l) m := by
  induction l with
  | nil => intro k; rfl
  | cons x l ih => intro k; simp [Tr.mkI, Tr.mkE, ih]
theorem Tr.mkE_append (l m : List (Tr.In × Value)) : ∀ k, Tr.mkE k (l ++ m) = Tr.mkE (Tr.mkE k l) m := by
  induction l with
  | nil => intro k; rfl
  | cons x l ih => intro k; simp [Tr.mkE, ih]
theorem Tr.mkE_le (l : List (Tr.In × Value)) : ∀ k, k ≤ Tr.mkE k l := by
  induction l with
  | nil => intro k; exact Int.le_refl _
  | cons x l ih => intro k; have := ih (k + 1 + 1 + (x.1.wit.length : Int)); unfold Tr.mkE; omega
theorem Tr.mkI_length (l : List (Tr.In × Value)) : ∀ k, (Tr.mkI k l).length = l.length := by
  induction l with
  | nil => intro k; rfl
  | cons x l ih => intro k; simp [Tr.mkI, ih]
theorem Tr.mkI_snd (l : List (Tr.In × Value)) : ∀ k, (Tr.mkI k l).map Prod.snd = l.map Prod.snd := by
  induction l with
  | nil => intro k; rfl
  | cons x l ih => intro k; simp [Tr.mkI, ih]
theorem Tr.mkE_up (l : List (Tr.In × Value)) (h : ∀ x ∈ l, x.1.wit.length ≤ 1048576) : ∀ k, Tr.mkE k l ≤ k + (l.length : Int) * 1048578 := by
  induction l with
  | nil => intro k; simp [Tr.mkE]
  | cons x l ih =>
    intro k
    have h1 := ih (fun y hy => h y (by simp [hy])) (k + 1 + 1 + (x.1.wit.length : Int))
    have h2 := h x (by simp)
    simp only [Tr.mkE, List.length_cons]
    omega
theorem DistW.snd {l m : List (Tr.In × Value)} (h : DistW l) (e : m.map Prod.snd = l.map Prod.snd) : DistW m := by
  have key : ∀ q : List (Tr.In × Value), DistW q ↔ (q.map Prod.snd).Pairwise fun x y => x.ownBlock = none ∨ x.ownBlock ≠ y.ownBlock := fun q => by
    unfold DistW
    rw [List.pairwise_map]
  rw [key, e, ← key]
  exact h
theorem Tr.ics_set2 (l1 l2 : List (Tr.In × Value)) (x : Tr.In) (v : Value) (t o : Int) (j : Nat) (hj : l1.length = j) : ((Tr.ics (l1 ++ (x, v) :: l2)).set (j * 3) (.int .i64 t)).set (j * 3 + 1) (.int .i64 o) = Tr.ics (l1 ++ (⟨t, o, x.wit⟩, v) :: l2) := by
  subst hj
  rw [Tr.ics_append, Tr.ics_append, List.set_append_right _ _ (by rw [Tr.ics_length]; omega), List.set_append_right _ _ (by rw [Tr.ics_length]; omega), Tr.ics_length]
  rw [show l1.length * 3 - l1.length * 3 = 0 by omega, show l1.length * 3 + 1 - l1.length * 3 = 1 by omega]
  rfl
/-- The first two cells of an input, set anew. -/
theorem OwnI.set2 {base g n c j : Nat} {w : World} {l1 l2 : List (Tr.In × Value)} {x : Tr.In} {v : Value} (h : OwnI base w (.slice (some ⟨g, 0, none⟩) n c) (l1 ++ (x, v) :: l2)) (hj : l1.length = j) (hn : (l1 ++ (x, v) :: l2).length = n) (t o : Int) :
    OwnI base ((w.setCell ⟨g, j * 3, none⟩ (.int .i64 t)).setCell ⟨g, j * 3 + 1, none⟩ (.int .i64 o)) (.slice (some ⟨g, 0, none⟩) n c) (l1 ++ (⟨t, o, x.wit⟩, v) :: l2) := by
  obtain ⟨h1, h2⟩ := h
  rw [hn] at h1
  obtain ⟨⟨cs, hbk⟩, _⟩ := own_bkZ h1
  have hg : w.grownBy ((w.setCell ⟨g, j * 3, none⟩ (.int .i64 t)).setCell ⟨g, j * 3 + 1, none⟩ (.int .i64 o)) (some g) := (grownBy_set w g (j * 3) _).trans (grownBy_set _ g (j * 3 + 1) _)
  have hm : ∀ y, OwnW base w y → OwnW base ((w.setCell ⟨g, j * 3, none⟩ (.int .i64 t)).setCell ⟨g, j * 3 + 1, none⟩ (.int .i64 o)) y := fun y hy => OwnW.grownT hy hbk (by decide) hg
  refine ⟨?_, fun y hy => ?_⟩
  · have h3 := own_setcell (j := j * 3 + 1) (own_setcell (j := j * 3) h1 (.int .i64 t)) (.int .i64 o)
    rw [Tr.ics_set2 l1 l2 x v t o j hj] at h3
    rw [show (l1 ++ ((⟨t, o, x.wit⟩ : Tr.In), v) :: l2).length = n by rw [← hn]; simp]
    exact h3
  · rcases List.mem_append.1 hy with hy | hy
    · exact hm y (h2 y (by simp [hy]))
    · rcases List.mem_cons.1 hy with rfl | hy
      · exact hm _ (h2 (x, v) (by simp))
      · exact hm y (h2 y (by simp [hy]))
/-- One witness, set anew. -/
theorem OwnI.mark {base : Nat} {w w' : World} {V v : Value} {l1 l2 : List (Tr.In × Value)} {x : Tr.In} {ss : List ByteArray} (h : OwnI base w V (l1 ++ (x, v) :: l2)) (hd : DistW (l1 ++ (x, v) :: l2)) (hg : w.grownBy w' v.ownBlock) (ho : w'.ownsRow base 9 1 v x.wit.length (ss.map Value.string)) (hs : ss.length = x.wit.length) :
    OwnI base w' V (l1 ++ (⟨x.tx, x.out, ss⟩, v) :: l2) := by
  obtain ⟨h1, h2⟩ := h
  have hx := h2 (x, v) (by simp)
  unfold DistW at hd
  rw [List.pairwise_append, List.pairwise_cons] at hd
  obtain ⟨_, ⟨d2, _⟩, d3⟩ := hd
  refine ⟨?_, fun y hy => ?_⟩
  · have h3 := h1.kept hg (own_types13 h1 hx.2 (by decide))
    have e1 : Tr.ics (l1 ++ (x, v) :: l2) = Tr.ics (l1 ++ (⟨x.tx, x.out, ss⟩, v) :: l2) := by rw [Tr.ics_append, Tr.ics_append]; rfl
    rw [e1] at h3
    simpa using h3
  · rcases List.mem_append.1 hy with hy | hy
    · have hy2 := h2 y (by simp [hy])
      exact ⟨hy2.1, hy2.2.kept hg (d3 y hy (x, v) (by simp))⟩
    · rcases List.mem_cons.1 hy with rfl | hy
      · obtain ⟨⟨wa, wc, he⟩, _⟩ := hx
        exact ⟨⟨wa, wc, by rw [hs]; exact he⟩, by rw [hs]; exact ho⟩
      · have hy2 := h2 y (by simp [hy])
        refine ⟨hy2.1, hy2.2.kept hg ?_⟩
        rcases d2 y hy with h | h
        · rcases hy2.2.2 with ⟨he, _⟩ | ⟨g', cap', cur', he, _⟩
          · rw [he]; exact .inl rfl
          · rw [he]
            have h' : v.ownBlock = none := h
            rw [h']
            exact .inr (by simp [Value.ownBlock])
        · exact .inr fun e => h e.symm
theorem Tr.mkI_at (l1 l2 : List (Tr.In × Value)) (x : Tr.In × Value) (k : Int) (j : Nat) (hj : l1.length = j) : Tr.inAt ((Tr.mkI k (l1 ++ x :: l2)).map Prod.fst) j = ⟨Tr.mkE k l1, Tr.mkE k l1 + 1, Mk.marks (Tr.mkE k l1 + 1 + 1) x.1.wit.length⟩ := by
  subst hj
  unfold Tr.inAt
  rw [Tr.mkI_append, List.map_append, List.getD_eq_getElem?_getD, List.getElem?_append_right (by simp [Tr.mkI_length])]
  simp [Tr.mkI_length, Tr.mkI]
/-- n outputs, marked from number k on. -/
def Tr.mkO (k : Int) (n : Nat) : List Tr.Out := (List.range n).map fun (j : Nat) => ⟨k + 2 * (j : Int), Mk.mark (k + 2 * (j : Int) + 1)⟩
theorem Tr.mkO_length (k : Int) (n : Nat) : (Tr.mkO k n).length = n := by simp [Tr.mkO]
theorem Tr.mkO_snoc (k : Int) (n : Nat) : Tr.mkO k (n + 1) = Tr.mkO k n ++ [⟨k + 2 * (n : Int), Mk.mark (k + 2 * (n : Int) + 1)⟩] := by simp [Tr.mkO, List.range_succ]
theorem Tr.mkO_at (k : Int) (n j : Nat) (h : j < n) : Tr.outAt (Tr.mkO k n) j = ⟨k + 2 * (j : Int), Mk.mark (k + 2 * (j : Int) + 1)⟩ := by
  unfold Tr.outAt Tr.mkO
  rw [List.getD_eq_getElem?_getD, List.getElem?_map, List.getElem?_range h]
  rfl
theorem Tr.ocs_set (l1 l2 : List Tr.Out) (x : Tr.Out) (t : Int) (s : ByteArray) (j : Nat) (hj : l1.length = j) : ((Tr.ocs (l1 ++ x :: l2)).set (j * 2) (.int .i64 t)).set (j * 2 + 1) (.string s) = Tr.ocs (l1 ++ ⟨t, s⟩ :: l2) := by
  subst hj
  rw [Tr.ocs_append, Tr.ocs_append, List.set_append_right _ _ (by rw [Tr.ocs_length]; omega), List.set_append_right _ _ (by rw [Tr.ocs_length]; omega), Tr.ocs_length]
  rw [show l1.length * 2 - l1.length * 2 = 0 by omega, show l1.length * 2 + 1 - l1.length * 2 = 1 by omega]
  rfl
theorem own_typesG {w w' : World} {B B' n n' k k' : Nat} {v v' : Value} {xs xs' : List Value} {e e' : TypeId} (h : w.ownsRow B e k v n xs) (h' : w.ownsRow B' e' k' v' n' xs') (he : e ≠ e') (hg : w.grownBy w' v'.ownBlock) : w'.ownsRow B e k v n xs := h.kept hg (own_types13 h h' he)
end Go.Proofs.Ytedjbikphdflhab
