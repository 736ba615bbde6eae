import Derived.Test.YtohameoomlehlaaGreatPa
import Derived.Test.YtohameoomlehlaaGreatBk
import Derived.Test.YtohameoomlehlaaGreatOw
import Derived.Test.YtohameoomlehlaaGreatSl
import Derived.Below
import Derived.WalkKit
import Derived.WalkSpells
import Derived.Outline
import Derived.LoopTactic
import Derived.Deep.RegionHeld3
import Derived.Deep.DeepMust
import Derived.Deep.QuietTactic
import Derived.BigQuiet
import Derived.Laws.StructEq
import Derived.Lib.SmallJoins
import Derived.OpenShut
/-
  Lists of operations: what a slice holds; the laws' own helpers.
-/
namespace Go.Proofs.YtohameoomlehlaaGreat
open Go.RowKit

theorem below_alc {n : Nat} {w w1 : World} (h : Below n w w1) (hn : n ≤ w1.heap.size) (o : Obj) : Below n w (w1.alloc o) := h.alloc hn o
theorem below_aft9 {w w1 w2 : World} (h : Below w.heap.size w w1) (k : Below w1.heap.size w1 w2) : Below w.heap.size w w2 := h.trans (k.mono h.size)
theorem below_drewN10 {n : Nat} {w w' : World} (h : Below n w w') (k : Nat) : Below n w (w'.drewN k) := ⟨h.os, h.tape, h.output, h.size, h.block⟩
def Jo.z : Jo := ⟨0, 0, 0, ⟨#[]⟩⟩
def Jo.at_ (l : List Jo) (j : Nat) : Jo := l.getD j Jo.z
theorem Jo.at_get {l : List Jo} {j : Nat} (h : j < l.length) : l[j]? = some (Jo.at_ l j) := by
  unfold Jo.at_
  rw [List.getD_eq_getElem?_getD, List.getElem?_eq_getElem h]
  rfl
/-- The slice at a holds the len operations l. -/
def OL (w : World) (a : Option Addr) (len : Nat) (l : List Jo) : Prop :=
  l.length = len ∧ (0 < len → ∃ b off, a = some ⟨b, off, none⟩ ∧ b < w.heap.size ∧ ∀ j, j < len → w.cell? ⟨b, off + j * 4, none⟩ = some (.int .i64 (Jo.at_ l j).c) ∧ w.cell? ⟨b, off + j * 4 + 1, none⟩ = some (.int .i64 (Jo.at_ l j).a) ∧ w.cell? ⟨b, off + j * 4 + 2, none⟩ = some (.int .i64 (Jo.at_ l j).b) ∧ w.cell? ⟨b, off + j * 4 + 3, none⟩ = some (.string (Jo.at_ l j).t))
theorem OL.grown {w w' : World} {a : Option Addr} {len : Nat} {l : List Jo} {row : Option Nat} (h : OL w a len l) (hg : w.grownBy w' row) (hne : 0 < len → ∀ b off, a = some ⟨b, off, none⟩ → some b ≠ row) : OL w' a len l :=
  ⟨h.1, fun h0 => by
    obtain ⟨b, off, rfl, hb, hc⟩ := h.2 h0
    have hn : some b ≠ row := by simpa using hne h0 b off rfl
    exact ⟨b, off, rfl, Nat.lt_of_lt_of_le hb hg.size, fun j hj => ⟨hg.cell (hc j hj).1 (by simpa using hn), hg.cell (hc j hj).2.1 (by simpa using hn), hg.cell (hc j hj).2.2.1 (by simpa using hn), hg.cell (hc j hj).2.2.2 (by simpa using hn)⟩⟩⟩
theorem OL.below {w w' : World} {a : Option Addr} {len : Nat} {l : List Jo} (h : OL w a len l) (hb : Below w.heap.size w w') : OL w' a len l :=
  h.grown (row := none) ⟨hb.os, hb.tape, hb.output, hb.size, fun k hk _ => hb.block k hk⟩ (fun _ _ _ _ => by simp)
theorem OL.alloc {w : World} {a : Option Addr} {len : Nat} {l : List Jo} (h : OL w a len l) (o : Obj) : OL (w.alloc o) a len l :=
  h.grown (World.grownBy_alloc w o none) (fun _ _ _ _ => by simp)
theorem OL.drew {w : World} {a : Option Addr} {len : Nat} {l : List Jo} (h : OL w a len l) : OL w.drew a len l := ⟨h.1, h.2⟩
/-- The cells of a list of operations. -/
def Jo.cells : List Jo → List Value
  | [] => []
  | x :: l => .int .i64 x.c :: .int .i64 x.a :: .int .i64 x.b :: .string x.t :: Jo.cells l
theorem Jo.cells_append (l m : List Jo) : Jo.cells (l ++ m) = Jo.cells l ++ Jo.cells m := by
  induction l with
  | nil => rfl
  | cons x l ih => simp [Jo.cells, ih]
theorem Jo.cells_length (l : List Jo) : (Jo.cells l).length = l.length * 4 := by
  induction l with
  | nil => rfl
  | cons x l ih => simp [Jo.cells, ih]; omega
theorem Jo.cells_get (l : List Jo) : ∀ j, j < l.length → (Jo.cells l)[j * 4]? = some (.int .i64 (Jo.at_ l j).c) ∧ (Jo.cells l)[j * 4 + 1]? = some (.int .i64 (Jo.at_ l j).a) ∧ (Jo.cells l)[j * 4 + 2]? = some (.int .i64 (Jo.at_ l j).b) ∧ (Jo.cells l)[j * 4 + 3]? = some (.string (Jo.at_ l j).t) := by
  induction l with
  | nil => intro j hj; simp at hj
  | cons x l ih =>
    intro j hj
    cases j with
    | zero => simp [Jo.cells, Jo.at_]
    | succ j =>
      have g : ∀ i, (Jo.cells (x :: l))[i + 4]? = (Jo.cells l)[i]? := fun i => by
        show ([.int .i64 x.c, .int .i64 x.a, .int .i64 x.b, .string x.t] ++ Jo.cells l)[i + 4]? = _
        rw [List.getElem?_append_right (by simp)]
        rfl
      have := ih j (by simpa using hj)
      rw [show (j + 1) * 4 = j * 4 + 4 by omega, show j * 4 + 4 + 1 = j * 4 + 1 + 4 by omega, show j * 4 + 4 + 2 = j * 4 + 2 + 4 by omega, show j * 4 + 4 + 3 = j * 4 + 3 + 4 by omega, g, g, g, g]
      exact this
/-- Operations that the call owns. -/
theorem OL.own {w : World} {base : Nat} {e : TypeId} {a : Option Addr} {len cap n : Nat} {l : List Jo} (h : w.ownsRow base e 4 (.slice a len cap) n (Jo.cells l)) : len = n ∧ OL w a len l := by
  have hl : l.length = n := by have := h.1; rw [Jo.cells_length] at this; omega
  rcases h.2 with ⟨he, h0⟩ | ⟨g, cap', cur, he, hg, hh, hn, _, _, _⟩
  · cases he
    exact ⟨h0.symm, by omega, fun h => absurd h (by omega)⟩
  · cases he
    refine ⟨rfl, hl, fun h0 => ⟨g, 0, rfl, lt_of_block hh, fun j hj => ?_⟩⟩
    obtain ⟨e0, e1, e2, e3⟩ := Jo.cells_get l j (by omega)
    have hadr : ∀ i, (⟨g, 0, none⟩ : Addr).add i = ⟨g, 0 + i, none⟩ := fun i => by unfold Addr.add; split <;> simp_all
    have f0 := h.cells (g := g) rfl _ _ e0
    have f1 := h.cells (g := g) rfl _ _ e1
    have f2 := h.cells (g := g) rfl _ _ e2
    have f3 := h.cells (g := g) rfl _ _ e3
    rw [hadr] at f0 f1 f2 f3
    exact ⟨f0, f1, f2, f3⟩
theorem info_op : (Tryz.prog.info? 114).map (fun i => (i.zero, i.size, i.bytes)) = some (some (.agg #[.int .i64 0, .int .i64 0, .int .i64 0, .string ⟨#[]⟩]), 4, 40) := by kernel_rfl
/-- What came in as a list of operations. -/
def IsOps (w : World) (a : Option Addr) (len cap : Nat) (l : List Jo) : Prop :=
  len ≤ cap ∧ cap ≤ 9223372036854775807 ∧ OL w a len l ∧ ∀ j, j < len → (Jo.at_ l j).t.size ≤ 9223372036854775807 ∧ (-9223372036854775808 ≤ (Jo.at_ l j).c ∧ (Jo.at_ l j).c ≤ 9223372036854775807) ∧ (-9223372036854775808 ≤ (Jo.at_ l j).a ∧ (Jo.at_ l j).a ≤ 9223372036854775807) ∧ (-9223372036854775808 ≤ (Jo.at_ l j).b ∧ (Jo.at_ l j).b ≤ 9223372036854775807)
end Go.Proofs.YtohameoomlehlaaGreat

/-
  The laws' own helpers for lists of operations.
-/
namespace Go.Proofs.YtohameoomlehlaaGreat
open Go.RowKit Go.Joins Go.WideShapes Go.ChangeShapes Go.Deep

/-- The block g has room for len operations, the first k of which are those of l. -/
def OB (g len k : Nat) (l : List Jo) (w : World) : Prop :=
  ∃ cs : Array Value, w.heap[g]? = some (.cells cs 114 (0, 0)) ∧ len * 4 ≤ cs.size ∧ ∀ j, j < k → cs[j * 4]? = some (.int .i64 (Jo.at_ l j).c) ∧ cs[j * 4 + 1]? = some (.int .i64 (Jo.at_ l j).a) ∧ cs[j * 4 + 2]? = some (.int .i64 (Jo.at_ l j).b) ∧ cs[j * 4 + 3]? = some (.string (Jo.at_ l j).t)
theorem OB.step {g len k : Nat} {l : List Jo} {w : World} (h : OB g len k l w) (hk : k < len) : OB g len (k + 1) l (((((w).setCell ⟨g, k * 4, none⟩ (.int .i64 (Jo.at_ l k).c)).setCell ⟨g, k * 4 + 1, none⟩ (.int .i64 (Jo.at_ l k).a)).setCell ⟨g, k * 4 + 2, none⟩ (.int .i64 (Jo.at_ l k).b)).setCell ⟨g, k * 4 + 3, none⟩ (.string (Jo.at_ l k).t)) := by
  obtain ⟨cs, h1, h2, h3⟩ := h
  refine ⟨_, block_setCell (block_setCell (block_setCell (block_setCell h1 (k * 4) _) (k * 4 + 1) _) (k * 4 + 2) _) (k * 4 + 3) _, by simpa using h2, fun j hj => ?_⟩
  by_cases hjk : j = k
  · subst hjk
    refine ⟨?_, ?_, ?_, ?_⟩ <;> simp [Array.getElem?_setIfInBounds] <;> omega
  · obtain ⟨c0, c1, c2, c3⟩ := h3 j (by omega)
    refine ⟨?_, ?_, ?_, ?_⟩ <;> simp only [Array.getElem?_setIfInBounds] <;> (repeat rw [if_neg (by omega)]) <;> assumption
theorem OB.slot {g len k : Nat} {l : List Jo} {w : World} (h : OB g len k l w) (i : Nat) (hi : i < len * 4) : ∃ u, w.cell? ⟨g, i, none⟩ = some u := by
  obtain ⟨cs, h1, h2, _⟩ := h
  exact ⟨cs[i]'(by omega), by simp [World.cell?, h1, show i < cs.size by omega]⟩
theorem OB.fro {g len k : Nat} {l : List Jo} {w : World} (h : OB g len k l w) (i : Nat) : w.frozen? ⟨g, i, none⟩ = false := by
  obtain ⟨cs, h1, _, _⟩ := h
  simp [World.frozen?, h1]
theorem OB.below {g len k : Nat} {l : List Jo} {w w' : World} (h : OB g len k l w) (hb : Below w.heap.size w w') : OB g len k l w' := by
  obtain ⟨cs, h1, h2, h3⟩ := h
  exact ⟨cs, (hb.block g (lt_of_block h1)).trans h1, h2, h3⟩
theorem OB.lt {g len k : Nat} {l : List Jo} {w : World} (h : OB g len k l w) : g < w.heap.size := by
  obtain ⟨cs, h1, _, _⟩ := h
  exact lt_of_block h1
theorem OB.ol {g len : Nat} {l : List Jo} {w : World} (h : OB g len len l w) (hl : l.length = len) : OL w (some ⟨g, 0, none⟩) len l := by
  obtain ⟨cs, h1, h2, h3⟩ := h
  refine ⟨hl, fun _ => ⟨g, 0, rfl, lt_of_block h1, fun j hj => ?_⟩⟩
  obtain ⟨c0, c1, c2, c3⟩ := h3 j hj
  simp only [Nat.zero_add]
  have hc : ∀ i, w.cell? ⟨g, i, none⟩ = cs[i]? := fun i => by simp [World.cell?, h1]
  exact ⟨(hc _).trans c0, (hc _).trans c1, (hc _).trans c2, (hc _).trans c3⟩
theorem OB.of_own {w : World} {base g cap n : Nat} {xs : List Value} (l : List Jo) (h : w.ownsRow base 114 4 (.slice (some ⟨g, 0, none⟩) n cap) n xs) : OB g n 0 l w := by
  rcases h.2 with ⟨he, h0⟩ | ⟨g', cap', cur, he, hg, hh, hn, hm, hs, _⟩
  · cases he
  · cases he
    exact ⟨cur, hh, by rw [hs]; exact Nat.mul_le_mul_right 4 hn, fun j hj => absurd hj (by omega)⟩
end Go.Proofs.YtohameoomlehlaaGreat
