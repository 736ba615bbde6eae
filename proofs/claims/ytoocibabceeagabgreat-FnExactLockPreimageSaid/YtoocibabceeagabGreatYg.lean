/-
  The laws' own helpers for lists of operations: markOpS, heldOpS.
-/
import Derived.Test.YtoocibabceeagabGreatOb
import Derived.Test.YtoocibabceeagabGreatYb
namespace Go.Proofs.YtoocibabceeagabGreat
open Go.RowKit

/-- The operations that markOpS writes. -/
def marksO (n : Nat) : List Jo := (List.range n).map fun (k : Nat) => ⟨1 + 4 * (k : Int), 1 + 4 * (k : Int) + 1, 1 + 4 * (k : Int) + 1 + 1, Mk.mark (1 + 4 * (k : Int) + 1 + 1 + 1)⟩
theorem marksO_len (n : Nat) : (marksO n).length = n := by simp [marksO]
theorem marksO_at (n k : Nat) (h : k < n) : Jo.at_ (marksO n) k = ⟨1 + 4 * (k : Int), 1 + 4 * (k : Int) + 1, 1 + 4 * (k : Int) + 1 + 1, Mk.mark (1 + 4 * (k : Int) + 1 + 1 + 1)⟩ := by
  unfold Jo.at_ marksO
  rw [List.getD_eq_getElem?_getD, List.getElem?_map, List.getElem?_range h]
  rfl
theorem OB.mark {g len k : Nat} {l : List Jo} {w w2 : World} (h : OB g len k l w) (hk : k < len) (hb : w2.heap[g]? = ((((w).setCell ⟨g, k * 4, none⟩ (.int .i64 (Jo.at_ l k).c)).setCell ⟨g, k * 4 + 1, none⟩ (.int .i64 (Jo.at_ l k).a)).setCell ⟨g, k * 4 + 2, none⟩ (.int .i64 (Jo.at_ l k).b)).heap[g]?) : OB g len (k + 1) l (w2.setCell ⟨g, k * 4 + 3, none⟩ (.string (Jo.at_ l k).t)) := by
  obtain ⟨cs, h1, h2, h3⟩ := h
  have h4 := hb.trans (block_setCell (block_setCell (block_setCell h1 (k * 4) _) (k * 4 + 1) _) (k * 4 + 2) _)
  refine ⟨_, block_setCell h4 (k * 4 + 3) _, by simpa using h2, fun j hj => ?_⟩
  by_cases hjk : j = k
  · subst hjk
    refine ⟨?_, ?_, ?_, ?_⟩ <;> simp [Array.getElem?_setIfInBounds] <;> omega
  · obtain ⟨c0, c1, c2, c3⟩ := h3 j (by omega)
    refine ⟨?_, ?_, ?_, ?_⟩ <;> simp only [Array.getElem?_setIfInBounds] <;> (repeat rw [if_neg (by omega)]) <;> assumption
theorem OB.three {g len k : Nat} {l : List Jo} {w w2 : World} (h : OB g len k l w) (hk : k < len) (a b c : Value) (hb : w2.heap[g]? = (((w.setCell ⟨g, k * 4, none⟩ a).setCell ⟨g, k * 4 + 1, none⟩ b).setCell ⟨g, k * 4 + 2, none⟩ c).heap[g]?) : (∃ u, w2.cell? ⟨g, k * 4 + 3, none⟩ = some u) ∧ w2.frozen? ⟨g, k * 4 + 3, none⟩ = false := by
  obtain ⟨cs, h1, h2, h3⟩ := h
  have h4 := hb.trans (block_setCell (block_setCell (block_setCell h1 (k * 4) a) (k * 4 + 1) b) (k * 4 + 2) c)
  exact ⟨⟨cs[k * 4 + 3]'(by omega), by simp [World.cell?, h4, show k * 4 + 3 < cs.size by omega]⟩, by simp [World.frozen?, h4]⟩
theorem OB.grown {g len k : Nat} {l : List Jo} {w w' : World} {row : Option Nat} (h : OB g len k l w) (hg : w.grownBy w' row) (hne : some g ≠ row) : OB g len k l w' := by
  obtain ⟨cs, h1, h2, h3⟩ := h
  exact ⟨cs, (hg.block g (lt_of_block h1) hne).trans h1, h2, h3⟩
theorem gsetO {w a : World} {g : Nat} (h : w.grownBy a (some g)) (i : Nat) (v : Value) : w.grownBy (a.setCell ⟨g, i, none⟩ v) (some g) :=
  h.trans ⟨rfl, rfl, rfl, by rw [World.size_setCell]; exact Nat.le_refl _, fun j _ hr => Below.heap_setCell _ _ _ _ (fun e => hr (by subst e; rfl))⟩
end Go.Proofs.YtoocibabceeagabGreat
