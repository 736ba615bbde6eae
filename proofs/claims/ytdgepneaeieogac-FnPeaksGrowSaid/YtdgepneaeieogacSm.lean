/-
  The laws' own helpers: a copy's cells can be written.
-/
import Derived.Test.YtdgepneaeieogacIl
namespace Go.Proofs.Ytdgepneaeieogac
open Go.RowKit

/-- What is known of a list that the program hands back: its cells can be written. -/
theorem own_cellsN {w : World} {base : Nat} {e : TypeId} {a : Option Addr} {n cap : Nat} {xs : List Value} (h : w.ownsRow base e 1 (.slice a n cap) n xs) (hb : base ≤ w.heap.size) :
    ∃ g, (0 < n → a = some ⟨g, 0, none⟩) ∧ (0 < n → g < w.heap.size) ∧ base ≤ g ∧ ∀ j, j < n → (w.cell? ⟨g, j, none⟩).isSome = true ∧ w.frozen? ⟨g, j, none⟩ = false := by
  rcases h.2 with ⟨_, h0⟩ | ⟨g, cap', cur, he, hg, hh, hn, _, hcur, _⟩
  · exact ⟨w.heap.size, fun h => absurd h (by omega), fun h => absurd h (by omega), hb, fun j hj => absurd hj (by omega)⟩
  · cases he
    refine ⟨g, fun _ => rfl, fun _ => lt_of_block hh, hg, fun j hj => ⟨?_, Lib.frozen_of_heap hh j⟩⟩
    rw [Lib.cell_of_heap hh, Array.getElem?_eq_getElem (by omega)]
    rfl
/-- The marks 1, 2, .. n. -/
def marksN (n : Nat) : List Int := (List.range n).map fun (j : Nat) => 1 + (j : Int)
theorem marksN_getD (n j : Nat) (h : j < n) : (marksN n).getD j 0 = 1 + (j : Int) := by
  unfold marksN
  rw [List.getD_eq_getElem?_getD, List.getElem?_map, List.getElem?_range h]
  rfl
/-- Cells that can be written stay so. -/
def Wr (w : World) (g n : Nat) : Prop := (0 < n → g < w.heap.size) ∧ ∀ j, j < n → (w.cell? ⟨g, j, none⟩).isSome = true ∧ w.frozen? ⟨g, j, none⟩ = false
theorem Wr.grown {w w' : World} {g n : Nat} {row : Option Nat} (h : Wr w g n) (hg : w.grownBy w' row) (hne : some g ≠ row) : Wr w' g n :=
  ⟨fun h0 => Nat.lt_of_lt_of_le (h.1 h0) hg.size, fun j hj => by
    have hk := hg.block g (h.1 (by omega)) hne
    have h1 := h.2 j hj
    refine ⟨?_, ?_⟩
    · rw [World.cell?_of_block (w := w) (a := ⟨g, j, none⟩) hk]; exact h1.1
    · have : w'.frozen? ⟨g, j, none⟩ = w.frozen? ⟨g, j, none⟩ := by unfold World.frozen?; rw [hk]
      rw [this]; exact h1.2⟩
theorem Wr.below {w w' : World} {g n : Nat} (h : Wr w g n) (hb : Below w.heap.size w w') : Wr w' g n :=
  h.grown (row := none) ⟨hb.os, hb.tape, hb.output, hb.size, fun k hk _ => hb.block k hk⟩ (by simp)
theorem IR.ne {w : World} {a : Option Addr} {n g : Nat} {zs : List Int} (h : IR w a n zs) (hg : w.heap.size ≤ g) : 0 < n → ∀ b off, a = some ⟨b, off, none⟩ → some b ≠ some g := by
  intro h0 b off he hbg
  obtain ⟨b', off', he', hb', _⟩ := h.2 h0
  rw [he] at he'
  cases he'
  cases hbg
  omega
theorem addr_ne {a : Option Addr} {n g B : Nat} (ha : 0 < n → a = some ⟨g, 0, none⟩) (hg : g ≠ B) : 0 < n → ∀ b off, a = some ⟨b, off, none⟩ → some b ≠ some B := by
  intro h0 b off he hbg
  rw [ha h0] at he
  cases he
  cases hbg
  exact hg rfl
end Go.Proofs.Ytdgepneaeieogac
