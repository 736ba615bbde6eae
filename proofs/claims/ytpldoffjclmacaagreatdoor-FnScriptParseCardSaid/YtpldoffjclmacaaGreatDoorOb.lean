/-
  The laws' own helpers for lists of operations.
-/
import Derived.Test.YtpldoffjclmacaaGreatDoorOa
import Derived.Lib.SmallJoins
import Derived.OpenShut
namespace Go.Proofs.YtpldoffjclmacaaGreatDoor
open Go.RowKit Go.Joins Go.WideShapes Go.ChangeShapes Go.Deep

set_option maxRecDepth 100000 in
set_option maxHeartbeats 1600000 in
theorem eqOp_any (C A B : Int) (t : ByteArray) (w : World) :
    Calls Tryz.prog 28 #[.agg #[.int .i64 C, .int .i64 A, .int .i64 B, .string t], .agg #[.int .i64 C, .int .i64 A, .int .i64 B, .string t]] w fun e w' => e = .returned (.bool true) ∧ Below w.heap.size w w' := by
  have hc := ((Below.refl w.heap.size w).alloc (Nat.le_refl _) (.cells #[.int .i64 C, .int .i64 A, .int .i64 B, .string t] 40 (0, 0))).alloc (by simp) (.cells #[.int .i64 C, .int .i64 A, .int .i64 B, .string t] 40 (0, 0))
  have hq : (t.toList == t.toList) = true := by simp
  go_enter Tryz.func28, Tryz.ntmps28
  go_wp2
  go_ret
  exact ⟨rfl, hc⟩
set_option maxRecDepth 100000 in
set_option maxHeartbeats 1600000 in
theorem eqOpS_any (a b : Option Addr) (len cap cap' : Nat) (l : List Jo) (w : World) (ha : OL w a len l) (hb : OL w b len l) (hlen : len ≤ 9223372036854775807) :
    Calls Tryz.prog 13 #[.slice a len cap, .slice b len cap'] w fun e w' => e = .returned (.bool true) ∧ Below w.heap.size w w' := by
  go_enter Tryz.func13, Tryz.ntmps13
  go_wp2
  go_loopw [5] (fun i wr => ∃ k : Nat, k ≤ len ∧ i = .int .i64 (k : Int) ∧ Below w.heap.size w wr)
    (fun i _ => len - (intOf i).toNat)
  case atStart => exact ⟨0, by omega, rfl, Below.refl _ _⟩
  case round =>
    obtain ⟨k, hk, rfl, hbel⟩ := hrel
    by_cases hlt : k < len
    · obtain ⟨g, off, rfl, _, _⟩ := ha.2 (by omega)
      obtain ⟨g2, off2, rfl, _, _⟩ := hb.2 (by omega)
      have hA : ∀ W, Below w.heap.size w W → W.cell? ⟨g, off + k * 4, none⟩ = some (.int .i64 (Jo.at_ l k).c) ∧ W.cell? ⟨g, off + k * 4 + 1, none⟩ = some (.int .i64 (Jo.at_ l k).a) ∧ W.cell? ⟨g, off + k * 4 + 2, none⟩ = some (.int .i64 (Jo.at_ l k).b) ∧ W.cell? ⟨g, off + k * 4 + 3, none⟩ = some (.string (Jo.at_ l k).t) := fun W h => by
        obtain ⟨g', off', he, _, hc⟩ := (ha.below h).2 (show 0 < len by omega)
        cases he
        exact hc k hlt
      have hB : ∀ W, Below w.heap.size w W → W.cell? ⟨g2, off2 + k * 4, none⟩ = some (.int .i64 (Jo.at_ l k).c) ∧ W.cell? ⟨g2, off2 + k * 4 + 1, none⟩ = some (.int .i64 (Jo.at_ l k).a) ∧ W.cell? ⟨g2, off2 + k * 4 + 2, none⟩ = some (.int .i64 (Jo.at_ l k).b) ∧ W.cell? ⟨g2, off2 + k * 4 + 3, none⟩ = some (.string (Jo.at_ l k).t) := fun W h => by
        obtain ⟨g', off', he, _, hc⟩ := (hb.below h).2 (show 0 < len by omega)
        cases he
        exact hc k hlt
      obtain ⟨x, hx⟩ : ∃ x, Hid (Jo.at_ l k = x) := ⟨_, Lib.hid rfl⟩
      rw [hx.out] at hA hB
      clear hx ha hb
      obtain ⟨C, A, B, t⟩ := x
      simp only at hA hB
      have hSof : ∀ W, Below w.heap.size w W → (W.cell? ⟨g, off + k * 4, none⟩ = some (.int .i64 C) ∧ W.cell? ⟨g, off + k * 4 + 1, none⟩ = some (.int .i64 A) ∧ W.cell? ⟨g, off + k * 4 + 2, none⟩ = some (.int .i64 B) ∧ W.cell? ⟨g, off + k * 4 + 3, none⟩ = some (.string t)) ∧ W.cell? ⟨g2, off2 + k * 4, none⟩ = some (.int .i64 C) ∧ W.cell? ⟨g2, off2 + k * 4 + 1, none⟩ = some (.int .i64 A) ∧ W.cell? ⟨g2, off2 + k * 4 + 2, none⟩ = some (.int .i64 B) ∧ W.cell? ⟨g2, off2 + k * 4 + 3, none⟩ = some (.string t) := fun W h => ⟨hA W h, hB W h⟩
      have hS0 := hSof wr.drew hbel.drew
      clear hA hB
      go_wp2
      go_region_held3 (fun W => (W.cell? ⟨g, off + k * 4, none⟩ = some (.int .i64 C) ∧ W.cell? ⟨g, off + k * 4 + 1, none⟩ = some (.int .i64 A) ∧ W.cell? ⟨g, off + k * 4 + 2, none⟩ = some (.int .i64 B) ∧ W.cell? ⟨g, off + k * 4 + 3, none⟩ = some (.string t)) ∧ W.cell? ⟨g2, off2 + k * 4, none⟩ = some (.int .i64 C) ∧ W.cell? ⟨g2, off2 + k * 4 + 1, none⟩ = some (.int .i64 A) ∧ W.cell? ⟨g2, off2 + k * 4 + 2, none⟩ = some (.int .i64 B) ∧ W.cell? ⟨g2, off2 + k * 4 + 3, none⟩ = some (.string t)) (first | with_reducible exact hS0 | with_reducible exact hS1)
        (first | (go_at_call 28; refine (eqOp_any C A B t _).mono ?_; rintro e w1 ⟨rfl, hb1⟩; have hb2 := below_aft9 hbel.drew hb1; have hS1 := hSof w1 hb2))
      go_wp2
      go_roundw
      case rel => exact ⟨k + 1, by omega, by simp, hb2⟩
      case measure => simp [intOf]; omega
    · go_wp2
      go_ret
      exact ⟨rfl, hbel⟩
/-- The block g has room for len operations, the first k of which are those of l. -/
def OB (g len k : Nat) (l : List Jo) (w : World) : Prop :=
  ∃ cs : Array Value, w.heap[g]? = some (.cells cs 40 (0, 0)) ∧ len * 4 ≤ cs.size ∧ ∀ j, j < k → cs[j * 4]? = some (.int .i64 (Jo.at_ l j).c) ∧ cs[j * 4 + 1]? = some (.int .i64 (Jo.at_ l j).a) ∧ cs[j * 4 + 2]? = some (.int .i64 (Jo.at_ l j).b) ∧ cs[j * 4 + 3]? = some (.string (Jo.at_ l j).t)
theorem OB.step {g len k : Nat} {l : List Jo} {w : World} (h : OB g len k l w) (hk : k < len) : OB g len (k + 1) l (((((w).setCell ⟨g, k * 4, none⟩ (.int .i64 (Jo.at_ l k).c)).setCell ⟨g, k * 4 + 1, none⟩ (.int .i64 (Jo.at_ l k).a)).setCell ⟨g, k * 4 + 2, none⟩ (.int .i64 (Jo.at_ l k).b)).setCell ⟨g, k * 4 + 3, none⟩ (.string (Jo.at_ l k).t)) := by
  obtain ⟨cs, h1, h2, h3⟩ := h
  refine ⟨_, block_setCell (block_setCell (block_setCell (block_setCell h1 (k * 4) _) (k * 4 + 1) _) (k * 4 + 2) _) (k * 4 + 3) _, by simpa using h2, fun j hj => ?_⟩
  by_cases hjk : j = k
  · subst hjk
    refine ⟨?_, ?_, ?_, ?_⟩ <;> simp [Array.getElem?_setIfInBounds] <;> omega
  · obtain ⟨c0, c1, c2, c3⟩ := h3 j (by omega)
    refine ⟨?_, ?_, ?_, ?_⟩ <;> simp only [Array.getElem?_setIfInBounds] <;> (repeat rw [if_neg (by omega)]) <;> assumption
theorem OB.slot {g len k : Nat} {l : List Jo} {w : World} (h : OB g len k l w) (i : Nat) (hi : i < len * 4) : ∃ u, w.cell? ⟨g, i, none⟩ = some u := by
  obtain ⟨cs, h1, h2, _⟩ := h
  exact ⟨cs[i]'(by omega), by simp [World.cell?, h1, show i < cs.size by omega]⟩
theorem OB.fro {g len k : Nat} {l : List Jo} {w : World} (h : OB g len k l w) (i : Nat) : w.frozen? ⟨g, i, none⟩ = false := by
  obtain ⟨cs, h1, _, _⟩ := h
  simp [World.frozen?, h1]
theorem OB.below {g len k : Nat} {l : List Jo} {w w' : World} (h : OB g len k l w) (hb : Below w.heap.size w w') : OB g len k l w' := by
  obtain ⟨cs, h1, h2, h3⟩ := h
  exact ⟨cs, (hb.block g (lt_of_block h1)).trans h1, h2, h3⟩
theorem OB.lt {g len k : Nat} {l : List Jo} {w : World} (h : OB g len k l w) : g < w.heap.size := by
  obtain ⟨cs, h1, _, _⟩ := h
  exact lt_of_block h1
theorem OB.ol {g len : Nat} {l : List Jo} {w : World} (h : OB g len len l w) (hl : l.length = len) : OL w (some ⟨g, 0, none⟩) len l := by
  obtain ⟨cs, h1, h2, h3⟩ := h
  refine ⟨hl, fun _ => ⟨g, 0, rfl, lt_of_block h1, fun j hj => ?_⟩⟩
  obtain ⟨c0, c1, c2, c3⟩ := h3 j hj
  simp only [Nat.zero_add]
  have hc : ∀ i, w.cell? ⟨g, i, none⟩ = cs[i]? := fun i => by simp [World.cell?, h1]
  exact ⟨(hc _).trans c0, (hc _).trans c1, (hc _).trans c2, (hc _).trans c3⟩
theorem OB.of_own {w : World} {base g cap n : Nat} {xs : List Value} (l : List Jo) (h : w.ownsRow base 40 4 (.slice (some ⟨g, 0, none⟩) n cap) n xs) : OB g n 0 l w := by
  rcases h.2 with ⟨he, h0⟩ | ⟨g', cap', cur, he, hg, hh, hn, hm, hs, _⟩
  · cases he
  · cases he
    exact ⟨cur, hh, by rw [hs]; exact Nat.mul_le_mul_right 4 hn, fun j hj => absurd hj (by omega)⟩
end Go.Proofs.YtpldoffjclmacaaGreatDoor
