/-
  Lists of strings: what a slice holds; the laws' own helpers (size, copy, comparison, marks).
-/
import Derived.Test.YtohameoomlehlabEn
import Derived.Test.YtohameoomlehlabBa
import Derived.Test.YtohameoomlehlabOw
import Derived.LoopTactic
import Derived.Deep.QuietTactic
import Derived.BigQuiet
import Derived.WalkSmall
import Derived.Lib.Hide
import Derived.Deep.OwnRows
import Derived.Laws.MakeOwn
import Derived.Deep.RegionWith
import Derived.Laws.Closers25b
import Derived.Outline
namespace Go.Proofs.Ytohameoomlehlab
open Go.RowKit

/-- The slice at a holds the len strings ss. -/
def SR (w : World) (a : Option Addr) (len : Nat) (ss : List ByteArray) : Prop :=
  ss.length = len ∧ (0 < len → ∃ b off, a = some ⟨b, off, none⟩ ∧ b < w.heap.size ∧ ∀ i, i < len → w.cell? ⟨b, off + i, none⟩ = some (.string (ss.getD i ByteArray.empty)))
theorem SR.grown {w w' : World} {a : Option Addr} {len : Nat} {ss : List ByteArray} {row : Option Nat} (h : SR w a len ss) (hg : w.grownBy w' row) (hne : 0 < len → ∀ b off, a = some ⟨b, off, none⟩ → some b ≠ row) : SR w' a len ss :=
  ⟨h.1, fun h0 => by
    obtain ⟨b, off, rfl, hb, hc⟩ := h.2 h0
    exact ⟨b, off, rfl, Nat.lt_of_lt_of_le hb hg.size, fun i hi => hg.cell (hc i hi) (by simpa using hne h0 b off rfl)⟩⟩
theorem SR.below {w w' : World} {a : Option Addr} {len : Nat} {ss : List ByteArray} (h : SR w a len ss) (hb : Below w.heap.size w w') : SR w' a len ss :=
  h.grown (row := none) ⟨hb.os, hb.tape, hb.output, hb.size, fun k hk _ => hb.block k hk⟩ (fun _ _ _ _ => by simp)
theorem SR.alloc {w : World} {a : Option Addr} {len : Nat} {ss : List ByteArray} (h : SR w a len ss) (o : Obj) : SR (w.alloc o) a len ss :=
  h.grown (World.grownBy_alloc w o none) (fun _ _ _ _ => by simp)
/-- What came in as a list of strings. -/
def IsStrs (w : World) (a : Option Addr) (len cap : Nat) (ss : List ByteArray) : Prop :=
  (a = none ∧ len = 0 ∧ cap = 0 ∧ ss = []) ∨
  ∃ x, a = some x ∧ len ≤ cap ∧ cap ≤ maxLen ∧ ss.length = cap ∧ (∀ i, i < ss.length → w.cell? (x.add i) = some (.string (ss.getD i ByteArray.empty))) ∧ ∀ s ∈ ss, s.size ≤ maxLen
theorem strs_at {w : World} {a : Addr} {n : Nat} {ss : List ByteArray} (h : ∀ i, i < n → w.cell? (a.add i) = some (.string (ss.getD i ByteArray.empty))) (hp : 0 < n) :
    ∃ b off, a = ⟨b, off, none⟩ ∧ ∀ j, j < n → w.cell? ⟨b, off + j, none⟩ = some (.string (ss.getD j ByteArray.empty)) := by
  obtain ⟨b, off, spot⟩ := a
  have hspot : spot = none := by simpa [Addr.add] using World.cell?_spot (h 0 hp)
  subst hspot
  exact ⟨b, off, rfl, fun j hj => by rw [← Go.WideShapes.add_plain]; exact h j hj⟩
theorem getD_take {ss : List ByteArray} {n i : Nat} (h : i < n) : (ss.take n).getD i ByteArray.empty = ss.getD i ByteArray.empty := by
  rw [List.getD_eq_getElem?_getD, List.getD_eq_getElem?_getD, List.getElem?_take_of_lt h]
theorem IsStrs.sr {w : World} {a : Option Addr} {len cap : Nat} {ss : List ByteArray} (h : IsStrs w a len cap ss) : SR w a len (ss.take len) := by
  rcases h with ⟨_, rfl, _, rfl⟩ | ⟨x, rfl, hl, hm, hz, hc, _⟩
  · exact ⟨rfl, fun h0 => absurd h0 (by omega)⟩
  · refine ⟨by rw [List.length_take]; omega, fun h0 => ?_⟩
    obtain ⟨b, off, rfl, hcc⟩ := strs_at hc (by omega)
    refine ⟨b, off, rfl, World.block_lt_of_cell? w ⟨b, off + 0, none⟩ (hcc 0 (by omega)), fun i hi => ?_⟩
    rw [getD_take hi]
    exact hcc i (by omega)
theorem IsStrs.len {w : World} {a : Option Addr} {len cap : Nat} {ss : List ByteArray} (h : IsStrs w a len cap ss) : len ≤ 9223372036854775807 ∧ len ≤ cap ∧ cap ≤ 9223372036854775807 := by
  have : len ≤ cap ∧ cap ≤ maxLen := by
    rcases h with ⟨_, rfl, rfl, _⟩ | ⟨_, _, h, h2, _⟩
    · exact ⟨Nat.le_refl _, Nat.zero_le _⟩
    · exact ⟨h, h2⟩
  unfold maxLen at this
  omega
theorem IsStrs.sizes {w : World} {a : Option Addr} {len cap : Nat} {ss : List ByteArray} (h : IsStrs w a len cap ss) : ∀ s ∈ ss.take len, s.size ≤ 9223372036854775807 := by
  intro s hs
  have : s.size ≤ maxLen := by
    rcases h with ⟨_, _, _, rfl⟩ | ⟨_, _, _, _, _, _, hw⟩
    · simp at hs
    · exact hw s (List.mem_of_mem_take hs)
  unfold maxLen at this
  omega
/-- Strings that the call owns. -/
theorem SR.own {w : World} {base : Nat} {e : TypeId} {a : Option Addr} {len cap n : Nat} {ss : List ByteArray} (h : w.ownsRow base e 1 (.slice a len cap) n (ss.map Value.string)) : len = n ∧ SR w a len ss := by
  have hl : ss.length = n := by simpa using h.1
  rcases h.2 with ⟨he, h0⟩ | ⟨g, cap', cur, he, hg, hh, hn, _, _, _⟩
  · cases he
    exact ⟨h0.symm, by omega, fun h => absurd h (by omega)⟩
  · cases he
    refine ⟨rfl, hl, fun h0 => ⟨g, 0, rfl, lt_of_block hh, fun i hi => ?_⟩⟩
    have := h.cells (g := g) rfl i (.string (ss.getD i ByteArray.empty)) (by rw [List.getElem?_map, List.getD_eq_getElem?_getD, List.getElem?_eq_getElem (by omega)]; rfl)
    have hadr : (⟨g, 0, none⟩ : Addr).add i = ⟨g, 0 + i, none⟩ := by unfold Addr.add; split <;> simp_all
    rw [hadr] at this
    exact this
theorem getD_mem {ss : List ByteArray} {i : Nat} (h : i < ss.length) : ss.getD i ByteArray.empty ∈ ss := by
  rw [List.getD_eq_getElem?_getD, List.getElem?_eq_getElem h]
  exact List.getElem_mem h

theorem info_str : (Try.prog.info? 9).map (fun i => (i.zero, i.size, i.bytes)) = some (some (.string ByteArray.empty), 1, 16) := by kernel_rfl
theorem made_cell (w : World) (z : Value) (n : Nat) (t : TypeId) (j : Nat) (h : j < n) : (w.alloc (.cells (madeCells #[z] n) t)).cell? ⟨w.heap.size, j, none⟩ = some z :=
  (World.cell?_alloc_mark w _ _ _ j).trans (by simp [madeCells, h, Nat.mod_one])
theorem new_frozen (w : World) (cs : Array Value) (t : TypeId) (a : Nat) : (w.alloc (.cells cs t)).frozen? ⟨w.heap.size, a, none⟩ = false :=
  World.frozen?_alloc_new _ _ _ _


/-! ### marks -/
def Mk.dec : Nat → Int → ByteArray → ByteArray
  | 0, _, out => out
  | f + 1, k, out => if 0 < k then Mk.dec f (k / 10) (strOfNums [48 + k % 10] ++ out) else out
theorem Mk.dec_pos (f : Nat) (k : Int) (out : ByteArray) (h : 0 < k) : Mk.dec (f + 1) k out = Mk.dec f (k / 10) (strOfNums [48 + k % 10] ++ out) := by
  rw [Mk.dec, if_pos h]
theorem Mk.dec_end (f : Nat) (k : Int) (out : ByteArray) (h : ¬ 0 < k) : Mk.dec f k out = out := by
  cases f with
  | zero => rfl
  | succ f => rw [Mk.dec, if_neg h]
/-- The mark of number k, k being at least 1. -/
def Mk.mark (k : Int) : ByteArray := ⟨#[109]⟩ ++ Mk.dec k.toNat k ⟨#[]⟩

set_option maxRecDepth 100000 in
set_option maxHeartbeats 800000 in
theorem markText_any (k : Int) (w : World) (h0 : 1 ≤ k) (h1 : k ≤ 1000000000) :
    Calls Try.prog 45 #[.int .i64 k] w fun e w' => e = .returned (.string (Mk.mark k)) ∧ Below w.heap.size w w' := by
  have c1 := fun (x : Int) (W : World) => conv_new [x] 1 W
  simp only [List.map, List.length] at c1
  go_enter Try.func45, Try.ntmps45
  go_wp2
  go_loopw [0, 3] (fun v o wr => ∃ (f : Nat) (j : Int) (out : ByteArray), v = .int .i64 j ∧ o = .string out ∧ 0 ≤ j ∧ j ≤ k ∧ j ≤ (f : Int) ∧ (out.size : Int) + j ≤ k ∧ Mk.dec f j out = Mk.dec k.toNat k ⟨#[]⟩ ∧ Below w.heap.size w wr)
    (fun v _ _ => (intOf v).toNat)
  case atStart => exact ⟨k.toNat, k, _, rfl, rfl, by omega, by omega, by omega, by simp [ByteArray.size], rfl, Below.refl _ _⟩
  case round =>
    obtain ⟨f, j, out, rfl, rfl, j0, j1, j2, hsz, hd, hbel⟩ := hrel
    by_cases hp : 0 < j
    · obtain ⟨f, rfl⟩ : ∃ f', f = f' + 1 := ⟨f - 1, by omega⟩
      rw [Mk.dec_pos _ _ _ hp] at hd
      have HD := Lib.hid hd
      clear hd
      have hadd : ∀ W, (Op.stringOp .add (strOfNums [48 + j % 10]) out).run Try.prog W = .ok (.string (strOfNums [48 + j % 10] ++ out)) W :=
        fun W => run_string_add_sum (P := Try.prog) W _ _ (by rw [strOfNums_size]; simp; omega)
      go_wp2
      go_roundw
      case rel => exact ⟨f, j / 10, _, rfl, rfl, by omega, by omega, by omega, by rw [ByteArray.size_append, strOfNums_size]; simp; omega, HD.out, hbel.alloc hbel.size _⟩
      case measure => simp [intOf]; omega
    · rw [Mk.dec_end _ _ _ hp] at hd
      have hadd : ∀ W, (Op.stringOp .add (⟨#[109]⟩ : ByteArray) out).run Try.prog W = .ok (.string (⟨#[109]⟩ ++ out)) W :=
        fun W => run_string_add_sum (P := Try.prog) W _ _ (by have : (⟨#[109]⟩ : ByteArray).size = 1 := rfl; omega)
      have HD : Hid (Mk.mark k = ⟨#[109]⟩ ++ out) := by unfold Mk.mark; rw [← hd]; exact rfl
      clear hd
      go_wp2
      go_ret
      exact ⟨by rw [HD.out]; rfl, hbel⟩
end Go.Proofs.Ytohameoomlehlab
