/-
  Lists of operations: what a slice holds; the laws' own helpers.
-/
import Derived.Test.YtpldoffjclmacaaPa
import Derived.Test.YtpldoffjclmacaaBk
import Derived.Test.YtpldoffjclmacaaOw
import Derived.Test.YtpldoffjclmacaaSl
import Derived.Below
import Derived.WalkKit
import Derived.WalkSpells
import Derived.Outline
import Derived.LoopTactic
import Derived.Deep.RegionHeld3
import Derived.Deep.DeepMust
import Derived.Deep.QuietTactic
import Derived.BigQuiet
import Derived.Laws.StructEq
namespace Go.Proofs.Ytpldoffjclmacaa
open Go.RowKit

theorem below_alc {n : Nat} {w w1 : World} (h : Below n w w1) (hn : n ≤ w1.heap.size) (o : Obj) : Below n w (w1.alloc o) := h.alloc hn o
theorem below_aft9 {w w1 w2 : World} (h : Below w.heap.size w w1) (k : Below w1.heap.size w1 w2) : Below w.heap.size w w2 := h.trans (k.mono h.size)
theorem below_drewN10 {n : Nat} {w w' : World} (h : Below n w w') (k : Nat) : Below n w (w'.drewN k) := ⟨h.os, h.tape, h.output, h.size, h.block⟩
def Jo.z : Jo := ⟨0, 0, 0, ⟨#[]⟩⟩
def Jo.at_ (l : List Jo) (j : Nat) : Jo := l.getD j Jo.z
theorem Jo.at_get {l : List Jo} {j : Nat} (h : j < l.length) : l[j]? = some (Jo.at_ l j) := by
  unfold Jo.at_
  rw [List.getD_eq_getElem?_getD, List.getElem?_eq_getElem h]
  rfl
/-- The slice at a holds the len operations l. -/
def OL (w : World) (a : Option Addr) (len : Nat) (l : List Jo) : Prop :=
  l.length = len ∧ (0 < len → ∃ b off, a = some ⟨b, off, none⟩ ∧ b < w.heap.size ∧ ∀ j, j < len → w.cell? ⟨b, off + j * 4, none⟩ = some (.int .i64 (Jo.at_ l j).c) ∧ w.cell? ⟨b, off + j * 4 + 1, none⟩ = some (.int .i64 (Jo.at_ l j).a) ∧ w.cell? ⟨b, off + j * 4 + 2, none⟩ = some (.int .i64 (Jo.at_ l j).b) ∧ w.cell? ⟨b, off + j * 4 + 3, none⟩ = some (.string (Jo.at_ l j).t))
theorem OL.grown {w w' : World} {a : Option Addr} {len : Nat} {l : List Jo} {row : Option Nat} (h : OL w a len l) (hg : w.grownBy w' row) (hne : 0 < len → ∀ b off, a = some ⟨b, off, none⟩ → some b ≠ row) : OL w' a len l :=
  ⟨h.1, fun h0 => by
    obtain ⟨b, off, rfl, hb, hc⟩ := h.2 h0
    have hn : some b ≠ row := by simpa using hne h0 b off rfl
    exact ⟨b, off, rfl, Nat.lt_of_lt_of_le hb hg.size, fun j hj => ⟨hg.cell (hc j hj).1 (by simpa using hn), hg.cell (hc j hj).2.1 (by simpa using hn), hg.cell (hc j hj).2.2.1 (by simpa using hn), hg.cell (hc j hj).2.2.2 (by simpa using hn)⟩⟩⟩
theorem OL.below {w w' : World} {a : Option Addr} {len : Nat} {l : List Jo} (h : OL w a len l) (hb : Below w.heap.size w w') : OL w' a len l :=
  h.grown (row := none) ⟨hb.os, hb.tape, hb.output, hb.size, fun k hk _ => hb.block k hk⟩ (fun _ _ _ _ => by simp)
theorem OL.alloc {w : World} {a : Option Addr} {len : Nat} {l : List Jo} (h : OL w a len l) (o : Obj) : OL (w.alloc o) a len l :=
  h.grown (World.grownBy_alloc w o none) (fun _ _ _ _ => by simp)
theorem OL.drew {w : World} {a : Option Addr} {len : Nat} {l : List Jo} (h : OL w a len l) : OL w.drew a len l := ⟨h.1, h.2⟩
/-- The cells of a list of operations. -/
def Jo.cells : List Jo → List Value
  | [] => []
  | x :: l => .int .i64 x.c :: .int .i64 x.a :: .int .i64 x.b :: .string x.t :: Jo.cells l
theorem Jo.cells_append (l m : List Jo) : Jo.cells (l ++ m) = Jo.cells l ++ Jo.cells m := by
  induction l with
  | nil => rfl
  | cons x l ih => simp [Jo.cells, ih]
theorem Jo.cells_length (l : List Jo) : (Jo.cells l).length = l.length * 4 := by
  induction l with
  | nil => rfl
  | cons x l ih => simp [Jo.cells, ih]; omega
theorem Jo.cells_get (l : List Jo) : ∀ j, j < l.length → (Jo.cells l)[j * 4]? = some (.int .i64 (Jo.at_ l j).c) ∧ (Jo.cells l)[j * 4 + 1]? = some (.int .i64 (Jo.at_ l j).a) ∧ (Jo.cells l)[j * 4 + 2]? = some (.int .i64 (Jo.at_ l j).b) ∧ (Jo.cells l)[j * 4 + 3]? = some (.string (Jo.at_ l j).t) := by
  induction l with
  | nil => intro j hj; simp at hj
  | cons x l ih =>
    intro j hj
    cases j with
    | zero => simp [Jo.cells, Jo.at_]
    | succ j =>
      have g : ∀ i, (Jo.cells (x :: l))[i + 4]? = (Jo.cells l)[i]? := fun i => by
        show ([.int .i64 x.c, .int .i64 x.a, .int .i64 x.b, .string x.t] ++ Jo.cells l)[i + 4]? = _
        rw [List.getElem?_append_right (by simp)]
        rfl
      have := ih j (by simpa using hj)
      rw [show (j + 1) * 4 = j * 4 + 4 by omega, show j * 4 + 4 + 1 = j * 4 + 1 + 4 by omega, show j * 4 + 4 + 2 = j * 4 + 2 + 4 by omega, show j * 4 + 4 + 3 = j * 4 + 3 + 4 by omega, g, g, g, g]
      exact this
/-- Operations that the call owns. -/
theorem OL.own {w : World} {base : Nat} {e : TypeId} {a : Option Addr} {len cap n : Nat} {l : List Jo} (h : w.ownsRow base e 4 (.slice a len cap) n (Jo.cells l)) : len = n ∧ OL w a len l := by
  have hl : l.length = n := by have := h.1; rw [Jo.cells_length] at this; omega
  rcases h.2 with ⟨he, h0⟩ | ⟨g, cap', cur, he, hg, hh, hn, _, _, _⟩
  · cases he
    exact ⟨h0.symm, by omega, fun h => absurd h (by omega)⟩
  · cases he
    refine ⟨rfl, hl, fun h0 => ⟨g, 0, rfl, lt_of_block hh, fun j hj => ?_⟩⟩
    obtain ⟨e0, e1, e2, e3⟩ := Jo.cells_get l j (by omega)
    have hadr : ∀ i, (⟨g, 0, none⟩ : Addr).add i = ⟨g, 0 + i, none⟩ := fun i => by unfold Addr.add; split <;> simp_all
    have f0 := h.cells (g := g) rfl _ _ e0
    have f1 := h.cells (g := g) rfl _ _ e1
    have f2 := h.cells (g := g) rfl _ _ e2
    have f3 := h.cells (g := g) rfl _ _ e3
    rw [hadr] at f0 f1 f2 f3
    exact ⟨f0, f1, f2, f3⟩
theorem info_op : (Try.prog.info? 46).map (fun i => (i.zero, i.size, i.bytes)) = some (some (.agg #[.int .i64 0, .int .i64 0, .int .i64 0, .string ⟨#[]⟩]), 4, 40) := by kernel_rfl
/-- What came in as a list of operations. -/
def IsOps (w : World) (a : Option Addr) (len cap : Nat) (l : List Jo) : Prop :=
  len ≤ cap ∧ cap ≤ 9223372036854775807 ∧ OL w a len l ∧ ∀ j, j < len → (Jo.at_ l j).t.size ≤ 9223372036854775807 ∧ (-9223372036854775808 ≤ (Jo.at_ l j).c ∧ (Jo.at_ l j).c ≤ 9223372036854775807) ∧ (-9223372036854775808 ≤ (Jo.at_ l j).a ∧ (Jo.at_ l j).a ≤ 9223372036854775807) ∧ (-9223372036854775808 ≤ (Jo.at_ l j).b ∧ (Jo.at_ l j).b ≤ 9223372036854775807)
theorem eq_op (c a b c' a' b' : Int) (t t' : ByteArray) (w : World) : (Op.equalIn 10000 46 (.agg #[.int .i64 c, .int .i64 a, .int .i64 b, .string t]) (.agg #[.int .i64 c', .int .i64 a', .int .i64 b', .string t'])).run Try.prog w = .ok (c == c' && (a == a' && (b == b' && t.toList == t'.toList))) w := by
  have u3 := Try.underlying3
  have a3 := Try.isAgg3
  have z3 := Try.sizeOf3
  have u9 := Try.underlying9
  have a9 := Try.isAgg9
  have z9 := Try.sizeOf9
  have hS : Try.prog.underlying 46 = some (.struct (Try.prog.fieldsOf 46)) := by kernel_rfl
  rw [show (10000 : Nat) = 9999 + 1 from rfl, run_equalIn_agg w 9999 46 _ _ hS (by kernel_rfl)]
  simp only [Program.fieldsOf, Try.underlying46]
  go_simp
  by_cases h1 : c = c' <;> by_cases h2 : a = a' <;> by_cases h3 : b = b' <;> cases h4 : (t.toList == t'.toList) <;> simp_all
theorem noGuard_op : Try.prog.eqGuardType Try.prog.depth 46 = false := by kernel_rfl
set_option maxRecDepth 100000 in
set_option maxHeartbeats 1600000 in
theorem wcOps_any (a b : Option Addr) (len cap cap' : Nat) (l : List Jo) (w : World) (ha : OL w a len l) (hb : OL w b len l) (hlen : len ≤ 9223372036854775807) :
    Calls Try.prog 12 #[.slice a len cap, .slice b len cap'] w fun e w' => e = .returned (.bool true) ∧ Below w.heap.size w w' := by
  have hq2 := noGuard_op
  go_enter Try.func12, Try.ntmps12
  go_wp2
  go_loopw [5] (fun i wr => ∃ k : Nat, k ≤ len ∧ i = .int .i64 (k : Int) ∧ Below w.heap.size w wr)
    (fun i _ => len - (intOf i).toNat)
  case atStart => exact ⟨0, by omega, rfl, Below.refl _ _⟩
  case round =>
    obtain ⟨k, hk, rfl, hbel⟩ := hrel
    by_cases hlt : k < len
    · obtain ⟨g, off, rfl, _, hc⟩ := (ha.below hbel).2 (by omega)
      obtain ⟨g2, off2, rfl, _, hc2⟩ := (hb.below hbel).2 (by omega)
      obtain ⟨c0, c1, c2, c3⟩ := hc k hlt
      obtain ⟨d0, d1, d2, d3⟩ := hc2 k hlt
      obtain ⟨x, hX⟩ : ∃ x, Hid (Jo.at_ l k = x) := ⟨_, Lib.hid rfl⟩
      rw [hX.out] at c0 c1 c2 c3 d0 d1 d2 d3
      obtain ⟨C, A, B, t⟩ := x
      simp only at c0 c1 c2 c3 d0 d1 d2 d3
      have hq1 := fun W => eq_op C A B C A B t t W
      simp only [beq_self_eq_true, Bool.and_true] at hq1
      clear hc hc2 ha hb hX
      go_wp2
      go_quiet (fail)
      go_wp2
      go_roundw
      case rel => exact ⟨k + 1, by omega, by simp, below_drewN10 hbel _⟩
      case measure => simp [intOf]; omega
    · go_wp2
      go_ret
      exact ⟨rfl, hbel⟩
end Go.Proofs.Ytpldoffjclmacaa
