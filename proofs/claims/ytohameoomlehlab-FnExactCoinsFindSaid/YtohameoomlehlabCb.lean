/-
  What slices of coins hold; coins that a call owns.
-/
import Derived.Test.YtohameoomlehlabCa
import Derived.Test.YtohameoomlehlabBk
import Derived.Test.YtohameoomlehlabOw
import Derived.Below
import Derived.WalkKit
import Derived.WalkSpells
import Derived.Outline
import Derived.LoopTactic
import Derived.OwnWalk
import Derived.Laws.OwnMore
import Derived.Laws.StructEq
namespace Go.Proofs.Ytohameoomlehlab
open Go.RowKit

theorem below_aftC {w w1 w2 : World} (h : Below w.heap.size w w1) (k : Below w1.heap.size w1 w2) : Below w.heap.size w w2 := h.trans (k.mono h.size)
theorem below_drewNC {n : Nat} {w w' : World} (h : Below n w w') (k : Nat) : Below n w (w'.drewN k) := ⟨h.os, h.tape, h.output, h.size, h.block⟩
theorem cell_belC {n : Nat} {W W' : World} {g o : Nat} {v : Value} (h : Below n W W') (hn : g < n) (hc : W.cell? ⟨g, o, none⟩ = some v) : W'.cell? ⟨g, o, none⟩ = some v :=
  (World.cell?_of_block (w := W) (a := ⟨g, o, none⟩) (h.block g hn)).trans hc
/-- The cells of a coin. -/
structure CoC (w : World) (b o : Nat) (x : Co) : Prop where
  tx : w.cell? ⟨b, o, none⟩ = some (.int .i64 x.tx)
  out : w.cell? ⟨b, o + 1, none⟩ = some (.int .i64 x.out)
  amt : w.cell? ⟨b, o + 2, none⟩ = some (.int .i64 x.amt)
  lock : w.cell? ⟨b, o + 3, none⟩ = some (.string x.lock)
  ht : w.cell? ⟨b, o + 4, none⟩ = some (.int .i64 x.ht)
  rew : w.cell? ⟨b, o + 5, none⟩ = some (.bool x.rew)
theorem CoC.grown {w w' : World} {b o : Nat} {x : Co} {row : Option Nat} (h : CoC w b o x) (hg : w.grownBy w' row) (hb : some b ≠ row) : CoC w' b o x :=
  ⟨hg.cell h.tx (by simpa using hb), hg.cell h.out (by simpa using hb), hg.cell h.amt (by simpa using hb), hg.cell h.lock (by simpa using hb), hg.cell h.ht (by simpa using hb), hg.cell h.rew (by simpa using hb)⟩
/-- The slice at a holds the len coins l; its block is no older than lo. -/
def CoL (lo : Nat) (w : World) (a : Option Addr) (len : Nat) (l : List Co) : Prop :=
  l.length = len ∧ (0 < len → ∃ b off, a = some ⟨b, off, none⟩ ∧ lo ≤ b ∧ b < w.heap.size ∧ ∀ j, j < len → CoC w b (off + j * 6) (Co.nth l j))
theorem CoL.grown {lo : Nat} {w w' : World} {a : Option Addr} {len : Nat} {l : List Co} {row : Option Nat} (h : CoL lo w a len l) (hg : w.grownBy w' row) (hr : ∀ r, row = some r → r < lo) : CoL lo w' a len l :=
  ⟨h.1, fun h0 => by
    obtain ⟨b, off, rfl, hlo, hb, hc⟩ := h.2 h0
    exact ⟨b, off, rfl, hlo, Nat.lt_of_lt_of_le hb hg.size, fun j hj => (hc j hj).grown hg (fun e => by have := hr b e.symm; omega)⟩⟩
theorem CoL.below {lo : Nat} {w w' : World} {a : Option Addr} {len : Nat} {l : List Co} (h : CoL lo w a len l) (hb : Below w.heap.size w w') : CoL lo w' a len l :=
  h.grown (row := none) ⟨hb.os, hb.tape, hb.output, hb.size, fun k hk _ => hb.block k hk⟩ (fun _ e => by cases e)
theorem CoL.alloc {lo : Nat} {w : World} {a : Option Addr} {len : Nat} {l : List Co} (h : CoL lo w a len l) (o : Obj) : CoL lo (w.alloc o) a len l :=
  h.grown (World.grownBy_alloc w o none) (fun _ e => by cases e)
theorem CoL.drew {lo : Nat} {w : World} {a : Option Addr} {len : Nat} {l : List Co} (h : CoL lo w a len l) : CoL lo w.drew a len l := h.below (Below.refl _ _).drew
theorem CoL.mono {lo lo' : Nat} {w : World} {a : Option Addr} {len : Nat} {l : List Co} (h : CoL lo w a len l) (hl : lo' ≤ lo) : CoL lo' w a len l :=
  ⟨h.1, fun h0 => by
    obtain ⟨b, off, rfl, hlo, hb⟩ := h.2 h0
    exact ⟨b, off, rfl, Nat.le_trans hl hlo, hb⟩⟩
theorem CoL.nil (lo : Nat) (w : World) (a : Option Addr) : CoL lo w a 0 [] := ⟨rfl, fun h => absurd h (Nat.lt_irrefl 0)⟩
/-- A part of a slice, from index j on. -/
theorem CoL.drop {lo : Nat} {w : World} {b off len : Nat} {l : List Co} (h : CoL lo w (some ⟨b, off, none⟩) len l) {j : Nat} (hj : j ≤ len) : CoL lo w (some ⟨b, off + j * 6, none⟩) (len - j) (l.drop j) := by
  refine ⟨by rw [List.length_drop, h.1], fun h0 => ?_⟩
  obtain ⟨b', off', he, hlo, hb, hc⟩ := h.2 (by omega)
  cases he
  refine ⟨b, off + j * 6, rfl, hlo, hb, fun i hi => ?_⟩
  have h1 := hc (j + i) (by omega)
  have hn : Co.nth (l.drop j) i = Co.nth l (j + i) := by
    unfold Co.nth
    rw [List.getD_eq_getElem?_getD, List.getD_eq_getElem?_getD, List.getElem?_drop]
  rw [hn, show off + j * 6 + i * 6 = off + (j + i) * 6 by omega]
  exact h1
/-! ### coins that a call owns -/
def Co.cs : List Co → List Value
  | [] => []
  | x :: l => .int .i64 x.tx :: .int .i64 x.out :: .int .i64 x.amt :: .string x.lock :: .int .i64 x.ht :: .bool x.rew :: Co.cs l
theorem Co.cs_append (l m : List Co) : Co.cs (l ++ m) = Co.cs l ++ Co.cs m := by
  induction l with
  | nil => rfl
  | cons x l ih => simp [Co.cs, ih]
theorem Co.cs_length (l : List Co) : (Co.cs l).length = l.length * 6 := by
  induction l with
  | nil => rfl
  | cons x l ih => simp [Co.cs, ih]; omega
theorem Co.cs_get (l : List Co) : ∀ j, j < l.length → (Co.cs l)[j * 6]? = some (.int .i64 (Co.nth l j).tx) ∧ (Co.cs l)[j * 6 + 1]? = some (.int .i64 (Co.nth l j).out) ∧ (Co.cs l)[j * 6 + 2]? = some (.int .i64 (Co.nth l j).amt) ∧ (Co.cs l)[j * 6 + 3]? = some (.string (Co.nth l j).lock) ∧ (Co.cs l)[j * 6 + 4]? = some (.int .i64 (Co.nth l j).ht) ∧ (Co.cs l)[j * 6 + 5]? = some (.bool (Co.nth l j).rew) := by
  induction l with
  | nil => intro j hj; simp at hj
  | cons x l ih =>
    intro j hj
    cases j with
    | zero => simp [Co.cs, Co.nth]
    | succ j =>
      have g : ∀ i, (Co.cs (x :: l))[i + 6]? = (Co.cs l)[i]? := fun i => by
        show ([.int .i64 x.tx, .int .i64 x.out, .int .i64 x.amt, .string x.lock, .int .i64 x.ht, .bool x.rew] ++ Co.cs l)[i + 6]? = _
        rw [List.getElem?_append_right (by simp)]
        rfl
      have := ih j (by simpa using hj)
      rw [show (j + 1) * 6 = j * 6 + 6 by omega, show j * 6 + 6 + 1 = j * 6 + 1 + 6 by omega, show j * 6 + 6 + 2 = j * 6 + 2 + 6 by omega, show j * 6 + 6 + 3 = j * 6 + 3 + 6 by omega, show j * 6 + 6 + 4 = j * 6 + 4 + 6 by omega, show j * 6 + 6 + 5 = j * 6 + 5 + 6 by omega, g, g, g, g, g, g]
      exact this
theorem Co.cs_one (l : List Co) : ∀ u ∈ Co.cs l, u.oneCell' = true := by
  induction l with
  | nil => intro u hu; cases hu
  | cons x l ih =>
    intro u hu
    simp only [Co.cs, List.mem_cons] at hu
    rcases hu with rfl | rfl | rfl | rfl | rfl | rfl | hu
    · rfl
    · rfl
    · rfl
    · rfl
    · rfl
    · rfl
    · exact ih u hu
/-- Coins that a call owns. -/
def OwnC (base : Nat) (w : World) (v : Value) (l : List Co) : Prop := w.ownsRow base 30 6 v l.length (Co.cs l)
theorem OwnC.row {base : Nat} {w : World} {v : Value} {l : List Co} (h : OwnC base w v l) : w.ownsRow base 30 6 v l.length (Co.cs l) := h
theorem OwnC.kept {base B : Nat} {w w' : World} {v : Value} {l : List Co} (h : OwnC base w v l) (hg : w.grownBy w' (some B)) (hB : B < base) : OwnC base w' v l := World.ownsRow.kept h hg (own_ne h hB)
theorem OwnC.below {base : Nat} {w w' : World} {v : Value} {l : List Co} (h : OwnC base w v l) (hb : Below w.heap.size w w') : OwnC base w' v l :=
  World.ownsRow.kept h (row := none) ⟨hb.os, hb.tape, hb.output, hb.size, fun k hk _ => hb.block k hk⟩ (by cases v.ownBlock <;> simp)
theorem OwnC.alloc {base : Nat} {w : World} {v : Value} {l : List Co} (h : OwnC base w v l) (o : Obj) : OwnC base (w.alloc o) v l := World.ownsRow.alloc h o
theorem OwnC.drew {base : Nat} {w : World} {v : Value} {l : List Co} (h : OwnC base w v l) : OwnC base w.drew v l := h
theorem OwnC.base {base base' : Nat} {w : World} {v : Value} {l : List Co} (h : OwnC base w v l) (hb : base' ≤ base) : OwnC base' w v l := by
  refine ⟨h.row.1, ?_⟩
  rcases h.row.2 with ⟨h1, h2⟩ | ⟨g, cap, cur, h1, h2, h3⟩
  · exact .inl ⟨h1, h2⟩
  · exact .inr ⟨g, cap, cur, h1, Nat.le_trans hb h2, h3⟩
theorem OwnC.push {base : Nat} {w' : World} {v' : Value} {l : List Co} {x : Co} (h5 : w'.ownsRow base 30 6 v' (l.length + 1) (Co.cs l ++ [.int .i64 x.tx, .int .i64 x.out, .int .i64 x.amt, .string x.lock, .int .i64 x.ht, .bool x.rew])) : OwnC base w' v' (l ++ [x]) := by
  unfold OwnC
  rw [Co.cs_append, List.length_append]
  exact h5
theorem OwnC.coL {base : Nat} {w : World} {v : Value} {l : List Co} (h : OwnC base w v l) : ∃ a c, v = .slice a l.length c ∧ l.length ≤ c ∧ CoL base w a l.length l := by
  have h1 := h.row
  rcases h1.2 with ⟨he, h0⟩ | ⟨g, cap, cur, he, hg, hh, hn, _, _, _⟩
  · exact ⟨none, 0, by rw [he, h0], by omega, rfl, fun h => absurd h (by omega)⟩
  · refine ⟨some ⟨g, 0, none⟩, cap, he, hn, rfl, fun h0 => ⟨g, 0, rfl, hg, lt_of_block hh, fun j hj => ?_⟩⟩
    obtain ⟨e0, e1, e2, e3, e4, e5⟩ := Co.cs_get l j hj
    have hadr : ∀ i, (⟨g, 0, none⟩ : Addr).add i = ⟨g, 0 + i, none⟩ := fun i => by unfold Addr.add; split <;> simp_all
    rw [he] at h1
    have f0 := h1.cells (g := g) rfl _ _ e0
    have f1 := h1.cells (g := g) rfl _ _ e1
    have f2 := h1.cells (g := g) rfl _ _ e2
    have f3 := h1.cells (g := g) rfl _ _ e3
    have f4 := h1.cells (g := g) rfl _ _ e4
    have f5 := h1.cells (g := g) rfl _ _ e5
    rw [hadr] at f0 f1 f2 f3 f4 f5
    exact ⟨f0, f1, f2, f3, f4, f5⟩
theorem OwnC.len {base n c : Nat} {w : World} {a : Option Addr} {l : List Co} (h : OwnC base w (.slice a n c) l) : n = l.length ∧ n ≤ c ∧ CoL base w a l.length l := by
  obtain ⟨a', c', he, hn, hc⟩ := h.coL
  cases he
  exact ⟨rfl, hn, hc⟩
theorem info_coin : (Try.prog.info? 30).map (fun i => (i.zero, i.size, i.bytes)) = some (some (.agg #[.int .i64 0, .int .i64 0, .int .i64 0, .string ⟨#[]⟩, .int .i64 0, .bool false]), 6, 56) := by kernel_rfl
/-- A coin in a block of its own. -/
theorem Bk.c6 {B : Nat} {t : TypeId} {u0 u1 u2 u3 u4 u5 : Value} {w : World} (h : Bk B t #[u0, u1, u2, u3, u4, u5] w) : w.cell? ⟨B, 0, none⟩ = some u0 ∧ w.cell? ⟨B, 1, none⟩ = some u1 ∧ w.cell? ⟨B, 2, none⟩ = some u2 ∧ w.cell? ⟨B, 3, none⟩ = some u3 ∧ w.cell? ⟨B, 4, none⟩ = some u4 ∧ w.cell? ⟨B, 5, none⟩ = some u5 :=
  ⟨h.cell 0, h.cell 1, h.cell 2, h.cell 3, h.cell 4, h.cell 5⟩
theorem Bk.f6 {B : Nat} {t : TypeId} {u0 u1 u2 u3 u4 u5 : Value} {w : World} (h : Bk B t #[u0, u1, u2, u3, u4, u5] w) : w.frozen? ⟨B, 0, none⟩ = false ∧ w.frozen? ⟨B, 1, none⟩ = false ∧ w.frozen? ⟨B, 2, none⟩ = false ∧ w.frozen? ⟨B, 3, none⟩ = false ∧ w.frozen? ⟨B, 4, none⟩ = false ∧ w.frozen? ⟨B, 5, none⟩ = false :=
  ⟨h.fro 0, h.fro 1, h.fro 2, h.fro 3, h.fro 4, h.fro 5⟩
theorem eq_coin (a b c e a' b' c' e' : Int) (s s' : ByteArray) (r r' : Bool) (w : World) : (Op.equalIn 10000 30 (.agg #[.int .i64 a, .int .i64 b, .int .i64 c, .string s, .int .i64 e, .bool r]) (.agg #[.int .i64 a', .int .i64 b', .int .i64 c', .string s', .int .i64 e', .bool r'])).run Try.prog w = .ok (a == a' && (b == b' && (c == c' && (s.toList == s'.toList && (e == e' && r == r'))))) w := by
  have u3 := Try.underlying3
  have a3 := Try.isAgg3
  have z3 := Try.sizeOf3
  have u9 := Try.underlying9
  have a9 := Try.isAgg9
  have z9 := Try.sizeOf9
  have u4 := Try.underlying4
  have a4 := Try.isAgg4
  have z4 := Try.sizeOf4
  have hS : Try.prog.underlying 30 = some (.struct (Try.prog.fieldsOf 30)) := by kernel_rfl
  rw [show (10000 : Nat) = 9999 + 1 from rfl, run_equalIn_agg w 9999 30 _ _ hS (by kernel_rfl)]
  simp only [Program.fieldsOf, Try.underlying30]
  go_simp
  by_cases h1 : a = a' <;> by_cases h2 : b = b' <;> by_cases h3 : c = c' <;> cases h4 : (s.toList == s'.toList) <;> by_cases h5 : e = e' <;> cases r <;> cases r' <;> simp_all
theorem noGuard_coin : Try.prog.eqGuardType Try.prog.depth 30 = false := by kernel_rfl
end Go.Proofs.Ytohameoomlehlab
