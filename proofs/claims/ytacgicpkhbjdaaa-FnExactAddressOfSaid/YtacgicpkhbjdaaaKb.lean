/-
  Contracts of addresses: the program's arrays of ten values.
-/
import Derived.Test.YtacgicpkhbjdaaaKa
import Derived.Test.YtacgicpkhbjdaaaBk
import Derived.Test.YtacgicpkhbjdaaaBd
import Derived.Test.YtacgicpkhbjdaaaShelf
import Derived.WalkKit
import Derived.WalkSpells
import Derived.Outline
import Derived.LoopTactic
import Derived.Deep.RegionWith
import Derived.Deep.RegionHeld3
import Derived.Deep.DeepMust
import Derived.Deep.MidRow
import Derived.Deep.QuietTactic
import Derived.BigQuiet
import Derived.Maps.OwnSet
import Derived.Laws.StructEq
import Derived.Stop.BytesEq
namespace Go.Proofs.Ytacgicpkhbjdaaa
open Go.RowKit Go.Maps

theorem Bk.c10 {B : Nat} {t : TypeId} {u0 u1 u2 u3 u4 u5 u6 u7 u8 u9 : Value} {w : World} (h : Bk B t #[u0, u1, u2, u3, u4, u5, u6, u7, u8, u9] w) : w.cell? ⟨B, 0, none⟩ = some u0 ∧ w.cell? ⟨B, 1, none⟩ = some u1 ∧ w.cell? ⟨B, 2, none⟩ = some u2 ∧ w.cell? ⟨B, 3, none⟩ = some u3 ∧ w.cell? ⟨B, 4, none⟩ = some u4 ∧ w.cell? ⟨B, 5, none⟩ = some u5 ∧ w.cell? ⟨B, 6, none⟩ = some u6 ∧ w.cell? ⟨B, 7, none⟩ = some u7 ∧ w.cell? ⟨B, 8, none⟩ = some u8 ∧ w.cell? ⟨B, 9, none⟩ = some u9 :=
  ⟨h.cell 0, h.cell 1, h.cell 2, h.cell 3, h.cell 4, h.cell 5, h.cell 6, h.cell 7, h.cell 8, h.cell 9⟩
theorem Bk.f10 {B : Nat} {t : TypeId} {cs : Array Value} {w : World} (h : Bk B t cs w) : w.frozen? ⟨B, 0, none⟩ = false ∧ w.frozen? ⟨B, 1, none⟩ = false ∧ w.frozen? ⟨B, 2, none⟩ = false ∧ w.frozen? ⟨B, 3, none⟩ = false ∧ w.frozen? ⟨B, 4, none⟩ = false ∧ w.frozen? ⟨B, 5, none⟩ = false ∧ w.frozen? ⟨B, 6, none⟩ = false ∧ w.frozen? ⟨B, 7, none⟩ = false ∧ w.frozen? ⟨B, 8, none⟩ = false ∧ w.frozen? ⟨B, 9, none⟩ = false :=
  ⟨h.fro 0, h.fro 1, h.fro 2, h.fro 3, h.fro 4, h.fro 5, h.fro 6, h.fro 7, h.fro 8, h.fro 9⟩
theorem Bk.store10 {B : Nat} {t : TypeId} {u0 u1 u2 u3 u4 u5 u6 u7 u8 u9 : Value} {w : World} (h : Bk B t #[u0, u1, u2, u3, u4, u5, u6, u7, u8, u9] w) (v0 v1 v2 v3 v4 v5 v6 v7 v8 v9 : Value) : Bk B t #[v0, v1, v2, v3, v4, v5, v6, v7, v8, v9] (((((((((((w).setCell ⟨B, 0, none⟩ v0).setCell ⟨B, 1, none⟩ v1).setCell ⟨B, 2, none⟩ v2).setCell ⟨B, 3, none⟩ v3).setCell ⟨B, 4, none⟩ v4).setCell ⟨B, 5, none⟩ v5).setCell ⟨B, 6, none⟩ v6).setCell ⟨B, 7, none⟩ v7).setCell ⟨B, 8, none⟩ v8).setCell ⟨B, 9, none⟩ v9) := by
  have h0 : Bk B t #[v0, u1, u2, u3, u4, u5, u6, u7, u8, u9] ((w).setCell ⟨B, 0, none⟩ v0) := h.set 0 v0
  have h1 : Bk B t #[v0, v1, u2, u3, u4, u5, u6, u7, u8, u9] (((w).setCell ⟨B, 0, none⟩ v0).setCell ⟨B, 1, none⟩ v1) := h0.set 1 v1
  have h2 : Bk B t #[v0, v1, v2, u3, u4, u5, u6, u7, u8, u9] ((((w).setCell ⟨B, 0, none⟩ v0).setCell ⟨B, 1, none⟩ v1).setCell ⟨B, 2, none⟩ v2) := h1.set 2 v2
  have h3 : Bk B t #[v0, v1, v2, v3, u4, u5, u6, u7, u8, u9] (((((w).setCell ⟨B, 0, none⟩ v0).setCell ⟨B, 1, none⟩ v1).setCell ⟨B, 2, none⟩ v2).setCell ⟨B, 3, none⟩ v3) := h2.set 3 v3
  have h4 : Bk B t #[v0, v1, v2, v3, v4, u5, u6, u7, u8, u9] ((((((w).setCell ⟨B, 0, none⟩ v0).setCell ⟨B, 1, none⟩ v1).setCell ⟨B, 2, none⟩ v2).setCell ⟨B, 3, none⟩ v3).setCell ⟨B, 4, none⟩ v4) := h3.set 4 v4
  have h5 : Bk B t #[v0, v1, v2, v3, v4, v5, u6, u7, u8, u9] (((((((w).setCell ⟨B, 0, none⟩ v0).setCell ⟨B, 1, none⟩ v1).setCell ⟨B, 2, none⟩ v2).setCell ⟨B, 3, none⟩ v3).setCell ⟨B, 4, none⟩ v4).setCell ⟨B, 5, none⟩ v5) := h4.set 5 v5
  have h6 : Bk B t #[v0, v1, v2, v3, v4, v5, v6, u7, u8, u9] ((((((((w).setCell ⟨B, 0, none⟩ v0).setCell ⟨B, 1, none⟩ v1).setCell ⟨B, 2, none⟩ v2).setCell ⟨B, 3, none⟩ v3).setCell ⟨B, 4, none⟩ v4).setCell ⟨B, 5, none⟩ v5).setCell ⟨B, 6, none⟩ v6) := h5.set 6 v6
  have h7 : Bk B t #[v0, v1, v2, v3, v4, v5, v6, v7, u8, u9] (((((((((w).setCell ⟨B, 0, none⟩ v0).setCell ⟨B, 1, none⟩ v1).setCell ⟨B, 2, none⟩ v2).setCell ⟨B, 3, none⟩ v3).setCell ⟨B, 4, none⟩ v4).setCell ⟨B, 5, none⟩ v5).setCell ⟨B, 6, none⟩ v6).setCell ⟨B, 7, none⟩ v7) := h6.set 7 v7
  have h8 : Bk B t #[v0, v1, v2, v3, v4, v5, v6, v7, v8, u9] ((((((((((w).setCell ⟨B, 0, none⟩ v0).setCell ⟨B, 1, none⟩ v1).setCell ⟨B, 2, none⟩ v2).setCell ⟨B, 3, none⟩ v3).setCell ⟨B, 4, none⟩ v4).setCell ⟨B, 5, none⟩ v5).setCell ⟨B, 6, none⟩ v6).setCell ⟨B, 7, none⟩ v7).setCell ⟨B, 8, none⟩ v8) := h7.set 8 v8
  have h9 : Bk B t #[v0, v1, v2, v3, v4, v5, v6, v7, v8, v9] (((((((((((w).setCell ⟨B, 0, none⟩ v0).setCell ⟨B, 1, none⟩ v1).setCell ⟨B, 2, none⟩ v2).setCell ⟨B, 3, none⟩ v3).setCell ⟨B, 4, none⟩ v4).setCell ⟨B, 5, none⟩ v5).setCell ⟨B, 6, none⟩ v6).setCell ⟨B, 7, none⟩ v7).setCell ⟨B, 8, none⟩ v8).setCell ⟨B, 9, none⟩ v9) := h8.set 9 v9
  exact h9
theorem Bk.other10 {B : Nat} {t : TypeId} {cs : Array Value} {w : World} (h : Bk B t cs w) (C : Nat) (hC : B ≠ C) (v0 v1 v2 v3 v4 v5 v6 v7 v8 v9 : Value) : Bk B t cs (((((((((((w).setCell ⟨C, 0, none⟩ v0).setCell ⟨C, 1, none⟩ v1).setCell ⟨C, 2, none⟩ v2).setCell ⟨C, 3, none⟩ v3).setCell ⟨C, 4, none⟩ v4).setCell ⟨C, 5, none⟩ v5).setCell ⟨C, 6, none⟩ v6).setCell ⟨C, 7, none⟩ v7).setCell ⟨C, 8, none⟩ v8).setCell ⟨C, 9, none⟩ v9) :=
  ((((((((((h).oset C 0 _ hC).oset C 1 _ hC).oset C 2 _ hC).oset C 3 _ hC).oset C 4 _ hC).oset C 5 _ hC).oset C 6 _ hC).oset C 7 _ hC).oset C 8 _ hC).oset C 9 _ hC
theorem below_store10 {w w1 : World} (h : Below w.heap.size w w1) (B : Nat) (hB : w.heap.size ≤ B) (v0 v1 v2 v3 v4 v5 v6 v7 v8 v9 : Value) : Below w.heap.size w (((((((((((w1).setCell ⟨B, 0, none⟩ v0).setCell ⟨B, 1, none⟩ v1).setCell ⟨B, 2, none⟩ v2).setCell ⟨B, 3, none⟩ v3).setCell ⟨B, 4, none⟩ v4).setCell ⟨B, 5, none⟩ v5).setCell ⟨B, 6, none⟩ v6).setCell ⟨B, 7, none⟩ v7).setCell ⟨B, 8, none⟩ v8).setCell ⟨B, 9, none⟩ v9) :=
  ((((((((((h).setCell (p := ⟨B, 0, none⟩) hB _).setCell (p := ⟨B, 1, none⟩) hB _).setCell (p := ⟨B, 2, none⟩) hB _).setCell (p := ⟨B, 3, none⟩) hB _).setCell (p := ⟨B, 4, none⟩) hB _).setCell (p := ⟨B, 5, none⟩) hB _).setCell (p := ⟨B, 6, none⟩) hB _).setCell (p := ⟨B, 7, none⟩) hB _).setCell (p := ⟨B, 8, none⟩) hB _).setCell (p := ⟨B, 9, none⟩) hB _

theorem Bk.range {B : Nat} {t : TypeId} {cs : List Value} {w : World} (h : Bk B t cs.toArray w) : w.rangeAt B 0 cs := fun j v hj => by
  rw [h.cell, Nat.zero_add]
  simpa using hj
theorem below_aft {w w1 w2 : World} (h : Below w.heap.size w w1) (k : Below w1.heap.size w1 w2) : Below w.heap.size w w2 := h.trans (k.mono h.size)
theorem all_range_eq_int : ∀ (xs ys : List Int), xs.length = ys.length → ((List.range xs.length).all fun i => xs.getD i 0 == ys.getD i 0) = (xs == ys)
  | [], [], _ => rfl
  | x :: xs, y :: ys, h => by
    have ih := all_range_eq_int xs ys (by simpa using h)
    rw [List.length_cons, List.range_succ_eq_map, List.all_cons, List.all_map]
    simp only [List.getD_cons_zero, Function.comp_def, List.getD_cons_succ, ih]
    simp [List.cons_beq_cons]
  | [], _ :: _, h => by simp at h
  | _ :: _, [], h => by simp at h
theorem run_equalIn_ints {P : Program} (w : World) (d : Nat) (t e : TypeId) (n : Nat) (ht : P.underlying t = some (.array n e)) (he : P.underlying e = some (.int .i64)) (hsz : ∀ w, (sizeOf e).run P w = .ok 1 w)
    (xs ys : List Int) (hx : xs.length = n) (hy : ys.length = n) :
    (Op.equalIn (d + 2) t (.agg (xs.map (Value.int .i64)).toArray) (.agg (ys.map (Value.int .i64)).toArray)).run P w = .ok (xs == ys) w := by
  rw [← all_range_eq_int xs ys (hx.trans hy.symm), hx, List.range_eq_range', Op.equalIn]
  simp only [Sem.run_bind, run_underlying ht, Result.andThen_ok, hsz, Std.Legacy.Range.forIn_eq_forIn_range', Std.Legacy.Range.size, Nat.sub_zero, Nat.add_sub_cancel, Nat.div_one]
  have hl : ∀ i ∈ List.range' 0 n 1, i < n := fun i hi => by simpa using (List.mem_range'_1.1 hi).2
  generalize List.range' 0 n 1 = l at hl ⊢
  induction l with
  | nil => simp
  | cons i l ih =>
    have hi : i < n := hl i (by simp)
    have px : (part e (xs.map (Value.int .i64)).toArray (i * 1)).run P w = .ok (.int .i64 (xs.getD i 0)) w := by
      simp [part, isAgg, run_underlying he, List.getD, List.getElem?_eq_getElem (show i < xs.length by omega)]
    have py : (part e (ys.map (Value.int .i64)).toArray (i * 1)).run P w = .ok (.int .i64 (ys.getD i 0)) w := by
      simp [part, isAgg, run_underlying he, List.getD, List.getElem?_eq_getElem (show i < ys.length by omega)]
    have pe : (Op.equalIn (d + 1) e (.int .i64 (xs.getD i 0)) (.int .i64 (ys.getD i 0))).run P w = .ok (xs.getD i 0 == ys.getD i 0) w := by
      rw [run_equalIn_int w d e .i64 .i64 _ _ he]
    simp only [List.forIn_cons, Sem.run_bind, px, py, pe, Result.andThen_ok, List.all_cons]
    cases hb : (xs.getD i 0 == ys.getD i 0)
    · simp
    · simp only [Bool.not_true, Bool.false_eq_true, if_false, Sem.run_pure, Result.andThen_ok, Bool.true_and]
      exact ih fun j hj => hl j (by simp [hj])

theorem ka_idx0 (x0 x1 x2 x3 x4 x5 x6 x7 x8 x9 : Int) (W : World) : (Instr.index 40 (.agg #[.int .i64 x0, .int .i64 x1, .int .i64 x2, .int .i64 x3, .int .i64 x4, .int .i64 x5, .int .i64 x6, .int .i64 x7, .int .i64 x8, .int .i64 x9]) (.int .i64 0)).run Try.prog W = .ok (.int .i64 x0) W := by kernel_rfl
theorem ka_idx1 (x0 x1 x2 x3 x4 x5 x6 x7 x8 x9 : Int) (W : World) : (Instr.index 40 (.agg #[.int .i64 x0, .int .i64 x1, .int .i64 x2, .int .i64 x3, .int .i64 x4, .int .i64 x5, .int .i64 x6, .int .i64 x7, .int .i64 x8, .int .i64 x9]) (.int .i64 1)).run Try.prog W = .ok (.int .i64 x1) W := by kernel_rfl
theorem ka_idx2 (x0 x1 x2 x3 x4 x5 x6 x7 x8 x9 : Int) (W : World) : (Instr.index 40 (.agg #[.int .i64 x0, .int .i64 x1, .int .i64 x2, .int .i64 x3, .int .i64 x4, .int .i64 x5, .int .i64 x6, .int .i64 x7, .int .i64 x8, .int .i64 x9]) (.int .i64 2)).run Try.prog W = .ok (.int .i64 x2) W := by kernel_rfl
theorem ka_idx3 (x0 x1 x2 x3 x4 x5 x6 x7 x8 x9 : Int) (W : World) : (Instr.index 40 (.agg #[.int .i64 x0, .int .i64 x1, .int .i64 x2, .int .i64 x3, .int .i64 x4, .int .i64 x5, .int .i64 x6, .int .i64 x7, .int .i64 x8, .int .i64 x9]) (.int .i64 3)).run Try.prog W = .ok (.int .i64 x3) W := by kernel_rfl
theorem ka_idx4 (x0 x1 x2 x3 x4 x5 x6 x7 x8 x9 : Int) (W : World) : (Instr.index 40 (.agg #[.int .i64 x0, .int .i64 x1, .int .i64 x2, .int .i64 x3, .int .i64 x4, .int .i64 x5, .int .i64 x6, .int .i64 x7, .int .i64 x8, .int .i64 x9]) (.int .i64 4)).run Try.prog W = .ok (.int .i64 x4) W := by kernel_rfl
theorem ka_idx5 (x0 x1 x2 x3 x4 x5 x6 x7 x8 x9 : Int) (W : World) : (Instr.index 40 (.agg #[.int .i64 x0, .int .i64 x1, .int .i64 x2, .int .i64 x3, .int .i64 x4, .int .i64 x5, .int .i64 x6, .int .i64 x7, .int .i64 x8, .int .i64 x9]) (.int .i64 5)).run Try.prog W = .ok (.int .i64 x5) W := by kernel_rfl
theorem ka_idx6 (x0 x1 x2 x3 x4 x5 x6 x7 x8 x9 : Int) (W : World) : (Instr.index 40 (.agg #[.int .i64 x0, .int .i64 x1, .int .i64 x2, .int .i64 x3, .int .i64 x4, .int .i64 x5, .int .i64 x6, .int .i64 x7, .int .i64 x8, .int .i64 x9]) (.int .i64 6)).run Try.prog W = .ok (.int .i64 x6) W := by kernel_rfl
theorem ka_idx7 (x0 x1 x2 x3 x4 x5 x6 x7 x8 x9 : Int) (W : World) : (Instr.index 40 (.agg #[.int .i64 x0, .int .i64 x1, .int .i64 x2, .int .i64 x3, .int .i64 x4, .int .i64 x5, .int .i64 x6, .int .i64 x7, .int .i64 x8, .int .i64 x9]) (.int .i64 7)).run Try.prog W = .ok (.int .i64 x7) W := by kernel_rfl
theorem ka_idx8 (x0 x1 x2 x3 x4 x5 x6 x7 x8 x9 : Int) (W : World) : (Instr.index 40 (.agg #[.int .i64 x0, .int .i64 x1, .int .i64 x2, .int .i64 x3, .int .i64 x4, .int .i64 x5, .int .i64 x6, .int .i64 x7, .int .i64 x8, .int .i64 x9]) (.int .i64 8)).run Try.prog W = .ok (.int .i64 x8) W := by kernel_rfl
theorem ka_idx9 (x0 x1 x2 x3 x4 x5 x6 x7 x8 x9 : Int) (W : World) : (Instr.index 40 (.agg #[.int .i64 x0, .int .i64 x1, .int .i64 x2, .int .i64 x3, .int .i64 x4, .int .i64 x5, .int .i64 x6, .int .i64 x7, .int .i64 x8, .int .i64 x9]) (.int .i64 9)).run Try.prog W = .ok (.int .i64 x9) W := by kernel_rfl
theorem ka_eq (x0 x1 x2 x3 x4 x5 x6 x7 x8 x9 y0 y1 y2 y3 y4 y5 y6 y7 y8 y9 : Int) (w : World) : (Op.equalIn 10000 40 (.agg #[.int .i64 x0, .int .i64 x1, .int .i64 x2, .int .i64 x3, .int .i64 x4, .int .i64 x5, .int .i64 x6, .int .i64 x7, .int .i64 x8, .int .i64 x9]) (.agg #[.int .i64 y0, .int .i64 y1, .int .i64 y2, .int .i64 y3, .int .i64 y4, .int .i64 y5, .int .i64 y6, .int .i64 y7, .int .i64 y8, .int .i64 y9])).run Try.prog w = .ok ([x0, x1, x2, x3, x4, x5, x6, x7, x8, x9] == [y0, y1, y2, y3, y4, y5, y6, y7, y8, y9]) w :=
  run_equalIn_ints w 9998 40 3 10 Try.underlying40 Try.underlying3 (fun w => Try.sizeOf3 w) [x0, x1, x2, x3, x4, x5, x6, x7, x8, x9] [y0, y1, y2, y3, y4, y5, y6, y7, y8, y9] rfl rfl
theorem ka_noGuard : Try.prog.eqGuardType Try.prog.depth 40 = false := by kernel_rfl
theorem ka_idx (x0 x1 x2 x3 x4 x5 x6 x7 x8 x9 : Int) (k : Nat) (hk : k < 10) (W : World) : (Instr.index 40 (.agg #[.int .i64 x0, .int .i64 x1, .int .i64 x2, .int .i64 x3, .int .i64 x4, .int .i64 x5, .int .i64 x6, .int .i64 x7, .int .i64 x8, .int .i64 x9]) (.int .i64 (k : Int))).run Try.prog W = .ok (.int .i64 (Ka.at_ [x0, x1, x2, x3, x4, x5, x6, x7, x8, x9] k)) W := by
  have hc : k = 0 ∨ k = 1 ∨ k = 2 ∨ k = 3 ∨ k = 4 ∨ k = 5 ∨ k = 6 ∨ k = 7 ∨ k = 8 ∨ k = 9 := by omega
  rcases hc with rfl | rfl | rfl | rfl | rfl | rfl | rfl | rfl | rfl | rfl
  · exact ka_idx0 x0 x1 x2 x3 x4 x5 x6 x7 x8 x9 W
  · exact ka_idx1 x0 x1 x2 x3 x4 x5 x6 x7 x8 x9 W
  · exact ka_idx2 x0 x1 x2 x3 x4 x5 x6 x7 x8 x9 W
  · exact ka_idx3 x0 x1 x2 x3 x4 x5 x6 x7 x8 x9 W
  · exact ka_idx4 x0 x1 x2 x3 x4 x5 x6 x7 x8 x9 W
  · exact ka_idx5 x0 x1 x2 x3 x4 x5 x6 x7 x8 x9 W
  · exact ka_idx6 x0 x1 x2 x3 x4 x5 x6 x7 x8 x9 W
  · exact ka_idx7 x0 x1 x2 x3 x4 x5 x6 x7 x8 x9 W
  · exact ka_idx8 x0 x1 x2 x3 x4 x5 x6 x7 x8 x9 W
  · exact ka_idx9 x0 x1 x2 x3 x4 x5 x6 x7 x8 x9 W
theorem ka_eta {l : List Int} (h : l.length = 10) : [Ka.at_ l 0, Ka.at_ l 1, Ka.at_ l 2, Ka.at_ l 3, Ka.at_ l 4, Ka.at_ l 5, Ka.at_ l 6, Ka.at_ l 7, Ka.at_ l 8, Ka.at_ l 9] = l := by
  obtain ⟨a, b, c, d, e, f, g, i, j, k, rfl⟩ := Ka.ten h
  rfl
theorem tmod31 (n : Int) : (n.tmod 31 + 31) % 31 = n % 31 := by
  rcases Int.le_total 0 n with h | h
  · rw [Int.tmod_eq_emod_of_nonneg h]; omega
  · obtain ⟨m, rfl⟩ : ∃ m, n = -m := ⟨-n, by omega⟩
    rw [Int.neg_tmod, Int.tmod_eq_emod_of_nonneg (by omega)]; omega
set_option maxHeartbeats 400000 in
theorem valueWithin_any (n : Int) (w : World) :
    Calls Try.prog 35 #[.int .i64 n] w fun e w' => e = .returned (.int .i64 (n % 31)) ∧ w = w' := by
  have k1 := Int.tmod_lt_of_pos n (show 0 < (31 : Int) by omega)
  have k2 : -31 < n.tmod 31 := Int.lt_tmod_of_pos n (by omega)
  go_enter Try.func35, Try.ntmps35
  go_wp2
  go_ret
  exact ⟨show Ending.returned (.int .i64 ((n.tmod 31 + 31) % 31)) = _ by rw [tmod31], rfl⟩
set_option maxRecDepth 100000 in
set_option maxHeartbeats 1600000 in
theorem kaSums_any (x0 x1 x2 x3 x4 x5 x6 x7 x8 x9 : Int) (w : World) (h : Ka.In [x0, x1, x2, x3, x4, x5, x6, x7, x8, x9]) :
    Calls Try.prog 34 #[(.agg #[.int .i64 x0, .int .i64 x1, .int .i64 x2, .int .i64 x3, .int .i64 x4, .int .i64 x5, .int .i64 x6, .int .i64 x7, .int .i64 x8, .int .i64 x9])] w fun e w' => e = .returned (.tuple #[.int .i64 (Ka.sum [x0, x1, x2, x3, x4, x5, x6, x7, x8, x9] 10), .int .i64 (Ka.wsum [x0, x1, x2, x3, x4, x5, x6, x7, x8, x9] 10)]) ∧ Below w.heap.size w w' := by
  have HI := Lib.hid (ka_idx x0 x1 x2 x3 x4 x5 x6 x7 x8 x9)
  obtain ⟨l, HL⟩ : ∃ l, Hid ([x0, x1, x2, x3, x4, x5, x6, x7, x8, x9] = l) := ⟨_, Lib.hid rfl⟩
  rw [HL.out] at HI h ⊢
  have HIN := Lib.hid h
  clear h HL
  go_enter Try.func34, Try.ntmps34
  go_wp2
  go_loop [4, 5, 9] (fun p q i => ∃ m : Nat, m ≤ 10 ∧ i = .int .i64 (m : Int) ∧ p = .int .i64 (Ka.sum l m) ∧ q = .int .i64 (Ka.wsum l m))
    (fun _ _ i => 10 - (intOf i).toNat)
  case atStart => exact ⟨0, by omega, rfl, rfl, rfl⟩
  case round =>
    obtain ⟨m, hm, rfl, rfl, rfl⟩ := hrel
    by_cases hlt : m < 10
    · have hx := HI.out m hlt
      have b1 := Ka.sum_bd HIN.out m
      have b2 := Ka.wsum_bd HIN.out m (by omega)
      have b3 := Ka.at_bd HIN.out m
      have HS : Hid (Ka.sum l (m + 1) = Ka.sum l m + Ka.at_ l m) := Lib.hid rfl
      have HW : Hid (Ka.wsum l (m + 1) = Ka.wsum l m + ((m : Int) + 1) * Ka.at_ l m) := Lib.hid rfl
      obtain ⟨x, HX⟩ : ∃ x, Hid (Ka.at_ l m = x) := ⟨_, Lib.hid rfl⟩
      obtain ⟨s, HSS⟩ : ∃ x, Hid (Ka.sum l m = x) := ⟨_, Lib.hid rfl⟩
      obtain ⟨u, HUU⟩ : ∃ x, Hid (Ka.wsum l m = x) := ⟨_, Lib.hid rfl⟩
      rw [HX.out] at hx b3 HS HW
      rw [HSS.out] at b1 HS ⊢
      rw [HUU.out] at b2 HW ⊢
      have b4 : 0 ≤ ((m : Int) + 1) * x := Int.mul_nonneg (by omega) b3.1
      have b5 : ((m : Int) + 1) * x ≤ 10 * x := Int.mul_le_mul_of_nonneg_right (by omega) b3.1
      have b6 : ((m : Int) + 1) * x ≤ 300 := by omega
      clear b5
      obtain ⟨b10, b11⟩ := b1
      obtain ⟨b20, b21⟩ := b2
      have b22 : u ≤ 3000 := by omega
      have b12 : s ≤ 300 := by omega
      obtain ⟨b30, b31⟩ := b3
      go_wp2
      go_round
      case rel => exact ⟨m + 1, by omega, by go_num, by rw [HS.out], by rw [HW.out]⟩
      case measure => simp [intOf]; omega
    · obtain rfl : m = 10 := by omega
      go_wp2
      go_ret2
      exact ⟨rfl, (Below.refl _ _).alloc (Nat.le_refl _) _⟩


set_option maxRecDepth 100000 in
set_option maxHeartbeats 1600000 in
theorem kaNumber_any (x0 x1 x2 x3 x4 x5 x6 x7 x8 x9 : Int) (w : World) (h : Ka.In [x0, x1, x2, x3, x4, x5, x6, x7, x8, x9]) :
    Calls Try.prog 30 #[(.agg #[.int .i64 x0, .int .i64 x1, .int .i64 x2, .int .i64 x3, .int .i64 x4, .int .i64 x5, .int .i64 x6, .int .i64 x7, .int .i64 x8, .int .i64 x9])] w fun e w' => e = .returned (.int .i64 (Ka.num [x0, x1, x2, x3, x4, x5, x6, x7, x8, x9] 7)) ∧ Below w.heap.size w w' := by
  have HC : Hid (∀ m, m < 7 → ((w.alloc (.cells #[.int .i64 x0, .int .i64 x1, .int .i64 x2, .int .i64 x3, .int .i64 x4, .int .i64 x5, .int .i64 x6, .int .i64 x7, .int .i64 x8, .int .i64 x9] 40 (0, 0))).cell? ⟨w.heap.size, 1 + m, none⟩ = some (.int .i64 (Ka.at_ [x0, x1, x2, x3, x4, x5, x6, x7, x8, x9] (m + 1))))) := Lib.hid (fun m hm => by
    rw [(Bk.new w 40 #[.int .i64 x0, .int .i64 x1, .int .i64 x2, .int .i64 x3, .int .i64 x4, .int .i64 x5, .int .i64 x6, .int .i64 x7, .int .i64 x8, .int .i64 x9]).cell]
    match m, hm with

    | 0, _ => rfl
    | 1, _ => rfl
    | 2, _ => rfl
    | 3, _ => rfl
    | 4, _ => rfl
    | 5, _ => rfl
    | 6, _ => rfl
    )
  obtain ⟨l, HL⟩ : ∃ l, Hid ([x0, x1, x2, x3, x4, x5, x6, x7, x8, x9] = l) := ⟨_, Lib.hid rfl⟩
  rw [HL.out] at HC h ⊢
  have HIN := Lib.hid h
  clear h HL
  go_enter Try.func30, Try.ntmps30
  go_wp2
  go_loop [3, 8] (fun p i => ∃ m : Nat, m ≤ 7 ∧ i = .int .i64 (m : Int) ∧ p = .int .i64 (Ka.num l m))
    (fun _ i => 7 - (intOf i).toNat)
  case atStart => exact ⟨0, by omega, rfl, rfl⟩
  case round =>
    obtain ⟨m, hm, rfl, rfl⟩ := hrel
    by_cases hlt : m < 7
    · have hx := HC.out m hlt
      have b1 := Ka.num_bd HIN.out m (by omega)
      have b2 := Ka.num_bd HIN.out (m + 1) (by omega)
      have b3 := Ka.at_bd HIN.out (m + 1)
      have e1 : (31 : Int) ^ m ≤ 887503681 := by
        match m, hlt with
        | 0, _ => decide
        | 1, _ => decide
        | 2, _ => decide
        | 3, _ => decide
        | 4, _ => decide
        | 5, _ => decide
        | 6, _ => decide
      have HS : Hid (Ka.num l (m + 1) = Ka.num l m * 31 + Ka.at_ l (m + 1)) := Lib.hid rfl
      obtain ⟨x, HX⟩ : ∃ x, Hid (Ka.at_ l (m + 1) = x) := ⟨_, Lib.hid rfl⟩
      obtain ⟨s, HSS⟩ : ∃ x, Hid (Ka.num l m = x) := ⟨_, Lib.hid rfl⟩
      rw [HX.out] at hx b3 HS
      rw [HSS.out] at b1 HS ⊢
      obtain ⟨b10, b11⟩ := b1
      have b12 : s ≤ 887503681 := by omega
      obtain ⟨b30, b31⟩ := b3
      clear b11 e1 b2
      go_wp2
      go_round
      case rel => exact ⟨m + 1, by omega, by go_num, by rw [HS.out]⟩
      case measure => simp [intOf]; omega
    · obtain rfl : m = 7 := by omega
      go_wp2
      go_ret
      exact ⟨rfl, (Below.refl _ _).alloc (Nat.le_refl _) _⟩


theorem ka_in8 {x0 x1 x2 x3 x4 x5 x6 x7 x8 x9 : Int} (h : Ka.In [x0, x1, x2, x3, x4, x5, x6, x7, x8, x9]) : Ka.In [x0, x1, x2, x3, x4, x5, x6, x7, 0, 0] := by
  intro x hx
  simp only [List.mem_cons, List.not_mem_nil, or_false] at hx
  rcases hx with hx | hx | hx | hx | hx | hx | hx | hx | hx | hx <;> first | (subst hx; omega) | (exact h x (by subst hx; simp))
theorem ka_sum8 (x0 x1 x2 x3 x4 x5 x6 x7 x8 x9 : Int) : Ka.sum [x0, x1, x2, x3, x4, x5, x6, x7, 0, 0] 10 = Ka.sum [x0, x1, x2, x3, x4, x5, x6, x7, x8, x9] 8 ∧ Ka.wsum [x0, x1, x2, x3, x4, x5, x6, x7, 0, 0] 10 = Ka.wsum [x0, x1, x2, x3, x4, x5, x6, x7, x8, x9] 8 := by
  simp only [Ka.sum, Ka.wsum, Ka.at_, List.getD_cons_succ, List.getD_cons_zero]
  constructor <;> omega
set_option maxRecDepth 100000 in
set_option maxHeartbeats 1600000 in
theorem withChecks_any (x0 x1 x2 x3 x4 x5 x6 x7 x8 x9 : Int) (w : World) (h : Ka.In [x0, x1, x2, x3, x4, x5, x6, x7, x8, x9]) :
    Calls Try.prog 23 #[(.agg #[.int .i64 x0, .int .i64 x1, .int .i64 x2, .int .i64 x3, .int .i64 x4, .int .i64 x5, .int .i64 x6, .int .i64 x7, .int .i64 x8, .int .i64 x9])] w fun e w' => e = .returned (.agg #[.int .i64 x0, .int .i64 x1, .int .i64 x2, .int .i64 x3, .int .i64 x4, .int .i64 x5, .int .i64 x6, .int .i64 x7, .int .i64 ((Ka.wsum [x0, x1, x2, x3, x4, x5, x6, x7, x8, x9] 8 - 10 * Ka.sum [x0, x1, x2, x3, x4, x5, x6, x7, x8, x9] 8) % 31), .int .i64 ((9 * Ka.sum [x0, x1, x2, x3, x4, x5, x6, x7, x8, x9] 8 - Ka.wsum [x0, x1, x2, x3, x4, x5, x6, x7, x8, x9] 8) % 31)]) ∧ Below w.heap.size w w' := by
  have hcon := fun W => kaSums_any x0 x1 x2 x3 x4 x5 x6 x7 0 0 W (ka_in8 h)
  rw [(ka_sum8 x0 x1 x2 x3 x4 x5 x6 x7 x8 x9).1, (ka_sum8 x0 x1 x2 x3 x4 x5 x6 x7 x8 x9).2] at hcon
  have b1 := Ka.sum_bd h 8
  have b2 := Ka.wsum_bd h 8 (by omega)
  obtain ⟨A, HA⟩ : ∃ A, Hid (Ka.sum [x0, x1, x2, x3, x4, x5, x6, x7, x8, x9] 8 = A) := ⟨_, Lib.hid rfl⟩
  obtain ⟨B, HB⟩ : ∃ B, Hid (Ka.wsum [x0, x1, x2, x3, x4, x5, x6, x7, x8, x9] 8 = B) := ⟨_, Lib.hid rfl⟩
  rw [HA.out] at hcon b1 ⊢
  rw [HB.out] at hcon b2 ⊢
  obtain ⟨b10, b11⟩ := b1
  obtain ⟨b20, b21⟩ := b2
  have hv0 : Bk w.heap.size 40 #[.int .i64 x0, .int .i64 x1, .int .i64 x2, .int .i64 x3, .int .i64 x4, .int .i64 x5, .int .i64 x6, .int .i64 x7, .int .i64 0, .int .i64 0] ((w.alloc (.cells #[.int .i64 x0, .int .i64 x1, .int .i64 x2, .int .i64 x3, .int .i64 x4, .int .i64 x5, .int .i64 x6, .int .i64 x7, .int .i64 0, .int .i64 0] 40 (0, 0))).alloc (.cells #[.int .i64 0, .int .i64 0, .int .i64 0, .int .i64 0, .int .i64 0, .int .i64 0, .int .i64 0, .int .i64 0, .int .i64 0, .int .i64 0] 40 (0, 0))) := (Bk.new w 40 _).alloc _
  have hr0 : Bk (w.heap.size + 1) 40 #[.int .i64 0, .int .i64 0, .int .i64 0, .int .i64 0, .int .i64 0, .int .i64 0, .int .i64 0, .int .i64 0, .int .i64 0, .int .i64 0] ((w.alloc (.cells #[.int .i64 x0, .int .i64 x1, .int .i64 x2, .int .i64 x3, .int .i64 x4, .int .i64 x5, .int .i64 x6, .int .i64 x7, .int .i64 0, .int .i64 0] 40 (0, 0))).alloc (.cells #[.int .i64 0, .int .i64 0, .int .i64 0, .int .i64 0, .int .i64 0, .int .i64 0, .int .i64 0, .int .i64 0, .int .i64 0, .int .i64 0] 40 (0, 0))) := Bk.new' _ _ _ _ (by simp)
  have hb0 : Below w.heap.size w ((w.alloc (.cells #[.int .i64 x0, .int .i64 x1, .int .i64 x2, .int .i64 x3, .int .i64 x4, .int .i64 x5, .int .i64 x6, .int .i64 x7, .int .i64 0, .int .i64 0] 40 (0, 0))).alloc (.cells #[.int .i64 0, .int .i64 0, .int .i64 0, .int .i64 0, .int .i64 0, .int .i64 0, .int .i64 0, .int .i64 0, .int .i64 0, .int .i64 0] 40 (0, 0))) := ((Below.refl _ _).alloc (Nat.le_refl _) _).alloc (by simp) _
  have HV0 := Lib.hid hv0
  have HR0 := Lib.hid hr0
  have HB0 := Lib.hid hb0
  have HC := Lib.hid hcon
  clear hv0 hr0 hb0 hcon h HA HB
  go_enter Try.func23, Try.ntmps23
  go_wp2_with fail
  refine (HC.out _).mono ?_
  rintro e w1 ⟨rfl, hb⟩
  have hv1 := HV0.out.below hb
  have hr1 := HR0.out.below hb
  have hb1 := below_aft HB0.out hb
  have f8 := hv1.fro 8
  have hv2 := hv1.set 8 (.int .i64 ((B - 10 * A) % 31))
  have hr2 := hr1.oset w.heap.size 8 (.int .i64 ((B - 10 * A) % 31)) (by omega)
  have hb2 := hb1.setCell (p := ⟨w.heap.size, 8, none⟩) (Nat.le_refl _) (.int .i64 ((B - 10 * A) % 31))
  have c8 : w1.cell? ⟨w.heap.size, 8, none⟩ = some (.int .i64 0) := hv1.cell 8
  have HV2 := Lib.hid hv2
  have HR2 := Lib.hid hr2
  have HB2 := Lib.hid hb2
  clear hv1 hr1 hb1 hv2 hr2 hb2 HV0 HR0 HB0 HC hb
  go_wp2_with fail
  refine (valueWithin_any _ _).mono ?_
  rintro e w2 ⟨rfl, rfl⟩
  go_wp2_with fail
  refine (valueWithin_any _ _).mono ?_
  rintro e w2 ⟨rfl, rfl⟩
  have c9 : (w1.setCell ⟨w.heap.size, 8, none⟩ (.int .i64 ((B - 10 * A) % 31))).cell? ⟨w.heap.size, 9, none⟩ = some (.int .i64 0) := HV2.out.cell 9
  have f9 := HV2.out.fro 9
  have hv3 := HV2.out.set 9 (.int .i64 ((9 * A - B) % 31))
  have hr3 := HR2.out.oset w.heap.size 9 (.int .i64 ((9 * A - B) % 31)) (by omega)
  have hb3 := HB2.out.setCell (p := ⟨w.heap.size, 9, none⟩) (Nat.le_refl _) (.int .i64 ((9 * A - B) % 31))
  simp only [List.setIfInBounds_toArray, List.set_cons_succ, List.set_cons_zero] at hv3
  obtain ⟨a0, a1, a2, a3, a4, a5, a6, a7, a8, a9⟩ := Bk.c10 hv3
  obtain ⟨r0, r1, r2, r3, r4, r5, r6, r7, r8, r9⟩ := Bk.f10 hr3
  obtain ⟨d0, d1, d2, d3, d4, d5, d6, d7, d8, d9⟩ := Bk.c10 hr3
  have hr4 := Bk.store10 hr3 (.int .i64 x0) (.int .i64 x1) (.int .i64 x2) (.int .i64 x3) (.int .i64 x4) (.int .i64 x5) (.int .i64 x6) (.int .i64 x7) (.int .i64 ((B - 10 * A) % 31)) (.int .i64 ((9 * A - B) % 31))
  have hb4 := below_store10 hb3 (w.heap.size + 1) (by omega) (.int .i64 x0) (.int .i64 x1) (.int .i64 x2) (.int .i64 x3) (.int .i64 x4) (.int .i64 x5) (.int .i64 x6) (.int .i64 x7) (.int .i64 ((B - 10 * A) % 31)) (.int .i64 ((9 * A - B) % 31))
  have HR4 := Lib.hid hr4
  have HB4 := Lib.hid hb4
  clear hv3 hr3 hb3 hr4 hb4
  go_wp2
  refine bodyPost_ret (results_cell_row (P := Try.prog) rfl _ _ (w.heap.size + 1) 40 _ (0, 0) _ rfl HR4.out.held Try.underlying40 rfl (by kernel_rfl)) rfl ?_
  exact ⟨rfl, HB4.out⟩

end Go.Proofs.Ytacgicpkhbjdaaa
