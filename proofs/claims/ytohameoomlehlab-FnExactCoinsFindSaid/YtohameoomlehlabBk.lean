/-
  A block that holds the cells of a struct: how it is read and written whole.
-/
import Derived.Test.YtohameoomlehlabEn
import Derived.Below
import Derived.Laws.Rows
import Derived.Laws.Tables
import Derived.Laws.ResultCell
namespace Go.Proofs.Ytohameoomlehlab
open Go.RowKit

/-- Block B holds the cells cs of a variable of type t. -/
structure Bk (B : Nat) (t : TypeId) (cs : Array Value) (w : World) : Prop where
  held : w.heap[B]? = some (.cells cs t (0, 0))
theorem Bk.cell {B : Nat} {t : TypeId} {cs : Array Value} {w : World} (h : Bk B t cs w) (i : Nat) : w.cell? ⟨B, i, none⟩ = cs[i]? := by have := h.held; simp [World.cell?, this]
theorem Bk.fro {B : Nat} {t : TypeId} {cs : Array Value} {w : World} (h : Bk B t cs w) (i : Nat) : w.frozen? ⟨B, i, none⟩ = false := by have := h.held; simp [World.frozen?, this]
theorem Bk.lt {B : Nat} {t : TypeId} {cs : Array Value} {w : World} (h : Bk B t cs w) : B < w.heap.size := lt_of_block h.held
theorem Bk.below {B : Nat} {t : TypeId} {cs : Array Value} {w w' : World} (h : Bk B t cs w) (hb : Below w.heap.size w w') : Bk B t cs w' := ⟨(hb.block B h.lt).trans h.held⟩
theorem Bk.alloc {B : Nat} {t : TypeId} {cs : Array Value} {w : World} (h : Bk B t cs w) (A : Obj) : Bk B t cs (w.alloc A) := by
  refine ⟨?_⟩
  have hl := h.lt
  show (w.heap.push A)[B]? = _
  rw [Array.getElem?_push, if_neg (by omega)]
  exact h.held
theorem Bk.drew {B : Nat} {t : TypeId} {cs : Array Value} {w : World} (h : Bk B t cs w) : Bk B t cs w.drew := ⟨h.held⟩
theorem Bk.new (w : World) (t : TypeId) (cs : Array Value) : Bk w.heap.size t cs (w.alloc (.cells cs t (0, 0))) := ⟨heap_alloc_new _ _⟩
theorem Bk.new' (w : World) (t : TypeId) (cs : Array Value) (B : Nat) (hB : B = w.heap.size) : Bk B t cs (w.alloc (.cells cs t (0, 0))) := by subst hB; exact Bk.new w t cs
theorem Bk.set {B : Nat} {t : TypeId} {cs : Array Value} {w : World} (h : Bk B t cs w) (i : Nat) (v : Value) : Bk B t (cs.setIfInBounds i v) (w.setCell ⟨B, i, none⟩ v) := ⟨block_setCell h.held i v⟩
theorem Bk.oset {B : Nat} {t : TypeId} {cs : Array Value} {w : World} (h : Bk B t cs w) (C i : Nat) (v : Value) (hC : B ≠ C) : Bk B t cs (w.setCell ⟨C, i, none⟩ v) := ⟨(Below.heap_setCell _ _ _ _ hC).trans h.held⟩
theorem Bk.row {B : Nat} {t : TypeId} {cs : Array Value} {w : World} (h : Bk B t cs w) (ds : Array Value) : Bk B t ds (w.setRow B ds) := ⟨setRow_heap w B cs ds t (0, 0) h.held⟩
theorem Bk.orow {B : Nat} {t : TypeId} {cs : Array Value} {w : World} (h : Bk B t cs w) (C : Nat) (ds : Array Value) (hC : B ≠ C) : Bk B t cs (w.setRow C ds) := ⟨(setRow_other w C B ds hC).trans h.held⟩
theorem below_row {w w1 : World} (h : Below w.heap.size w w1) (B : Nat) (hB : w.heap.size ≤ B) (ds : Array Value) : Below w.heap.size w (w1.setRow B ds) :=
  ⟨h.os, h.tape, h.output, by rw [setRow_size]; exact h.size, fun k hk => by rw [setRow_other w1 B k ds (by omega)]; exact h.block k hk⟩
/-- The whole block as the walk reads it. -/
theorem Bk.ld {P : Program} {B : Nat} {t : TypeId} {cs : Array Value} {w : World} (h : Bk B t cs w) (n : Nat) (hn : cs.size = n) :
    (loadCellsFrom ⟨B, 0, none⟩ 0 n #[]).run P w = .ok cs w := by
  subst hn
  have := run_loadCells_list (P := P) w ⟨B, 0, none⟩ cs.toList (fun j v hv => by
    have hadd : (⟨B, 0, none⟩ : Addr).add j = ⟨B, j, none⟩ := by unfold Addr.add; split <;> simp_all
    rw [hadd, h.cell j]
    simpa using hv)
  simpa [loadCells] using this
/-- The whole block as the walk writes it. -/
theorem Bk.st {P : Program} {B : Nat} {t : TypeId} {cs : Array Value} {w : World} (h : Bk B t cs w) (vs : List Value) (hn : cs.size = vs.length) (h1 : ∀ v ∈ vs, v.oneCell' = true) :
    (storeCells ⟨B, 0, none⟩ vs 0).run P w = .ok () (w.setRow B vs.toArray) := by
  have := run_storeCells_from (P := P) B t vs 0 cs w h.held (by omega) h1
  simpa using this
theorem Bk.c2 {B : Nat} {t : TypeId} {u0 u1 : Value} {w : World} (h : Bk B t #[u0, u1] w) : w.cell? ⟨B, 0, none⟩ = some u0 ∧ w.cell? ⟨B, 1, none⟩ = some u1 :=
  ⟨h.cell 0, h.cell 1⟩
theorem Bk.f2 {B : Nat} {t : TypeId} {cs : Array Value} {w : World} (h : Bk B t cs w) : w.frozen? ⟨B, 0, none⟩ = false ∧ w.frozen? ⟨B, 1, none⟩ = false :=
  ⟨h.fro 0, h.fro 1⟩
theorem Bk.store2 {B : Nat} {t : TypeId} {u0 u1 : Value} {w : World} (h : Bk B t #[u0, u1] w) (v0 v1 : Value) : Bk B t #[v0, v1] ((w.setCell ⟨B, 0, none⟩ v0).setCell ⟨B, 1, none⟩ v1) :=
  ((((h).set 0 _)).set 1 _)
theorem Bk.other2 {B : Nat} {t : TypeId} {cs : Array Value} {w : World} (h : Bk B t cs w) (C : Nat) (hC : B ≠ C) (v0 v1 : Value) : Bk B t cs ((w.setCell ⟨C, 0, none⟩ v0).setCell ⟨C, 1, none⟩ v1) :=
  ((((h).oset C 0 _ hC)).oset C 1 _ hC)
theorem below_store2 {w w1 : World} (h : Below w.heap.size w w1) (B : Nat) (hB : w.heap.size ≤ B) (v0 v1 : Value) : Below w.heap.size w ((w1.setCell ⟨B, 0, none⟩ v0).setCell ⟨B, 1, none⟩ v1) :=
  ((((h).setCell (p := ⟨B, 0, none⟩) hB _)).setCell (p := ⟨B, 1, none⟩) hB _)
theorem Bk.c4 {B : Nat} {t : TypeId} {u0 u1 u2 u3 : Value} {w : World} (h : Bk B t #[u0, u1, u2, u3] w) : w.cell? ⟨B, 0, none⟩ = some u0 ∧ w.cell? ⟨B, 1, none⟩ = some u1 ∧ w.cell? ⟨B, 2, none⟩ = some u2 ∧ w.cell? ⟨B, 3, none⟩ = some u3 :=
  ⟨h.cell 0, h.cell 1, h.cell 2, h.cell 3⟩
theorem Bk.f4 {B : Nat} {t : TypeId} {cs : Array Value} {w : World} (h : Bk B t cs w) : w.frozen? ⟨B, 0, none⟩ = false ∧ w.frozen? ⟨B, 1, none⟩ = false ∧ w.frozen? ⟨B, 2, none⟩ = false ∧ w.frozen? ⟨B, 3, none⟩ = false :=
  ⟨h.fro 0, h.fro 1, h.fro 2, h.fro 3⟩
theorem Bk.store4 {B : Nat} {t : TypeId} {u0 u1 u2 u3 : Value} {w : World} (h : Bk B t #[u0, u1, u2, u3] w) (v0 v1 v2 v3 : Value) : Bk B t #[v0, v1, v2, v3] ((((w.setCell ⟨B, 0, none⟩ v0).setCell ⟨B, 1, none⟩ v1).setCell ⟨B, 2, none⟩ v2).setCell ⟨B, 3, none⟩ v3) := by
  have h0 : Bk B t #[v0, u1, u2, u3] (w.setCell ⟨B, 0, none⟩ v0) := h.set 0 v0
  have h1 : Bk B t #[v0, v1, u2, u3] ((w.setCell ⟨B, 0, none⟩ v0).setCell ⟨B, 1, none⟩ v1) := h0.set 1 v1
  have h2 : Bk B t #[v0, v1, v2, u3] (((w.setCell ⟨B, 0, none⟩ v0).setCell ⟨B, 1, none⟩ v1).setCell ⟨B, 2, none⟩ v2) := h1.set 2 v2
  have h3 : Bk B t #[v0, v1, v2, v3] ((((w.setCell ⟨B, 0, none⟩ v0).setCell ⟨B, 1, none⟩ v1).setCell ⟨B, 2, none⟩ v2).setCell ⟨B, 3, none⟩ v3) := h2.set 3 v3
  exact h3
theorem Bk.other4 {B : Nat} {t : TypeId} {cs : Array Value} {w : World} (h : Bk B t cs w) (C : Nat) (hC : B ≠ C) (v0 v1 v2 v3 : Value) : Bk B t cs ((((w.setCell ⟨C, 0, none⟩ v0).setCell ⟨C, 1, none⟩ v1).setCell ⟨C, 2, none⟩ v2).setCell ⟨C, 3, none⟩ v3) :=
  ((((((((h).oset C 0 _ hC)).oset C 1 _ hC)).oset C 2 _ hC)).oset C 3 _ hC)
theorem below_store4 {w w1 : World} (h : Below w.heap.size w w1) (B : Nat) (hB : w.heap.size ≤ B) (v0 v1 v2 v3 : Value) : Below w.heap.size w ((((w1.setCell ⟨B, 0, none⟩ v0).setCell ⟨B, 1, none⟩ v1).setCell ⟨B, 2, none⟩ v2).setCell ⟨B, 3, none⟩ v3) :=
  ((((((((h).setCell (p := ⟨B, 0, none⟩) hB _)).setCell (p := ⟨B, 1, none⟩) hB _)).setCell (p := ⟨B, 2, none⟩) hB _)).setCell (p := ⟨B, 3, none⟩) hB _)
theorem Bk.c8 {B : Nat} {t : TypeId} {u0 u1 u2 u3 u4 u5 u6 u7 : Value} {w : World} (h : Bk B t #[u0, u1, u2, u3, u4, u5, u6, u7] w) : w.cell? ⟨B, 0, none⟩ = some u0 ∧ w.cell? ⟨B, 1, none⟩ = some u1 ∧ w.cell? ⟨B, 2, none⟩ = some u2 ∧ w.cell? ⟨B, 3, none⟩ = some u3 ∧ w.cell? ⟨B, 4, none⟩ = some u4 ∧ w.cell? ⟨B, 5, none⟩ = some u5 ∧ w.cell? ⟨B, 6, none⟩ = some u6 ∧ w.cell? ⟨B, 7, none⟩ = some u7 :=
  ⟨h.cell 0, h.cell 1, h.cell 2, h.cell 3, h.cell 4, h.cell 5, h.cell 6, h.cell 7⟩
theorem Bk.f8 {B : Nat} {t : TypeId} {cs : Array Value} {w : World} (h : Bk B t cs w) : w.frozen? ⟨B, 0, none⟩ = false ∧ w.frozen? ⟨B, 1, none⟩ = false ∧ w.frozen? ⟨B, 2, none⟩ = false ∧ w.frozen? ⟨B, 3, none⟩ = false ∧ w.frozen? ⟨B, 4, none⟩ = false ∧ w.frozen? ⟨B, 5, none⟩ = false ∧ w.frozen? ⟨B, 6, none⟩ = false ∧ w.frozen? ⟨B, 7, none⟩ = false :=
  ⟨h.fro 0, h.fro 1, h.fro 2, h.fro 3, h.fro 4, h.fro 5, h.fro 6, h.fro 7⟩
theorem Bk.store8 {B : Nat} {t : TypeId} {u0 u1 u2 u3 u4 u5 u6 u7 : Value} {w : World} (h : Bk B t #[u0, u1, u2, u3, u4, u5, u6, u7] w) (v0 v1 v2 v3 v4 v5 v6 v7 : Value) : Bk B t #[v0, v1, v2, v3, v4, v5, v6, v7] ((((((((w.setCell ⟨B, 0, none⟩ v0).setCell ⟨B, 1, none⟩ v1).setCell ⟨B, 2, none⟩ v2).setCell ⟨B, 3, none⟩ v3).setCell ⟨B, 4, none⟩ v4).setCell ⟨B, 5, none⟩ v5).setCell ⟨B, 6, none⟩ v6).setCell ⟨B, 7, none⟩ v7) := by
  have h0 : Bk B t #[v0, u1, u2, u3, u4, u5, u6, u7] (w.setCell ⟨B, 0, none⟩ v0) := h.set 0 v0
  have h1 : Bk B t #[v0, v1, u2, u3, u4, u5, u6, u7] ((w.setCell ⟨B, 0, none⟩ v0).setCell ⟨B, 1, none⟩ v1) := h0.set 1 v1
  have h2 : Bk B t #[v0, v1, v2, u3, u4, u5, u6, u7] (((w.setCell ⟨B, 0, none⟩ v0).setCell ⟨B, 1, none⟩ v1).setCell ⟨B, 2, none⟩ v2) := h1.set 2 v2
  have h3 : Bk B t #[v0, v1, v2, v3, u4, u5, u6, u7] ((((w.setCell ⟨B, 0, none⟩ v0).setCell ⟨B, 1, none⟩ v1).setCell ⟨B, 2, none⟩ v2).setCell ⟨B, 3, none⟩ v3) := h2.set 3 v3
  have h4 : Bk B t #[v0, v1, v2, v3, v4, u5, u6, u7] (((((w.setCell ⟨B, 0, none⟩ v0).setCell ⟨B, 1, none⟩ v1).setCell ⟨B, 2, none⟩ v2).setCell ⟨B, 3, none⟩ v3).setCell ⟨B, 4, none⟩ v4) := h3.set 4 v4
  have h5 : Bk B t #[v0, v1, v2, v3, v4, v5, u6, u7] ((((((w.setCell ⟨B, 0, none⟩ v0).setCell ⟨B, 1, none⟩ v1).setCell ⟨B, 2, none⟩ v2).setCell ⟨B, 3, none⟩ v3).setCell ⟨B, 4, none⟩ v4).setCell ⟨B, 5, none⟩ v5) := h4.set 5 v5
  have h6 : Bk B t #[v0, v1, v2, v3, v4, v5, v6, u7] (((((((w.setCell ⟨B, 0, none⟩ v0).setCell ⟨B, 1, none⟩ v1).setCell ⟨B, 2, none⟩ v2).setCell ⟨B, 3, none⟩ v3).setCell ⟨B, 4, none⟩ v4).setCell ⟨B, 5, none⟩ v5).setCell ⟨B, 6, none⟩ v6) := h5.set 6 v6
  have h7 : Bk B t #[v0, v1, v2, v3, v4, v5, v6, v7] ((((((((w.setCell ⟨B, 0, none⟩ v0).setCell ⟨B, 1, none⟩ v1).setCell ⟨B, 2, none⟩ v2).setCell ⟨B, 3, none⟩ v3).setCell ⟨B, 4, none⟩ v4).setCell ⟨B, 5, none⟩ v5).setCell ⟨B, 6, none⟩ v6).setCell ⟨B, 7, none⟩ v7) := h6.set 7 v7
  exact h7
theorem Bk.other8 {B : Nat} {t : TypeId} {cs : Array Value} {w : World} (h : Bk B t cs w) (C : Nat) (hC : B ≠ C) (v0 v1 v2 v3 v4 v5 v6 v7 : Value) : Bk B t cs ((((((((w.setCell ⟨C, 0, none⟩ v0).setCell ⟨C, 1, none⟩ v1).setCell ⟨C, 2, none⟩ v2).setCell ⟨C, 3, none⟩ v3).setCell ⟨C, 4, none⟩ v4).setCell ⟨C, 5, none⟩ v5).setCell ⟨C, 6, none⟩ v6).setCell ⟨C, 7, none⟩ v7) :=
  ((((((((((((((((h).oset C 0 _ hC)).oset C 1 _ hC)).oset C 2 _ hC)).oset C 3 _ hC)).oset C 4 _ hC)).oset C 5 _ hC)).oset C 6 _ hC)).oset C 7 _ hC)
theorem below_store8 {w w1 : World} (h : Below w.heap.size w w1) (B : Nat) (hB : w.heap.size ≤ B) (v0 v1 v2 v3 v4 v5 v6 v7 : Value) : Below w.heap.size w ((((((((w1.setCell ⟨B, 0, none⟩ v0).setCell ⟨B, 1, none⟩ v1).setCell ⟨B, 2, none⟩ v2).setCell ⟨B, 3, none⟩ v3).setCell ⟨B, 4, none⟩ v4).setCell ⟨B, 5, none⟩ v5).setCell ⟨B, 6, none⟩ v6).setCell ⟨B, 7, none⟩ v7) :=
  ((((((((((((((((h).setCell (p := ⟨B, 0, none⟩) hB _)).setCell (p := ⟨B, 1, none⟩) hB _)).setCell (p := ⟨B, 2, none⟩) hB _)).setCell (p := ⟨B, 3, none⟩) hB _)).setCell (p := ⟨B, 4, none⟩) hB _)).setCell (p := ⟨B, 5, none⟩) hB _)).setCell (p := ⟨B, 6, none⟩) hB _)).setCell (p := ⟨B, 7, none⟩) hB _)
theorem results_ttc {P : Program} {fn : Func} {t u p : Tmp} {ty : TypeId} (h : fn.results = #[.tmp t, .tmp u, .cell p ty]) (tmps : Array Value) (w : World) (g : Nat) (ty' : TypeId) (cs : Array Value) (fr : Nat × Nat) (d : TypeDesc)
    (hp : tmps.getD p undef = .pointer (some ⟨g, 0, none⟩)) (hg : w.heap[g]? = some (.cells cs ty' fr))
    (hu : P.underlying ty = some d) (hd : (match d with | .struct _ | .array _ _ => true | _ => false) = true) (hi : (P.info? ty).map (·.size) = some cs.size) :
    (results fn tmps).run P w = .ok (.tuple #[tmps.getD t undef, tmps.getD u undef, .agg cs]) w := by
  have hp' : tmps[p]?.getD undef = .pointer (some ⟨g, 0, none⟩) := by simpa using hp
  simp [results, h, Result.andThen, hp', asAddr, run_loadVar_row w g ty' ty cs fr d hg hu hd hi]
theorem results_cc {P : Program} {fn : Func} {p q : Tmp} {ty : TypeId} (h : fn.results = #[.cell p ty, .cell q ty]) (tmps : Array Value) (w : World) (g g' : Nat) (cs cs' : Array Value) (d : TypeDesc)
    (hp : tmps.getD p undef = .pointer (some ⟨g, 0, none⟩)) (hg : w.heap[g]? = some (.cells cs ty (0, 0)))
    (hq : tmps.getD q undef = .pointer (some ⟨g', 0, none⟩)) (hg' : w.heap[g']? = some (.cells cs' ty (0, 0)))
    (hu : P.underlying ty = some d) (hd : (match d with | .struct _ | .array _ _ => true | _ => false) = true) (hi : (P.info? ty).map (·.size) = some cs.size) (hi' : (P.info? ty).map (·.size) = some cs'.size) :
    (results fn tmps).run P w = .ok (.tuple #[.agg cs, .agg cs']) w := by
  have hp' : tmps[p]?.getD undef = .pointer (some ⟨g, 0, none⟩) := by simpa using hp
  have hq' : tmps[q]?.getD undef = .pointer (some ⟨g', 0, none⟩) := by simpa using hq
  simp [results, h, Result.andThen, hp', hq', asAddr, run_loadVar_row w g ty ty cs (0, 0) d hg hu hd hi, run_loadVar_row w g' ty ty cs' (0, 0) d hg' hu hd hi']
end Go.Proofs.Ytohameoomlehlab
