import Derived.Test.YtohameoomlehlaaGreatDs
import Derived.Test.YtohameoomlehlaaGreatDg
import Derived.Test.YtohameoomlehlaaGreatGk
import Derived.Test.YtohameoomlehlaaGreatOb
import Derived.Test.YtohameoomlehlaaGreatOc
import Derived.Test.YtohameoomlehlaaGreatOw
import Derived.Laws.OwnMore
import Derived.OwnWalk
/-
  Drawing for chapter 10: operations.
-/
namespace Go.Proofs.YtohameoomlehlaaGreat
open Go.RowKit

theorem Bk.gbK {D : Nat} {t : TypeId} {cs : Array Value} {w w' : World} (h : Bk D t cs w) {B : Nat} (hg : w.grownBy w' (some B)) (hne : D ≠ B) : Bk D t cs w' := ⟨(hg.block D h.lt (by simpa using hne)).trans h.held⟩
theorem gb_setK {w w' : World} {B : Nat} (h : w.grownBy w' (some B)) (D i : Nat) (v : Value) (hD : w.heap.size ≤ D) : w.grownBy (w'.setCell ⟨D, i, none⟩ v) (some B) :=
  ⟨h.os, h.tape, h.output, by simpa [World.setCell] using h.size, fun k hk hne => (Below.heap_setCell _ _ _ _ (show k ≠ D by omega)).trans (h.block k hk hne)⟩
theorem gb_allocK {w w' : World} {B : Nat} (h : w.grownBy w' (some B)) (o : Obj) : w.grownBy (w'.alloc o) (some B) := gtrans h (World.grownBy_alloc w' o (some B))
theorem gb_belK {w w' : World} (hb : Below w.heap.size w w') (B : Nat) : w.grownBy w' (some B) := ⟨hb.os, hb.tape, hb.output, hb.size, fun k hk _ => hb.block k hk⟩
theorem Dw.osetK {B : Nat} {a : Option Addr} {len cap : Nat} {zs : List Int} {w : World} {p : Nat} (h : Dw B a len cap zs w p) (D i : Nat) (v : Value) (hD : B < D) : Dw B a len cap zs (w.setCell ⟨D, i, none⟩ v) p :=
  h.of fun k hk => Below.heap_setCell _ _ _ _ (show k ≠ D by omega)
theorem Dw.belK {B : Nat} {a : Option Addr} {len cap : Nat} {zs : List Int} {w w' : World} {p : Nat} (h : Dw B a len cap zs w p) (hb : Below w.heap.size w w') : Dw B a len cap zs w' p :=
  h.of fun k hk => hb.block k (by have := h.lt; omega)
/-- Drawing an operation. -/
def OpR (B : Nat) (a : Option Addr) (len cap : Nat) (zs : List Int) (p : Nat) (w : World) (e : Ending) (w' : World) : Prop :=
  ∃ (C A D : Int) (t : ByteArray) (q : Nat), e = .returned (.agg #[.int .i64 C, .int .i64 A, .int .i64 D, .string t]) ∧ 0 ≤ C ∧ C < 15 ∧ t.size ≤ 30 ∧ p ≤ q ∧ q ≤ p + 60 ∧ Dw B a len cap zs w' q ∧ w.grownBy w' (some B)
end Go.Proofs.YtohameoomlehlaaGreat

/-
  Drawing for chapter 10: lists of operations.
-/
namespace Go.Proofs.YtohameoomlehlaaGreat
open Go.RowKit

theorem four_newL (W : World) (a b c d : Value) (t : TypeId) (B : Nat) (hB : B = W.heap.size) : ∀ j u, [a, b, c, d][j]? = some u → (W.alloc (.cells #[a, b, c, d] t (0, 0))).cell? ((⟨B, 0, none⟩ : Addr).add j) = some u := by
  subst hB
  intro j u hj
  have hadr : (⟨W.heap.size, 0, none⟩ : Addr).add j = ⟨W.heap.size, j, none⟩ := by unfold Addr.add; split <;> simp_all
  rw [hadr]
  exact (World.cell?_alloc_mark W #[a, b, c, d] t (0, 0) j).trans (by simpa using hj)
theorem gtrans_ownL {w a b : World} {B : Nat} {v : Value} (h : w.grownBy a (some B)) (k : a.grownBy b v.ownBlock) (hv : ∀ j, v.ownBlock = some j → w.heap.size ≤ j) : w.grownBy b (some B) :=
  ⟨k.os.trans h.os, k.tape.trans h.tape, k.output.trans h.output, Nat.le_trans h.size k.size, fun j hj hr => (k.block j (Nat.lt_of_lt_of_le hj h.size) (fun e => by have := hv j e.symm; omega)).trans (h.block j hj hr)⟩
/-- Drawing operations: a new block of them. -/
def OpsQ (B : Nat) (a : Option Addr) (len cap : Nat) (zs : List Int) (p : Nat) (w : World) (e : Ending) (w' : World) : Prop :=
  ∃ (g n cap2 : Nat) (l : List Jo) (q : Nat), e = .returned (.slice (some ⟨g, 0, none⟩) n cap2) ∧ w.heap.size ≤ g ∧ OL w' (some ⟨g, 0, none⟩) n l ∧ n ≤ 100 ∧ p ≤ q ∧ q ≤ p + 1000 ∧ Dw B a len cap zs w' q ∧ w.grownBy w' (some B)
/-- Drawing operations. -/
def OpsR (B : Nat) (a : Option Addr) (len cap : Nat) (zs : List Int) (p : Nat) (w : World) (e : Ending) (w' : World) : Prop :=
  ∃ (a2 : Option Addr) (n cap2 : Nat) (l : List Jo) (q : Nat), e = .returned (.slice a2 n cap2) ∧ OL w' a2 n l ∧ n ≤ 100 ∧ p ≤ q ∧ q ≤ p + 1000 ∧ Dw B a len cap zs w' q ∧ w.grownBy w' (some B)
/-- Drawing operations out of a code. -/
def DrawOps (w : World) (e : Ending) (w' : World) : Prop := ∃ (a2 : Option Addr) (n cap2 : Nat) (l : List Jo), e = .returned (.slice a2 n cap2) ∧ OL w' a2 n l ∧ n ≤ 100 ∧ Below w.heap.size w w'
end Go.Proofs.YtohameoomlehlaaGreat
