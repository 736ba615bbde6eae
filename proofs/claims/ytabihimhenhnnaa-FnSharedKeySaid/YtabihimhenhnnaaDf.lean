/-
  Drawing for chapter 5: signatures, signed messages.
-/
import Derived.Test.YtabihimhenhnnaaSj
import Derived.Test.YtabihimhenhnnaaDe
import Derived.Test.YtabihimhenhnnaaDs
namespace Go.Proofs.Ytabihimhenhnnaa
open Go.RowKit

theorem Dw.below {B : Nat} {a : Option Addr} {len cap : Nat} {zs : List Int} {w w' : World} {p : Nat} (h : Dw B a len cap zs w p) (hb : Below w.heap.size w w') : Dw B a len cap zs w' p :=
  h.of fun k hk => hb.block k (by have := h.lt; omega)
theorem below_gb {w w' : World} (hb : Below w.heap.size w w') (B : Nat) : w.grownBy w' (some B) := ⟨hb.os, hb.tape, hb.output, hb.size, fun k hk _ => hb.block k hk⟩
theorem Bk.gb {D : Nat} {t : TypeId} {cs : Array Value} {w w' : World} (h : Bk D t cs w) {B : Nat} (hg : w.grownBy w' (some B)) (hne : D ≠ B) : Bk D t cs w' := ⟨(hg.block D h.lt (by simpa using hne)).trans h.held⟩
/-- Drawing a number and a string. -/
def DrawNS (w : World) (e : Ending) (w' : World) : Prop := ∃ (u : Int) (t : ByteArray), e = .returned (.tuple #[.int .i64 u, .string t]) ∧ -1 ≤ u ∧ u ≤ 4294967296 ∧ t.size ≤ 5 ∧ Below w.heap.size w w'
/-- Drawing two numbers and a string. -/
def DrawNNS (w : World) (e : Ending) (w' : World) : Prop := ∃ (u v : Int) (t : ByteArray), e = .returned (.tuple #[.int .i64 u, .int .i64 v, .string t]) ∧ -1 ≤ u ∧ u ≤ 4294967296 ∧ -1 ≤ v ∧ v ≤ 4294967296 ∧ t.size ≤ 5 ∧ Below w.heap.size w w'
theorem gb_set {w w' : World} {B : Nat} (h : w.grownBy w' (some B)) (D i : Nat) (v : Value) (hD : w.heap.size ≤ D) : w.grownBy (w'.setCell ⟨D, i, none⟩ v) (some B) :=
  ⟨h.os, h.tape, h.output, by simpa [World.setCell] using h.size, fun k hk hne => (Below.heap_setCell _ _ _ _ (show k ≠ D by omega)).trans (h.block k hk hne)⟩
theorem Dw.oset {B : Nat} {a : Option Addr} {len cap : Nat} {zs : List Int} {w : World} {p : Nat} (h : Dw B a len cap zs w p) (D i : Nat) (v : Value) (hD : B < D) : Dw B a len cap zs (w.setCell ⟨D, i, none⟩ v) p :=
  h.of fun k hk => Below.heap_setCell _ _ _ _ (show k ≠ D by omega)
/-- What drawing a signature does. -/
def SigR (B : Nat) (a : Option Addr) (len cap : Nat) (zs : List Int) (p : Nat) (c : Nat) (w : World) (e : Ending) (w' : World) : Prop :=
  ∃ (R S : Int) (q : Nat), e = .returned (.agg #[.int .i64 R, .int .i64 S]) ∧ -1 ≤ R ∧ R ≤ 4294967296 ∧ -1 ≤ S ∧ S ≤ 4294967296 ∧ p ≤ q ∧ q ≤ p + c ∧ Dw B a len cap zs w' q ∧ w.grownBy w' (some B)
theorem Sg.s_bd (x : Int) (t : ByteArray) : (0 ≤ Sg.sr x t ∧ Sg.sr x t < 2147483579) ∧ 0 ≤ Sg.ss x t ∧ Sg.ss x t < 1073741789 :=
  ⟨Sg.gp_bd _, Int.emod_nonneg _ (by decide), Int.emod_lt_of_pos _ (by decide)⟩
end Go.Proofs.Ytabihimhenhnnaa
