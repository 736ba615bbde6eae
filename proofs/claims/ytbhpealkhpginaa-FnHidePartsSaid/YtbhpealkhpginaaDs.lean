/-
  Contracts of the model's drawing kit: strings.
-/
import Derived.Test.YtbhpealkhpginaaDr
import Derived.Test.YtbhpealkhpginaaNum
import Derived.Test.YtbhpealkhpginaaOw
import Derived.Deep.RegionWith
import Derived.Laws.Closers25b
import Derived.Outline
import Derived.OwnWalk
import Derived.Laws.OwnMore
namespace Go.Proofs.Ytbhpealkhpginaa
open Go.RowKit

theorem lit_cellV (vs : List Value) (t : TypeId) (W : World) (k : Nat) (v : Value) (hk : vs[k]? = some v) : (W.alloc (.cells vs.toArray t)).cell? ⟨W.heap.size, k, none⟩ = some v :=
  (World.cell?_alloc_mark W _ _ _ k).trans (by simpa using hk)
theorem grownBy_drew {w w' : World} {row : Option Nat} (h : w.grownBy w' row) : w.grownBy w'.drew row := ⟨h.os, h.tape, h.output, h.size, h.block⟩
/-- What a drawing function does that hands back a string: at most L bytes, and the place goes on by at most c. -/
def StrR (B : Nat) (a : Option Addr) (len cap : Nat) (zs : List Int) (p c : Nat) (L : Nat) (w : World) (e : Ending) (w' : World) : Prop :=
  ∃ (s : ByteArray) (q : Nat), e = .returned (.string s) ∧ s.size ≤ L ∧ p ≤ q ∧ q ≤ p + c ∧ Dw B a len cap zs w' q ∧ w.grownBy w' (some B)


/-- Drawing a string out of a code. -/
def DrawStr (L : Nat) (w : World) (e : Ending) (w' : World) : Prop := ∃ s : ByteArray, e = .returned (.string s) ∧ s.size ≤ L ∧ Below w.heap.size w w'


end Go.Proofs.Ytbhpealkhpginaa
