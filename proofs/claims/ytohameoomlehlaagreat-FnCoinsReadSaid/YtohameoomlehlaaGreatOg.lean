/-
  Contracts of scripts: SigItem, ItemSig; of the model.
-/
import Derived.Test.YtohameoomlehlaaGreatDg
import Derived.Test.YtohameoomlehlaaGreatOc
import Derived.Test.YtohameoomlehlaaGreatBk
namespace Go.Proofs.YtohameoomlehlaaGreat
open Go.RowKit

theorem below_alc9 {n : Nat} {w w1 : World} (h : Below n w w1) (hn : n ≤ w1.heap.size) (o : Obj) : Below n w (w1.alloc o) := h.alloc hn o
/-- Is it a digest? -/
def Jo.isd (x : Int) : Bool := decide (0 ≤ x ∧ x ≤ 4294967295)
/-- The item of a signature. -/
def Jo.item (r s : Int) : ByteArray := if Jo.isd r = true ∧ Jo.isd s = true then Dg.bytes r ++ Dg.bytes s else ⟨#[]⟩
theorem Dg.bytes_ne (d : Int) : (Dg.bytes d).toList.isEmpty = false := by
  rw [str_empty_iff, Dg.bytes_size]; rfl
theorem Dg.add8 (a b : Int) (W : World) : (Op.stringOp .add (Dg.bytes a) (Dg.bytes b)).run Tryz.prog W = .ok (.string (Dg.bytes a ++ Dg.bytes b)) W :=
  run_string_add_sum (P := Tryz.prog) W _ _ (by rw [Dg.bytes_size, Dg.bytes_size]; decide)
theorem results_cell_tmp3 {P : Program} {fn : Func} {p u : Tmp} {ty : TypeId} (h : fn.results = #[.cell p ty, .tmp u]) (tmps : Array Value) (w : World) (g : Nat) (t : TypeId) (cs : Array Value) (fr : Nat × Nat) (d : TypeDesc)
    (hp : tmps.getD p undef = .pointer (some ⟨g, 0, none⟩)) (hg : w.heap[g]? = some (.cells cs t fr))
    (hu : P.underlying ty = some d) (hd : (match d with | .struct _ | .array _ _ => true | _ => false) = true) (hi : (P.info? ty).map (·.size) = some cs.size) :
    (results fn tmps).run P w = .ok (.tuple #[.agg cs, tmps.getD u undef]) w := by
  rw [results_cell_tmp h]
  have hp' : tmps[p]?.getD undef = .pointer (some ⟨g, 0, none⟩) := by simpa using hp
  simp [Result.andThen, hp', asAddr, run_loadVar_row w g t ty cs fr d hg hu hd hi]
end Go.Proofs.YtohameoomlehlaaGreat
