/-
  Contracts of the model: CoinsAdd, CoinsSpend.
-/
import Derived.Test.YtohameoomlehlaaGreatCe
import Derived.Deep.RegionWith
namespace Go.Proofs.YtohameoomlehlaaGreat
open Go.RowKit Go.Deep

theorem OwnC.nilC (base : Nat) (w : World) : OwnC base w (.slice none 0 0) [] := ⟨by simp [Co.cs], .inl ⟨rfl, rfl⟩⟩
/-- What a call answers that hands back coins of its own, or none. -/
def CoAA (l : List Co) (ok : Bool) (w : World) (e : Ending) (w' : World) : Prop := ∃ v, e = .returned (.tuple #[v, .bool ok]) ∧ Hid (OwnC w.heap.size w' v l) ∧ Below w.heap.size w w'
/-- .. and a coin. -/
def CoSA (l : List Co) (c : Co) (ok : Bool) (w : World) (e : Ending) (w' : World) : Prop := ∃ v, e = .returned (.tuple #[v, .agg #[.int .i64 c.tx, .int .i64 c.out, .int .i64 c.amt, .string c.lock, .int .i64 c.ht, .bool c.rew], .bool ok]) ∧ Hid (OwnC w.heap.size w' v l) ∧ Below w.heap.size w w'
theorem Co.add_no1 {l : List Co} {c : Co} (h : Co.lok l = false) : Co.add l c = none := by
  unfold Co.add; rw [if_neg (by rw [h]; decide)]
theorem Co.add_no2 {l : List Co} {c : Co} (h : c.ok = false) : Co.add l c = none := by
  unfold Co.add; split
  · rw [if_neg (by rw [h]; decide)]
  · rfl
theorem Co.add_no3 {l : List Co} {c : Co} (h : l.length = 80) : Co.add l c = none := by
  unfold Co.add; simp [h]
theorem Co.add_no4 {l : List Co} {c : Co} (h : Co.has l c.tx c.out = true) : Co.add l c = none := by
  unfold Co.add; simp [h]
theorem Co.add_yes {l : List Co} {c : Co} (h1 : Co.lok l = true) (h2 : c.ok = true) (h3 : l.length ≠ 80) (h4 : Co.has l c.tx c.out = false) : Co.add l c = some (Co.put l (Co.at_ l c.tx c.out) c) := by
  unfold Co.add; rw [if_pos h1, if_pos h2, if_neg h3, if_neg (by rw [h4]; decide)]
theorem results_rowC3 {P : Program} {fn : Func} {p u v : Tmp} {ty : TypeId} (h : fn.results = #[.tmp u, .cell p ty, .tmp v]) (tmps : Array Value) (w : World) (g : Nat) (t : TypeId) (cs : Array Value) (fr : Nat × Nat) (d : TypeDesc)
    (hp : tmps.getD p undef = .pointer (some ⟨g, 0, none⟩)) (hg : w.heap[g]? = some (.cells cs t fr))
    (hu : P.underlying ty = some d) (hd : (match d with | .struct _ | .array _ _ => true | _ => false) = true) (hi : (P.info? ty).map (·.size) = some cs.size) :
    (results fn tmps).run P w = .ok (.tuple #[tmps.getD u undef, .agg cs, tmps.getD v undef]) w := by
  have hp' : tmps[p]?.getD undef = .pointer (some ⟨g, 0, none⟩) := by simpa using hp
  simp [results, h, hp', asAddr, run_loadVar_row w g t ty cs fr d hg hu hd hi]
theorem grownBy_setC6 (w : World) (B i : Nat) (v : Value) : w.grownBy (w.setCell ⟨B, i, none⟩ v) (some B) := ⟨rfl, rfl, rfl, by simp [World.setCell], fun j _ hr => Below.heap_setCell _ _ _ _ (fun e => hr (by simp [e]))⟩
theorem gtrans6 (w : World) (B : Nat) (v0 v1 v2 v3 v4 v5 : Value) : w.grownBy ((((((w.setCell ⟨B, 0, none⟩ v0).setCell ⟨B, 1, none⟩ v1).setCell ⟨B, 2, none⟩ v2).setCell ⟨B, 3, none⟩ v3).setCell ⟨B, 4, none⟩ v4).setCell ⟨B, 5, none⟩ v5) (some B) :=
  grownBy_trans' (grownBy_trans' (grownBy_trans' (grownBy_trans' (grownBy_trans' (grownBy_setC6 w B 0 v0) (grownBy_setC6 _ B 1 v1)) (grownBy_setC6 _ B 2 v2)) (grownBy_setC6 _ B 3 v3)) (grownBy_setC6 _ B 4 v4)) (grownBy_setC6 _ B 5 v5)
theorem OwnC.set6 {base B : Nat} {w : World} {v : Value} {l : List Co} (h : OwnC base w v l) (hB : B < base) (v0 v1 v2 v3 v4 v5 : Value) : OwnC base ((((((w.setCell ⟨B, 0, none⟩ v0).setCell ⟨B, 1, none⟩ v1).setCell ⟨B, 2, none⟩ v2).setCell ⟨B, 3, none⟩ v3).setCell ⟨B, 4, none⟩ v4).setCell ⟨B, 5, none⟩ v5) v l :=
  h.kept (gtrans6 w B v0 v1 v2 v3 v4 v5) hB
end Go.Proofs.YtohameoomlehlaaGreat
