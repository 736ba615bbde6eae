/-
  Contracts of the model: TxRead, over what the reader's tx answers.
-/
import Derived.Test.YtedjbikphdflhabTj
namespace Go.Proofs.Ytedjbikphdflhab
open Go.RowKit

theorem results_ct13 {P : Program} {fn : Func} {u p : Tmp} {ty : TypeId} (h : fn.results = #[.cell p ty, .tmp u]) (tmps : Array Value) (w : World) (g : Nat) (ty' : TypeId) (cs : Array Value) (fr : Nat × Nat) (d : TypeDesc)
    (hp : tmps.getD p undef = .pointer (some ⟨g, 0, none⟩)) (hg : w.heap[g]? = some (.cells cs ty' fr))
    (hu : P.underlying ty = some d) (hd : (match d with | .struct _ | .array _ _ => true | _ => false) = true) (hi : (P.info? ty).map (·.size) = some cs.size) :
    (results fn tmps).run P w = .ok (.tuple #[.agg cs, tmps.getD u undef]) w := by
  have hp' : tmps[p]?.getD undef = .pointer (some ⟨g, 0, none⟩) := by simpa using hp
  simp [results, h, Result.andThen, hp', asAddr, run_loadVar_row w g ty' ty cs fr d hg hu hd hi]
theorem Bk.gb13 {D : Nat} {t : TypeId} {cs : Array Value} {w w' : World} (h : Bk D t cs w) {row : Option Nat} (hg : w.grownBy w' row) (hne : some D ≠ row) : Bk D t cs w' := ⟨(hg.block D h.lt hne).trans h.held⟩
theorem Tr.fit.small {t : Tr} (h : t.fit) : t.small := by
  refine ⟨by have := h.nin; omega, by have := h.nout; omega, fun x hx => ?_, fun x hx => ?_, fun x hx => ?_, by have := h.note; omega⟩
  · obtain ⟨_, _, h3, h4⟩ := h.ins x hx
    exact ⟨by omega, fun s hs => by have := h4 s hs; omega⟩
  · obtain ⟨h1, h2, _, _⟩ := h.ins x hx
    exact ⟨by omega, by omega⟩
  · have := (h.outs x hx).2
    omega
/-- What the reader's tx answers. -/
def TxQ (B : Nat) (s : ByteArray) (w : World) (e : Ending) (w' : World) : Prop :=
  ∃ a n c b m d af nt r2 b2, e = .returned (.agg #[.slice a n c, .slice b m d, .int .i64 af, .string nt]) ∧ Rs B w w' r2 b2 ∧ Hid (b2 = true → Tr.rdA Tr.inR s = none) ∧
    (b2 = false → ∃ l outs, Hid (Tr.rdA Tr.inR s = some (⟨l.map Prod.fst, outs, af, nt⟩, r2)) ∧ OwnI w.heap.size w' (.slice a n c) l ∧ OwnO w.heap.size w' (.slice b m d) outs)
/-- What TxRead answers. -/
def TxRdQ (s : ByteArray) (w : World) (e : Ending) (w' : World) : Prop :=
  ∃ a n c b m d af nt ok, e = .returned (.tuple #[.agg #[.slice a n c, .slice b m d, .int .i64 af, .string nt], .bool ok]) ∧ Below w.heap.size w w' ∧
    ((Hid (Tr.read s = none) ∧ ok = false ∧ a = none ∧ n = 0 ∧ c = 0 ∧ b = none ∧ m = 0 ∧ d = 0 ∧ af = 0 ∧ nt = ⟨#[]⟩) ∨
     ∃ l outs, Hid (Tr.read s = some ⟨l.map Prod.fst, outs, af, nt⟩) ∧ ok = true ∧ OwnI w.heap.size w' (.slice a n c) l ∧ OwnO w.heap.size w' (.slice b m d) outs)
theorem Tr.read_no {s : ByteArray} (h : Tr.rdA Tr.inR s = none) : Tr.read s = none := by
  unfold Tr.read Tr.rd
  rw [h]
theorem Tr.read_rest {s r : ByteArray} {t : Tr} (h : Tr.rdA Tr.inR s = some (t, r)) (hz : r.size ≠ 0) : Tr.read s = none := by
  unfold Tr.read Tr.rd
  rw [h]
  simp only
  rw [if_neg hz]
theorem Tr.read_all {s r : ByteArray} {t : Tr} (h : Tr.rdA Tr.inR s = some (t, r)) (hz : r.size = 0) : Tr.read s = if t.ok = true then some t else none := by
  unfold Tr.read Tr.rd
  rw [h]
  simp only
  rw [if_pos hz]
theorem OwnI.base13 {base base' : Nat} {w : World} {v : Value} {l : List (Tr.In × Value)} (h : OwnI base w v l) (hb : base' ≤ base) : OwnI base' w v l := ⟨ownsRow_base h.1 hb, fun x hx => ⟨(h.2 x hx).1, ownsRow_base (h.2 x hx).2 hb⟩⟩
theorem OwnI.below13 {base : Nat} {w w' : World} {v : Value} {l : List (Tr.In × Value)} (h : OwnI base w v l) (hb : Below w.heap.size w w') : OwnI base w' v l :=
  have hg : w.grownBy w' none := ⟨hb.os, hb.tape, hb.output, hb.size, fun k hk _ => hb.block k hk⟩
  ⟨h.1.kept hg (by cases v.ownBlock <;> simp), fun x hx => ⟨(h.2 x hx).1, (h.2 x hx).2.kept hg (by cases x.2.ownBlock <;> simp)⟩⟩
theorem OwnO.below13 {base : Nat} {w w' : World} {v : Value} {l : List Tr.Out} (h : OwnO base w v l) (hb : Below w.heap.size w w') : OwnO base w' v l :=
  have hg : w.grownBy w' none := ⟨hb.os, hb.tape, hb.output, hb.size, fun k hk _ => hb.block k hk⟩
  World.ownsRow.kept h hg (by cases v.ownBlock <;> simp)
theorem OwnI.set13 {base X i : Nat} {w : World} {v u : Value} {l : List (Tr.In × Value)} {cs : Array Value} (h : OwnI base w v l) (hX : Bk X 31 cs w) : OwnI base (w.setCell ⟨X, i, none⟩ u) v l := by
  have hg : w.grownBy (w.setCell ⟨X, i, none⟩ u) (some X) := grownBy_set w X i u
  have key : ∀ {e k n : Nat} {v : Value} {xs : List Value}, w.ownsRow base e k v n xs → 31 ≠ e → v.ownBlock = none ∨ v.ownBlock ≠ some X := fun {e k n v xs} h he => by
    rcases h.2 with ⟨hv, _⟩ | ⟨g, cap, cur, hv, _, hh, _⟩
    · rw [hv]; exact .inl rfl
    · rw [hv]
      refine .inr fun h => ?_
      have hgX : g = X := by simpa [Value.ownBlock] using h
      subst hgX
      rw [hX.held] at hh
      cases hh
      exact he rfl
  exact ⟨h.1.kept hg (key h.1 (by decide)), fun x hx => ⟨(h.2 x hx).1, (h.2 x hx).2.kept hg (key (h.2 x hx).2 (by decide))⟩⟩
theorem OwnO.set13 {base X i : Nat} {w : World} {v u : Value} {l : List Tr.Out} {cs : Array Value} (h : OwnO base w v l) (hX : Bk X 31 cs w) : OwnO base (w.setCell ⟨X, i, none⟩ u) v l := by
  have hg : w.grownBy (w.setCell ⟨X, i, none⟩ u) (some X) := grownBy_set w X i u
  have h' : w.ownsRow base 80 2 v l.length (Tr.ocs l) := h
  refine World.ownsRow.kept h hg ?_
  rcases h'.2 with ⟨hv, _⟩ | ⟨g, cap, cur, hv, _, hh, _⟩
  · rw [hv]; exact .inl rfl
  · rw [hv]
    refine .inr fun h => ?_
    have hgX : g = X := by simpa [Value.ownBlock] using h
    subst hgX
    rw [hX.held] at hh
    cases hh
end Go.Proofs.Ytedjbikphdflhab
