import Derived.Test.YtcbpdibkindnfaaTk
import Derived.Deep.RegionWith
import Derived.Deep.RegionLaw
/-
  Contracts of the model: TxRead, over what the reader's tx answers.
-/
namespace Go.Proofs.Ytcbpdibkindnfaa
open Go.RowKit

end Go.Proofs.Ytcbpdibkindnfaa

/-
  Contracts of the model: the reader's tx.
-/
namespace Go.Proofs.Ytcbpdibkindnfaa
open Go.RowKit

theorem Tr.rdA_bel {p : ByteArray → Option (Tr.In × ByteArray)} {s : ByteArray} (h : En.bel s 6 = none) : Tr.rdA p s = none := by
  unfold Tr.rdA
  rw [h]
theorem Tr.rdA_rep0 {p : ByteArray → Option (Tr.In × ByteArray)} {s : ByteArray} {x : Int × ByteArray} (h : En.bel s 6 = some x) (h2 : Tr.rep p x.2 x.1.toNat = none) : Tr.rdA p s = none := by
  unfold Tr.rdA
  rw [h]
  simp only
  rw [h2]
theorem Tr.rdA_rep1 {p : ByteArray → Option (Tr.In × ByteArray)} {s : ByteArray} {x : Int × ByteArray} {y : List Tr.In × ByteArray} (h : En.bel s 6 = some x) (h2 : Tr.rep p x.2 x.1.toNat = some y) : Tr.rdA p s = Tr.rdO y.1 y.2 := by
  unfold Tr.rdA
  rw [h]
  simp only
  rw [h2]
theorem Tr.inR_some {s r r2 r3 : ByteArray} {d q : Int} {l : List ByteArray} (h1 : Tr.dig s = some (d, r)) (h2 : En.dec r = some (q, r2)) (h3 : Tr.wits 24 r2 = some (l, r3)) : Tr.inR s = some (⟨d, q, l⟩, r3) := by
  unfold Tr.inR
  rw [h1]
  simp only
  rw [h2]
  simp only
  rw [h3]
theorem Tr.inR_none {s : ByteArray} (h : Tr.dig s = none ∨ ∃ d r, Tr.dig s = some (d, r) ∧ (En.dec r = none ∨ ∃ q r2, En.dec r = some (q, r2) ∧ Tr.wits 24 r2 = none)) : Tr.inR s = none := by
  unfold Tr.inR
  rcases h with h | ⟨d, r, h, h2 | ⟨q, r2, h2, h3⟩⟩
  · rw [h]
  · rw [h]; simp only; rw [h2]
  · rw [h]; simp only; rw [h2]; simp only; rw [h3]
/-- One input, read from a good reader in three parts: well read, or not at all. -/
theorem Tr.inR_gen {s r2 r3 r4 : ByteArray} {b2 b3 b4 : Bool} {d q : Int} {l : List ByteArray} (h2 : (b2 = true → false = true ∨ Tr.dig s = none) ∧ (b2 = false → false = false ∧ Tr.dig s = some (d, r2))) (h3 : (b3 = true → b2 = true ∨ En.dec r2 = none) ∧ (b3 = false → b2 = false ∧ En.dec r2 = some (q, r3)))
    (h4 : b4 = true → b3 = true ∨ Tr.wits 24 r3 = none) (h5 : b4 = false → b3 = false ∧ Tr.wits 24 r3 = some (l, r4)) : (b4 = true → Tr.inR s = none) ∧ (b4 = false → Tr.inR s = some (⟨d, q, l⟩, r4)) := by
  constructor
  · intro hb
    refine Tr.inR_none ?_
    cases b2
    · obtain ⟨_, e2⟩ := h2.2 rfl
      refine .inr ⟨d, r2, e2, ?_⟩
      cases b3
      · obtain ⟨_, e3⟩ := h3.2 rfl
        refine .inr ⟨q, r3, e3, ?_⟩
        rcases h4 hb with e | e
        · cases e
        · exact e
      · rcases h3.1 rfl with e | e
        · cases e
        · exact .inl e
    · rcases h2.1 rfl with e | e
      · cases e
      · exact .inl e
  · intro hb
    obtain ⟨e1, e4⟩ := h5 hb
    obtain ⟨e2, e3⟩ := h3.2 e1
    exact Tr.inR_some (h2.2 e2).2 e3 e4
theorem three_new13 (W : World) (x y z : Value) (t : TypeId) (B : Nat) (hB : B = W.heap.size) : ∀ j u, [x, y, z][j]? = some u → (W.alloc (.cells #[x, y, z] t (0, 0))).cell? ((⟨B, 0, none⟩ : Addr).add j) = some u := by
  subst hB
  intro j u hj
  have hadr : (⟨W.heap.size, 0, none⟩ : Addr).add j = ⟨W.heap.size, j, none⟩ := by unfold Addr.add; split <;> simp_all
  rw [hadr]
  exact (World.cell?_alloc_mark W #[x, y, z] t (0, 0) j).trans (by simpa using hj)
theorem two_new13 (W : World) (x y : Value) (t : TypeId) (B : Nat) (hB : B = W.heap.size) : ∀ j u, [x, y][j]? = some u → (W.alloc (.cells #[x, y] t (0, 0))).cell? ((⟨B, 0, none⟩ : Addr).add j) = some u := by
  subst hB
  intro j u hj
  have hadr : (⟨W.heap.size, 0, none⟩ : Addr).add j = ⟨W.heap.size, j, none⟩ := by unfold Addr.add; split <;> simp_all
  rw [hadr]
  exact (World.cell?_alloc_mark W #[x, y] t (0, 0) j).trans (by simpa using hj)
theorem own_bk13 {w : World} {base k n X : Nat} {e t : TypeId} {v : Value} {xs : List Value} {cs : Array Value} (h : w.ownsRow base e k v n xs) (hX : Bk X t cs w) (he : t ≠ e) : some X ≠ v.ownBlock := by
  rcases h.2 with ⟨hv, _⟩ | ⟨g, cap, cur, hv, _, hh, _⟩
  · rw [hv]; simp [Value.ownBlock]
  · rw [hv]
    intro h
    have hgX : g = X := by simpa [Value.ownBlock] using h.symm
    subst hgX
    rw [hX.held] at hh
    cases hh
    exact he rfl
theorem own_shape13 {w : World} {base k n : Nat} {e : TypeId} {v : Value} {xs : List Value} (h : w.ownsRow base e k v n xs) : ∃ a c, v = .slice a n c := by
  rcases h.2 with ⟨hv, h0⟩ | ⟨g, cap, cur, hv, _⟩
  · exact ⟨none, 0, by rw [hv, h0]⟩
  · exact ⟨_, cap, hv⟩
theorem OwnI.keptO13 {base : Nat} {w w' : World} {v v' : Value} {l : List (Tr.In × Value)} {outs : List Tr.Out} (h : OwnI base w v l) (ho : OwnO base w v' outs) (hg : w.grownBy w' v'.ownBlock) : OwnI base w' v l :=
  have ho' : w.ownsRow base 66 2 v' outs.length (Tr.ocs outs) := ho
  ⟨h.1.kept hg (own_types13 h.1 ho' (by decide)), fun x hx => ⟨(h.2 x hx).1, (h.2 x hx).2.kept hg (own_types13 (h.2 x hx).2 ho' (by decide))⟩⟩
theorem OwnO.alloc13 {base : Nat} {w : World} {v : Value} {l : List Tr.Out} (h : OwnO base w v l) (o : Obj) : OwnO base (w.alloc o) v l := World.ownsRow.alloc h o
theorem Tr.rdO_bel {l : List Tr.In} {s : ByteArray} (h : En.bel s 6 = none) : Tr.rdO l s = none := by
  unfold Tr.rdO
  rw [h]
theorem Tr.rdO_rep0 {l : List Tr.In} {s : ByteArray} {x : Int × ByteArray} (h : En.bel s 6 = some x) (h2 : Tr.rep Tr.outR x.2 x.1.toNat = none) : Tr.rdO l s = none := by
  unfold Tr.rdO
  rw [h]
  simp only
  rw [h2]
theorem Tr.rdO_rep1 {l : List Tr.In} {s : ByteArray} {x : Int × ByteArray} {y : List Tr.Out × ByteArray} (h : En.bel s 6 = some x) (h2 : Tr.rep Tr.outR x.2 x.1.toNat = some y) : Tr.rdO l s = Tr.rdE ⟨l, y.1, 0, ByteArray.empty⟩ y.2 := by
  unfold Tr.rdO
  rw [h]
  simp only
  rw [h2]
theorem Tr.rdE_gen {d : Tr} {s r5 r7 : ByteArray} {b b5 b7 : Bool} {af : Int} {nt : ByteArray} (h5 : (b5 = true → b = true ∨ En.dec s = none) ∧ (b5 = false → b = false ∧ En.dec s = some (af, r5))) (h7 : (b7 = true → b5 = true ∨ En.decT r5 = none) ∧ (b7 = false → b5 = false ∧ En.decT r5 = some (nt, r7))) :
    (b7 = true → b = true ∨ Tr.rdE d s = none) ∧ (b7 = false → b = false ∧ Tr.rdE d s = some (⟨d.ins, d.outs, af, nt⟩, r7)) := by
  constructor
  · intro hb
    cases hb5 : b5
    · obtain ⟨_, e5⟩ := h5.2 hb5
      rcases h7.1 hb with e | e
      · rw [hb5] at e; cases e
      · refine .inr ?_
        unfold Tr.rdE
        rw [e5]
        simp only
        rw [e]
    · rcases h5.1 hb5 with e | e
      · exact .inl e
      · refine .inr ?_
        unfold Tr.rdE
        rw [e]
  · intro hb
    obtain ⟨e1, e7⟩ := h7.2 hb
    obtain ⟨e2, e5⟩ := h5.2 e1
    refine ⟨e2, ?_⟩
    unfold Tr.rdE
    rw [e5]
    simp only
    rw [e7]
theorem Tr.outR_gen {s r2 r3 : ByteArray} {b2 b3 : Bool} {q : Int} {t : ByteArray} (h2 : (b2 = true → false = true ∨ En.dec s = none) ∧ (b2 = false → false = false ∧ En.dec s = some (q, r2))) (h3 : (b3 = true → b2 = true ∨ En.decT r2 = none) ∧ (b3 = false → b2 = false ∧ En.decT r2 = some (t, r3))) :
    (b3 = true → Tr.outR s = none) ∧ (b3 = false → Tr.outR s = some (⟨q, t⟩, r3)) := by
  constructor
  · intro hb
    unfold Tr.outR
    cases hb2 : b2
    · obtain ⟨_, e2⟩ := h2.2 hb2
      rcases h3.1 hb with e | e
      · rw [hb2] at e; cases e
      · rw [e2]; simp only; rw [e]
    · rcases h2.1 hb2 with e | e
      · cases e
      · rw [e]
  · intro hb
    obtain ⟨e1, e3⟩ := h3.2 hb
    obtain ⟨_, e2⟩ := h2.2 e1
    unfold Tr.outR
    rw [e2]
    simp only
    rw [e3]
end Go.Proofs.Ytcbpdibkindnfaa
