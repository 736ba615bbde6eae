import Derived.Test.YtcbpdibkindnfaaGreatTk
import Derived.Deep.RegionWith
import Derived.Deep.RegionLaw
/-
  Contracts of the model: TxRead, over what the reader's tx answers.
-/
namespace Go.Proofs.YtcbpdibkindnfaaGreat
open Go.RowKit

set_option maxRecDepth 100000 in
set_option maxHeartbeats 3200000 in
theorem TxRead_over (htx : ∀ (B : Nat) (s : ByteArray) (W : World), W.heap[B]? = some (.cells #[.string s, .bool false] 55 (0, 0)) → Calls Tryz.prog 27 #[.pointer (some ⟨B, 0, none⟩)] W (TxQ B s W)) (s : ByteArray) (w : World) :
    Calls Tryz.prog 11 #[.string s] w (TxRdQ s w) := by
  have HTX := Lib.hid htx
  have vR0 : Bk w.heap.size 26 #[.slice none 0 0, .slice none 0 0, .int .i64 0, .string ⟨#[]⟩] ((w.alloc (.cells #[.slice none 0 0, .slice none 0 0, .int .i64 0, .string ⟨#[]⟩] 26 (0, 0))).alloc (.cells #[.string s, .bool false] 55 (0, 0))) := (Bk.new w 26 #[.slice none 0 0, .slice none 0 0, .int .i64 0, .string ⟨#[]⟩]).alloc _
  have hb0 : Below w.heap.size w ((w.alloc (.cells #[.slice none 0 0, .slice none 0 0, .int .i64 0, .string ⟨#[]⟩] 26 (0, 0))).alloc (.cells #[.string s, .bool false] 55 (0, 0))) := ((Below.refl _ _).alloc (Nat.le_refl _) _).alloc (by simp) _
  have hB : ((w.alloc (.cells #[.slice none 0 0, .slice none 0 0, .int .i64 0, .string ⟨#[]⟩] 26 (0, 0))).alloc (.cells #[.string s, .bool false] 55 (0, 0))).heap[w.heap.size + 1]? = some (.cells #[.string s, .bool false] 55 (0, 0)) := by
    have := heap_alloc_new (w.alloc (.cells #[.slice none 0 0, .slice none 0 0, .int .i64 0, .string ⟨#[]⟩] 26 (0, 0))) (.cells #[.string s, .bool false] 55 (0, 0))
    simpa using this
  clear htx
  go_enter Tryz.func11, Tryz.ntmps11
  go_wp2_with fail
  refine (HTX.out (w.heap.size + 1) s _ hB).mono ?_
  rintro e w3 ⟨a, n, c, b, m, d, af, nt, r2, b2, rfl, hT, HB, hgood⟩
  have vR3 := vR0.gb13 hT.kept (by simp)
  have hb3 := Below.grown hb0 hT.kept hb0.size (fun j hj => by cases hj; omega)
  have hD3 : (w3.alloc (.cells #[.slice a n c, .slice b m d, .int .i64 af, .string nt] 26 (0, 0))).heap[w.heap.size + 1]? = some (.cells #[.string r2, .bool b2] 55 (0, 0)) := (Below.heap_alloc _ _ _ (lt_of_block hT.held)).trans hT.held
  have vR4 := vR3.alloc (.cells #[.slice a n c, .slice b m d, .int .i64 af, .string nt] 26 (0, 0))
  have hb4 := below_alloc hb3 (.cells #[.slice a n c, .slice b m d, .int .i64 af, .string nt] 26 (0, 0))
  have vE4 : Bk w3.heap.size 26 #[.slice a n c, .slice b m d, .int .i64 af, .string nt] (w3.alloc (.cells #[.slice a n c, .slice b m d, .int .i64 af, .string nt] 26 (0, 0))) := Bk.new _ _ _
  have hdn := done_any (w.heap.size + 1) r2 b2 _ hD3
  have hER : w.heap.size < w3.heap.size := vR3.lt
  clear hB vR0 hb0 vR3 hb3 hT hD3
  cases b2
  case true =>
    have HNO := Lib.hid (Tr.read_no (HB.out rfl))
    simp only [Bool.not_true, Bool.false_and] at hdn
    clear hgood vE4
    go_wp2_with fail
    refine hdn.mono ?_
    rintro e w5 ⟨rfl, hw⟩
    rw [hw] at vR4 hb4
    clear hw hdn
    obtain ⟨r0, r1, r2', r3⟩ := Bk.c4 vR4
    obtain ⟨f0, f1, f2, f3⟩ := Bk.f4 vR4
    have hR := Bk.store4 vR4 (.slice none 0 0) (.slice none 0 0) (.int .i64 0) (.string ⟨#[]⟩)
    have hbz := below_store4 hb4 w.heap.size (Nat.le_refl _) (.slice none 0 0) (.slice none 0 0) (.int .i64 0) (.string ⟨#[]⟩)
    go_wp2
    refine bodyPost_ret (results_ct13 (P := Tryz.prog) rfl _ _ w.heap.size 26 _ (0, 0) _ rfl hR.held Tryz.underlying26 rfl (by kernel_rfl)) rfl ?_
    exact ⟨none, 0, 0, none, 0, 0, 0, ⟨#[]⟩, false, rfl, hbz, .inl ⟨HNO, rfl, rfl, rfl, rfl, rfl, rfl, rfl, rfl, rfl⟩⟩
  obtain ⟨l, outs, HRD, hown, hout⟩ := hgood rfl
  clear hgood
  have hown := (hown.base13 (base' := w.heap.size) (by simp; omega)).alloc (.cells #[.slice a n c, .slice b m d, .int .i64 af, .string nt] 26 (0, 0))
  have hout : OwnO w.heap.size (w3.alloc (.cells #[.slice a n c, .slice b m d, .int .i64 af, .string nt] 26 (0, 0))) (.slice b m d) outs := by
    have h1 : w3.ownsRow _ 66 2 (.slice b m d) outs.length (Tr.ocs outs) := hout
    exact (ownsRow_base h1 (by simp; omega)).alloc _
  simp only [Bool.not_false, Bool.true_and] at hdn
  by_cases hz : r2.size = 0
  case neg =>
    have HNO := Lib.hid (Tr.read_rest HRD.out hz)
    rw [ba_some hz] at hdn
    clear hz vE4 hown hout
    go_wp2_with fail
    refine hdn.mono ?_
    rintro e w5 ⟨rfl, hw⟩
    rw [hw] at vR4 hb4
    clear hw hdn
    obtain ⟨r0, r1, r2', r3⟩ := Bk.c4 vR4
    obtain ⟨f0, f1, f2, f3⟩ := Bk.f4 vR4
    have hR := Bk.store4 vR4 (.slice none 0 0) (.slice none 0 0) (.int .i64 0) (.string ⟨#[]⟩)
    have hbz := below_store4 hb4 w.heap.size (Nat.le_refl _) (.slice none 0 0) (.slice none 0 0) (.int .i64 0) (.string ⟨#[]⟩)
    go_wp2
    refine bodyPost_ret (results_ct13 (P := Tryz.prog) rfl _ _ w.heap.size 26 _ (0, 0) _ rfl hR.held Tryz.underlying26 rfl (by kernel_rfl)) rfl ?_
    exact ⟨none, 0, 0, none, 0, 0, 0, ⟨#[]⟩, false, rfl, hbz, .inl ⟨HNO, rfl, rfl, rfl, rfl, rfl, rfl, rfl, rfl, rfl⟩⟩
  rw [ba_none hz] at hdn
  have HALL := Lib.hid (Tr.read_all HRD.out hz)
  have hfit := (Tr.rdA_bw HRD.out).2
  obtain ⟨a', c', hva, hIL⟩ := hown.inL
  obtain ⟨b', d', hvb, hOL⟩ := hout.ouL
  cases hva
  cases hvb
  have hll : (l.map Prod.fst).length = l.length := by simp
  have hcT := TxOk_any w.heap.size a l.length c b outs.length d ⟨l.map Prod.fst, outs, af, nt⟩ _ ⟨hIL, hOL⟩ hfit.small
  simp only at hcT
  obtain ⟨e0, e1, e2, e3⟩ := Bk.c4 vE4
  clear hz hfit hIL hOL
  cases hok : Tr.ok ⟨l.map Prod.fst, outs, af, nt⟩
  · rw [hok] at hcT
    have HNO : Hid (Tr.read s = none) := Lib.hid (by rw [HALL.out, hok]; rfl)
    clear hok hown hout
    go_wp2_with fail
    refine hdn.mono ?_
    rintro e w5 ⟨rfl, rfl⟩
    go_wp2_with fail
    refine hcT.mono ?_
    rintro e w5 ⟨rfl, hx⟩
    have vR5 := vR4.below hx
    have hb5 := hb4.trans (hx.mono hb4.size)
    clear hx e0 e1 e2 e3
    obtain ⟨r0, r1, r2', r3⟩ := Bk.c4 vR5
    obtain ⟨f0, f1, f2, f3⟩ := Bk.f4 vR5
    have hR := Bk.store4 vR5 (.slice none 0 0) (.slice none 0 0) (.int .i64 0) (.string ⟨#[]⟩)
    have hbz := below_store4 hb5 w.heap.size (Nat.le_refl _) (.slice none 0 0) (.slice none 0 0) (.int .i64 0) (.string ⟨#[]⟩)
    go_wp2
    refine bodyPost_ret (results_ct13 (P := Tryz.prog) rfl _ _ w.heap.size 26 _ (0, 0) _ rfl hR.held Tryz.underlying26 rfl (by kernel_rfl)) rfl ?_
    exact ⟨none, 0, 0, none, 0, 0, 0, ⟨#[]⟩, false, rfl, hbz, .inl ⟨HNO, rfl, rfl, rfl, rfl, rfl, rfl, rfl, rfl, rfl⟩⟩
  rw [hok] at hcT
  have HYES : Hid (Tr.read s = some ⟨l.map Prod.fst, outs, af, nt⟩) := Lib.hid (by rw [HALL.out, hok]; rfl)
  clear hok
  go_wp2_with fail
  refine hdn.mono ?_
  rintro e w5 ⟨rfl, rfl⟩
  go_wp2_with fail
  refine hcT.mono ?_
  rintro e w5 ⟨rfl, hx⟩
  have vR5 := vR4.below hx
  have vE5 := vE4.below hx
  have hb5 := hb4.trans (hx.mono hb4.size)
  have hown5 := hown.below13 hx
  have hout5 := hout.below13 hx
  clear hx e0 e1 e2 e3 hown hout vR4 vE4 hb4 hdn hcT
  obtain ⟨e0, e1, e2, e3⟩ := Bk.c4 vE5
  obtain ⟨r0, r1, r2', r3⟩ := Bk.c4 vR5
  obtain ⟨f0, f1, f2, f3⟩ := Bk.f4 vR5
  have hR := Bk.store4 vR5 (.slice a l.length c) (.slice b outs.length d) (.int .i64 af) (.string nt)
  have hbz := below_store4 hb5 w.heap.size (Nat.le_refl _) (.slice a l.length c) (.slice b outs.length d) (.int .i64 af) (.string nt)
  have hown9 := (((hown5.set13 (i := 0) (u := .slice a l.length c) vR5).set13 (i := 1) (u := .slice b outs.length d) (vR5.set 0 _)).set13 (i := 2) (u := .int .i64 af) ((vR5.set 0 _).set 1 _)).set13 (i := 3) (u := .string nt) (((vR5.set 0 _).set 1 _).set 2 _)
  have hout9 := (((hout5.set13 (i := 0) (u := .slice a l.length c) vR5).set13 (i := 1) (u := .slice b outs.length d) (vR5.set 0 _)).set13 (i := 2) (u := .int .i64 af) ((vR5.set 0 _).set 1 _)).set13 (i := 3) (u := .string nt) (((vR5.set 0 _).set 1 _).set 2 _)
  go_wp2
  refine bodyPost_ret (results_ct13 (P := Tryz.prog) rfl _ _ w.heap.size 26 _ (0, 0) _ rfl hR.held Tryz.underlying26 rfl (by kernel_rfl)) rfl ?_
  exact ⟨a, l.length, c, b, outs.length, d, af, nt, true, rfl, hbz, .inr ⟨l, outs, HYES, rfl, hown9, hout9⟩⟩
end Go.Proofs.YtcbpdibkindnfaaGreat

/-
  Contracts of the model: the reader's tx.
-/
namespace Go.Proofs.YtcbpdibkindnfaaGreat
open Go.RowKit

theorem Tr.rdA_bel {p : ByteArray → Option (Tr.In × ByteArray)} {s : ByteArray} (h : En.bel s 6 = none) : Tr.rdA p s = none := by
  unfold Tr.rdA
  rw [h]
theorem Tr.rdA_rep0 {p : ByteArray → Option (Tr.In × ByteArray)} {s : ByteArray} {x : Int × ByteArray} (h : En.bel s 6 = some x) (h2 : Tr.rep p x.2 x.1.toNat = none) : Tr.rdA p s = none := by
  unfold Tr.rdA
  rw [h]
  simp only
  rw [h2]
theorem Tr.rdA_rep1 {p : ByteArray → Option (Tr.In × ByteArray)} {s : ByteArray} {x : Int × ByteArray} {y : List Tr.In × ByteArray} (h : En.bel s 6 = some x) (h2 : Tr.rep p x.2 x.1.toNat = some y) : Tr.rdA p s = Tr.rdO y.1 y.2 := by
  unfold Tr.rdA
  rw [h]
  simp only
  rw [h2]
theorem Tr.inR_some {s r r2 r3 : ByteArray} {d q : Int} {l : List ByteArray} (h1 : Tr.dig s = some (d, r)) (h2 : En.dec r = some (q, r2)) (h3 : Tr.wits 24 r2 = some (l, r3)) : Tr.inR s = some (⟨d, q, l⟩, r3) := by
  unfold Tr.inR
  rw [h1]
  simp only
  rw [h2]
  simp only
  rw [h3]
theorem Tr.inR_none {s : ByteArray} (h : Tr.dig s = none ∨ ∃ d r, Tr.dig s = some (d, r) ∧ (En.dec r = none ∨ ∃ q r2, En.dec r = some (q, r2) ∧ Tr.wits 24 r2 = none)) : Tr.inR s = none := by
  unfold Tr.inR
  rcases h with h | ⟨d, r, h, h2 | ⟨q, r2, h2, h3⟩⟩
  · rw [h]
  · rw [h]; simp only; rw [h2]
  · rw [h]; simp only; rw [h2]; simp only; rw [h3]
/-- One input, read from a good reader in three parts: well read, or not at all. -/
theorem Tr.inR_gen {s r2 r3 r4 : ByteArray} {b2 b3 b4 : Bool} {d q : Int} {l : List ByteArray} (h2 : (b2 = true → false = true ∨ Tr.dig s = none) ∧ (b2 = false → false = false ∧ Tr.dig s = some (d, r2))) (h3 : (b3 = true → b2 = true ∨ En.dec r2 = none) ∧ (b3 = false → b2 = false ∧ En.dec r2 = some (q, r3)))
    (h4 : b4 = true → b3 = true ∨ Tr.wits 24 r3 = none) (h5 : b4 = false → b3 = false ∧ Tr.wits 24 r3 = some (l, r4)) : (b4 = true → Tr.inR s = none) ∧ (b4 = false → Tr.inR s = some (⟨d, q, l⟩, r4)) := by
  constructor
  · intro hb
    refine Tr.inR_none ?_
    cases b2
    · obtain ⟨_, e2⟩ := h2.2 rfl
      refine .inr ⟨d, r2, e2, ?_⟩
      cases b3
      · obtain ⟨_, e3⟩ := h3.2 rfl
        refine .inr ⟨q, r3, e3, ?_⟩
        rcases h4 hb with e | e
        · cases e
        · exact e
      · rcases h3.1 rfl with e | e
        · cases e
        · exact .inl e
    · rcases h2.1 rfl with e | e
      · cases e
      · exact .inl e
  · intro hb
    obtain ⟨e1, e4⟩ := h5 hb
    obtain ⟨e2, e3⟩ := h3.2 e1
    exact Tr.inR_some (h2.2 e2).2 e3 e4
theorem three_new13 (W : World) (x y z : Value) (t : TypeId) (B : Nat) (hB : B = W.heap.size) : ∀ j u, [x, y, z][j]? = some u → (W.alloc (.cells #[x, y, z] t (0, 0))).cell? ((⟨B, 0, none⟩ : Addr).add j) = some u := by
  subst hB
  intro j u hj
  have hadr : (⟨W.heap.size, 0, none⟩ : Addr).add j = ⟨W.heap.size, j, none⟩ := by unfold Addr.add; split <;> simp_all
  rw [hadr]
  exact (World.cell?_alloc_mark W #[x, y, z] t (0, 0) j).trans (by simpa using hj)
theorem two_new13 (W : World) (x y : Value) (t : TypeId) (B : Nat) (hB : B = W.heap.size) : ∀ j u, [x, y][j]? = some u → (W.alloc (.cells #[x, y] t (0, 0))).cell? ((⟨B, 0, none⟩ : Addr).add j) = some u := by
  subst hB
  intro j u hj
  have hadr : (⟨W.heap.size, 0, none⟩ : Addr).add j = ⟨W.heap.size, j, none⟩ := by unfold Addr.add; split <;> simp_all
  rw [hadr]
  exact (World.cell?_alloc_mark W #[x, y] t (0, 0) j).trans (by simpa using hj)
theorem own_bk13 {w : World} {base k n X : Nat} {e t : TypeId} {v : Value} {xs : List Value} {cs : Array Value} (h : w.ownsRow base e k v n xs) (hX : Bk X t cs w) (he : t ≠ e) : some X ≠ v.ownBlock := by
  rcases h.2 with ⟨hv, _⟩ | ⟨g, cap, cur, hv, _, hh, _⟩
  · rw [hv]; simp [Value.ownBlock]
  · rw [hv]
    intro h
    have hgX : g = X := by simpa [Value.ownBlock] using h.symm
    subst hgX
    rw [hX.held] at hh
    cases hh
    exact he rfl
theorem own_shape13 {w : World} {base k n : Nat} {e : TypeId} {v : Value} {xs : List Value} (h : w.ownsRow base e k v n xs) : ∃ a c, v = .slice a n c := by
  rcases h.2 with ⟨hv, h0⟩ | ⟨g, cap, cur, hv, _⟩
  · exact ⟨none, 0, by rw [hv, h0]⟩
  · exact ⟨_, cap, hv⟩
/-- From w4 on: a new block, an append to a row of one's own, a store into another new block. -/
theorem Rs.more13 {B X i : Nat} {w w4 w5 : World} {r : ByteArray} {b : Bool} {o : Obj} {own : Option Nat} {u : Value} (h : Rs B w w4 r b) (hB : B < w.heap.size) (hg : (w4.alloc o).grownBy w5 own) (ho : ∀ j, own = some j → w.heap.size ≤ j) (hX : w.heap.size ≤ X) : Rs B w (w5.setCell ⟨X, i, none⟩ u) r b := by
  have hB4 := lt_of_block h.held
  refine ⟨?_, ?_⟩
  · rw [Below.heap_setCell _ _ _ _ (show B ≠ X by omega)]
    exact (hg.block B (by simp; omega) (fun e => by have := ho B e.symm; omega)).trans ((Below.heap_alloc _ _ _ hB4).trans h.held)
  · exact gtrans_own (gtrans_own (grownBy_trans' h.kept (World.grownBy_alloc _ _ _)) hg ho) (grownBy_set w5 X i u) (fun j he => by cases he; exact hX)
theorem Rs.set13 {B X i : Nat} {w w5 : World} {r : ByteArray} {b : Bool} {u : Value} (h : Rs B w w5 r b) (hB : B < w.heap.size) (hX : w.heap.size ≤ X) : Rs B w (w5.setCell ⟨X, i, none⟩ u) r b := by
  refine ⟨?_, ?_⟩
  · rw [Below.heap_setCell _ _ _ _ (show B ≠ X by omega)]
    exact h.held
  · exact gtrans_own h.kept (grownBy_set w5 X i u) (fun j he => by cases he; exact hX)
theorem OwnI.keptO13 {base : Nat} {w w' : World} {v v' : Value} {l : List (Tr.In × Value)} {outs : List Tr.Out} (h : OwnI base w v l) (ho : OwnO base w v' outs) (hg : w.grownBy w' v'.ownBlock) : OwnI base w' v l :=
  have ho' : w.ownsRow base 66 2 v' outs.length (Tr.ocs outs) := ho
  ⟨h.1.kept hg (own_types13 h.1 ho' (by decide)), fun x hx => ⟨(h.2 x hx).1, (h.2 x hx).2.kept hg (own_types13 (h.2 x hx).2 ho' (by decide))⟩⟩
theorem OwnO.alloc13 {base : Nat} {w : World} {v : Value} {l : List Tr.Out} (h : OwnO base w v l) (o : Obj) : OwnO base (w.alloc o) v l := World.ownsRow.alloc h o
theorem Tr.rdO_bel {l : List Tr.In} {s : ByteArray} (h : En.bel s 6 = none) : Tr.rdO l s = none := by
  unfold Tr.rdO
  rw [h]
theorem Tr.rdO_rep0 {l : List Tr.In} {s : ByteArray} {x : Int × ByteArray} (h : En.bel s 6 = some x) (h2 : Tr.rep Tr.outR x.2 x.1.toNat = none) : Tr.rdO l s = none := by
  unfold Tr.rdO
  rw [h]
  simp only
  rw [h2]
theorem Tr.rdO_rep1 {l : List Tr.In} {s : ByteArray} {x : Int × ByteArray} {y : List Tr.Out × ByteArray} (h : En.bel s 6 = some x) (h2 : Tr.rep Tr.outR x.2 x.1.toNat = some y) : Tr.rdO l s = Tr.rdE ⟨l, y.1, 0, ByteArray.empty⟩ y.2 := by
  unfold Tr.rdO
  rw [h]
  simp only
  rw [h2]
theorem Tr.rdE_gen {d : Tr} {s r5 r7 : ByteArray} {b b5 b7 : Bool} {af : Int} {nt : ByteArray} (h5 : (b5 = true → b = true ∨ En.dec s = none) ∧ (b5 = false → b = false ∧ En.dec s = some (af, r5))) (h7 : (b7 = true → b5 = true ∨ En.decT r5 = none) ∧ (b7 = false → b5 = false ∧ En.decT r5 = some (nt, r7))) :
    (b7 = true → b = true ∨ Tr.rdE d s = none) ∧ (b7 = false → b = false ∧ Tr.rdE d s = some (⟨d.ins, d.outs, af, nt⟩, r7)) := by
  constructor
  · intro hb
    cases hb5 : b5
    · obtain ⟨_, e5⟩ := h5.2 hb5
      rcases h7.1 hb with e | e
      · rw [hb5] at e; cases e
      · refine .inr ?_
        unfold Tr.rdE
        rw [e5]
        simp only
        rw [e]
    · rcases h5.1 hb5 with e | e
      · exact .inl e
      · refine .inr ?_
        unfold Tr.rdE
        rw [e]
  · intro hb
    obtain ⟨e1, e7⟩ := h7.2 hb
    obtain ⟨e2, e5⟩ := h5.2 e1
    refine ⟨e2, ?_⟩
    unfold Tr.rdE
    rw [e5]
    simp only
    rw [e7]
theorem Tr.outR_gen {s r2 r3 : ByteArray} {b2 b3 : Bool} {q : Int} {t : ByteArray} (h2 : (b2 = true → false = true ∨ En.dec s = none) ∧ (b2 = false → false = false ∧ En.dec s = some (q, r2))) (h3 : (b3 = true → b2 = true ∨ En.decT r2 = none) ∧ (b3 = false → b2 = false ∧ En.decT r2 = some (t, r3))) :
    (b3 = true → Tr.outR s = none) ∧ (b3 = false → Tr.outR s = some (⟨q, t⟩, r3)) := by
  constructor
  · intro hb
    unfold Tr.outR
    cases hb2 : b2
    · obtain ⟨_, e2⟩ := h2.2 hb2
      rcases h3.1 hb with e | e
      · rw [hb2] at e; cases e
      · rw [e2]; simp only; rw [e]
    · rcases h2.1 hb2 with e | e
      · cases e
      · rw [e]
  · intro hb
    obtain ⟨e1, e3⟩ := h3.2 hb
    obtain ⟨_, e2⟩ := h2.2 e1
    unfold Tr.outR
    rw [e2]
    simp only
    rw [e3]
end Go.Proofs.YtcbpdibkindnfaaGreat
