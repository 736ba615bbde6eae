/-
  Drawing for chapter 13: what the drawing of a transaction keeps.
-/
import Derived.Test.YtcbpdibkindnfaaUv
import Derived.Test.YtcbpdibkindnfaaZc
import Derived.Test.YtcbpdibkindnfaaTm
namespace Go.Proofs.Ytcbpdibkindnfaa
open Go.RowKit

/-- While a transaction is drawn: the result's block, the transaction's block, the reader. -/
structure TS (B : Nat) (a : Option Addr) (len cap : Nat) (zs : List Int) (w : World) (T : Nat) (u0 u1 u2 u3 : Value) (q : Nat) (wr : World) : Prop where
  bl : B < w.heap.size
  tr : w.heap.size < T
  rb : Bk w.heap.size 26 #[.slice none 0 0, .slice none 0 0, .int .i64 0, .string ⟨#[]⟩] wr
  tb : Bk T 26 #[u0, u1, u2, u3] wr
  dw : Dw B a len cap zs wr q
  gr : w.grownBy wr (some B)
section
variable {B : Nat} {a : Option Addr} {len cap : Nat} {zs : List Int} {w : World} {T : Nat} {u0 u1 u2 u3 : Value} {q : Nat} {wr : World} (h : TS B a len cap zs w T u0 u1 u2 u3 q wr)
include h
theorem TS.draw {w2 : World} {q2 : Nat} (hD : Dw B a len cap zs w2 q2) (hG : wr.grownBy w2 (some B)) : TS B a len cap zs w T u0 u1 u2 u3 q2 w2 :=
  ⟨h.bl, h.tr, h.rb.gbK hG (by have := h.bl; omega), h.tb.gbK hG (by have := h.bl; have := h.tr; omega), hD, gtrans h.gr hG⟩
theorem TS.alloc (o : Obj) : TS B a len cap zs w T u0 u1 u2 u3 q (wr.alloc o) := ⟨h.bl, h.tr, h.rb.alloc o, h.tb.alloc o, h.dw.alloc o, gb_allocK h.gr o⟩
theorem TS.drew : TS B a len cap zs w T u0 u1 u2 u3 q wr.drew := ⟨h.bl, h.tr, h.rb.drew, h.tb.drew, h.dw.of fun _ _ => rfl, grownBy_drew h.gr⟩
theorem TS.own {w5 : World} {e : TypeId} {k n : Nat} {v : Value} {xs : List Value} (hrow : wr.ownsRow w.heap.size e k v n xs) (he : 26 ≠ e) (hg : wr.grownBy w5 v.ownBlock) : TS B a len cap zs w T u0 u1 u2 u3 q w5 := by
  have hne : ∀ D cs, Bk D 26 cs wr → some D ≠ v.ownBlock := fun D cs hb => by
    rcases hrow.2 with ⟨hv, _⟩ | ⟨g, cap', cur, hv, _, hh, _⟩
    · rw [hv]; simp [Value.ownBlock]
    · rw [hv]
      intro e2
      have hg2 : D = g := by simpa [Value.ownBlock] using e2
      subst hg2
      have h3 := hb.held
      rw [hh] at h3
      cases h3
      exact he rfl
  refine ⟨h.bl, h.tr, h.rb.gb13 hg (hne _ _ h.rb), h.tb.gb13 hg (hne _ _ h.tb), h.dw.of fun k hk => hg.block k (by have := h.dw.lt; omega) (fun e2 => by have h1 := (hrow.lt _ e2.symm).1; have := h.bl; omega), gtrans_own h.gr hg (fun j hj => (hrow.lt _ hj).1)⟩
theorem TS.cells : (wr.cell? ⟨T, 0, none⟩ = some u0 ∧ wr.cell? ⟨T, 1, none⟩ = some u1 ∧ wr.cell? ⟨T, 2, none⟩ = some u2 ∧ wr.cell? ⟨T, 3, none⟩ = some u3) ∧ wr.frozen? ⟨T, 0, none⟩ = false ∧ wr.frozen? ⟨T, 1, none⟩ = false ∧ wr.frozen? ⟨T, 2, none⟩ = false ∧ wr.frozen? ⟨T, 3, none⟩ = false := ⟨Bk.c4 h.tb, Bk.f4 h.tb⟩
theorem TS.rcells : (wr.cell? ⟨w.heap.size, 0, none⟩ = some (.slice none 0 0) ∧ wr.cell? ⟨w.heap.size, 1, none⟩ = some (.slice none 0 0) ∧ wr.cell? ⟨w.heap.size, 2, none⟩ = some (.int .i64 0) ∧ wr.cell? ⟨w.heap.size, 3, none⟩ = some (.string ⟨#[]⟩)) ∧ wr.frozen? ⟨w.heap.size, 0, none⟩ = false ∧ wr.frozen? ⟨w.heap.size, 1, none⟩ = false ∧ wr.frozen? ⟨w.heap.size, 2, none⟩ = false ∧ wr.frozen? ⟨w.heap.size, 3, none⟩ = false := ⟨Bk.c4 h.rb, Bk.f4 h.rb⟩
theorem TS.setT (i : Nat) (v : Value) {v0 v1 v2 v3 : Value} (hb : Bk T 26 #[v0, v1, v2, v3] (wr.setCell ⟨T, i, none⟩ v)) : TS B a len cap zs w T v0 v1 v2 v3 q (wr.setCell ⟨T, i, none⟩ v) :=
  ⟨h.bl, h.tr, h.rb.oset T i v (by have := h.tr; omega), hb, h.dw.osetK T i v (by have := h.bl; have := h.tr; omega), gb_setK h.gr T i v (Nat.le_of_lt h.tr)⟩
theorem TS.put0 (v : Value) : TS B a len cap zs w T v u1 u2 u3 q (wr.setCell ⟨T, 0, none⟩ v) := h.setT 0 v (h.tb.set 0 v)
theorem TS.put1 (v : Value) : TS B a len cap zs w T u0 v u2 u3 q (wr.setCell ⟨T, 1, none⟩ v) := h.setT 1 v (h.tb.set 1 v)
theorem TS.put2 (v : Value) : TS B a len cap zs w T u0 u1 v u3 q (wr.setCell ⟨T, 2, none⟩ v) := h.setT 2 v (h.tb.set 2 v)
theorem TS.put3 (v : Value) : TS B a len cap zs w T u0 u1 u2 v q (wr.setCell ⟨T, 3, none⟩ v) := h.setT 3 v (h.tb.set 3 v)
end
/-- The result's block, filled. -/
theorem Bk.store4x {B : Nat} {t : TypeId} {u0 u1 u2 u3 : Value} {w : World} (h : Bk B t #[u0, u1, u2, u3] w) (v0 v1 v2 v3 : Value) : Bk B t #[v0, v1, v2, v3] ((((w.setCell ⟨B, 0, none⟩ v0).setCell ⟨B, 1, none⟩ v1).setCell ⟨B, 2, none⟩ v2).setCell ⟨B, 3, none⟩ v3) := by
  have h0 : Bk B t #[v0, u1, u2, u3] (w.setCell ⟨B, 0, none⟩ v0) := h.set 0 v0
  have h1 : Bk B t #[v0, v1, u2, u3] ((w.setCell ⟨B, 0, none⟩ v0).setCell ⟨B, 1, none⟩ v1) := h0.set 1 v1
  have h2 : Bk B t #[v0, v1, v2, u3] (((w.setCell ⟨B, 0, none⟩ v0).setCell ⟨B, 1, none⟩ v1).setCell ⟨B, 2, none⟩ v2) := h1.set 2 v2
  exact h2.set 3 v3
/-- What drawn inputs and outputs keep to. -/
structure Tr.InDr (x : Tr.In) : Prop where
  n : x.wit.length ≤ 6
  z : ∀ s ∈ x.wit, s.size ≤ 81
  tx : 0 ≤ x.tx ∧ x.tx ≤ 50
  out : 0 ≤ x.out ∧ x.out ≤ 10
structure Tr.OutDr (x : Tr.Out) : Prop where
  amt : -1 ≤ x.amt ∧ x.amt ≤ 1000001
  lock : x.lock.size ≤ 5000
theorem Tr.small_dr {t : Tr} (h1 : t.ins.length ≤ 5) (h2 : t.outs.length ≤ 3) (h3 : ∀ x ∈ t.ins, Tr.InDr x) (h4 : ∀ x ∈ t.outs, Tr.OutDr x) (h5 : t.note.size ≤ 5000) : t.small :=
  ⟨by omega, by omega, fun x hx => ⟨by have := (h3 x hx).n; omega, fun s hs => by have := (h3 x hx).z s hs; omega⟩, fun x hx => ⟨by have := (h3 x hx).tx; omega, by have := (h3 x hx).out; omega⟩, fun x hx => by have := (h4 x hx).lock; omega, by omega⟩
/-- Drawing a transaction. -/
def TxDr (B : Nat) (a : Option Addr) (len cap : Nat) (zs : List Int) (p : Nat) (w : World) (e : Ending) (w' : World) : Prop :=
  ∃ (ai : Option Addr) (n ci : Nat) (bi : Option Addr) (m di : Nat) (t : Tr) (l : List (Tr.In × Value)) (q : Nat), e = .returned (.agg #[.slice ai n ci, .slice bi m di, .int .i64 t.after, .string t.note]) ∧ Hid (l.map Prod.fst = t.ins) ∧ Hid t.small ∧ Hid (-1 ≤ t.after ∧ t.after ≤ 10000) ∧ p ≤ q ∧ q ≤ p + 3000 ∧ Dw B a len cap zs w' q ∧ w.grownBy w' (some B) ∧
    Hid (OwnI w.heap.size w' (.slice ai n ci) l) ∧ Hid (OwnO w.heap.size w' (.slice bi m di) t.outs)
/-- The end of the drawing: the transaction is put into the result's block. -/
theorem TxDr.mk {B : Nat} {a : Option Addr} {len cap : Nat} {zs : List Int} {p q : Nat} {w wr : World} {T : Nat} {ai bi : Option Addr} {n ci m di : Nat} {af : Int} {nt : ByteArray} {l : List (Tr.In × Value)} {outs : List Tr.Out} (h : TS B a len cap zs w T (.slice ai n ci) (.slice bi m di) (.int .i64 af) (.string nt) q wr) (hI : OwnI w.heap.size wr (.slice ai n ci) l) (hO : OwnO w.heap.size wr (.slice bi m di) outs)
    (hp : p ≤ q) (hq : q ≤ p + 3000) (ha : -1 ≤ af ∧ af ≤ 10000) (hn : nt.size ≤ 5000) (hl : l.length ≤ 5) (ho : outs.length ≤ 3) (h3 : ∀ x ∈ l, Tr.InDr x.1) (h4 : ∀ x ∈ outs, Tr.OutDr x) :
    TxDr B a len cap zs p w (.returned (.agg #[.slice ai n ci, .slice bi m di, .int .i64 af, .string nt])) ((((wr.setCell ⟨w.heap.size, 0, none⟩ (.slice ai n ci)).setCell ⟨w.heap.size, 1, none⟩ (.slice bi m di)).setCell ⟨w.heap.size, 2, none⟩ (.int .i64 af)).setCell ⟨w.heap.size, 3, none⟩ (.string nt)) := by
  have b0 := h.rb
  have b1 : Bk w.heap.size 26 #[.slice ai n ci, .slice none 0 0, .int .i64 0, .string ⟨#[]⟩] (wr.setCell ⟨w.heap.size, 0, none⟩ (.slice ai n ci)) := b0.set 0 _
  have b2 : Bk w.heap.size 26 #[.slice ai n ci, .slice bi m di, .int .i64 0, .string ⟨#[]⟩] ((wr.setCell ⟨w.heap.size, 0, none⟩ (.slice ai n ci)).setCell ⟨w.heap.size, 1, none⟩ (.slice bi m di)) := b1.set 1 _
  have b3 : Bk w.heap.size 26 #[.slice ai n ci, .slice bi m di, .int .i64 af, .string ⟨#[]⟩] (((wr.setCell ⟨w.heap.size, 0, none⟩ (.slice ai n ci)).setCell ⟨w.heap.size, 1, none⟩ (.slice bi m di)).setCell ⟨w.heap.size, 2, none⟩ (.int .i64 af)) := b2.set 2 _
  refine ⟨ai, n, ci, bi, m, di, ⟨l.map Prod.fst, outs, af, nt⟩, l, q, rfl, Lib.hid rfl, Lib.hid (Tr.small_dr (by simpa using hl) ho (fun x hx => ?_) h4 hn), Lib.hid ha, hp, hq, ?_, ?_, Lib.hid ((((hI.set13 b0).set13 b1).set13 b2).set13 b3), Lib.hid ((((hO.set13 b0).set13 b1).set13 b2).set13 b3)⟩
  · obtain ⟨y, hy, rfl⟩ := List.mem_map.1 hx
    exact h3 y hy
  · exact (((h.dw.osetK _ 0 _ h.bl).osetK _ 1 _ h.bl).osetK _ 2 _ h.bl).osetK _ 3 _ h.bl
  · exact gb_setK (gb_setK (gb_setK (gb_setK h.gr _ 0 _ (Nat.le_refl _)) _ 1 _ (Nat.le_refl _)) _ 2 _ (Nat.le_refl _)) _ 3 _ (Nat.le_refl _)
end Go.Proofs.Ytcbpdibkindnfaa
