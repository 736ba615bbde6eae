/-
  The laws' own helpers for transactions: comparison, copies that the call owns.
-/
import Derived.Test.YtedjbikphdflhabTv
import Derived.Test.YtedjbikphdflhabTm
import Derived.Test.YtedjbikphdflhabTr
namespace Go.Proofs.Ytedjbikphdflhab
open Go.RowKit

theorem cell_belT {W W' : World} {g o : Nat} {v : Value} (h : Below W.heap.size W W') (hc : W.cell? ⟨g, o, none⟩ = some v) : W'.cell? ⟨g, o, none⟩ = some v :=
  (⟨h.os, h.tape, h.output, h.size, fun k hk _ => h.block k hk⟩ : W.grownBy W' none).cell hc (by simp)
theorem own_grownT {w w' : World} {base k n X : Nat} {e t : TypeId} {v : Value} {xs : List Value} {cs : Array Value} (h : w.ownsRow base e k v n xs) (hX : Bk X t cs w) (he : t ≠ e) (hg : w.grownBy w' (some X)) : w'.ownsRow base e k v n xs :=
  h.kept hg (.inr (fun h2 => own_bk13 h hX he h2.symm))
theorem grown_set3 (w : World) (X : Nat) (i j k : Nat) (u v x : Value) : w.grownBy (((w.setCell ⟨X, i, none⟩ u).setCell ⟨X, j, none⟩ v).setCell ⟨X, k, none⟩ x) (some X) :=
  grownBy_trans' (grownBy_trans' (grownBy_set _ _ _ _) (grownBy_set _ _ _ _)) (grownBy_set _ _ _ _)
theorem RB.bk {e : TypeId} {k g n : Nat} {xs : List Value} {w : World} (h : RB e k g n xs w) : ∃ cs, Bk g e cs w := by
  obtain ⟨cs, h1, _⟩ := h
  exact ⟨cs, ⟨h1⟩⟩
theorem OwnW.grownT {base X : Nat} {w w' : World} {x : Tr.In × Value} {t : TypeId} {cs : Array Value} (h : OwnW base w x) (hX : Bk X t cs w) (he : t ≠ 9) (hg : w.grownBy w' (some X)) : OwnW base w' x := ⟨h.1, own_grownT h.2 hX he hg⟩
theorem OwnW.belowT {base : Nat} {w w' : World} {x : Tr.In × Value} (h : OwnW base w x) (hb : Below w.heap.size w w') : OwnW base w' x :=
  ⟨h.1, h.2.kept (row := none) ⟨hb.os, hb.tape, hb.output, hb.size, fun k hk _ => hb.block k hk⟩ (by cases x.2.ownBlock <;> simp)⟩

set_option maxRecDepth 100000 in
set_option maxHeartbeats 1600000 in
theorem eqIn_any (tx out : Int) (wit : List ByteArray) (n : Nat) (wa va : Option Addr) (wc vc : Nat) (w : World) (ha : SR w wa n wit) (hb : SR w va n wit) (hn : n ≤ 9223372036854775807) :
    Calls Try.prog 86 #[.agg #[.int .i64 tx, .int .i64 out, .slice wa n wc], .agg #[.int .i64 tx, .int .i64 out, .slice va n vc]] w fun e w' => e = .returned (.bool true) ∧ Below w.heap.size w w' := by
  have hbel : Below w.heap.size w ((w.alloc (.cells #[.int .i64 tx, .int .i64 out, .slice wa n wc] 96 (0, 0))).alloc (.cells #[.int .i64 tx, .int .i64 out, .slice va n vc] 96 (0, 0))) := ((Below.refl _ _).alloc (Nat.le_refl _) _).alloc (by simp) _
  have v1 : Bk w.heap.size 96 #[.int .i64 tx, .int .i64 out, .slice wa n wc] ((w.alloc (.cells #[.int .i64 tx, .int .i64 out, .slice wa n wc] 96 (0, 0))).alloc (.cells #[.int .i64 tx, .int .i64 out, .slice va n vc] 96 (0, 0))) := (Bk.new _ _ _).alloc _
  have v2 : Bk (w.heap.size + 1) 96 #[.int .i64 tx, .int .i64 out, .slice va n vc] ((w.alloc (.cells #[.int .i64 tx, .int .i64 out, .slice wa n wc] 96 (0, 0))).alloc (.cells #[.int .i64 tx, .int .i64 out, .slice va n vc] 96 (0, 0))) := Bk.new' _ _ _ _ (by simp)
  have hc := eqStringS_any wa va n wc vc wit _ (ha.below hbel) (hb.below hbel) hn
  obtain ⟨c0, c1, c2⟩ := Bk.c3t v1
  obtain ⟨d0, d1, d2⟩ := Bk.c3t v2
  clear v1 v2 ha hb
  go_enter Try.func86, Try.ntmps86
  go_wp2_with fail
  refine hc.mono ?_
  rintro e w1 ⟨rfl, hx⟩
  have hb1 := hbel.trans (hx.mono hbel.size)
  clear hx hc
  go_wp2
  go_ret
  exact ⟨rfl, hb1⟩

set_option maxRecDepth 100000 in
set_option maxHeartbeats 3200000 in
theorem eqInS_any (lo lo' : Nat) (a b : Option Addr) (n c c' : Nat) (l : List Tr.In) (w : World) (ha : InL lo w a n l) (hb : InL lo' w b n l) (hn : n ≤ 1048576) (hz : ∀ x ∈ l, x.wit.length ≤ 9223372036854775807) :
    Calls Try.prog 44 #[.slice a n c, .slice b n c'] w fun e w' => e = .returned (.bool true) ∧ Below w.heap.size w w' := by
  have HL := Lib.hid ha.1
  have HZ := Lib.hid hz
  have HA := Lib.hid ha
  have HB := Lib.hid hb
  clear ha hb hz
  go_enter Try.func44, Try.ntmps44
  go_wp2
  go_loopw [5] (fun i wr => ∃ k : Nat, k ≤ n ∧ i = .int .i64 (k : Int) ∧ Below w.heap.size w wr)
    (fun i _ => n - (intOf i).toNat)
  case atStart => exact ⟨0, by omega, rfl, Below.refl _ _⟩
  case round =>
    obtain ⟨k, hk, rfl, hbel⟩ := hrel
    by_cases hlt : k < n
    · obtain ⟨g, off, rfl, _, _, hc⟩ := HA.out.2 (by omega)
      obtain ⟨wa, wc, c0, c1, c2, c3, _⟩ := hc k hlt
      obtain ⟨g2, off2, rfl, _, _, hd⟩ := HB.out.2 (by omega)
      obtain ⟨va, vc, d0, d1, d2, d3, _⟩ := hd k hlt
      have hkl : k < l.length := by have := HL.out; omega
      have hzk := HZ.out _ (Tr.inAt_mem hkl)
      obtain ⟨x, HX⟩ : ∃ x, Hid (Tr.inAt l k = x) := ⟨_, Lib.hid rfl⟩
      rw [HX.out] at c0 c1 c2 c3 d0 d1 d2 d3 hzk
      obtain ⟨tx, out, wit⟩ := x
      simp only at c0 c1 c2 c3 d0 d1 d2 d3 hzk
      obtain ⟨q, hq⟩ : ∃ q, wit.length = q := ⟨_, rfl⟩
      rw [hq] at c2 c3 d2 d3 hzk
      have hSof : ∀ W, Below w.heap.size w W → ((W.cell? ⟨g, off + k * 3, none⟩ = some (.int .i64 tx) ∧ W.cell? ⟨g, off + k * 3 + 1, none⟩ = some (.int .i64 out) ∧ W.cell? ⟨g, off + k * 3 + 2, none⟩ = some (.slice wa q wc)) ∧ W.cell? ⟨g2, off2 + k * 3, none⟩ = some (.int .i64 tx) ∧ W.cell? ⟨g2, off2 + k * 3 + 1, none⟩ = some (.int .i64 out) ∧ W.cell? ⟨g2, off2 + k * 3 + 2, none⟩ = some (.slice va q vc)) := fun W h => ⟨⟨cell_belT h c0, cell_belT h c1, cell_belT h c2⟩, cell_belT h d0, cell_belT h d1, cell_belT h d2⟩
      have HC : Hid (∀ W, Below w.heap.size w W → Calls Try.prog 86 #[.agg #[.int .i64 tx, .int .i64 out, .slice wa q wc], .agg #[.int .i64 tx, .int .i64 out, .slice va q vc]] W fun e w' => e = .returned (.bool true) ∧ Below W.heap.size W w') := Lib.hid fun W h => eqIn_any tx out wit q wa va wc vc W (c3.below h) (d3.below h) hzk
      have hS0 := hSof wr.drew hbel.drew
      obtain ⟨⟨e0, e1, e2⟩, e3, e4, e5⟩ := hSof wr hbel
      clear c0 c1 c2 c3 d0 d1 d2 d3 hc hd hzk HX hq
      go_wp2
      clear e0 e1 e2 e3 e4 e5
      go_region_held3 (fun W => ((W.cell? ⟨g, off + k * 3, none⟩ = some (.int .i64 tx) ∧ W.cell? ⟨g, off + k * 3 + 1, none⟩ = some (.int .i64 out) ∧ W.cell? ⟨g, off + k * 3 + 2, none⟩ = some (.slice wa q wc)) ∧ W.cell? ⟨g2, off2 + k * 3, none⟩ = some (.int .i64 tx) ∧ W.cell? ⟨g2, off2 + k * 3 + 1, none⟩ = some (.int .i64 out) ∧ W.cell? ⟨g2, off2 + k * 3 + 2, none⟩ = some (.slice va q vc))) (first | with_reducible exact hS0 | with_reducible exact hS1)
        (first | (go_at_call 86; refine (HC.out _ hbel.drew).mono ?_; rintro e w1 ⟨rfl, hb1⟩; have hb2 := below_aftR hbel.drew hb1; have hS1 := hSof w1 hb2))
      go_wp2
      go_roundw
      case rel => exact ⟨k + 1, by omega, by simp, hb2⟩
      case measure => simp [intOf]; omega
    · go_wp2
      go_ret
      exact ⟨rfl, hbel⟩

set_option maxRecDepth 100000 in
set_option maxHeartbeats 1600000 in
theorem eqOut_any (am : Int) (lk : ByteArray) (w : World) :
    Calls Try.prog 87 #[.agg #[.int .i64 am, .string lk], .agg #[.int .i64 am, .string lk]] w fun e w' => e = .returned (.bool true) ∧ Below w.heap.size w w' := by
  have hc := ((Below.refl w.heap.size w).alloc (Nat.le_refl _) (.cells #[.int .i64 am, .string lk] 80 (0, 0))).alloc (by simp) (.cells #[.int .i64 am, .string lk] 80 (0, 0))
  have hq : (lk.toList == lk.toList) = true := by simp
  go_enter Try.func87, Try.ntmps87
  go_wp2
  go_ret
  exact ⟨rfl, hc⟩

set_option maxRecDepth 100000 in
set_option maxHeartbeats 3200000 in
theorem eqOutS_any (lo lo' : Nat) (a b : Option Addr) (n c c' : Nat) (l : List Tr.Out) (w : World) (ha : OuL lo w a n l) (hb : OuL lo' w b n l) (hn : n ≤ 1048576) :
    Calls Try.prog 45 #[.slice a n c, .slice b n c'] w fun e w' => e = .returned (.bool true) ∧ Below w.heap.size w w' := by
  have HA := Lib.hid ha
  have HB := Lib.hid hb
  clear ha hb
  go_enter Try.func45, Try.ntmps45
  go_wp2
  go_loopw [5] (fun i wr => ∃ k : Nat, k ≤ n ∧ i = .int .i64 (k : Int) ∧ Below w.heap.size w wr)
    (fun i _ => n - (intOf i).toNat)
  case atStart => exact ⟨0, by omega, rfl, Below.refl _ _⟩
  case round =>
    obtain ⟨k, hk, rfl, hbel⟩ := hrel
    by_cases hlt : k < n
    · obtain ⟨g, off, rfl, _, _, hc⟩ := HA.out.2 (by omega)
      obtain ⟨c0, c1⟩ := hc k hlt
      obtain ⟨g2, off2, rfl, _, _, hd⟩ := HB.out.2 (by omega)
      obtain ⟨d0, d1⟩ := hd k hlt
      obtain ⟨x, HX⟩ : ∃ x, Hid (Tr.outAt l k = x) := ⟨_, Lib.hid rfl⟩
      rw [HX.out] at c0 c1 d0 d1
      obtain ⟨am, lk⟩ := x
      simp only at c0 c1 d0 d1
      have hSof : ∀ W, Below w.heap.size w W → ((W.cell? ⟨g, off + k * 2, none⟩ = some (.int .i64 am) ∧ W.cell? ⟨g, off + k * 2 + 1, none⟩ = some (.string lk)) ∧ W.cell? ⟨g2, off2 + k * 2, none⟩ = some (.int .i64 am) ∧ W.cell? ⟨g2, off2 + k * 2 + 1, none⟩ = some (.string lk)) := fun W h => ⟨⟨cell_belT h c0, cell_belT h c1⟩, cell_belT h d0, cell_belT h d1⟩
      have hS0 := hSof wr.drew hbel.drew
      obtain ⟨⟨e0, e1⟩, e3, e4⟩ := hSof wr hbel
      clear c0 c1 d0 d1 hc hd HX
      go_wp2
      clear e0 e1 e3 e4
      go_region_held3 (fun W => ((W.cell? ⟨g, off + k * 2, none⟩ = some (.int .i64 am) ∧ W.cell? ⟨g, off + k * 2 + 1, none⟩ = some (.string lk)) ∧ W.cell? ⟨g2, off2 + k * 2, none⟩ = some (.int .i64 am) ∧ W.cell? ⟨g2, off2 + k * 2 + 1, none⟩ = some (.string lk))) (first | with_reducible exact hS0 | with_reducible exact hS1)
        (first | (go_at_call 87; refine (eqOut_any am lk _).mono ?_; rintro e w1 ⟨rfl, hb1⟩; have hb2 := below_aftR hbel.drew hb1; have hS1 := hSof w1 hb2))
      go_wp2
      go_roundw
      case rel => exact ⟨k + 1, by omega, by simp, hb2⟩
      case measure => simp [intOf]; omega
    · go_wp2
      go_ret
      exact ⟨rfl, hbel⟩

set_option maxRecDepth 100000 in
set_option maxHeartbeats 1600000 in
theorem eqTx_any (lo lo' : Nat) (a : Option Addr) (n c : Nat) (b : Option Addr) (m d : Nat) (a' : Option Addr) (c' : Nat) (b' : Option Addr) (d' : Nat) (t : Tr) (w : World) (ha : TrR lo w a n b m t) (hb : TrR lo' w a' n b' m t) (hs : t.small) :
    Calls Try.prog 14 #[.agg #[.slice a n c, .slice b m d, .int .i64 t.after, .string t.note], .agg #[.slice a' n c', .slice b' m d', .int .i64 t.after, .string t.note]] w fun e w' => e = .returned (.bool true) ∧ Below w.heap.size w w' := by
  have hn6 : n ≤ 1048576 := by have := hs.nin; have := ha.ins.1; omega
  have hm6 : m ≤ 1048576 := by have := hs.nout; have := ha.outs.1; omega
  have hbel : Below w.heap.size w ((w.alloc (.cells #[.slice a n c, .slice b m d, .int .i64 t.after, .string t.note] 31 (0, 0))).alloc (.cells #[.slice a' n c', .slice b' m d', .int .i64 t.after, .string t.note] 31 (0, 0))) := ((Below.refl _ _).alloc (Nat.le_refl _) _).alloc (by simp) _
  have v1 : Bk w.heap.size 31 #[.slice a n c, .slice b m d, .int .i64 t.after, .string t.note] ((w.alloc (.cells #[.slice a n c, .slice b m d, .int .i64 t.after, .string t.note] 31 (0, 0))).alloc (.cells #[.slice a' n c', .slice b' m d', .int .i64 t.after, .string t.note] 31 (0, 0))) := (Bk.new _ _ _).alloc _
  have v2 : Bk (w.heap.size + 1) 31 #[.slice a' n c', .slice b' m d', .int .i64 t.after, .string t.note] ((w.alloc (.cells #[.slice a n c, .slice b m d, .int .i64 t.after, .string t.note] 31 (0, 0))).alloc (.cells #[.slice a' n c', .slice b' m d', .int .i64 t.after, .string t.note] 31 (0, 0))) := Bk.new' _ _ _ _ (by simp)
  have hcI := eqInS_any lo lo' a a' n c c' t.ins _ (ha.below hbel).ins (hb.below hbel).ins hn6 (fun x hx => by have := (hs.wit x hx).1; omega)
  have HO : Hid (∀ W, Below w.heap.size w W → Calls Try.prog 45 #[.slice b m d, .slice b' m d'] W fun e w' => e = .returned (.bool true) ∧ Below W.heap.size W w') := Lib.hid fun W h => eqOutS_any lo lo' b b' m d d' t.outs W (ha.below h).outs (hb.below h).outs hm6
  obtain ⟨c0, c1, c2, c3⟩ := Bk.c4 v1
  obtain ⟨d0, d1, d2, d3⟩ := Bk.c4 v2
  have hq : (t.note.toList == t.note.toList) = true := by simp
  clear ha hb hs
  go_enter Try.func14, Try.ntmps14
  go_wp2_with fail
  refine hcI.mono ?_
  rintro e w1 ⟨rfl, hx⟩
  have hb1 := hbel.trans (hx.mono hbel.size)
  have v3 := v1.below hx
  have v4 := v2.below hx
  obtain ⟨e0, e1, e2, e3⟩ := Bk.c4 v3
  obtain ⟨f0, f1, f2, f3⟩ := Bk.c4 v4
  clear hx hcI c0 c1 c2 c3 d0 d1 d2 d3 v1 v2 hbel
  go_wp2_with fail
  refine (HO.out _ hb1).mono ?_
  rintro e w2 ⟨rfl, hx⟩
  have hb2 := hb1.trans (hx.mono hb1.size)
  obtain ⟨c0, c1, c2, c3⟩ := Bk.c4 (v3.below hx)
  obtain ⟨d0, d1, d2, d3⟩ := Bk.c4 (v4.below hx)
  clear hx e0 e1 e2 e3 f0 f1 f2 f3 v3 v4 hb1
  go_wp2
  go_ret
  exact ⟨rfl, hb2⟩

theorem Bk.f3t {B : Nat} {t : TypeId} {cs : Array Value} {w : World} (h : Bk B t cs w) : w.frozen? ⟨B, 0, none⟩ = false ∧ w.frozen? ⟨B, 1, none⟩ = false ∧ w.frozen? ⟨B, 2, none⟩ = false := ⟨h.fro 0, h.fro 1, h.fro 2⟩
theorem Bk.store3t {B : Nat} {t : TypeId} {u0 u1 u2 : Value} {w : World} (h : Bk B t #[u0, u1, u2] w) (v0 v1 v2 : Value) : Bk B t #[v0, v1, v2] (((w.setCell ⟨B, 0, none⟩ v0).setCell ⟨B, 1, none⟩ v1).setCell ⟨B, 2, none⟩ v2) :=
  ((h.set 0 v0).set 1 v1).set 2 v2
theorem below_set3 {n : Nat} {w w' : World} (h : Below n w w') (B : Nat) (hB : n ≤ B) (i j k : Nat) (v0 v1 v2 : Value) : Below n w (((w'.setCell ⟨B, i, none⟩ v0).setCell ⟨B, j, none⟩ v1).setCell ⟨B, k, none⟩ v2) :=
  ((h.setCell (p := ⟨B, i, none⟩) hB v0).setCell (p := ⟨B, j, none⟩) hB v1).setCell (p := ⟨B, k, none⟩) hB v2
set_option maxRecDepth 100000 in
set_option maxHeartbeats 3200000 in
theorem toIn_any (tx out : Int) (wit : List ByteArray) (n : Nat) (wa : Option Addr) (wc : Nat) (w : World) (hs : SR w wa n wit) (hn : n ≤ 1048576) :
    Calls Try.prog 80 #[.agg #[.int .i64 tx, .int .i64 out, .slice wa n wc]] w fun e w' => ∃ g, e = .returned (.agg #[.int .i64 tx, .int .i64 out, .slice (some ⟨g, 0, none⟩) n n]) ∧ w'.ownsRow w.heap.size 9 1 (.slice (some ⟨g, 0, none⟩) n n) n (wit.map Value.string) ∧ Below w.heap.size w w' := by
  have hb0 : Below w.heap.size w (((w.alloc (.cells #[.int .i64 tx, .int .i64 out, .slice wa n wc] 99 (0, 0))).alloc (.cells #[.int .i64 0, .int .i64 0, .slice none 0 0] 96 (0, 0))).alloc (.cells #[.int .i64 tx, .int .i64 out, .slice none 0 0] 96 (0, 0))) := (((Below.refl _ _).alloc (Nat.le_refl _) _).alloc (by simp) _).alloc (by simp; omega) _
  have v0 : Bk w.heap.size 99 #[.int .i64 tx, .int .i64 out, .slice wa n wc] (((w.alloc (.cells #[.int .i64 tx, .int .i64 out, .slice wa n wc] 99 (0, 0))).alloc (.cells #[.int .i64 0, .int .i64 0, .slice none 0 0] 96 (0, 0))).alloc (.cells #[.int .i64 tx, .int .i64 out, .slice none 0 0] 96 (0, 0))) := ((Bk.new _ _ _).alloc _).alloc _
  have v1 : Bk (w.heap.size + 1) 96 #[.int .i64 0, .int .i64 0, .slice none 0 0] (((w.alloc (.cells #[.int .i64 tx, .int .i64 out, .slice wa n wc] 99 (0, 0))).alloc (.cells #[.int .i64 0, .int .i64 0, .slice none 0 0] 96 (0, 0))).alloc (.cells #[.int .i64 tx, .int .i64 out, .slice none 0 0] 96 (0, 0))) := (Bk.new' _ _ _ _ (by simp)).alloc _
  have v2 : Bk (w.heap.size + 1 + 1) 96 #[.int .i64 tx, .int .i64 out, .slice none 0 0] (((w.alloc (.cells #[.int .i64 tx, .int .i64 out, .slice wa n wc] 99 (0, 0))).alloc (.cells #[.int .i64 0, .int .i64 0, .slice none 0 0] 96 (0, 0))).alloc (.cells #[.int .i64 tx, .int .i64 out, .slice none 0 0] 96 (0, 0))) := Bk.new' _ _ _ _ (by simp)
  have hc := toStrs_row wa n wc wit _ (hs.below hb0) hn
  obtain ⟨c0, c1, c2⟩ := Bk.c3t v0
  clear hs
  go_enter Try.func80, Try.ntmps80
  go_wp2_with fail
  refine hc.mono ?_
  rintro e w1 ⟨g, rfl, hown, hx⟩
  have hb1 := hb0.trans (hx.mono hb0.size)
  have u1 := v1.below hx
  have u2 := v2.below hx
  have hown := ownsRow_base hown hb0.size
  have u2s := u2.set 2 (.slice (some ⟨g, 0, none⟩) n n)
  have u1s := u1.oset (w.heap.size + 1 + 1) 2 (.slice (some ⟨g, 0, none⟩) n n) (by omega)
  have hownS := own_grownT hown u2 (by decide) (grownBy_set w1 (w.heap.size + 1 + 1) 2 (.slice (some ⟨g, 0, none⟩) n n))
  have hb2 := hb1.setCell (p := ⟨w.heap.size + 1 + 1, 2, none⟩) (by simp only; omega) (.slice (some ⟨g, 0, none⟩) n n)
  have hR := u1s.store3t (.int .i64 tx) (.int .i64 out) (.slice (some ⟨g, 0, none⟩) n n)
  have hOF := own_grownT hownS u1s (by decide) (grown_set3 _ (w.heap.size + 1) 0 1 2 (.int .i64 tx) (.int .i64 out) (.slice (some ⟨g, 0, none⟩) n n))
  have hbF := below_set3 hb2 (w.heap.size + 1) (by omega) 0 1 2 (.int .i64 tx) (.int .i64 out) (.slice (some ⟨g, 0, none⟩) n n)
  obtain ⟨d0, d1, d2⟩ := Bk.c3t u2
  obtain ⟨f0, f1, f2⟩ := Bk.f3t u2
  obtain ⟨e0, e1, e2⟩ := Bk.c3t u2s
  obtain ⟨k0, k1, k2⟩ := Bk.c3t u1s
  obtain ⟨h0, h1, h2⟩ := Bk.f3t u1s
  obtain ⟨m0, m1, m2⟩ := Bk.c3t u1
  obtain ⟨q0, q1, q2⟩ := Bk.f3t u1
  clear hx hc c0 c1 c2 v0 v1 v2 hown hownS hb2 hb1 hb0
  go_wp2
  refine bodyPost_ret (results_cell_row (P := Try.prog) rfl _ _ (w.heap.size + 1) 96 _ (0, 0) _ rfl hR.held Try.underlying96 rfl (by kernel_rfl)) rfl ?_
  exact ⟨g, rfl, hOF, hbF⟩

set_option maxRecDepth 100000 in
set_option maxHeartbeats 3200000 in
theorem toInS_any (lo : Nat) (a : Option Addr) (n c : Nat) (l : List Tr.In) (w : World) (h : InL lo w a n l) (hn : n ≤ 1048576) (hz : ∀ x ∈ l, x.wit.length ≤ 1048576) :
    Calls Try.prog 39 #[.slice a n c] w fun e w' => ∃ g ll, e = .returned (.slice (some ⟨g, 0, none⟩) n n) ∧ Hid (ll.map Prod.fst = l) ∧ OwnI w.heap.size w' (.slice (some ⟨g, 0, none⟩) n n) ll ∧ Hid (DistW ll) ∧ Below w.heap.size w w' := by
  obtain ⟨i0, hi, hz0, hz1, hz2⟩ := info_parts info_in13
  have hmk : ∀ W : World, (Instr.makeSlice 28 (.int .i64 (n : Int)) (.int .i64 (n : Int))).run Try.prog W = .ok (.slice (some ⟨W.heap.size, 0, none⟩) n n) (W.alloc (.cells (madeCells #[.int .i64 0, .int .i64 0, .slice none 0 0] (n * 3)) 96)) := fun W => by
    have := run_make (P := Try.prog) W 28 96 i0 _ Try.underlying28 hi hz0 .i64 .i64 (n : Int) (n : Int) (by omega) (by omega) (by rw [hz2]; omega) (by omega)
    rw [hz1] at this
    simpa [Value.cells] using this
  have HL := Lib.hid h.1
  have HH := Lib.hid h
  have HZ := Lib.hid hz
  have HR0 : Hid (RB 96 3 w.heap.size n (Tr.ics []) (w.alloc (.cells (madeCells #[.int .i64 0, .int .i64 0, .slice none 0 0] (n * 3)) 96))) := Lib.hid (RB.new w _ 3 n _)
  clear hi hz0 hz1 hz2 h hz
  go_enter Try.func39, Try.ntmps39
  go_wp2
  go_loopw [4] (fun i wr => ∃ k : Nat, k ≤ n ∧ i = .int .i64 (k : Int) ∧ (∃ ll : List (Tr.In × Value), Hid (ll.map Prod.fst = l.take k) ∧ ll.length = k ∧ Hid (RB 96 3 w.heap.size n (Tr.ics ll) wr) ∧ Hid (∀ x ∈ ll, OwnW w.heap.size wr x) ∧ Hid (DistW ll)) ∧ Below w.heap.size w wr)
    (fun i _ => n - (intOf i).toNat)
  case atStart => exact ⟨0, by omega, rfl, ⟨[], Lib.hid rfl, rfl, HR0, Lib.hid (by simp), Lib.hid DistW.nil⟩, (Below.refl _ _).alloc (Nat.le_refl _) _⟩
  case round =>
    obtain ⟨k, hk, rfl, ⟨ll, hfst, hll, hrb, how, hdi⟩, hbel⟩ := hrel
    by_cases hlt : k < n
    · obtain ⟨g0, off, rfl, _, _, hc⟩ := (HH.out.below hbel).2 (by omega)
      obtain ⟨wa, wc, c0, c1, c2, c3, _⟩ := hc k hlt
      have hkl : k < l.length := by have := HL.out; omega
      have hzk := HZ.out _ (Tr.inAt_mem hkl)
      have HT : Hid (∀ x, Tr.inAt l k = x → l.take (k + 1) = l.take k ++ [x]) := Lib.hid fun x hx => by
        rw [List.take_add_one, Tr.inAt_get hkl, hx]
        rfl
      obtain ⟨x, HX⟩ : ∃ x, Hid (Tr.inAt l k = x) := ⟨_, Lib.hid rfl⟩
      rw [HX.out] at c0 c1 c2 c3 hzk
      have HT2 := Lib.hid (HT.out x HX.out)
      obtain ⟨tx, out, wit⟩ := x
      simp only at c0 c1 c2 c3 hzk
      obtain ⟨q, hq⟩ : ∃ q, Hid (wit.length = q) := ⟨_, Lib.hid rfl⟩
      rw [hq.out] at c2 c3 hzk
      have hcon := toIn_any tx out wit q wa wc wr c3 hzk
      clear hc c3 hzk HX HT
      go_wp2_with fail
      refine hcon.mono ?_
      rintro e w1 ⟨g, rfl, hown, hx⟩
      have hrb1 := hrb.out.below hx
      have hbel1 := below_aftR hbel hx
      have HW1 : Hid (∀ y ∈ ll, OwnW w.heap.size w1 y) := Lib.hid fun y hy => (how.out y hy).belowT hx
      have HNW : Hid (OwnW w.heap.size w1 (⟨tx, out, wit⟩, .slice (some ⟨g, 0, none⟩) q q)) := Lib.hid ⟨⟨_, q, by simp only; rw [hq.out]⟩, by simp only; rw [hq.out]; exact ownsRow_base hown hbel.size⟩
      have HD2 : Hid (DistW (ll ++ [(⟨tx, out, wit⟩, .slice (some ⟨g, 0, none⟩) q q)])) := Lib.hid (hdi.out.push fun y hy => own_later (how.out y hy).2 hown (Nat.le_refl _))
      have hic : (Tr.ics ll).length = k * 3 := by rw [Tr.ics_length, hll]
      obtain ⟨z0, s0⟩ := hrb1.slot (k * 3) (by omega)
      obtain ⟨z1, s1⟩ := hrb1.slot (k * 3 + 1) (by omega)
      obtain ⟨z2, s2⟩ := hrb1.slot (k * 3 + 2) (by omega)
      have f0 := hrb1.fro (k * 3)
      have f1 := hrb1.fro (k * 3 + 1)
      have f2 := hrb1.fro (k * 3 + 2)
      have HRB2 : Hid (RB 96 3 w.heap.size n (Tr.ics (ll ++ [(⟨tx, out, wit⟩, .slice (some ⟨g, 0, none⟩) q q)])) (((w1.setCell ⟨w.heap.size, k * 3, none⟩ (.int .i64 tx)).setCell ⟨w.heap.size, k * 3 + 1, none⟩ (.int .i64 out)).setCell ⟨w.heap.size, k * 3 + 2, none⟩ (.slice (some ⟨g, 0, none⟩) q q))) := Lib.hid (by
        have h3 := ((hrb1.step (k * 3) hic.symm (by omega) (.int .i64 tx)).step (k * 3 + 1) (by rw [List.length_append, hic]; rfl) (by omega) (.int .i64 out)).step (k * 3 + 2) (by rw [List.length_append, List.length_append, hic]; rfl) (by omega) (.slice (some ⟨g, 0, none⟩) q q)
        rw [Tr.ics_append]
        simpa [Tr.ics] using h3)
      have hgr := grown_set3 w1 w.heap.size (k * 3) (k * 3 + 1) (k * 3 + 2) (.int .i64 tx) (.int .i64 out) (.slice (some ⟨g, 0, none⟩) q q)
      have HW2 : Hid (∀ y ∈ ll ++ [((⟨tx, out, wit⟩ : Tr.In), Value.slice (some ⟨g, 0, none⟩) q q)], OwnW w.heap.size (((w1.setCell ⟨w.heap.size, k * 3, none⟩ (.int .i64 tx)).setCell ⟨w.heap.size, k * 3 + 1, none⟩ (.int .i64 out)).setCell ⟨w.heap.size, k * 3 + 2, none⟩ (.slice (some ⟨g, 0, none⟩) q q)) y) := Lib.hid fun y hy => by
        obtain ⟨cs, hbk⟩ := hrb1.bk
        rcases List.mem_append.1 hy with hy | hy
        · exact (HW1.out y hy).grownT hbk (by decide) hgr
        · rw [List.mem_singleton] at hy
          subst hy
          exact HNW.out.grownT hbk (by decide) hgr
      have HF2 : Hid ((ll ++ [((⟨tx, out, wit⟩ : Tr.In), Value.slice (some ⟨g, 0, none⟩) q q)]).map Prod.fst = l.take (k + 1)) := Lib.hid (by rw [List.map_append, hfst.out, HT2.out]; rfl)
      have hbel2 := below_set3 hbel1 w.heap.size (Nat.le_refl _) (k * 3) (k * 3 + 1) (k * 3 + 2) (.int .i64 tx) (.int .i64 out) (.slice (some ⟨g, 0, none⟩) q q)
      have hll2 : (ll ++ [((⟨tx, out, wit⟩ : Tr.In), Value.slice (some ⟨g, 0, none⟩) q q)]).length = k + 1 := by rw [List.length_append, hll]; rfl
      clear hrb1 hbel1 hown hx hcon hfst hrb how hdi HT2 HW1 HNW hgr hbel c0 c1 c2
      go_wp2
      go_roundw
      case rel => exact ⟨k + 1, by omega, by simp, ⟨_, HF2, hll2, HRB2, HW2, HD2⟩, hbel2⟩
      case measure => simp [intOf]; omega
    · have hk2 : k = n := by omega
      have HE : Hid (OwnI w.heap.size wr (.slice (some ⟨w.heap.size, 0, none⟩) n n) ll) := Lib.hid ⟨by
        have := hrb.out.own (by rw [Tr.ics_length]; omega) (Nat.le_refl _) (by omega)
        rw [hll, hk2]
        exact this, how.out⟩
      have HF : Hid (ll.map Prod.fst = l) := Lib.hid (by rw [hfst.out, hk2, ← HL.out, List.take_length])
      clear hrb how
      go_wp2
      go_ret
      exact ⟨_, ll, rfl, HF, HE.out, hdi, hbel⟩

set_option maxRecDepth 100000 in
set_option maxHeartbeats 3200000 in
theorem toOut_any (am : Int) (lk : ByteArray) (w : World) :
    Calls Try.prog 81 #[.agg #[.int .i64 am, .string lk]] w fun e w' => e = .returned (.agg #[.int .i64 am, .string lk]) ∧ Below w.heap.size w w' := by
  have HX : ∀ X Y, Bk (w.heap.size + 1) 80 #[.int .i64 am, .string lk] (((w.alloc X).alloc (.cells #[.int .i64 am, .string lk] 80 (0, 0))).alloc Y) := fun X Y => (Bk.new' _ _ _ _ (by simp)).alloc Y
  go_enter Try.func81, Try.ntmps81
  go_wp2
  refine bodyPost_ret (results_cell_row (P := Try.prog) rfl _ _ (w.heap.size + 1) 80 _ (0, 0) _ rfl (HX _ _).held Try.underlying80 rfl (by kernel_rfl)) rfl ?_
  exact ⟨rfl, (((Below.refl _ _).alloc (Nat.le_refl _) _).alloc (by simp) _).alloc (by simp; omega) _⟩
set_option maxRecDepth 100000 in
set_option maxHeartbeats 3200000 in
theorem toOutS_any (lo : Nat) (a : Option Addr) (n c : Nat) (l : List Tr.Out) (w : World) (h : OuL lo w a n l) (hn : n ≤ 1048576) :
    Calls Try.prog 40 #[.slice a n c] w fun e w' => ∃ g, e = .returned (.slice (some ⟨g, 0, none⟩) n n) ∧ OwnO w.heap.size w' (.slice (some ⟨g, 0, none⟩) n n) l ∧ Below w.heap.size w w' := by
  obtain ⟨i0, hi, hz0, hz1, hz2⟩ := info_parts info_out13
  have hmk : ∀ W : World, (Instr.makeSlice 29 (.int .i64 (n : Int)) (.int .i64 (n : Int))).run Try.prog W = .ok (.slice (some ⟨W.heap.size, 0, none⟩) n n) (W.alloc (.cells (madeCells #[.int .i64 0, .string ⟨#[]⟩] (n * 2)) 80)) := fun W => by
    have := run_make (P := Try.prog) W 29 80 i0 _ Try.underlying29 hi hz0 .i64 .i64 (n : Int) (n : Int) (by omega) (by omega) (by rw [hz2]; omega) (by omega)
    rw [hz1] at this
    simpa [Value.cells] using this
  have HL := Lib.hid h.1
  have HH := Lib.hid h
  have HR0 : Hid (RB 80 2 w.heap.size n (Tr.ocs (l.take 0)) (w.alloc (.cells (madeCells #[.int .i64 0, .string ⟨#[]⟩] (n * 2)) 80))) := Lib.hid (RB.new w _ 2 n _)
  clear hi hz0 hz1 hz2 h
  go_enter Try.func40, Try.ntmps40
  go_wp2
  go_loopw [4] (fun i wr => ∃ k : Nat, k ≤ n ∧ i = .int .i64 (k : Int) ∧ Hid (RB 80 2 w.heap.size n (Tr.ocs (l.take k)) wr) ∧ Below w.heap.size w wr)
    (fun i _ => n - (intOf i).toNat)
  case atStart => exact ⟨0, by omega, rfl, HR0, (Below.refl _ _).alloc (Nat.le_refl _) _⟩
  case round =>
    obtain ⟨k, hk, rfl, hrb, hbel⟩ := hrel
    by_cases hlt : k < n
    · obtain ⟨g0, off, rfl, _, _, hc⟩ := (HH.out.below hbel).2 (by omega)
      obtain ⟨c0, c1⟩ := hc k hlt
      have hkl : k < l.length := by have := HL.out; omega
      have HT : Hid (∀ x, Tr.outAt l k = x → l.take (k + 1) = l.take k ++ [x]) := Lib.hid fun x hx => by
        rw [List.take_add_one, Tr.outAt_get hkl, hx]
        rfl
      have hic : (Tr.ocs (l.take k)).length = k * 2 := by rw [Tr.ocs_length, List.length_take]; omega
      obtain ⟨x, HX⟩ : ∃ x, Hid (Tr.outAt l k = x) := ⟨_, Lib.hid rfl⟩
      rw [HX.out] at c0 c1
      have HT2 := Lib.hid (HT.out x HX.out)
      obtain ⟨am, lk⟩ := x
      simp only at c0 c1
      clear hc HX HT
      go_wp2_with fail
      refine (toOut_any am lk _).mono ?_
      rintro e w1 ⟨rfl, hx⟩
      have hrb1 := hrb.out.below hx
      have hbel1 := below_aftR hbel hx
      obtain ⟨z0, s0⟩ := hrb1.slot (k * 2) (by omega)
      obtain ⟨z1, s1⟩ := hrb1.slot (k * 2 + 1) (by omega)
      have f0 := hrb1.fro (k * 2)
      have f1 := hrb1.fro (k * 2 + 1)
      have HRB2 : Hid (RB 80 2 w.heap.size n (Tr.ocs (l.take (k + 1))) ((w1.setCell ⟨w.heap.size, k * 2, none⟩ (.int .i64 am)).setCell ⟨w.heap.size, k * 2 + 1, none⟩ (.string lk))) := Lib.hid (by
        have h3 := (hrb1.step (k * 2) hic.symm (by omega) (.int .i64 am)).step (k * 2 + 1) (by rw [List.length_append, hic]; rfl) (by omega) (.string lk)
        rw [HT2.out, Tr.ocs_append]
        simpa [Tr.ocs] using h3)
      have hbel2 := (hbel1.setCell (p := ⟨w.heap.size, k * 2, none⟩) (Nat.le_refl _) (.int .i64 am)).setCell (p := ⟨w.heap.size, k * 2 + 1, none⟩) (Nat.le_refl _) (.string lk)
      clear hrb1 hbel1 hx hrb HT2 hbel c0 c1 hic
      go_wp2
      go_roundw
      case rel => exact ⟨k + 1, by omega, by simp, HRB2, hbel2⟩
      case measure => simp [intOf]; omega
    · have hk2 : k = n := by omega
      have HE : Hid (OwnO w.heap.size wr (.slice (some ⟨w.heap.size, 0, none⟩) n n) l) := Lib.hid (by
        have h1 := hrb.out
        rw [hk2, ← HL.out, List.take_length, HL.out] at h1
        unfold OwnO
        rw [HL.out]
        exact h1.own (by rw [Tr.ocs_length, HL.out]) (Nat.le_refl _) (by omega))
      clear hrb
      go_wp2
      go_ret
      exact ⟨_, rfl, HE.out, hbel⟩

/-- A copy of a transaction that the call owns. -/
def ToTxQ (n m : Nat) (t : Tr) (w : World) (e : Ending) (w' : World) : Prop :=
  ∃ g1 g2 ll, e = .returned (.agg #[.slice (some ⟨g1, 0, none⟩) n n, .slice (some ⟨g2, 0, none⟩) m m, .int .i64 t.after, .string t.note]) ∧ Hid (ll.map Prod.fst = t.ins) ∧ OwnI w.heap.size w' (.slice (some ⟨g1, 0, none⟩) n n) ll ∧ OwnO w.heap.size w' (.slice (some ⟨g2, 0, none⟩) m m) t.outs ∧ Hid (DistW ll) ∧ Below w.heap.size w w'
set_option maxRecDepth 100000 in
set_option maxHeartbeats 3200000 in
theorem toTx_any (lo : Nat) (a : Option Addr) (n c : Nat) (b : Option Addr) (m d : Nat) (t : Tr) (w : World) (h : TrR lo w a n b m t) (hs : t.small) :
    Calls Try.prog 12 #[.agg #[.slice a n c, .slice b m d, .int .i64 t.after, .string t.note]] w (ToTxQ n m t w) := by
  have hn6 : n ≤ 1048576 := by have := hs.nin; have := h.ins.1; omega
  have hm6 : m ≤ 1048576 := by have := hs.nout; have := h.outs.1; omega
  have hb0 : Below w.heap.size w (((w.alloc (.cells #[.slice a n c, .slice b m d, .int .i64 t.after, .string t.note] 25 (0, 0))).alloc (.cells #[.slice none 0 0, .slice none 0 0, .int .i64 0, .string ⟨#[]⟩] 31 (0, 0))).alloc (.cells #[.slice none 0 0, .slice none 0 0, .int .i64 0, .string ⟨#[]⟩] 31 (0, 0))) := (((Below.refl _ _).alloc (Nat.le_refl _) _).alloc (by simp) _).alloc (by simp; omega) _
  have v0 : Bk w.heap.size 25 #[.slice a n c, .slice b m d, .int .i64 t.after, .string t.note] (((w.alloc (.cells #[.slice a n c, .slice b m d, .int .i64 t.after, .string t.note] 25 (0, 0))).alloc (.cells #[.slice none 0 0, .slice none 0 0, .int .i64 0, .string ⟨#[]⟩] 31 (0, 0))).alloc (.cells #[.slice none 0 0, .slice none 0 0, .int .i64 0, .string ⟨#[]⟩] 31 (0, 0))) := ((Bk.new _ _ _).alloc _).alloc _
  have v1 : Bk (w.heap.size + 1) 31 #[.slice none 0 0, .slice none 0 0, .int .i64 0, .string ⟨#[]⟩] (((w.alloc (.cells #[.slice a n c, .slice b m d, .int .i64 t.after, .string t.note] 25 (0, 0))).alloc (.cells #[.slice none 0 0, .slice none 0 0, .int .i64 0, .string ⟨#[]⟩] 31 (0, 0))).alloc (.cells #[.slice none 0 0, .slice none 0 0, .int .i64 0, .string ⟨#[]⟩] 31 (0, 0))) := (Bk.new' _ _ _ _ (by simp)).alloc _
  have v2 : Bk (w.heap.size + 1 + 1) 31 #[.slice none 0 0, .slice none 0 0, .int .i64 0, .string ⟨#[]⟩] (((w.alloc (.cells #[.slice a n c, .slice b m d, .int .i64 t.after, .string t.note] 25 (0, 0))).alloc (.cells #[.slice none 0 0, .slice none 0 0, .int .i64 0, .string ⟨#[]⟩] 31 (0, 0))).alloc (.cells #[.slice none 0 0, .slice none 0 0, .int .i64 0, .string ⟨#[]⟩] 31 (0, 0))) := Bk.new' _ _ _ _ (by simp)
  have hcI := toInS_any lo a n c t.ins _ (h.below hb0).ins hn6 (fun x hx => (hs.wit x hx).1)
  have HO : Hid (∀ W, Below w.heap.size w W → Calls Try.prog 40 #[.slice b m d] W fun e w' => ∃ g, e = .returned (.slice (some ⟨g, 0, none⟩) m m) ∧ OwnO W.heap.size w' (.slice (some ⟨g, 0, none⟩) m m) t.outs ∧ Below W.heap.size W w') := Lib.hid fun W hW => toOutS_any lo b m d t.outs W (h.below hW).outs hm6
  obtain ⟨c0, c1, c2, c3⟩ := Bk.c4 v0
  clear h hs
  unfold ToTxQ
  go_enter Try.func12, Try.ntmps12
  go_wp2_with fail
  refine hcI.mono ?_
  rintro e w1 ⟨g1, ll, rfl, HF, hoi, HDI, hx⟩
  have hb1 := hb0.trans (hx.mono hb0.size)
  have u0 := v0.below hx
  have u1 := v1.below hx
  have u2 := v2.below hx
  have hoi := hoi.base13 hb0.size
  have u2s := u2.set 0 (.slice (some ⟨g1, 0, none⟩) n n)
  have u1s := u1.oset (w.heap.size + 1 + 1) 0 (.slice (some ⟨g1, 0, none⟩) n n) (by omega)
  have u0s := u0.oset (w.heap.size + 1 + 1) 0 (.slice (some ⟨g1, 0, none⟩) n n) (by omega)
  have HOI : Hid (OwnI w.heap.size (w1.setCell ⟨w.heap.size + 1 + 1, 0, none⟩ (.slice (some ⟨g1, 0, none⟩) n n)) (.slice (some ⟨g1, 0, none⟩) n n) ll) := Lib.hid (hoi.set13 u2)
  have hb2 := hb1.setCell (p := ⟨w.heap.size + 1 + 1, 0, none⟩) (by simp only; omega) (.slice (some ⟨g1, 0, none⟩) n n)
  obtain ⟨e0, e1, e2, e3⟩ := Bk.c4 u2
  obtain ⟨f0, f1, f2, f3⟩ := Bk.f4 u2
  obtain ⟨d0, d1, d2, d3⟩ := Bk.c4 u0s
  obtain ⟨W2, HW2⟩ : ∃ W, Hid (w1.setCell ⟨w.heap.size + 1 + 1, 0, none⟩ (.slice (some ⟨g1, 0, none⟩) n n) = W) := ⟨_, Lib.hid rfl⟩
  have hcO := HO.out _ hb2
  clear hx hcI c0 c1 c2 c3 v0 v1 v2 hoi hb1 hb0 u0 u1 u2
  go_wp2_with fail
  refine hcO.mono ?_
  rintro e w3 ⟨g2, rfl, hoo, hx⟩
  have hb3 := hb2.trans (hx.mono hb2.size)
  have HOI3 := Lib.hid (HOI.out.below13 hx)
  have hoo := Lib.hid (ownsRow_base (show World.ownsRow _ _ 80 2 (.slice (some ⟨g2, 0, none⟩) m m) t.outs.length (Tr.ocs t.outs) from hoo) hb2.size)
  have r0 := u0s.below hx
  have r1 := u1s.below hx
  have r2 := u2s.below hx
  have q2 := ((r2.set 1 (.slice (some ⟨g2, 0, none⟩) m m)).set 2 (.int .i64 t.after)).set 3 (.string t.note)
  have q1 := ((r1.oset (w.heap.size + 1 + 1) 1 (.slice (some ⟨g2, 0, none⟩) m m) (by omega)).oset (w.heap.size + 1 + 1) 2 (.int .i64 t.after) (by omega)).oset (w.heap.size + 1 + 1) 3 (.string t.note) (by omega)
  have p0 := r0.oset (w.heap.size + 1 + 1) 1 (.slice (some ⟨g2, 0, none⟩) m m) (by omega)
  have p00 := p0.oset (w.heap.size + 1 + 1) 2 (.int .i64 t.after) (by omega)
  have p2 := r2.set 1 (.slice (some ⟨g2, 0, none⟩) m m)
  have p22 := p2.set 2 (.int .i64 t.after)
  have HOI4 := Lib.hid (((HOI3.out.set13 (i := 1) (u := (.slice (some ⟨g2, 0, none⟩) m m)) r2).set13 (i := 2) (u := .int .i64 t.after) p2).set13 (i := 3) (u := .string t.note) p22)
  have HOO4 := Lib.hid ((OwnO.set13 (OwnO.set13 (OwnO.set13 (show OwnO w.heap.size w3 (.slice (some ⟨g2, 0, none⟩) m m) t.outs from hoo.out) (i := 1) (u := (.slice (some ⟨g2, 0, none⟩) m m)) r2) (i := 2) (u := .int .i64 t.after) p2) (i := 3) (u := .string t.note) p22))
  have hb4 := ((hb3.setCell (p := ⟨w.heap.size + 1 + 1, 1, none⟩) (by simp only; omega) (.slice (some ⟨g2, 0, none⟩) m m)).setCell (p := ⟨w.heap.size + 1 + 1, 2, none⟩) (by simp only; omega) (.int .i64 t.after)).setCell (p := ⟨w.heap.size + 1 + 1, 3, none⟩) (by simp only; omega) (.string t.note)
  have hR := q1.store4 (.slice (some ⟨g1, 0, none⟩) n n) (.slice (some ⟨g2, 0, none⟩) m m) (.int .i64 t.after) (.string t.note)
  have HOI5 := Lib.hid ((((HOI4.out.set13 (i := 0) (u := (.slice (some ⟨g1, 0, none⟩) n n)) q1).set13 (i := 1) (u := (.slice (some ⟨g2, 0, none⟩) m m)) (q1.set 0 _)).set13 (i := 2) (u := .int .i64 t.after) ((q1.set 0 _).set 1 _)).set13 (i := 3) (u := .string t.note) (((q1.set 0 _).set 1 _).set 2 _))
  have HOO5 := Lib.hid (OwnO.set13 (OwnO.set13 (OwnO.set13 (OwnO.set13 HOO4.out (i := 0) (u := (.slice (some ⟨g1, 0, none⟩) n n)) q1) (i := 1) (u := (.slice (some ⟨g2, 0, none⟩) m m)) (q1.set 0 _)) (i := 2) (u := .int .i64 t.after) ((q1.set 0 _).set 1 _)) (i := 3) (u := .string t.note) (((q1.set 0 _).set 1 _).set 2 _))
  have HB5 := Lib.hid (below_store4 hb4 (w.heap.size + 1) (by omega) (.slice (some ⟨g1, 0, none⟩) n n) (.slice (some ⟨g2, 0, none⟩) m m) (.int .i64 t.after) (.string t.note))
  obtain ⟨k0, k1, k2, k3⟩ := Bk.c4 r0
  obtain ⟨l0, l1, l2, l3⟩ := Bk.c4 r2
  obtain ⟨m0, m1, m2, m3⟩ := Bk.f4 r2
  obtain ⟨n0, n1, n2, n3⟩ := Bk.c4 p0
  obtain ⟨o0, o1, o2, o3⟩ := Bk.c4 p2
  obtain ⟨s0, s1, s2, s3⟩ := Bk.f4 p2
  obtain ⟨a0, a1, a2, a3⟩ := Bk.c4 p00
  obtain ⟨b0, b1, b2, b3⟩ := Bk.c4 p22
  obtain ⟨t0, t1, t2, t3⟩ := Bk.f4 p22
  obtain ⟨x0, x1, x2, x3⟩ := Bk.c4 q2
  obtain ⟨y0, y1, y2, y3⟩ := Bk.c4 q1
  obtain ⟨z0, z1, z2, z3⟩ := Bk.f4 q1
  have HRR := Lib.hid hR
  clear hx hcO d0 d1 d2 d3 e0 e1 e2 e3 f0 f1 f2 f3 HOI HOI3 hoo HOI4 HOO4 hb4 hb3 hb2 u0s u1s u2s
  go_wp2
  refine bodyPost_ret (results_cell_row (P := Try.prog) rfl _ _ (w.heap.size + 1) 31 _ (0, 0) _ rfl HRR.out.held Try.underlying31 rfl (by kernel_rfl)) rfl ?_
  exact ⟨g1, g2, ll, rfl, HF, HOI5.out, HOO5.out, HDI, HB5.out⟩
end Go.Proofs.Ytedjbikphdflhab
