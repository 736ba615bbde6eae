import Derived.Test.YtdaffohimifecaaGreatPa
import Derived.Test.YtdaffohimifecaaGreatBk
import Derived.Test.YtdaffohimifecaaGreatOw
import Derived.Test.YtdaffohimifecaaGreatSl
import Derived.Below
import Derived.WalkKit
import Derived.WalkSpells
import Derived.Outline
import Derived.LoopTactic
import Derived.Deep.RegionHeld3
import Derived.Deep.DeepMust
import Derived.Deep.QuietTactic
import Derived.BigQuiet
import Derived.Laws.StructEq
import Derived.Lib.SmallJoins
import Derived.OpenShut
/-
  Lists of operations: what a slice holds; the laws' own helpers.
-/
namespace Go.Proofs.YtdaffohimifecaaGreat
open Go.RowKit

theorem below_alc {n : Nat} {w w1 : World} (h : Below n w w1) (hn : n ≤ w1.heap.size) (o : Obj) : Below n w (w1.alloc o) := h.alloc hn o
theorem below_aft9 {w w1 w2 : World} (h : Below w.heap.size w w1) (k : Below w1.heap.size w1 w2) : Below w.heap.size w w2 := h.trans (k.mono h.size)
theorem below_drewN10 {n : Nat} {w w' : World} (h : Below n w w') (k : Nat) : Below n w (w'.drewN k) := ⟨h.os, h.tape, h.output, h.size, h.block⟩
def Jo.z : Jo := ⟨0, 0, 0, ⟨#[]⟩⟩
def Jo.at_ (l : List Jo) (j : Nat) : Jo := l.getD j Jo.z
theorem Jo.at_get {l : List Jo} {j : Nat} (h : j < l.length) : l[j]? = some (Jo.at_ l j) := by
  unfold Jo.at_
  rw [List.getD_eq_getElem?_getD, List.getElem?_eq_getElem h]
  rfl
/-- The slice at a holds the len operations l. -/
def OL (w : World) (a : Option Addr) (len : Nat) (l : List Jo) : Prop :=
  l.length = len ∧ (0 < len → ∃ b off, a = some ⟨b, off, none⟩ ∧ b < w.heap.size ∧ ∀ j, j < len → w.cell? ⟨b, off + j * 4, none⟩ = some (.int .i64 (Jo.at_ l j).c) ∧ w.cell? ⟨b, off + j * 4 + 1, none⟩ = some (.int .i64 (Jo.at_ l j).a) ∧ w.cell? ⟨b, off + j * 4 + 2, none⟩ = some (.int .i64 (Jo.at_ l j).b) ∧ w.cell? ⟨b, off + j * 4 + 3, none⟩ = some (.string (Jo.at_ l j).t))
theorem OL.grown {w w' : World} {a : Option Addr} {len : Nat} {l : List Jo} {row : Option Nat} (h : OL w a len l) (hg : w.grownBy w' row) (hne : 0 < len → ∀ b off, a = some ⟨b, off, none⟩ → some b ≠ row) : OL w' a len l :=
  ⟨h.1, fun h0 => by
    obtain ⟨b, off, rfl, hb, hc⟩ := h.2 h0
    have hn : some b ≠ row := by simpa using hne h0 b off rfl
    exact ⟨b, off, rfl, Nat.lt_of_lt_of_le hb hg.size, fun j hj => ⟨hg.cell (hc j hj).1 (by simpa using hn), hg.cell (hc j hj).2.1 (by simpa using hn), hg.cell (hc j hj).2.2.1 (by simpa using hn), hg.cell (hc j hj).2.2.2 (by simpa using hn)⟩⟩⟩
theorem OL.below {w w' : World} {a : Option Addr} {len : Nat} {l : List Jo} (h : OL w a len l) (hb : Below w.heap.size w w') : OL w' a len l :=
  h.grown (row := none) ⟨hb.os, hb.tape, hb.output, hb.size, fun k hk _ => hb.block k hk⟩ (fun _ _ _ _ => by simp)
theorem OL.alloc {w : World} {a : Option Addr} {len : Nat} {l : List Jo} (h : OL w a len l) (o : Obj) : OL (w.alloc o) a len l :=
  h.grown (World.grownBy_alloc w o none) (fun _ _ _ _ => by simp)
theorem OL.drew {w : World} {a : Option Addr} {len : Nat} {l : List Jo} (h : OL w a len l) : OL w.drew a len l := ⟨h.1, h.2⟩
/-- The cells of a list of operations. -/
def Jo.cells : List Jo → List Value
  | [] => []
  | x :: l => .int .i64 x.c :: .int .i64 x.a :: .int .i64 x.b :: .string x.t :: Jo.cells l
theorem Jo.cells_append (l m : List Jo) : Jo.cells (l ++ m) = Jo.cells l ++ Jo.cells m := by
  induction l with
  | nil => rfl
  | cons x l ih => simp [Jo.cells, ih]
theorem Jo.cells_length (l : List Jo) : (Jo.cells l).length = l.length * 4 := by
  induction l with
  | nil => rfl
  | cons x l ih => simp [Jo.cells, ih]; omega
theorem Jo.cells_get (l : List Jo) : ∀ j, j < l.length → (Jo.cells l)[j * 4]? = some (.int .i64 (Jo.at_ l j).c) ∧ (Jo.cells l)[j * 4 + 1]? = some (.int .i64 (Jo.at_ l j).a) ∧ (Jo.cells l)[j * 4 + 2]? = some (.int .i64 (Jo.at_ l j).b) ∧ (Jo.cells l)[j * 4 + 3]? = some (.string (Jo.at_ l j).t) := by
  induction l with
  | nil => intro j hj; simp at hj
  | cons x l ih =>
    intro j hj
    cases j with
    | zero => simp [Jo.cells, Jo.at_]
    | succ j =>
      have g : ∀ i, (Jo.cells (x :: l))[i + 4]? = (Jo.cells l)[i]? := fun i => by
        show ([.int .i64 x.c, .int .i64 x.a, .int .i64 x.b, .string x.t] ++ Jo.cells l)[i + 4]? = _
        rw [List.getElem?_append_right (by simp)]
        rfl
      have := ih j (by simpa using hj)
      rw [show (j + 1) * 4 = j * 4 + 4 by omega, show j * 4 + 4 + 1 = j * 4 + 1 + 4 by omega, show j * 4 + 4 + 2 = j * 4 + 2 + 4 by omega, show j * 4 + 4 + 3 = j * 4 + 3 + 4 by omega, g, g, g, g]
      exact this
/-- Operations that the call owns. -/
theorem OL.own {w : World} {base : Nat} {e : TypeId} {a : Option Addr} {len cap n : Nat} {l : List Jo} (h : w.ownsRow base e 4 (.slice a len cap) n (Jo.cells l)) : len = n ∧ OL w a len l := by
  have hl : l.length = n := by have := h.1; rw [Jo.cells_length] at this; omega
  rcases h.2 with ⟨he, h0⟩ | ⟨g, cap', cur, he, hg, hh, hn, _, _, _⟩
  · cases he
    exact ⟨h0.symm, by omega, fun h => absurd h (by omega)⟩
  · cases he
    refine ⟨rfl, hl, fun h0 => ⟨g, 0, rfl, lt_of_block hh, fun j hj => ?_⟩⟩
    obtain ⟨e0, e1, e2, e3⟩ := Jo.cells_get l j (by omega)
    have hadr : ∀ i, (⟨g, 0, none⟩ : Addr).add i = ⟨g, 0 + i, none⟩ := fun i => by unfold Addr.add; split <;> simp_all
    have f0 := h.cells (g := g) rfl _ _ e0
    have f1 := h.cells (g := g) rfl _ _ e1
    have f2 := h.cells (g := g) rfl _ _ e2
    have f3 := h.cells (g := g) rfl _ _ e3
    rw [hadr] at f0 f1 f2 f3
    exact ⟨f0, f1, f2, f3⟩
theorem info_op : (Tryz.prog.info? 69).map (fun i => (i.zero, i.size, i.bytes)) = some (some (.agg #[.int .i64 0, .int .i64 0, .int .i64 0, .string ⟨#[]⟩]), 4, 40) := by kernel_rfl
/-- What came in as a list of operations. -/
def IsOps (w : World) (a : Option Addr) (len cap : Nat) (l : List Jo) : Prop :=
  len ≤ cap ∧ cap ≤ 9223372036854775807 ∧ OL w a len l ∧ ∀ j, j < len → (Jo.at_ l j).t.size ≤ 9223372036854775807 ∧ (-9223372036854775808 ≤ (Jo.at_ l j).c ∧ (Jo.at_ l j).c ≤ 9223372036854775807) ∧ (-9223372036854775808 ≤ (Jo.at_ l j).a ∧ (Jo.at_ l j).a ≤ 9223372036854775807) ∧ (-9223372036854775808 ≤ (Jo.at_ l j).b ∧ (Jo.at_ l j).b ≤ 9223372036854775807)
end Go.Proofs.YtdaffohimifecaaGreat

/-
  The laws' own helpers for lists of operations.
-/
namespace Go.Proofs.YtdaffohimifecaaGreat
open Go.RowKit Go.Joins Go.WideShapes Go.ChangeShapes Go.Deep

section
variable {H : Type} {enc : TypeId × Value → H} {W : World} {base : Nat} {spare : Nat → Bool} {held : Bool}
set_option maxRecDepth 100000 in
theorem open_op_cells {fuel : Nat} {cs : List Value} {x : DataW H × List MemPlace} (h : DataW.trod enc Tryz.prog W base spare held fuel 83 cs = some x) :
    ∃ (C A B : Int) (t : ByteArray), cs = [.int .i64 C, .int .i64 A, .int .i64 B, .string t] ∧ (Lit.int .i64 C).wf = true ∧ (Lit.int .i64 A).wf = true ∧ (Lit.int .i64 B).wf = true ∧ t.size ≤ maxLen := by
  obtain ⟨y0, y1, y2, y3, n, rfl, hl, h0, h1, h2, h3⟩ := trod_struct4 Tryz.underlying83 h
  obtain ⟨a, e0, rfl, wa⟩ := DataW.trod_int Tryz.underlying3 h0
  obtain ⟨b, e1, rfl, wb⟩ := DataW.trod_int Tryz.underlying3 h1
  obtain ⟨c, e2, rfl, wc⟩ := DataW.trod_int Tryz.underlying3 h2
  obtain ⟨s, e3, rfl, ws⟩ := DataW.trod_string Tryz.underlying9 h3
  have hC : Tryz.prog.cellsOf 83 = 4 := by kernel_rfl
  have hC1 : Tryz.prog.cellsOf 3 = 1 := by kernel_rfl
  have hC2 : Tryz.prog.cellsOf 9 = 1 := by kernel_rfl
  rw [hC] at hl
  obtain ⟨x0, x1, x2, x3, rfl⟩ : ∃ x0 x1 x2 x3, cs = [x0, x1, x2, x3] := by
    rcases cs with _ | ⟨x0, _ | ⟨x1, _ | ⟨x2, _ | ⟨x3, _ | ⟨x4, r⟩⟩⟩⟩⟩ <;> simp at hl
    exact ⟨x0, x1, x2, x3, rfl⟩
  simp [hC1, hC2] at e0 e1 e2 e3
  subst e0 e1 e2 e3
  exact ⟨a, b, c, s, rfl, wa, wb, wc, ws⟩
set_option maxRecDepth 100000 in
theorem open_ops {fuel : Nat} {a : Option Addr} {len cap : Nat} {x : DataW H × List MemPlace} (h : DataW.trod enc Tryz.prog W base spare held fuel 41 [.slice a len cap] = some x) : ∃ l, IsOps W a len cap l := by
  rcases DataW.trod_slice Tryz.underlying41 h with ⟨h0, _⟩ | ⟨a', len', cap', elems, rest, n, _, hcs, _, hb, hl, hm, hlen, hel, _, _⟩
  · simp at h0
    obtain ⟨rfl, rfl, rfl⟩ := h0
    exact ⟨[], by omega, by omega, ⟨rfl, fun h => absurd h (by omega)⟩, fun j hj => absurd hj (by omega)⟩
  · simp at hcs
    obtain ⟨rfl, rfl, rfl⟩ := hcs
    have hC : Tryz.prog.cellsOf 83 = 4 := by kernel_rfl
    rw [hC] at hel
    have each : ∀ i, ∃ y : Jo, i < len → (y.t.size ≤ 9223372036854775807 ∧ (-9223372036854775808 ≤ y.c ∧ y.c ≤ 9223372036854775807) ∧ (-9223372036854775808 ≤ y.a ∧ y.a ≤ 9223372036854775807) ∧ (-9223372036854775808 ≤ y.b ∧ y.b ≤ 9223372036854775807)) ∧ W.cell? (a'.add (i * 4)) = some (.int .i64 y.c) ∧ W.cell? ((a'.add (i * 4)).add 1) = some (.int .i64 y.a) ∧ W.cell? ((a'.add (i * 4)).add 2) = some (.int .i64 y.b) ∧ W.cell? ((a'.add (i * 4)).add 3) = some (.string y.t) := by
      intro i
      by_cases hi : i < len
      · have hh := hel i hi
        rw [List.getElem?_eq_getElem (by omega), Option.bind_eq_some_iff] at hh
        obtain ⟨cs, hcs, hy⟩ := hh
        obtain ⟨C, A, B, t, rfl, wc, wa, wb, wt⟩ := open_op_cells hy
        obtain ⟨_, _, hc⟩ := World.cells?_some hcs
        have hz : ∀ b : Addr, b.add 0 = b := fun b => by simp [Addr.add]
        have e0 := hc 0 (by omega)
        rw [hz] at e0
        have bc := bounds_i64 wc
        have ba := bounds_i64 wa
        have bb := bounds_i64 wb
        unfold maxLen at wt
        exact ⟨⟨C, A, B, t⟩, fun _ => ⟨⟨by simp only; omega, by simp only; omega, by simp only; omega, by simp only; omega⟩, e0, hc 1 (by omega), hc 2 (by omega), hc 3 (by omega)⟩⟩
      · exact ⟨Jo.z, fun h => absurd h hi⟩
    obtain ⟨f, hf⟩ := Classical.skolem.1 each
    have hget : ∀ j, j < len → Jo.at_ ((List.range len).map f) j = f j := fun j hj => by
      unfold Jo.at_
      rw [List.getD_eq_getElem?_getD, List.getElem?_map, List.getElem?_range hj]; rfl
    refine ⟨(List.range len).map f, hl, by unfold maxLen at hm; omega, ⟨by simp, fun h0 => ?_⟩, fun j hj => ?_⟩
    · obtain ⟨b, off, spot⟩ := a'
      have hspot : spot = none := by
        have := World.cell?_spot (hf 0 h0).2.1
        simpa [Addr.add] using this
      subst hspot
      refine ⟨b, off, rfl, ?_, fun j hj => ?_⟩
      · have := (hf 0 h0).2.1
        rw [Go.WideShapes.add_plain] at this
        exact World.block_lt_of_cell? W _ this
      · rw [hget j hj]
        obtain ⟨_, c0, c1, c2, c3⟩ := hf j hj
        rw [Go.WideShapes.add_plain] at c0
        rw [Go.WideShapes.add_plain, Go.WideShapes.add_plain] at c1 c2 c3
        exact ⟨c0, c1, c2, c3⟩
    · rw [hget j hj]
      exact (hf j hj).1
end
set_option maxRecDepth 100000 in
set_option maxHeartbeats 1600000 in
theorem toOp_any (C A B : Int) (t : ByteArray) (w : World) :
    Calls Tryz.prog 51 #[.agg #[.int .i64 C, .int .i64 A, .int .i64 B, .string t]] w fun e w' => e = .returned (.agg #[.int .i64 C, .int .i64 A, .int .i64 B, .string t]) ∧ Below w.heap.size w w' := by
  have HX : ∀ X Y, Bk (w.heap.size + 1) 69 #[.int .i64 C, .int .i64 A, .int .i64 B, .string t] (((w.alloc X).alloc (.cells #[.int .i64 C, .int .i64 A, .int .i64 B, .string t] 69 (0, 0))).alloc Y) := fun X Y => (Bk.new' _ _ _ _ (by simp)).alloc Y
  go_enter Tryz.func51, Tryz.ntmps51
  go_wp2
  refine bodyPost_ret (results_cell_row (P := Tryz.prog) rfl _ _ (w.heap.size + 1) 69 _ (0, 0) _ rfl (HX _ _).held Tryz.underlying69 rfl (by kernel_rfl)) rfl ?_
  exact ⟨rfl, (((Below.refl _ _).alloc (Nat.le_refl _) _).alloc (by simp) _).alloc (by simp; omega) _⟩
set_option maxRecDepth 100000 in
set_option maxHeartbeats 1600000 in
theorem szOp_any (C A B left : Int) (t : ByteArray) (w : World) (l0 : 0 ≤ left) (l1 : left ≤ 1048576) (ht : t.size ≤ 9223372036854775807) :
    Calls Tryz.prog 50 #[.agg #[.int .i64 C, .int .i64 A, .int .i64 B, .string t], .int .i64 left] w fun e w' => ∃ v : Int, e = .returned (.int .i64 v) ∧ (v < 0 ∨ (v = left - t.size ∧ (t.size : Int) ≤ left)) ∧ Below w.heap.size w w' := by
  by_cases h : left - (t.size : Int) < 0
  · go_enter Tryz.func50, Tryz.ntmps50
    go_wp2
    go_ret
    exact ⟨-1, rfl, .inl (by decide), (Below.refl _ _).alloc (Nat.le_refl _) _⟩
  · go_enter Tryz.func50, Tryz.ntmps50
    go_wp2
    go_ret
    exact ⟨_, rfl, .inr ⟨rfl, by omega⟩, (Below.refl _ _).alloc (Nat.le_refl _) _⟩
set_option maxRecDepth 100000 in
set_option maxHeartbeats 1600000 in
theorem szOpS_any (a : Option Addr) (len cap : Nat) (l : List Jo) (w : World) (hs : OL w a len l) (hlen : len ≤ 9223372036854775807) (ht : ∀ j, j < len → (Jo.at_ l j).t.size ≤ 9223372036854775807) :
    Calls Tryz.prog 19 #[.slice a len cap, .int .i64 1048576] w fun e w' => ∃ v : Int, e = .returned (.int .i64 v) ∧ (v < 0 ∨ (len ≤ 1048576 ∧ ∀ j, j < len → (Jo.at_ l j).t.size ≤ 1048576)) ∧ Below w.heap.size w w' := by
  by_cases h0 : (1048576 : Int) - (len : Int) < 0
  · go_enter Tryz.func19, Tryz.ntmps19
    go_wp2
    go_ret
    exact ⟨-1, rfl, .inl (by decide), Below.refl _ _⟩
  have hlen2 : len ≤ 1048576 := by omega
  have HT := Lib.hid ht
  clear ht
  go_enter Tryz.func19, Tryz.ntmps19
  go_wp2
  go_loopw [1, 5] (fun v i wr => ∃ (k : Nat) (u : Int), k ≤ len ∧ i = .int .i64 (k : Int) ∧ v = .int .i64 u ∧ 0 ≤ u ∧ u ≤ 1048576 ∧ Hid (∀ j, j < k → (Jo.at_ l j).t.size ≤ 1048576) ∧ Below w.heap.size w wr)
    (fun _ i _ => len - (intOf i).toNat)
  case atStart => exact ⟨0, _, by omega, rfl, rfl, by omega, by omega, Lib.hid (fun j hj => absurd hj (by omega)), Below.refl _ _⟩
  case round =>
    obtain ⟨k, u, hk, rfl, rfl, u0, u1, hsm, hbel⟩ := hrel
    by_cases hlt : k < len
    · obtain ⟨b, off, rfl, hb, hc⟩ := (hs.below hbel).2 (by omega)
      obtain ⟨c0, c1, c2, c3⟩ := hc k hlt
      have htt := HT.out k hlt
      have hstep : ∀ x, Hid (Jo.at_ l k = x) → x.t.size ≤ 1048576 → Hid (∀ j, j < k + 1 → (Jo.at_ l j).t.size ≤ 1048576) := fun x hx hv => Lib.hid fun j hj => by
        by_cases hjk : j = k
        · rw [hjk, hx.out]; exact hv
        · exact hsm.out j (by omega)
      obtain ⟨x, hx⟩ : ∃ x, Hid (Jo.at_ l k = x) := ⟨_, Lib.hid rfl⟩
      replace hstep := hstep x hx
      rw [hx.out] at c0 c1 c2 c3 htt
      obtain ⟨C, A, B, t⟩ := x
      simp only at c0 c1 c2 c3 htt
      clear hx hc hb hs
      go_wp2_with fail
      refine (szOp_any C A B u t _ u0 u1 htt).mono ?_
      rintro e w1 ⟨v, rfl, hv, hb1⟩
      have hbel1 := below_aft9 hbel hb1
      by_cases hn : v < 0
      · clear hv hstep
        go_wp2
        go_ret
        exact ⟨-1, rfl, .inl (by decide), hbel1⟩
      · obtain ⟨e1, e2⟩ := hv.resolve_left hn
        have v0 : 0 ≤ v := by omega
        have v1 : v ≤ 1048576 := by omega
        have hst := hstep (by omega)
        clear hv e1 e2 hstep
        go_wp2
        go_roundw
        case rel => exact ⟨k + 1, v, by omega, by simp, rfl, v0, v1, hst, hbel1⟩
        case measure => simp [intOf]; omega
    · have hk2 : k = len := by omega
      subst hk2
      go_wp2
      go_ret
      exact ⟨u, rfl, .inr ⟨hlen2, hsm.out⟩, hbel⟩
set_option maxRecDepth 100000 in
set_option maxHeartbeats 1600000 in
theorem eqOp_any (C A B : Int) (t : ByteArray) (w : World) :
    Calls Tryz.prog 52 #[.agg #[.int .i64 C, .int .i64 A, .int .i64 B, .string t], .agg #[.int .i64 C, .int .i64 A, .int .i64 B, .string t]] w fun e w' => e = .returned (.bool true) ∧ Below w.heap.size w w' := by
  have hc := ((Below.refl w.heap.size w).alloc (Nat.le_refl _) (.cells #[.int .i64 C, .int .i64 A, .int .i64 B, .string t] 69 (0, 0))).alloc (by simp) (.cells #[.int .i64 C, .int .i64 A, .int .i64 B, .string t] 69 (0, 0))
  have hq : (t.toList == t.toList) = true := by simp
  go_enter Tryz.func52, Tryz.ntmps52
  go_wp2
  go_ret
  exact ⟨rfl, hc⟩
set_option maxRecDepth 100000 in
set_option maxHeartbeats 1600000 in
theorem eqOpS_any (a b : Option Addr) (len cap cap' : Nat) (l : List Jo) (w : World) (ha : OL w a len l) (hb : OL w b len l) (hlen : len ≤ 9223372036854775807) :
    Calls Tryz.prog 26 #[.slice a len cap, .slice b len cap'] w fun e w' => e = .returned (.bool true) ∧ Below w.heap.size w w' := by
  go_enter Tryz.func26, Tryz.ntmps26
  go_wp2
  go_loopw [5] (fun i wr => ∃ k : Nat, k ≤ len ∧ i = .int .i64 (k : Int) ∧ Below w.heap.size w wr)
    (fun i _ => len - (intOf i).toNat)
  case atStart => exact ⟨0, by omega, rfl, Below.refl _ _⟩
  case round =>
    obtain ⟨k, hk, rfl, hbel⟩ := hrel
    by_cases hlt : k < len
    · obtain ⟨g, off, rfl, _, _⟩ := ha.2 (by omega)
      obtain ⟨g2, off2, rfl, _, _⟩ := hb.2 (by omega)
      have hA : ∀ W, Below w.heap.size w W → W.cell? ⟨g, off + k * 4, none⟩ = some (.int .i64 (Jo.at_ l k).c) ∧ W.cell? ⟨g, off + k * 4 + 1, none⟩ = some (.int .i64 (Jo.at_ l k).a) ∧ W.cell? ⟨g, off + k * 4 + 2, none⟩ = some (.int .i64 (Jo.at_ l k).b) ∧ W.cell? ⟨g, off + k * 4 + 3, none⟩ = some (.string (Jo.at_ l k).t) := fun W h => by
        obtain ⟨g', off', he, _, hc⟩ := (ha.below h).2 (show 0 < len by omega)
        cases he
        exact hc k hlt
      have hB : ∀ W, Below w.heap.size w W → W.cell? ⟨g2, off2 + k * 4, none⟩ = some (.int .i64 (Jo.at_ l k).c) ∧ W.cell? ⟨g2, off2 + k * 4 + 1, none⟩ = some (.int .i64 (Jo.at_ l k).a) ∧ W.cell? ⟨g2, off2 + k * 4 + 2, none⟩ = some (.int .i64 (Jo.at_ l k).b) ∧ W.cell? ⟨g2, off2 + k * 4 + 3, none⟩ = some (.string (Jo.at_ l k).t) := fun W h => by
        obtain ⟨g', off', he, _, hc⟩ := (hb.below h).2 (show 0 < len by omega)
        cases he
        exact hc k hlt
      obtain ⟨x, hx⟩ : ∃ x, Hid (Jo.at_ l k = x) := ⟨_, Lib.hid rfl⟩
      rw [hx.out] at hA hB
      clear hx ha hb
      obtain ⟨C, A, B, t⟩ := x
      simp only at hA hB
      have hSof : ∀ W, Below w.heap.size w W → (W.cell? ⟨g, off + k * 4, none⟩ = some (.int .i64 C) ∧ W.cell? ⟨g, off + k * 4 + 1, none⟩ = some (.int .i64 A) ∧ W.cell? ⟨g, off + k * 4 + 2, none⟩ = some (.int .i64 B) ∧ W.cell? ⟨g, off + k * 4 + 3, none⟩ = some (.string t)) ∧ W.cell? ⟨g2, off2 + k * 4, none⟩ = some (.int .i64 C) ∧ W.cell? ⟨g2, off2 + k * 4 + 1, none⟩ = some (.int .i64 A) ∧ W.cell? ⟨g2, off2 + k * 4 + 2, none⟩ = some (.int .i64 B) ∧ W.cell? ⟨g2, off2 + k * 4 + 3, none⟩ = some (.string t) := fun W h => ⟨hA W h, hB W h⟩
      have hS0 := hSof wr.drew hbel.drew
      clear hA hB
      go_wp2
      go_region_held3 (fun W => (W.cell? ⟨g, off + k * 4, none⟩ = some (.int .i64 C) ∧ W.cell? ⟨g, off + k * 4 + 1, none⟩ = some (.int .i64 A) ∧ W.cell? ⟨g, off + k * 4 + 2, none⟩ = some (.int .i64 B) ∧ W.cell? ⟨g, off + k * 4 + 3, none⟩ = some (.string t)) ∧ W.cell? ⟨g2, off2 + k * 4, none⟩ = some (.int .i64 C) ∧ W.cell? ⟨g2, off2 + k * 4 + 1, none⟩ = some (.int .i64 A) ∧ W.cell? ⟨g2, off2 + k * 4 + 2, none⟩ = some (.int .i64 B) ∧ W.cell? ⟨g2, off2 + k * 4 + 3, none⟩ = some (.string t)) (first | with_reducible exact hS0 | with_reducible exact hS1)
        (first | (go_at_call 52; refine (eqOp_any C A B t _).mono ?_; rintro e w1 ⟨rfl, hb1⟩; have hb2 := below_aft9 hbel.drew hb1; have hS1 := hSof w1 hb2))
      go_wp2
      go_roundw
      case rel => exact ⟨k + 1, by omega, by simp, hb2⟩
      case measure => simp [intOf]; omega
    · go_wp2
      go_ret
      exact ⟨rfl, hbel⟩
/-- The block g has room for len operations, the first k of which are those of l. -/
def OB (g len k : Nat) (l : List Jo) (w : World) : Prop :=
  ∃ cs : Array Value, w.heap[g]? = some (.cells cs 69 (0, 0)) ∧ len * 4 ≤ cs.size ∧ ∀ j, j < k → cs[j * 4]? = some (.int .i64 (Jo.at_ l j).c) ∧ cs[j * 4 + 1]? = some (.int .i64 (Jo.at_ l j).a) ∧ cs[j * 4 + 2]? = some (.int .i64 (Jo.at_ l j).b) ∧ cs[j * 4 + 3]? = some (.string (Jo.at_ l j).t)
theorem OB.step {g len k : Nat} {l : List Jo} {w : World} (h : OB g len k l w) (hk : k < len) : OB g len (k + 1) l (((((w).setCell ⟨g, k * 4, none⟩ (.int .i64 (Jo.at_ l k).c)).setCell ⟨g, k * 4 + 1, none⟩ (.int .i64 (Jo.at_ l k).a)).setCell ⟨g, k * 4 + 2, none⟩ (.int .i64 (Jo.at_ l k).b)).setCell ⟨g, k * 4 + 3, none⟩ (.string (Jo.at_ l k).t)) := by
  obtain ⟨cs, h1, h2, h3⟩ := h
  refine ⟨_, block_setCell (block_setCell (block_setCell (block_setCell h1 (k * 4) _) (k * 4 + 1) _) (k * 4 + 2) _) (k * 4 + 3) _, by simpa using h2, fun j hj => ?_⟩
  by_cases hjk : j = k
  · subst hjk
    refine ⟨?_, ?_, ?_, ?_⟩ <;> simp [Array.getElem?_setIfInBounds] <;> omega
  · obtain ⟨c0, c1, c2, c3⟩ := h3 j (by omega)
    refine ⟨?_, ?_, ?_, ?_⟩ <;> simp only [Array.getElem?_setIfInBounds] <;> (repeat rw [if_neg (by omega)]) <;> assumption
theorem OB.slot {g len k : Nat} {l : List Jo} {w : World} (h : OB g len k l w) (i : Nat) (hi : i < len * 4) : ∃ u, w.cell? ⟨g, i, none⟩ = some u := by
  obtain ⟨cs, h1, h2, _⟩ := h
  exact ⟨cs[i]'(by omega), by simp [World.cell?, h1, show i < cs.size by omega]⟩
theorem OB.fro {g len k : Nat} {l : List Jo} {w : World} (h : OB g len k l w) (i : Nat) : w.frozen? ⟨g, i, none⟩ = false := by
  obtain ⟨cs, h1, _, _⟩ := h
  simp [World.frozen?, h1]
theorem OB.below {g len k : Nat} {l : List Jo} {w w' : World} (h : OB g len k l w) (hb : Below w.heap.size w w') : OB g len k l w' := by
  obtain ⟨cs, h1, h2, h3⟩ := h
  exact ⟨cs, (hb.block g (lt_of_block h1)).trans h1, h2, h3⟩
theorem OB.lt {g len k : Nat} {l : List Jo} {w : World} (h : OB g len k l w) : g < w.heap.size := by
  obtain ⟨cs, h1, _, _⟩ := h
  exact lt_of_block h1
theorem OB.ol {g len : Nat} {l : List Jo} {w : World} (h : OB g len len l w) (hl : l.length = len) : OL w (some ⟨g, 0, none⟩) len l := by
  obtain ⟨cs, h1, h2, h3⟩ := h
  refine ⟨hl, fun _ => ⟨g, 0, rfl, lt_of_block h1, fun j hj => ?_⟩⟩
  obtain ⟨c0, c1, c2, c3⟩ := h3 j hj
  simp only [Nat.zero_add]
  have hc : ∀ i, w.cell? ⟨g, i, none⟩ = cs[i]? := fun i => by simp [World.cell?, h1]
  exact ⟨(hc _).trans c0, (hc _).trans c1, (hc _).trans c2, (hc _).trans c3⟩
theorem OB.of_own {w : World} {base g cap n : Nat} {xs : List Value} (l : List Jo) (h : w.ownsRow base 69 4 (.slice (some ⟨g, 0, none⟩) n cap) n xs) : OB g n 0 l w := by
  rcases h.2 with ⟨he, h0⟩ | ⟨g', cap', cur, he, hg, hh, hn, hm, hs, _⟩
  · cases he
  · cases he
    exact ⟨cur, hh, by rw [hs]; exact Nat.mul_le_mul_right 4 hn, fun j hj => absurd hj (by omega)⟩
set_option maxRecDepth 100000 in
set_option maxHeartbeats 1600000 in
theorem toOpS_any (a : Option Addr) (len cap : Nat) (l : List Jo) (w : World) (hs : OL w a len l) (hlen : len ≤ 1048576) :
    Calls Tryz.prog 22 #[.slice a len cap] w fun e w' => ∃ b, e = .returned (.slice (some ⟨b, 0, none⟩) len len) ∧ OL w' (some ⟨b, 0, none⟩) len l ∧ Below w.heap.size w w' := by
  obtain ⟨i0, hi, hz0, hz1, hz2⟩ := info_parts info_op
  have hmk : ∀ W : World, (Instr.makeSlice 23 (.int .i64 (len : Int)) (.int .i64 (len : Int))).run Tryz.prog W = .ok (.slice (some ⟨W.heap.size, 0, none⟩) len len) (W.alloc (.cells (madeCells #[.int .i64 0, .int .i64 0, .int .i64 0, .string ⟨#[]⟩] (len * 4)) 69)) := fun W => by
    have := run_make (P := Tryz.prog) W 23 69 i0 _ Tryz.underlying23 hi hz0 .i64 .i64 (len : Int) (len : Int) (by omega) (by omega) (by rw [hz2]; omega) (by omega)
    rw [hz1] at this
    simpa [Value.cells] using this
  have hl1 := hs.1
  clear hi hz0 hz1 hz2
  go_enter Tryz.func22, Tryz.ntmps22
  go_wp2
  go_loopw [4] (fun i wr => ∃ k : Nat, k ≤ len ∧ i = .int .i64 (k : Int) ∧ Hid (OB w.heap.size len k l wr) ∧ w.heap.size < wr.heap.size ∧ Below w.heap.size w wr)
    (fun i _ => len - (intOf i).toNat)
  case atStart => exact ⟨0, by omega, rfl, Lib.hid ⟨_, heap_alloc_new _ _, Nat.le_of_eq (size_madeCells _ _).symm, fun j hj => absurd hj (by omega)⟩, by simp, (Below.refl _ _).alloc (Nat.le_refl _) _⟩
  case round =>
    obtain ⟨k, hk, rfl, hblk, hlt0, hbel⟩ := hrel
    by_cases hlt : k < len
    · obtain ⟨b, off, rfl, hb, hc⟩ := (hs.below hbel).2 (by omega)
      obtain ⟨c0, c1, c2, c3⟩ := hc k hlt
      have hstep : ∀ W, Hid (OB w.heap.size len k l W) → ∀ C A B t, Hid (Jo.at_ l k = ⟨C, A, B, t⟩) → Hid (OB w.heap.size len (k + 1) l (((((W).setCell ⟨w.heap.size, k * 4, none⟩ (.int .i64 C)).setCell ⟨w.heap.size, k * 4 + 1, none⟩ (.int .i64 A)).setCell ⟨w.heap.size, k * 4 + 2, none⟩ (.int .i64 B)).setCell ⟨w.heap.size, k * 4 + 3, none⟩ (.string t))) := fun W hW C A B t hx => Lib.hid (by
        have := hW.out.step hlt
        rw [hx.out] at this
        exact this)
      obtain ⟨x, hx⟩ : ∃ x, Hid (Jo.at_ l k = x) := ⟨_, Lib.hid rfl⟩
      rw [hx.out] at c0 c1 c2 c3
      obtain ⟨C, A, B, t⟩ := x
      simp only at c0 c1 c2 c3
      clear hc hb hs
      go_wp2_with fail
      refine (toOp_any C A B t _).mono ?_
      rintro e w1 ⟨rfl, hb1⟩
      have hblk1 := Lib.hid (hblk.out.below hb1)
      have hbel1 := below_aft9 hbel hb1
      have hlt1 : w.heap.size < w1.heap.size := Nat.lt_of_lt_of_le hlt0 hb1.size
      obtain ⟨z0, s0⟩ := hblk1.out.slot (k * 4) (by omega)
      obtain ⟨z1, s1⟩ := hblk1.out.slot (k * 4 + 1) (by omega)
      obtain ⟨z2, s2⟩ := hblk1.out.slot (k * 4 + 2) (by omega)
      obtain ⟨z3, s3⟩ := hblk1.out.slot (k * 4 + 3) (by omega)
      have f0 := hblk1.out.fro (k * 4)
      have f1 := hblk1.out.fro (k * 4 + 1)
      have f2 := hblk1.out.fro (k * 4 + 2)
      have f3 := hblk1.out.fro (k * 4 + 3)
      have hblk2 := hstep _ hblk1 C A B t hx
      have hbel2 := ((((hbel1).setCell (p := ⟨w.heap.size, k * 4, none⟩) (Nat.le_refl _) (.int .i64 C)).setCell (p := ⟨w.heap.size, k * 4 + 1, none⟩) (Nat.le_refl _) (.int .i64 A)).setCell (p := ⟨w.heap.size, k * 4 + 2, none⟩) (Nat.le_refl _) (.int .i64 B)).setCell (p := ⟨w.heap.size, k * 4 + 3, none⟩) (Nat.le_refl _) (.string t)
      clear hstep hblk hx hblk1 hbel1 hbel hb1
      go_wp2
      go_roundw
      case rel => exact ⟨k + 1, by omega, by simp, hblk2, by simpa [World.setCell] using hlt1, hbel2⟩
      case measure => simp [intOf]; omega
    · have hk2 : k = len := by omega
      subst hk2
      clear hs
      go_wp2
      go_ret
      exact ⟨_, rfl, hblk.out.ol hl1, hbel⟩
end Go.Proofs.YtdaffohimifecaaGreat
