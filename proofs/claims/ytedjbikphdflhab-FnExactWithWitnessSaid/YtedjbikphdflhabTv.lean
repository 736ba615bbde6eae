/-
  The laws' own helpers for transactions: what came in, sizes, copies, comparison.
-/
import Derived.Test.YtedjbikphdflhabTp
import Derived.Test.YtedjbikphdflhabTf
import Derived.Lib.SmallJoins
import Derived.OpenShut
import Derived.Laws.MakeOwn
import Derived.Deep.RegionHeld3
namespace Go.Proofs.Ytedjbikphdflhab
open Go.RowKit Go.Joins Go.WideShapes Go.ChangeShapes Go.Deep

/-! ### a row that is filled -/
/-- The block g has room for n elements of k cells; its first cells are xs. -/
def RB (e : TypeId) (k g n : Nat) (xs : List Value) (w : World) : Prop := ∃ cs : Array Value, w.heap[g]? = some (.cells cs e (0, 0)) ∧ cs.size = n * k ∧ cs.toList.take xs.length = xs ∧ xs.length ≤ n * k
theorem RB.lt {e : TypeId} {k g n : Nat} {xs : List Value} {w : World} (h : RB e k g n xs w) : g < w.heap.size := by
  obtain ⟨cs, h1, _⟩ := h
  exact lt_of_block h1
theorem RB.below {e : TypeId} {k g n : Nat} {xs : List Value} {w w' : World} (h : RB e k g n xs w) (hb : Below w.heap.size w w') : RB e k g n xs w' := by
  obtain ⟨cs, h1, h2⟩ := h
  exact ⟨cs, (hb.block g (lt_of_block h1)).trans h1, h2⟩
theorem RB.slot {e : TypeId} {k g n : Nat} {xs : List Value} {w : World} (h : RB e k g n xs w) (i : Nat) (hi : i < n * k) : ∃ u, w.cell? ⟨g, i, none⟩ = some u := by
  obtain ⟨cs, h1, h2, _⟩ := h
  exact ⟨cs[i]'(by omega), by simp [World.cell?, h1, show i < cs.size by omega]⟩
theorem RB.fro {e : TypeId} {k g n : Nat} {xs : List Value} {w : World} (h : RB e k g n xs w) (i : Nat) : w.frozen? ⟨g, i, none⟩ = false := by
  obtain ⟨cs, h1, _⟩ := h
  simp [World.frozen?, h1]
theorem RB.step {e : TypeId} {k g n : Nat} {xs : List Value} {w : World} (h : RB e k g n xs w) (i : Nat) (hi : i = xs.length) (hlt : i < n * k) (v : Value) : RB e k g n (xs ++ [v]) (w.setCell ⟨g, i, none⟩ v) := by
  obtain ⟨cs, h1, h2, h3, h4⟩ := h
  subst hi
  refine ⟨_, block_setCell h1 xs.length v, by simpa using h2, ?_, by simp; omega⟩
  have hsz : xs.length < cs.toList.length := by simp; omega
  rw [Array.toList_setIfInBounds, List.length_append, List.length_singleton, List.take_add_one, List.take_set_of_le (Nat.le_refl _), h3, List.getElem?_set_self hsz]
  rfl
theorem RB.own {e : TypeId} {k g n base : Nat} {xs : List Value} {w : World} (h : RB e k g n xs w) (hx : xs.length = n * k) (hb : base ≤ g) (hn : n ≤ 9223372036854775807) : w.ownsRow base e k (.slice (some ⟨g, 0, none⟩) n n) n xs := by
  obtain ⟨cs, h1, h2, h3, _⟩ := h
  exact ⟨hx, .inr ⟨g, n, cs, rfl, hb, h1, Nat.le_refl _, by unfold maxLen; omega, h2, by rw [← hx]; exact h3⟩⟩
theorem RB.new (w : World) (e : TypeId) (k n : Nat) (z : Array Value) : RB e k w.heap.size n [] (w.alloc (.cells (madeCells z (n * k)) e)) := ⟨_, heap_alloc_new _ _, size_madeCells _ _, rfl, Nat.zero_le _⟩
set_option maxRecDepth 100000 in
set_option maxHeartbeats 1600000 in
theorem toStrs_row (a : Option Addr) (len cap : Nat) (ss : List ByteArray) (w : World) (hs : SR w a len ss) (hlen : len ≤ 1048576) :
    Calls Try.prog 29 #[.slice a len cap] w fun e w' => ∃ g, e = .returned (.slice (some ⟨g, 0, none⟩) len len) ∧ w'.ownsRow w.heap.size 9 1 (.slice (some ⟨g, 0, none⟩) len len) len (ss.map Value.string) ∧ Below w.heap.size w w' := by
  have hmk := run_make_row' (P := Try.prog) 44 9 (.string ByteArray.empty) 16 Try.underlying44 (by kernel_rfl) rfl .i64 .i64 len (by omega) (by omega)
  have HL := Lib.hid hs.1
  have HS := Lib.hid hs
  have HR0 : Hid (RB 9 1 w.heap.size len ((ss.take 0).map Value.string) (w.alloc (.cells (madeCells #[.string ByteArray.empty] len) 9))) := Lib.hid (by
    have := RB.new w 9 1 len #[.string ByteArray.empty]
    rw [Nat.mul_one] at this
    exact this)
  clear hs
  go_enter Try.func29, Try.ntmps29
  go_wp2
  go_loopw [4] (fun i wr => ∃ k : Nat, k ≤ len ∧ i = .int .i64 (k : Int) ∧ Hid (RB 9 1 w.heap.size len ((ss.take k).map Value.string) wr) ∧ Below w.heap.size w wr)
    (fun i _ => len - (intOf i).toNat)
  case atStart => exact ⟨0, by omega, rfl, HR0, (Below.refl _ _).alloc (Nat.le_refl _) _⟩
  case round =>
    obtain ⟨k, hk, rfl, hrb, hbel⟩ := hrel
    by_cases hlt : k < len
    · obtain ⟨b, off, rfl, hb, hc⟩ := (HS.out.below hbel).2 (by omega)
      have hck := hc k hlt
      have hkl : k < ss.length := by have := HL.out; omega
      have HN : Hid (∀ t, ss.getD k ByteArray.empty = t → RB 9 1 w.heap.size len ((ss.take (k + 1)).map Value.string) (wr.setCell ⟨w.heap.size, k, none⟩ (.string t))) := Lib.hid fun t ht => by
        have h1 := hrb.out.step k (by simp; omega) (by omega) (.string t)
        rw [List.take_add_one, List.getElem?_eq_getElem hkl, List.map_append]
        rw [List.getD_eq_getElem?_getD, List.getElem?_eq_getElem hkl] at ht
        simp only [Option.getD_some] at ht
        rw [ht]
        exact h1
      obtain ⟨t, HT⟩ : ∃ t, Hid (ss.getD k ByteArray.empty = t) := ⟨_, Lib.hid rfl⟩
      rw [HT.out] at hck
      have HN2 := Lib.hid (HN.out t HT.out)
      obtain ⟨u0, hu0⟩ := hrb.out.slot k (by omega)
      have hf0 := hrb.out.fro k
      have hbel2 := hbel.setCell (p := ⟨w.heap.size, k, none⟩) (Nat.le_refl _) (.string t)
      clear hc HN HT
      go_wp2
      go_roundw
      case rel => exact ⟨k + 1, by omega, by simp, HN2, hbel2⟩
      case measure => simp [intOf]; omega
    · have hk2 : k = len := by omega
      have HE : Hid (wr.ownsRow w.heap.size 9 1 (.slice (some ⟨w.heap.size, 0, none⟩) len len) len (ss.map Value.string)) := Lib.hid (by
        have h1 := hrb.out
        rw [hk2, List.take_of_length_le (by rw [HL.out]; exact Nat.le_refl _)] at h1
        exact h1.own (by simp [HL.out]) (Nat.le_refl _) (by omega))
      clear hrb
      go_wp2
      go_ret
      exact ⟨_, rfl, HE.out, hbel⟩
/-! ### what came in -/
/-- Sizes and numbers as they come in. -/
structure Tr.raw (t : Tr) : Prop where
  nin : t.ins.length ≤ 9223372036854775807
  nout : t.outs.length ≤ 9223372036854775807
  wit : ∀ x ∈ t.ins, x.wit.length ≤ 9223372036854775807 ∧ ∀ s ∈ x.wit, s.size ≤ 9223372036854775807
  num : ∀ x ∈ t.ins, (-9223372036854775808 ≤ x.tx ∧ x.tx ≤ 9223372036854775807) ∧ (-9223372036854775808 ≤ x.out ∧ x.out ≤ 9223372036854775807)
  lock : ∀ x ∈ t.outs, x.lock.size ≤ 9223372036854775807
  note : t.note.size ≤ 9223372036854775807
def IsTx (W : World) (a : Option Addr) (n : Nat) (b : Option Addr) (m : Nat) (t : Tr) : Prop := TrR 0 W a n b m t ∧ t.raw
section
variable {H : Type} {enc : TypeId × Value → H} {W : World} {base : Nat} {held : Bool}
set_option maxRecDepth 100000 in
theorem open_strs {fuel : Nat} {cs : List Value} {x : DataW H × List MemPlace} (h : DataW.trod enc Try.prog W base (fun _ => true) held fuel 44 cs = some x) : ∃ a n c ss, cs = [.slice a n c] ∧ SR W a n ss ∧ n ≤ 9223372036854775807 ∧ ∀ s ∈ ss, s.size ≤ 9223372036854775807 := by
  rcases open_strings Try.underlying44 Try.underlying9 (by kernel_rfl) h with ⟨hcs, _⟩ | ⟨x, l, c, zs, hcs, _, hl, hm, hz, _, hcell, hwz⟩
  · exact ⟨none, 0, 0, [], hcs, ⟨rfl, fun h => absurd h (by omega)⟩, by omega, by simp⟩
  · have hS : IsStrs W (some x) l c zs := .inr ⟨_, rfl, hl, hm, by simpa using hz, hcell, hwz⟩
    exact ⟨some x, l, c, zs.take l, hcs, hS.sr, hS.len.1, hS.sizes⟩
set_option maxRecDepth 100000 in
theorem open_in_cells {fuel : Nat} {cs : List Value} {x : DataW H × List MemPlace} (h : DataW.trod enc Try.prog W base (fun _ => true) held fuel 99 cs = some x) :
    ∃ (y : Tr.In) (wa : Option Addr) (wc : Nat), cs = [.int .i64 y.tx, .int .i64 y.out, .slice wa y.wit.length wc] ∧ SR W wa y.wit.length y.wit ∧ ((-9223372036854775808 ≤ y.tx ∧ y.tx ≤ 9223372036854775807) ∧ (-9223372036854775808 ≤ y.out ∧ y.out ≤ 9223372036854775807)) ∧ y.wit.length ≤ 9223372036854775807 ∧ ∀ s ∈ y.wit, s.size ≤ 9223372036854775807 := by
  obtain ⟨y0, y1, y2, n, rfl, hl, h0, h1, h2⟩ := trod_struct3 Try.underlying99 h
  obtain ⟨a, e0, rfl, wa⟩ := DataW.trod_int Try.underlying3 h0
  obtain ⟨b, e1, rfl, wb⟩ := DataW.trod_int Try.underlying3 h1
  obtain ⟨wa', wn, wc, ss, e2, hs, hn, hz⟩ := open_strs h2
  have hC : Try.prog.cellsOf 99 = 3 := by kernel_rfl
  have hC1 : Try.prog.cellsOf 3 = 1 := by kernel_rfl
  have hC2 : Try.prog.cellsOf 44 = 1 := by kernel_rfl
  rw [hC] at hl
  obtain ⟨x0, x1, x2, rfl⟩ : ∃ x0 x1 x2, cs = [x0, x1, x2] := by
    rcases cs with _ | ⟨x0, _ | ⟨x1, _ | ⟨x2, _ | ⟨x3, r⟩⟩⟩⟩ <;> simp at hl
    exact ⟨x0, x1, x2, rfl⟩
  simp [hC1, hC2] at e0 e1 e2
  subst e0 e1 e2
  have ba := bounds_i64 wa
  have bb := bounds_i64 wb
  obtain rfl := hs.1
  exact ⟨⟨a, b, ss⟩, wa', wc, rfl, hs, ⟨by simp only; omega, by simp only; omega⟩, hn, hz⟩
set_option maxRecDepth 100000 in
theorem open_ins {fuel : Nat} {cs : List Value} {x : DataW H × List MemPlace} (h : DataW.trod enc Try.prog W base (fun _ => true) held fuel 22 cs = some x) :
    ∃ a n c l, cs = [.slice a n c] ∧ InL 0 W a n l ∧ n ≤ 9223372036854775807 ∧ ∀ y ∈ l, ((-9223372036854775808 ≤ y.tx ∧ y.tx ≤ 9223372036854775807) ∧ (-9223372036854775808 ≤ y.out ∧ y.out ≤ 9223372036854775807)) ∧ y.wit.length ≤ 9223372036854775807 ∧ ∀ s ∈ y.wit, s.size ≤ 9223372036854775807 := by
  rcases DataW.trod_slice Try.underlying22 h with ⟨h0, _⟩ | ⟨a', len', cap', elems, rest, n, _, hcs, _, hb, hl, hm, hlen, hel, _, _⟩
  · exact ⟨none, 0, 0, [], h0, ⟨rfl, fun h => absurd h (by omega)⟩, by omega, by simp⟩
  · have hC : Try.prog.cellsOf 99 = 3 := by kernel_rfl
    rw [hC] at hel
    have each : ∀ i, ∃ y : Tr.In, i < len' → ∃ wa wc, (W.cell? (a'.add (i * 3)) = some (.int .i64 y.tx) ∧ W.cell? ((a'.add (i * 3)).add 1) = some (.int .i64 y.out) ∧ W.cell? ((a'.add (i * 3)).add 2) = some (.slice wa y.wit.length wc)) ∧ SR W wa y.wit.length y.wit ∧ ((-9223372036854775808 ≤ y.tx ∧ y.tx ≤ 9223372036854775807) ∧ (-9223372036854775808 ≤ y.out ∧ y.out ≤ 9223372036854775807)) ∧ y.wit.length ≤ 9223372036854775807 ∧ ∀ s ∈ y.wit, s.size ≤ 9223372036854775807 := by
      intro i
      by_cases hi : i < len'
      · have hh := hel i hi
        rw [List.getElem?_eq_getElem (by omega), Option.bind_eq_some_iff] at hh
        obtain ⟨cs, hcs, hy⟩ := hh
        obtain ⟨y, wa, wc, rfl, hs, h1, h2⟩ := open_in_cells hy
        obtain ⟨_, _, hc⟩ := World.cells?_some hcs
        have hz : ∀ b : Addr, b.add 0 = b := fun b => by simp [Addr.add]
        have e0 := hc 0 (by omega)
        rw [hz] at e0
        exact ⟨y, fun _ => ⟨wa, wc, ⟨e0, hc 1 (by omega), hc 2 (by omega)⟩, hs, h1, h2⟩⟩
      · exact ⟨Tr.z, fun h => absurd h hi⟩
    obtain ⟨f, hf⟩ := Classical.skolem.1 each
    have hget : ∀ j, j < len' → Tr.inAt ((List.range len').map f) j = f j := fun j hj => by
      unfold Tr.inAt
      rw [List.getD_eq_getElem?_getD, List.getElem?_map, List.getElem?_range hj]; rfl
    refine ⟨some a', len', cap', (List.range len').map f, hcs, ⟨by simp, fun h0 => ?_⟩, by unfold maxLen at hm; omega, fun y hy => ?_⟩
    · obtain ⟨b, off, spot⟩ := a'
      have hspot : spot = none := by
        obtain ⟨_, _, ⟨c0, _⟩, _⟩ := hf 0 h0
        have := World.cell?_spot c0
        simpa [Addr.add] using this
      subst hspot
      refine ⟨b, off, rfl, Nat.zero_le _, ?_, fun j hj => ?_⟩
      · obtain ⟨_, _, ⟨c0, _⟩, _⟩ := hf 0 h0
        rw [Go.WideShapes.add_plain] at c0
        exact World.block_lt_of_cell? W _ c0
      · rw [hget j hj]
        obtain ⟨wa, wc, ⟨c0, c1, c2⟩, hs, _, _⟩ := hf j hj
        rw [Go.WideShapes.add_plain] at c0
        rw [Go.WideShapes.add_plain, Go.WideShapes.add_plain] at c1 c2
        exact ⟨wa, wc, ⟨c0, c1, c2, hs, fun _ _ _ _ => Nat.zero_le _⟩⟩
    · obtain ⟨j, hj, rfl⟩ := List.mem_map.1 hy
      rw [List.mem_range] at hj
      obtain ⟨_, _, _, _, h1, h2⟩ := hf j hj
      exact ⟨h1, h2⟩
set_option maxRecDepth 100000 in
theorem open_out_cells {fuel : Nat} {cs : List Value} {x : DataW H × List MemPlace} (h : DataW.trod enc Try.prog W base (fun _ => true) held fuel 101 cs = some x) :
    ∃ (y : Tr.Out), cs = [.int .i64 y.amt, .string y.lock] ∧ y.lock.size ≤ 9223372036854775807 := by
  obtain ⟨y0, y1, n, rfl, hl, h0, h1⟩ := trod_struct2 Try.underlying101 h
  obtain ⟨a, e0, rfl, wa⟩ := DataW.trod_int Try.underlying3 h0
  obtain ⟨s, e1, rfl, ws⟩ := DataW.trod_string Try.underlying9 h1
  have hC : Try.prog.cellsOf 101 = 2 := by kernel_rfl
  have hC1 : Try.prog.cellsOf 3 = 1 := by kernel_rfl
  have hC2 : Try.prog.cellsOf 9 = 1 := by kernel_rfl
  rw [hC] at hl
  obtain ⟨x0, x1, rfl⟩ : ∃ x0 x1, cs = [x0, x1] := by
    rcases cs with _ | ⟨x0, _ | ⟨x1, _ | ⟨x2, r⟩⟩⟩ <;> simp at hl
    exact ⟨x0, x1, rfl⟩
  simp [hC1, hC2] at e0 e1
  subst e0 e1
  unfold maxLen at ws
  exact ⟨⟨a, s⟩, rfl, by simp only; omega⟩
set_option maxRecDepth 100000 in
theorem open_outs {fuel : Nat} {cs : List Value} {x : DataW H × List MemPlace} (h : DataW.trod enc Try.prog W base (fun _ => true) held fuel 23 cs = some x) :
    ∃ a n c l, cs = [.slice a n c] ∧ OuL 0 W a n l ∧ n ≤ 9223372036854775807 ∧ ∀ y ∈ l, y.lock.size ≤ 9223372036854775807 := by
  rcases DataW.trod_slice Try.underlying23 h with ⟨h0, _⟩ | ⟨a', len', cap', elems, rest, n, _, hcs, _, hb, hl, hm, hlen, hel, _, _⟩
  · exact ⟨none, 0, 0, [], h0, ⟨rfl, fun h => absurd h (by omega)⟩, by omega, by simp⟩
  · have hC : Try.prog.cellsOf 101 = 2 := by kernel_rfl
    rw [hC] at hel
    have each : ∀ i, ∃ y : Tr.Out, i < len' → (W.cell? (a'.add (i * 2)) = some (.int .i64 y.amt) ∧ W.cell? ((a'.add (i * 2)).add 1) = some (.string y.lock)) ∧ y.lock.size ≤ 9223372036854775807 := by
      intro i
      by_cases hi : i < len'
      · have hh := hel i hi
        rw [List.getElem?_eq_getElem (by omega), Option.bind_eq_some_iff] at hh
        obtain ⟨cs, hcs, hy⟩ := hh
        obtain ⟨y, rfl, h1⟩ := open_out_cells hy
        obtain ⟨_, _, hc⟩ := World.cells?_some hcs
        have hz : ∀ b : Addr, b.add 0 = b := fun b => by simp [Addr.add]
        have e0 := hc 0 (by omega)
        rw [hz] at e0
        exact ⟨y, fun _ => ⟨⟨e0, hc 1 (by omega)⟩, h1⟩⟩
      · exact ⟨Tr.zo, fun h => absurd h hi⟩
    obtain ⟨f, hf⟩ := Classical.skolem.1 each
    have hget : ∀ j, j < len' → Tr.outAt ((List.range len').map f) j = f j := fun j hj => by
      unfold Tr.outAt
      rw [List.getD_eq_getElem?_getD, List.getElem?_map, List.getElem?_range hj]; rfl
    refine ⟨some a', len', cap', (List.range len').map f, hcs, ⟨by simp, fun h0 => ?_⟩, by unfold maxLen at hm; omega, fun y hy => ?_⟩
    · obtain ⟨b, off, spot⟩ := a'
      have hspot : spot = none := by
        have := World.cell?_spot (hf 0 h0).1.1
        simpa [Addr.add] using this
      subst hspot
      refine ⟨b, off, rfl, Nat.zero_le _, ?_, fun j hj => ?_⟩
      · have c0 := (hf 0 h0).1.1
        rw [Go.WideShapes.add_plain] at c0
        exact World.block_lt_of_cell? W _ c0
      · rw [hget j hj]
        obtain ⟨⟨c0, c1⟩, _⟩ := hf j hj
        rw [Go.WideShapes.add_plain] at c0
        rw [Go.WideShapes.add_plain, Go.WideShapes.add_plain] at c1
        exact ⟨c0, c1⟩
    · obtain ⟨j, hj, rfl⟩ := List.mem_map.1 hy
      rw [List.mem_range] at hj
      exact (hf j hj).2
set_option maxRecDepth 100000 in
theorem open_tx {r : Reach} {b0 : Nat} {v : Value} {d : DataW H} {p : List MemPlace} (hv : Value.okWide Try.prog W r b0 25 v) (h : DataW.Trod enc Try.prog W base (fun _ => true) held 25 v d p) :
    ∃ a n c b m k t, v = .agg #[.slice a n c, .slice b m k, .int .i64 t.after, .string t.note] ∧ IsTx W a n b m t := by
  obtain ⟨cs, rfl, hsz⟩ := okWide_struct Try.underlying25 hv
  obtain ⟨fuel, hf⟩ := h
  obtain ⟨y0, y1, y2, y3, f, _, hl, h0, h1, h2, h3⟩ := trod_struct4 Try.underlying25 hf
  obtain ⟨a, n, c, l, e0, hI, hn, hi⟩ := open_ins h0
  obtain ⟨b, m, k, l2, e1, hO, hm, ho⟩ := open_outs h1
  obtain ⟨af, e2, rfl, wa⟩ := DataW.trod_int Try.underlying3 h2
  obtain ⟨s, e3, rfl, ws⟩ := DataW.trod_string Try.underlying9 h3
  have hC : Try.prog.cellsOf 25 = 4 := by kernel_rfl
  have hC1 : Try.prog.cellsOf 3 = 1 := by kernel_rfl
  have hC2 : Try.prog.cellsOf 9 = 1 := by kernel_rfl
  have hC3 : Try.prog.cellsOf 22 = 1 := by kernel_rfl
  have hC4 : Try.prog.cellsOf 23 = 1 := by kernel_rfl
  rw [hC] at hl
  simp only [Value.cells] at hl e0 e1 e2 e3
  obtain ⟨x0, x1, x2, x3, hx⟩ : ∃ x0 x1 x2 x3, cs.toList = [x0, x1, x2, x3] := by
    rcases hcs : cs.toList with _ | ⟨x0, _ | ⟨x1, _ | ⟨x2, _ | ⟨x3, _ | ⟨x4, r⟩⟩⟩⟩⟩ <;> rw [hcs] at hl <;> simp at hl
    exact ⟨x0, x1, x2, x3, rfl⟩
  rw [hx] at e0 e1 e2 e3
  simp [hC1, hC2, hC3, hC4] at e0 e1 e2 e3
  subst e0 e1 e2 e3
  unfold maxLen at ws
  refine ⟨a, n, c, b, m, k, ⟨l, l2, af, s⟩, ?_, ⟨hI, hO⟩, ⟨?_, ?_, fun x hx => (hi x hx).2, fun x hx => (hi x hx).1, ho, by simp only; omega⟩⟩
  · congr 1
    exact Array.toList_inj.mp hx
  · simp only; rw [hI.1]; exact hn
  · simp only; rw [hO.1]; exact hm
end

set_option maxRecDepth 100000 in
set_option maxHeartbeats 800000 in
theorem szStringS_any13 (a : Option Addr) (len cap : Nat) (ss : List ByteArray) (left : Int) (w : World) (hs : SR w a len ss) (h0 : 0 ≤ left) (h1 : left ≤ 1048576) (hlen : len ≤ 9223372036854775807) (hsz : ∀ s ∈ ss, s.size ≤ 9223372036854775807) :
    Calls Try.prog 27 #[.slice a len cap, .int .i64 left] w fun e w' => ∃ v, e = .returned (.int .i64 v) ∧ (v < 0 ∨ ((0 ≤ v ∧ v ≤ left) ∧ (len : Int) ≤ left ∧ ∀ s ∈ ss, (s.size : Int) ≤ left)) ∧ Below w.heap.size w w' := by
  by_cases hbig : left < (len : Int)
  · go_enter Try.func27, Try.ntmps27
    go_wp2
    go_ret
    exact ⟨_, rfl, .inl (by omega), Below.refl _ _⟩
  have hss := hs.1
  go_enter Try.func27, Try.ntmps27
  go_wp2
  go_loopw [1, 5] (fun v i wr => ∃ (k : Nat) (L : Int), k ≤ len ∧ i = .int .i64 (k : Int) ∧ v = .int .i64 L ∧ 0 ≤ L ∧ L ≤ left - len ∧ (∀ j, j < k → ((ss.getD j ByteArray.empty).size : Int) ≤ left) ∧ Below w.heap.size w wr)
    (fun _ i _ => len - (intOf i).toNat)
  case atStart => exact ⟨0, _, by omega, rfl, rfl, by omega, by omega, fun j hj => absurd hj (by omega), Below.refl _ _⟩
  case round =>
    obtain ⟨k, L, hk, rfl, rfl, hL0, hL1, hsm, hbel⟩ := hrel
    by_cases hlt : k < len
    · have hsz1 := hsz _ (getD_mem (ss := ss) (i := k) (by omega))
      have hsr := hs.below hbel
      obtain ⟨b, off, rfl, hb, hc⟩ := hsr.2 (by omega)
      have hck := hc k hlt
      clear hc hsr hsz hs
      obtain ⟨t, HT⟩ : ∃ t, Hid (ss.getD k ByteArray.empty = t) := ⟨_, Lib.hid rfl⟩
      rw [HT.out] at hck hsz1
      by_cases hneg : L < (t.size : Int)
      · go_wp2
        go_ret
        exact ⟨_, rfl, .inl (by omega), hbel⟩
      · go_wp2
        go_roundw
        case rel =>
          refine ⟨k + 1, _, by omega, by simp, rfl, by omega, by omega, fun j hj => ?_, hbel⟩
          by_cases hjk : j < k
          · exact hsm j hjk
          · have : j = k := by omega
            rw [this, HT.out]
            omega
        case measure => simp [intOf]; omega
    · have HS := Lib.hid hsm
      clear hsm hsz
      go_wp2
      go_ret
      refine ⟨_, rfl, .inr ⟨⟨by omega, by omega⟩, by omega, fun s hsin => ?_⟩, hbel⟩
      obtain ⟨j, hj, rfl⟩ := List.getElem_of_mem hsin
      have := HS.out j (by omega)
      rwa [List.getD_eq_getElem?_getD, List.getElem?_eq_getElem hj] at this
set_option maxRecDepth 100000 in
set_option maxHeartbeats 1600000 in
theorem szIn_any (x : Tr.In) (wa : Option Addr) (wc : Nat) (left : Int) (w : World) (hs : SR w wa x.wit.length x.wit) (h0 : 0 ≤ left) (h1 : left ≤ 1048576) (hn : x.wit.length ≤ 9223372036854775807) (hz : ∀ s ∈ x.wit, s.size ≤ 9223372036854775807) :
    Calls Try.prog 73 #[.agg #[.int .i64 x.tx, .int .i64 x.out, .slice wa x.wit.length wc], .int .i64 left] w fun e w' => ∃ v : Int, e = .returned (.int .i64 v) ∧ (v < 0 ∨ ((0 ≤ v ∧ v ≤ 1048576) ∧ x.wit.length ≤ 1048576 ∧ ∀ s ∈ x.wit, s.size ≤ 1048576)) ∧ Below w.heap.size w w' := by
  obtain ⟨tx, out, wit⟩ := x
  simp only at hs hn hz ⊢
  have hb0 : Below w.heap.size w (w.alloc (.cells #[.int .i64 tx, .int .i64 out, .slice wa wit.length wc] 99 (0, 0))) := (Below.refl _ _).alloc (Nat.le_refl _) _
  have hc := szStringS_any13 wa wit.length wc wit left _ (hs.below hb0) h0 h1 hn hz
  obtain ⟨n, hnn⟩ : ∃ n, wit.length = n := ⟨_, rfl⟩
  rw [hnn] at hc hb0 ⊢
  clear hs hz
  go_enter Try.func73, Try.ntmps73
  go_wp2_with fail
  refine hc.mono ?_
  rintro e w1 ⟨v, rfl, hv, hx⟩
  have hb1 := hb0.trans (hx.mono hb0.size)
  clear hx hc
  by_cases hneg : v < 0
  · clear hv
    go_wp2
    go_ret
    exact ⟨-1, rfl, .inl (by decide), hb1⟩
  · have HV := Lib.hid (hv.resolve_left hneg)
    clear hv
    go_wp2
    go_ret
    exact ⟨v, rfl, .inr ⟨⟨by have := HV.out; omega, by have := HV.out; omega⟩, by have := HV.out; omega, fun s hs => by have := HV.out.2.2 s hs; omega⟩, hb1⟩

set_option maxRecDepth 100000 in
set_option maxHeartbeats 1600000 in
theorem szInS_any (lo : Nat) (a : Option Addr) (n c : Nat) (l : List Tr.In) (left : Int) (w : World) (h : InL lo w a n l) (h0 : 0 ≤ left) (h1 : left ≤ 1048576) (hn : n ≤ 9223372036854775807) (hz : ∀ x ∈ l, x.wit.length ≤ 9223372036854775807 ∧ ∀ s ∈ x.wit, s.size ≤ 9223372036854775807) :
    Calls Try.prog 33 #[.slice a n c, .int .i64 left] w fun e w' => ∃ v : Int, e = .returned (.int .i64 v) ∧ (v < 0 ∨ ((0 ≤ v ∧ v ≤ 1048576) ∧ n ≤ 1048576 ∧ ∀ x ∈ l, x.wit.length ≤ 1048576 ∧ ∀ s ∈ x.wit, s.size ≤ 1048576)) ∧ Below w.heap.size w w' := by
  by_cases hbig : left - (n : Int) < 0
  · go_enter Try.func33, Try.ntmps33
    go_wp2
    go_ret
    exact ⟨-1, rfl, .inl (by decide), Below.refl _ _⟩
  have hn2 : n ≤ 1048576 := by omega
  have HL := Lib.hid h.1
  have HH := Lib.hid h
  have HZ := Lib.hid hz
  clear h hz
  go_enter Try.func33, Try.ntmps33
  go_wp2
  go_loopw [1, 5] (fun v i wr => ∃ (k : Nat) (u : Int), k ≤ n ∧ i = .int .i64 (k : Int) ∧ v = .int .i64 u ∧ 0 ≤ u ∧ u ≤ 1048576 ∧ Hid (∀ j, j < k → (Tr.inAt l j).wit.length ≤ 1048576 ∧ ∀ s ∈ (Tr.inAt l j).wit, s.size ≤ 1048576) ∧ Below w.heap.size w wr)
    (fun _ i _ => n - (intOf i).toNat)
  case atStart => exact ⟨0, _, by omega, rfl, rfl, by omega, by omega, Lib.hid (fun j hj => absurd hj (by omega)), Below.refl _ _⟩
  case round =>
    obtain ⟨k, u, hk, rfl, rfl, u0, u1, hsm, hbel⟩ := hrel
    by_cases hlt : k < n
    · obtain ⟨g, off, rfl, _, _, hc⟩ := (HH.out.below hbel).2 (by omega)
      obtain ⟨wa, wc, c0, c1, c2, c3, _⟩ := hc k hlt
      have hkl : k < l.length := by have := HL.out; omega
      have hzk := HZ.out _ (Tr.inAt_mem hkl)
      have HSTEP : Hid ((Tr.inAt l k).wit.length ≤ 1048576 → (∀ s ∈ (Tr.inAt l k).wit, s.size ≤ 1048576) → ∀ j, j < k + 1 → (Tr.inAt l j).wit.length ≤ 1048576 ∧ ∀ s ∈ (Tr.inAt l j).wit, s.size ≤ 1048576) := Lib.hid fun q1 q2 j hj => by
        by_cases hjk : j = k
        · subst hjk; exact ⟨q1, q2⟩
        · exact hsm.out j (by omega)
      obtain ⟨x, HX⟩ : ∃ x, Hid (Tr.inAt l k = x) := ⟨_, Lib.hid rfl⟩
      rw [HX.out] at c0 c1 c2 c3 hzk HSTEP
      have hcon := szIn_any x wa wc u wr c3 u0 u1 hzk.1 hzk.2
      obtain ⟨tx, out, wit⟩ := x
      simp only at c0 c1 c2 hcon HSTEP
      obtain ⟨nw, hnw⟩ : ∃ nw, wit.length = nw := ⟨_, rfl⟩
      rw [hnw] at c2 hcon HSTEP
      clear hc c3 hzk HX hnw
      go_wp2_with fail
      refine hcon.mono ?_
      rintro e w1 ⟨v, rfl, hv, hx⟩
      have hbel1 := below_aft13 hbel hx
      clear hx hcon hbel
      by_cases hneg : v < 0
      · clear hv HSTEP
        go_wp2
        go_ret
        exact ⟨-1, rfl, .inl (by decide), hbel1⟩
      · obtain ⟨⟨v0, v1⟩, q1, q2⟩ := hv.resolve_left hneg
        have HS2 := Lib.hid (HSTEP.out q1 q2)
        clear hv HSTEP q2 hsm
        go_wp2
        go_roundw
        case rel => exact ⟨k + 1, v, by omega, by simp, rfl, v0, v1, HS2, hbel1⟩
        case measure => simp [intOf]; omega
    · have HE : Hid (∀ x ∈ l, x.wit.length ≤ 1048576 ∧ ∀ s ∈ x.wit, s.size ≤ 1048576) := Lib.hid fun x hx => by
        obtain ⟨j, hj, rfl⟩ := List.getElem_of_mem hx
        have := hsm.out j (by have := HL.out; omega)
        unfold Tr.inAt at this
        rw [List.getD_eq_getElem?_getD, List.getElem?_eq_getElem hj] at this
        exact this
      clear hsm
      go_wp2
      go_ret
      exact ⟨u, rfl, .inr ⟨⟨u0, u1⟩, hn2, HE.out⟩, hbel⟩

set_option maxRecDepth 100000 in
set_option maxHeartbeats 1600000 in
theorem szOut_any (am left : Int) (t : ByteArray) (w : World) (l0 : 0 ≤ left) (l1 : left ≤ 1048576) (ht : t.size ≤ 9223372036854775807) :
    Calls Try.prog 74 #[.agg #[.int .i64 am, .string t], .int .i64 left] w fun e w' => ∃ v : Int, e = .returned (.int .i64 v) ∧ (v < 0 ∨ ((0 ≤ v ∧ v ≤ 1048576) ∧ t.size ≤ 1048576)) ∧ Below w.heap.size w w' := by
  by_cases h : left - (t.size : Int) < 0
  · go_enter Try.func74, Try.ntmps74
    go_wp2
    go_ret
    exact ⟨-1, rfl, .inl (by decide), (Below.refl _ _).alloc (Nat.le_refl _) _⟩
  · go_enter Try.func74, Try.ntmps74
    go_wp2
    go_ret
    exact ⟨_, rfl, .inr ⟨⟨by omega, by omega⟩, by omega⟩, (Below.refl _ _).alloc (Nat.le_refl _) _⟩
set_option maxRecDepth 100000 in
set_option maxHeartbeats 1600000 in
theorem szOutS_any (lo : Nat) (a : Option Addr) (n c : Nat) (l : List Tr.Out) (left : Int) (w : World) (h : OuL lo w a n l) (h0 : 0 ≤ left) (h1 : left ≤ 1048576) (hn : n ≤ 9223372036854775807) (hz : ∀ x ∈ l, x.lock.size ≤ 9223372036854775807) :
    Calls Try.prog 34 #[.slice a n c, .int .i64 left] w fun e w' => ∃ v : Int, e = .returned (.int .i64 v) ∧ (v < 0 ∨ ((0 ≤ v ∧ v ≤ 1048576) ∧ n ≤ 1048576 ∧ ∀ x ∈ l, x.lock.size ≤ 1048576)) ∧ Below w.heap.size w w' := by
  by_cases hbig : left - (n : Int) < 0
  · go_enter Try.func34, Try.ntmps34
    go_wp2
    go_ret
    exact ⟨-1, rfl, .inl (by decide), Below.refl _ _⟩
  have hn2 : n ≤ 1048576 := by omega
  have HL := Lib.hid h.1
  have HH := Lib.hid h
  have HZ := Lib.hid hz
  clear h hz
  go_enter Try.func34, Try.ntmps34
  go_wp2
  go_loopw [1, 5] (fun v i wr => ∃ (k : Nat) (u : Int), k ≤ n ∧ i = .int .i64 (k : Int) ∧ v = .int .i64 u ∧ 0 ≤ u ∧ u ≤ 1048576 ∧ Hid (∀ j, j < k → (Tr.outAt l j).lock.size ≤ 1048576) ∧ Below w.heap.size w wr)
    (fun _ i _ => n - (intOf i).toNat)
  case atStart => exact ⟨0, _, by omega, rfl, rfl, by omega, by omega, Lib.hid (fun j hj => absurd hj (by omega)), Below.refl _ _⟩
  case round =>
    obtain ⟨k, u, hk, rfl, rfl, u0, u1, hsm, hbel⟩ := hrel
    by_cases hlt : k < n
    · obtain ⟨g, off, rfl, _, _, hc⟩ := (HH.out.below hbel).2 (by omega)
      obtain ⟨c0, c1⟩ := hc k hlt
      have hkl : k < l.length := by have := HL.out; omega
      have hzk := HZ.out _ (Tr.outAt_mem hkl)
      have HSTEP : Hid ((Tr.outAt l k).lock.size ≤ 1048576 → ∀ j, j < k + 1 → (Tr.outAt l j).lock.size ≤ 1048576) := Lib.hid fun q1 j hj => by
        by_cases hjk : j = k
        · subst hjk; exact q1
        · exact hsm.out j (by omega)
      obtain ⟨x, HX⟩ : ∃ x, Hid (Tr.outAt l k = x) := ⟨_, Lib.hid rfl⟩
      rw [HX.out] at c0 c1 hzk HSTEP
      obtain ⟨am, lk⟩ := x
      simp only at c0 c1 hzk HSTEP
      have hcon := szOut_any am u lk wr u0 u1 hzk
      clear hc hzk HX
      go_wp2_with fail
      refine hcon.mono ?_
      rintro e w1 ⟨v, rfl, hv, hx⟩
      have hbel1 := below_aft13 hbel hx
      clear hx hcon hbel
      by_cases hneg : v < 0
      · clear hv HSTEP
        go_wp2
        go_ret
        exact ⟨-1, rfl, .inl (by decide), hbel1⟩
      · obtain ⟨⟨v0, v1⟩, q1⟩ := hv.resolve_left hneg
        have HS2 := Lib.hid (HSTEP.out q1)
        clear hv HSTEP hsm
        go_wp2
        go_roundw
        case rel => exact ⟨k + 1, v, by omega, by simp, rfl, v0, v1, HS2, hbel1⟩
        case measure => simp [intOf]; omega
    · have HE : Hid (∀ x ∈ l, x.lock.size ≤ 1048576) := Lib.hid fun x hx => by
        obtain ⟨j, hj, rfl⟩ := List.getElem_of_mem hx
        have := hsm.out j (by have := HL.out; omega)
        unfold Tr.outAt at this
        rw [List.getD_eq_getElem?_getD, List.getElem?_eq_getElem hj] at this
        exact this
      clear hsm
      go_wp2
      go_ret
      exact ⟨u, rfl, .inr ⟨⟨u0, u1⟩, hn2, HE.out⟩, hbel⟩

set_option maxRecDepth 100000 in
set_option maxHeartbeats 1600000 in
theorem szTx_any (lo : Nat) (a : Option Addr) (n c : Nat) (b : Option Addr) (m d : Nat) (t : Tr) (left : Int) (w : World) (h : TrR lo w a n b m t) (hr : t.raw) (h0 : 0 ≤ left) (h1 : left ≤ 1048576) :
    Calls Try.prog 10 #[.agg #[.slice a n c, .slice b m d, .int .i64 t.after, .string t.note], .int .i64 left] w fun e w' => ∃ v : Int, e = .returned (.int .i64 v) ∧ (v < 0 ∨ ((0 ≤ v ∧ v ≤ 1048576) ∧ t.small)) ∧ Below w.heap.size w w' := by
  have vB0 : Bk w.heap.size 25 #[.slice a n c, .slice b m d, .int .i64 t.after, .string t.note] (w.alloc (.cells #[.slice a n c, .slice b m d, .int .i64 t.after, .string t.note] 25 (0, 0))) := Bk.new _ _ _
  have hb0 : Below w.heap.size w (w.alloc (.cells #[.slice a n c, .slice b m d, .int .i64 t.after, .string t.note] 25 (0, 0))) := (Below.refl _ _).alloc (Nat.le_refl _) _
  have hI := szInS_any lo a n c t.ins left _ (h.below hb0).ins h0 h1 (by rw [← h.ins.1]; exact hr.nin) hr.wit
  have HO : Hid (∀ W u, OuL lo W b m t.outs → 0 ≤ u → u ≤ 1048576 → Calls Try.prog 34 #[.slice b m d, .int .i64 u] W fun e w' => ∃ v : Int, e = .returned (.int .i64 v) ∧ (v < 0 ∨ ((0 ≤ v ∧ v ≤ 1048576) ∧ m ≤ 1048576 ∧ ∀ x ∈ t.outs, x.lock.size ≤ 1048576)) ∧ Below W.heap.size W w') := Lib.hid fun W u hW u0 u1 =>
    szOutS_any lo b m d t.outs u W hW u0 u1 (by rw [← h.outs.1]; exact hr.nout) hr.lock
  have HH := Lib.hid h
  have HR := Lib.hid hr
  have hnz := hr.note
  obtain ⟨d0, d1, d2, d3⟩ := Bk.c4 vB0
  clear h hr
  go_enter Try.func10, Try.ntmps10
  go_wp2_with fail
  refine hI.mono ?_
  rintro e w1 ⟨v, rfl, hv, hx⟩
  have hb1 := hb0.trans (hx.mono hb0.size)
  obtain ⟨e0, e1, e2, e3⟩ := Bk.c4 (vB0.below hx)
  have vB1 := vB0.below hx
  clear hx hI d0 d1 d2 d3
  by_cases hneg : v < 0
  · clear hv
    go_wp2
    go_ret
    exact ⟨-1, rfl, .inl (by decide), hb1⟩
  have HV := Lib.hid (hv.resolve_left hneg)
  have hcO := HO.out w1 v (HH.out.below hb1).outs HV.out.1.1 HV.out.1.2
  clear hv
  go_wp2_with fail
  refine hcO.mono ?_
  rintro e w2 ⟨u, rfl, hu, hx⟩
  have hb2 := hb1.trans (hx.mono hb1.size)
  obtain ⟨f0, f1, f2, f3⟩ := Bk.c4 (vB1.below hx)
  clear hx hcO e0 e1 e2 e3
  by_cases hneg2 : u < 0
  · clear hu
    go_wp2
    go_ret
    exact ⟨-1, rfl, .inl (by decide), hb2⟩
  have HU := Lib.hid (hu.resolve_left hneg2)
  have u0 := HU.out.1
  clear hu
  by_cases hneg3 : u - (t.note.size : Int) < 0
  · go_wp2
    go_ret
    exact ⟨-1, rfl, .inl (by decide), hb2⟩
  · have hnz2 : t.note.size ≤ 1048576 := by omega
    go_wp2
    go_ret
    exact ⟨_, rfl, .inr ⟨⟨by omega, by omega⟩, ⟨by rw [HH.out.ins.1]; exact HV.out.2.1, by rw [HH.out.outs.1]; exact HU.out.2.1, HV.out.2.2, HR.out.num, HU.out.2.2, hnz2⟩⟩, hb2⟩

end Go.Proofs.Ytedjbikphdflhab
