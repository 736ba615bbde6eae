/-
  The laws' own helpers for shares; a list of shares as an argument.
-/
import Derived.Test.YtbhpealkhpginaaQt
import Derived.ChangeSame
import Derived.Deep.Strs
import Derived.Lib.SmallJoins
import Derived.OpenShut
import Derived.WideShapes
import Derived.Deep.RegionHeld3
namespace Go.Proofs.Ytbhpealkhpginaa
open Go.RowKit Go.Joins Go.WideShapes Go.ChangeShapes Go.Deep

/-- What came in as a list of shares. -/
def IsPts (w : World) (a : Option Addr) (len cap : Nat) (l : List (Int × Int)) : Prop :=
  len ≤ cap ∧ cap ≤ 9223372036854775807 ∧ QR w a len l
section
variable {H : Type} {enc : TypeId × Value → H} {W : World} {base : Nat} {spare : Nat → Bool} {held : Bool}
set_option maxRecDepth 100000 in
theorem open_part_cells {fuel : Nat} {cs : List Value} {x : DataW H × List MemPlace} (h : DataW.trod enc Try.prog W base spare held fuel 73 cs = some x) :
    ∃ X Y : Int, cs = [.int .i64 X, .int .i64 Y] := by
  obtain ⟨z0, z1, m, rfl, hl2, k0, k1⟩ := trod_struct2 Try.underlying73 h
  obtain ⟨b, e2, rfl, wb⟩ := DataW.trod_int Try.underlying3 k0
  obtain ⟨c, e3, rfl, wc⟩ := DataW.trod_int Try.underlying3 k1
  have hC : Try.prog.cellsOf 73 = 2 := by kernel_rfl
  have hC1 : Try.prog.cellsOf 3 = 1 := by kernel_rfl
  rw [hC] at hl2
  obtain ⟨x0, x1, rfl⟩ : ∃ x0 x1, cs = [x0, x1] := by
    rcases cs with _ | ⟨x0, _ | ⟨x1, _ | ⟨x2, r⟩⟩⟩ <;> simp at hl2
    exact ⟨x0, x1, rfl⟩
  simp [hC1] at e2 e3
  subst e2 e3
  exact ⟨b, c, rfl⟩
set_option maxRecDepth 100000 in
theorem open_pts {fuel : Nat} {a : Option Addr} {len cap : Nat} {x : DataW H × List MemPlace} (h : DataW.trod enc Try.prog W base spare held fuel 49 [.slice a len cap] = some x) : ∃ l, IsPts W a len cap l := by
  rcases DataW.trod_slice Try.underlying49 h with ⟨h0, _⟩ | ⟨a', len', cap', elems, rest, n, _, hcs, _, hb, hl, hm, hlen, hel, _, _⟩
  · simp at h0
    obtain ⟨rfl, rfl, rfl⟩ := h0
    exact ⟨[], by omega, by omega, ⟨rfl, fun h => absurd h (by omega)⟩⟩
  · simp at hcs
    obtain ⟨rfl, rfl, rfl⟩ := hcs
    have hC : Try.prog.cellsOf 73 = 2 := by kernel_rfl
    rw [hC] at hel
    have each : ∀ i, ∃ y : Int × Int, i < len → W.cell? (a'.add (i * 2)) = some (.int .i64 y.1) ∧ W.cell? ((a'.add (i * 2)).add 1) = some (.int .i64 y.2) := by
      intro i
      by_cases hi : i < len
      · have hh := hel i hi
        rw [List.getElem?_eq_getElem (by omega), Option.bind_eq_some_iff] at hh
        obtain ⟨cs, hcs, hy⟩ := hh
        obtain ⟨X, Y, rfl⟩ := open_part_cells hy
        obtain ⟨_, _, hc⟩ := World.cells?_some hcs
        have hz : ∀ b : Addr, b.add 0 = b := fun b => by simp [Addr.add]
        have e0 := hc 0 (by omega)
        rw [hz] at e0
        exact ⟨⟨X, Y⟩, fun _ => ⟨e0, hc 1 (by omega)⟩⟩
      · exact ⟨(0, 0), fun h => absurd h hi⟩
    obtain ⟨f, hf⟩ := Classical.skolem.1 each
    refine ⟨(List.range len).map f, hl, by unfold maxLen at hm; omega, ⟨by simp, fun h0 => ?_⟩⟩
    obtain ⟨b, off, spot⟩ := a'
    have hspot : spot = none := by
      have := World.cell?_spot (hf 0 h0).1
      simpa [Addr.add] using this
    subst hspot
    have hget : ∀ j, j < len → ((List.range len).map f).getD j (0, 0) = f j := fun j hj => by
      rw [List.getD_eq_getElem?_getD, List.getElem?_map, List.getElem?_range hj]; rfl
    refine ⟨b, off, rfl, ?_, fun j hj => ?_⟩
    · have := (hf 0 h0).1
      rw [Go.WideShapes.add_plain] at this
      exact World.block_lt_of_cell? W _ this
    · unfold Po.X Po.Y
      rw [hget j hj]
      obtain ⟨c0, c1⟩ := hf j hj
      rw [Go.WideShapes.add_plain] at c0
      rw [Go.WideShapes.add_plain, Go.WideShapes.add_plain] at c1
      exact ⟨c0, c1⟩
end
set_option maxRecDepth 100000 in
set_option maxHeartbeats 800000 in
theorem toPart_any (X Y : Int) (w : World) :
    Calls Try.prog 51 #[.agg #[.int .i64 X, .int .i64 Y]] w fun e w' => e = .returned (.agg #[.int .i64 X, .int .i64 Y]) ∧ Below w.heap.size w w' := by
  go_enter Try.func51, Try.ntmps51
  go_wp2
  refine bodyPost_ret (results_cell_row (P := Try.prog) rfl _ _ (w.heap.size + 1) 35 _ (0, 0) _ rfl ((Bk.new' (w.alloc _) 35 #[.int .i64 X, .int .i64 Y] _ (by simp)).alloc _).held Try.underlying35 rfl (by kernel_rfl)) rfl ?_
  exact ⟨rfl, below_alloc (below_alloc (below_alloc (Below.refl _ _) _) _) _⟩
set_option maxRecDepth 100000 in
theorem szPartS_any (a : Option Addr) (len cap : Nat) (w : World) (hlen : len ≤ 9223372036854775807) :
    Calls Try.prog 31 #[.slice a len cap, .int .i64 1048576] w fun e w' => (∃ v : Int, e = .returned (.int .i64 v) ∧ (v < 0 ∨ len ≤ 1048576)) ∧ w' = w := by
  by_cases h0 : (1048576 : Int) - (len : Int) < 0
  · go_enter Try.func31, Try.ntmps31
    go_wp2
    go_ret
    first | exact ⟨⟨-1, rfl, .inl (by decide)⟩, rfl⟩ | exact ⟨⟨-1, rfl⟩, rfl⟩
  · have h1 : len ≤ 1048576 := by omega
    go_enter Try.func31, Try.ntmps31
    go_wp2
    go_ret
    first | exact ⟨⟨_, rfl, .inr h1⟩, rfl⟩ | exact ⟨⟨_, rfl⟩, rfl⟩ | exact ⟨_, rfl⟩ | exact rfl
set_option maxRecDepth 100000 in
set_option maxHeartbeats 800000 in
theorem eqPart_any (X Y : Int) (w : World) :
    Calls Try.prog 33 #[.agg #[.int .i64 X, .int .i64 Y], .agg #[.int .i64 X, .int .i64 Y]] w fun e w' => e = .returned (.bool true) ∧ Below w.heap.size w w' := by
  have hc := below_alloc (below_alloc (Below.refl w.heap.size w) (.cells #[.int .i64 X, .int .i64 Y] 35 (0, 0))) (.cells #[.int .i64 X, .int .i64 Y] 35 (0, 0))
  go_enter Try.func33, Try.ntmps33
  go_wp2
  go_ret
  exact ⟨rfl, hc⟩
set_option maxRecDepth 100000 in
set_option maxHeartbeats 1600000 in
theorem eqPartS_any (a b len cap cap' : Nat) (l : List (Int × Int)) (w : World) (ha : QR w (some ⟨a, 0, none⟩) len l) (hb : QR w (some ⟨b, 0, none⟩) len l) (hlen : len ≤ 9223372036854775807) :
    Calls Try.prog 26 #[.slice (some ⟨a, 0, none⟩) len cap, .slice (some ⟨b, 0, none⟩) len cap'] w fun e w' => e = .returned (.bool true) ∧ Below w.heap.size w w' := by
  go_enter Try.func26, Try.ntmps26
  go_wp2
  go_loopw [5] (fun i wr => ∃ k : Nat, k ≤ len ∧ i = .int .i64 (k : Int) ∧ Below w.heap.size w wr)
    (fun i _ => len - (intOf i).toNat)
  case atStart => exact ⟨0, by omega, rfl, Below.refl _ _⟩
  case round =>
    obtain ⟨k, hk, rfl, hbel⟩ := hrel
    by_cases hlt : k < len
    · have hA : ∀ W, Below w.heap.size w W → W.cell? ⟨a, k * 2, none⟩ = some (.int .i64 (Po.X l k)) ∧ W.cell? ⟨a, k * 2 + 1, none⟩ = some (.int .i64 (Po.Y l k)) := fun W h => by
        obtain ⟨g, off, he, _, hc⟩ := (ha.below h).2 (show 0 < len by omega)
        cases he
        have := hc k hlt
        simp only [Nat.zero_add] at this
        exact this
      have hB : ∀ W, Below w.heap.size w W → W.cell? ⟨b, k * 2, none⟩ = some (.int .i64 (Po.X l k)) ∧ W.cell? ⟨b, k * 2 + 1, none⟩ = some (.int .i64 (Po.Y l k)) := fun W h => by
        obtain ⟨g, off, he, _, hc⟩ := (hb.below h).2 (show 0 < len by omega)
        cases he
        have := hc k hlt
        simp only [Nat.zero_add] at this
        exact this
      obtain ⟨X, hX⟩ : ∃ x, Hid (Po.X l k = x) := ⟨_, Lib.hid rfl⟩
      obtain ⟨Y, hY⟩ : ∃ x, Hid (Po.Y l k = x) := ⟨_, Lib.hid rfl⟩
      rw [hX.out, hY.out] at hA hB
      clear hX hY ha hb
      have hSof : ∀ W, Below w.heap.size w W → (W.cell? ⟨a, k * 2, none⟩ = some (.int .i64 X) ∧ W.cell? ⟨a, k * 2 + 1, none⟩ = some (.int .i64 Y)) ∧ W.cell? ⟨b, k * 2, none⟩ = some (.int .i64 X) ∧ W.cell? ⟨b, k * 2 + 1, none⟩ = some (.int .i64 Y) := fun W h => ⟨hA W h, hB W h⟩
      have hS0 := hSof wr.drew hbel.drew
      clear hA hB
      go_wp2
      go_region_held3 (fun W => (W.cell? ⟨a, k * 2, none⟩ = some (.int .i64 X) ∧ W.cell? ⟨a, k * 2 + 1, none⟩ = some (.int .i64 Y)) ∧ W.cell? ⟨b, k * 2, none⟩ = some (.int .i64 X) ∧ W.cell? ⟨b, k * 2 + 1, none⟩ = some (.int .i64 Y)) (first | with_reducible exact hS0 | with_reducible exact hS1)
        (first | (go_at_call 33; refine (eqPart_any X Y _).mono ?_; rintro e w1 ⟨rfl, hb1⟩; have hb2 := below_after hbel.drew hb1; have hS1 := hSof w1 hb2))
      go_wp2
      go_roundw
      case rel => exact ⟨k + 1, by omega, by simp, hb2⟩
      case measure => simp [intOf]; omega
    · go_wp2
      go_ret
      exact ⟨rfl, hbel⟩
/-- The block g holds len shares, the first k of which are those of l. -/
def PtBlk (g len k : Nat) (l : List (Int × Int)) (w : World) : Prop :=
  ∃ cs : Array Value, w.heap[g]? = some (.cells cs 35 (0, 0)) ∧ cs.size = len * 2 ∧ ∀ j, j < k → cs[j * 2]? = some (.int .i64 (Po.X l j)) ∧ cs[j * 2 + 1]? = some (.int .i64 (Po.Y l j))
theorem PtBlk.step {g len k : Nat} {l : List (Int × Int)} {w : World} (h : PtBlk g len k l w) (hk : k < len) : PtBlk g len (k + 1) l ((w.setCell ⟨g, k * 2, none⟩ (.int .i64 (Po.X l k))).setCell ⟨g, k * 2 + 1, none⟩ (.int .i64 (Po.Y l k))) := by
  obtain ⟨cs, h1, h2, h3⟩ := h
  refine ⟨_, block_setCell (block_setCell h1 (k * 2) _) (k * 2 + 1) _, by simpa using h2, fun j hj => ?_⟩
  by_cases hjk : j = k
  · subst hjk
    refine ⟨?_, ?_⟩ <;> simp [Array.getElem?_setIfInBounds, h2] <;> omega
  · obtain ⟨c0, c1⟩ := h3 j (by omega)
    refine ⟨?_, ?_⟩ <;> simp only [Array.getElem?_setIfInBounds] <;> (repeat rw [if_neg (by omega)]) <;> assumption
theorem PtBlk.slot {g len k : Nat} {l : List (Int × Int)} {w : World} (h : PtBlk g len k l w) (i : Nat) (hi : i < len * 2) : ∃ u, w.cell? ⟨g, i, none⟩ = some u := by
  obtain ⟨cs, h1, h2, _⟩ := h
  exact ⟨cs[i]'(by omega), by simp [World.cell?, h1, show i < cs.size by omega]⟩
theorem PtBlk.fro {g len k : Nat} {l : List (Int × Int)} {w : World} (h : PtBlk g len k l w) (i : Nat) : w.frozen? ⟨g, i, none⟩ = false := by
  obtain ⟨cs, h1, _, _⟩ := h
  simp [World.frozen?, h1]
theorem PtBlk.below {g len k : Nat} {l : List (Int × Int)} {w w' : World} (h : PtBlk g len k l w) (hb : Below w.heap.size w w') : PtBlk g len k l w' := by
  obtain ⟨cs, h1, h2, h3⟩ := h
  exact ⟨cs, (hb.block g (lt_of_block h1)).trans h1, h2, h3⟩
theorem PtBlk.qr {g len : Nat} {l : List (Int × Int)} {w : World} (h : PtBlk g len len l w) (hl : l.length = len) : QR w (some ⟨g, 0, none⟩) len l := by
  obtain ⟨cs, h1, h2, h3⟩ := h
  refine ⟨hl, fun _ => ⟨g, 0, rfl, lt_of_block h1, fun j hj => ?_⟩⟩
  obtain ⟨c0, c1⟩ := h3 j hj
  simp only [Nat.zero_add]
  have hc : ∀ i, w.cell? ⟨g, i, none⟩ = cs[i]? := fun i => by simp [World.cell?, h1]
  exact ⟨(hc _).trans c0, (hc _).trans c1⟩
set_option maxRecDepth 100000 in
set_option maxHeartbeats 1600000 in
theorem toPartS_any (a : Option Addr) (len cap : Nat) (l : List (Int × Int)) (w : World) (hs : QR w a len l) (hlen : len ≤ 1048576) :
    Calls Try.prog 32 #[.slice a len cap] w fun e w' => ∃ b, e = .returned (.slice (some ⟨b, 0, none⟩) len len) ∧ QR w' (some ⟨b, 0, none⟩) len l ∧ Below w.heap.size w w' := by
  obtain ⟨i0, hi, hz0, hz1, hz2⟩ := info_parts info_part
  have hmk : ∀ W : World, (Instr.makeSlice 26 (.int .i64 (len : Int)) (.int .i64 (len : Int))).run Try.prog W = .ok (.slice (some ⟨W.heap.size, 0, none⟩) len len) (W.alloc (.cells (madeCells #[.int .i64 0, .int .i64 0] (len * 2)) 35)) := fun W => by
    have := run_make (P := Try.prog) W 26 35 i0 _ Try.underlying26 hi hz0 .i64 .i64 (len : Int) (len : Int) (by omega) (by omega) (by rw [hz2]; omega) (by omega)
    rw [hz1] at this
    simpa [Value.cells] using this
  have hl1 := hs.1
  clear hi hz0 hz1 hz2
  go_enter Try.func32, Try.ntmps32
  go_wp2
  go_loopw [4] (fun i wr => ∃ k : Nat, k ≤ len ∧ i = .int .i64 (k : Int) ∧ Hid (PtBlk w.heap.size len k l wr) ∧ w.heap.size < wr.heap.size ∧ Below w.heap.size w wr)
    (fun i _ => len - (intOf i).toNat)
  case atStart => exact ⟨0, by omega, rfl, Lib.hid ⟨_, heap_alloc_new _ _, size_madeCells _ _, fun j hj => absurd hj (by omega)⟩, by simp, (Below.refl _ _).alloc (Nat.le_refl _) _⟩
  case round =>
    obtain ⟨k, hk, rfl, hblk, hlt0, hbel⟩ := hrel
    by_cases hlt : k < len
    · obtain ⟨b, off, rfl, hb, hc⟩ := (hs.below hbel).2 (by omega)
      obtain ⟨d0, d1⟩ := hc k hlt
      have hstep : ∀ W, Hid (PtBlk w.heap.size len k l W) → Hid (PtBlk w.heap.size len (k + 1) l ((W.setCell ⟨w.heap.size, k * 2, none⟩ (.int .i64 (Po.X l k))).setCell ⟨w.heap.size, k * 2 + 1, none⟩ (.int .i64 (Po.Y l k)))) := fun W hW => Lib.hid (hW.out.step hlt)
      obtain ⟨X, hX⟩ : ∃ x, Hid (Po.X l k = x) := ⟨_, Lib.hid rfl⟩
      obtain ⟨Y, hY⟩ : ∃ x, Hid (Po.Y l k = x) := ⟨_, Lib.hid rfl⟩
      rw [hX.out] at d0 hstep
      rw [hY.out] at d1 hstep
      clear hc hb hs
      go_wp2_with fail
      refine (toPart_any X Y _).mono ?_
      rintro e w1 ⟨rfl, hb1⟩
      have hblk1 := Lib.hid (hblk.out.below hb1)
      have hbel1 := below_after hbel hb1
      have hlt1 : w.heap.size < w1.heap.size := Nat.lt_of_lt_of_le hlt0 hb1.size
      obtain ⟨z0, s0⟩ := hblk1.out.slot (k * 2) (by omega)
      obtain ⟨z1, s1⟩ := hblk1.out.slot (k * 2 + 1) (by omega)
      have f0 := hblk1.out.fro (k * 2)
      have f1 := hblk1.out.fro (k * 2 + 1)
      have hblk2 := hstep _ hblk1
      have hbel2 := ((hbel1).setCell (p := ⟨w.heap.size, k * 2, none⟩) (Nat.le_refl _) (.int .i64 X)).setCell (p := ⟨w.heap.size, k * 2 + 1, none⟩) (Nat.le_refl _) (.int .i64 Y)
      clear hstep hblk hX hY hblk1 hbel1 hbel hb1
      go_wp2
      go_roundw
      case rel => exact ⟨k + 1, by omega, by simp, hblk2, by simpa [World.setCell] using hlt1, hbel2⟩
      case measure => simp [intOf]; omega
    · have hk2 : k = len := by omega
      subst hk2
      clear hs
      go_wp2
      go_ret
      exact ⟨_, rfl, hblk.out.qr hl1, hbel⟩
end Go.Proofs.Ytbhpealkhpginaa
