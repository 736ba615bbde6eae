/-
  The laws' own helpers for lists of signed messages; a list of signed messages as an argument.
-/
import Derived.Test.YtimajobbkemdbabSx
import Derived.Test.YtimajobbkemdbabVb
namespace Go.Proofs.Ytimajobbkemdbab
open Go.RowKit Go.Joins Go.WideShapes Go.ChangeShapes Go.Deep

/-- What came in as a list of signed messages. -/
def IsSigs (w : World) (a : Option Addr) (len cap : Nat) (l : List Sg.It) : Prop :=
  len ≤ cap ∧ cap ≤ 9223372036854775807 ∧ GR w a len l ∧ ∀ j, j < len → (l.getD j Sg.it0).text.size ≤ 9223372036854775807
section
variable {H : Type} {enc : TypeId × Value → H} {W : World} {base : Nat} {spare : Nat → Bool} {held : Bool}
set_option maxRecDepth 100000 in
theorem open_signeds {fuel : Nat} {a : Option Addr} {len cap : Nat} {x : DataW H × List MemPlace} (h : DataW.trod enc Try.prog W base spare held fuel 48 [.slice a len cap] = some x) : ∃ l, IsSigs W a len cap l := by
  rcases DataW.trod_slice Try.underlying48 h with ⟨h0, _⟩ | ⟨a', len', cap', elems, rest, n, _, hcs, _, hb, hl, hm, hlen, hel, _, _⟩
  · simp at h0
    obtain ⟨rfl, rfl, rfl⟩ := h0
    exact ⟨[], by omega, by omega, ⟨rfl, fun h => absurd h (by omega)⟩, fun j hj => absurd hj (by omega)⟩
  · simp at hcs
    obtain ⟨rfl, rfl, rfl⟩ := hcs
    have hC : Try.prog.cellsOf 92 = 4 := by kernel_rfl
    rw [hC] at hel
    have each : ∀ i, ∃ y : Sg.It, i < len → y.text.size ≤ maxLen ∧ W.cell? (a'.add (i * 4)) = some (.int .i64 y.key) ∧ W.cell? ((a'.add (i * 4)).add 1) = some (.string y.text) ∧ W.cell? ((a'.add (i * 4)).add 2) = some (.int .i64 y.r) ∧ W.cell? ((a'.add (i * 4)).add 3) = some (.int .i64 y.s) := by
      intro i
      by_cases hi : i < len
      · have hh := hel i hi
        rw [List.getElem?_eq_getElem (by omega), Option.bind_eq_some_iff] at hh
        obtain ⟨cs, hcs, hy⟩ := hh
        obtain ⟨K, R, S, t, rfl, _, _, hw, _, _⟩ := open_signed_cells hy
        obtain ⟨_, _, hc⟩ := World.cells?_some hcs
        have hz : ∀ b : Addr, b.add 0 = b := fun b => by simp [Addr.add]
        have e0 := hc 0 (by omega)
        rw [hz] at e0
        exact ⟨⟨K, t, R, S⟩, fun _ => ⟨hw, e0, hc 1 (by omega), hc 2 (by omega), hc 3 (by omega)⟩⟩
      · exact ⟨Sg.it0, fun h => absurd h hi⟩
    obtain ⟨f, hf⟩ := Classical.skolem.1 each
    refine ⟨(List.range len).map f, hl, by unfold maxLen at hm; omega, ⟨by simp, fun h0 => ?_⟩, fun j hj => ?_⟩
    · obtain ⟨b, off, spot⟩ := a'
      have hspot : spot = none := by
        have := World.cell?_spot (hf 0 h0).2.1
        simpa [Addr.add] using this
      subst hspot
      have hget : ∀ j, j < len → ((List.range len).map f).getD j Sg.it0 = f j := fun j hj => by
        rw [List.getD_eq_getElem?_getD, List.getElem?_map, List.getElem?_range hj]; rfl
      refine ⟨b, off, rfl, ?_, fun j hj => ?_⟩
      · have := (hf 0 h0).2.1
        rw [Go.WideShapes.add_plain] at this
        exact World.block_lt_of_cell? W _ this
      · rw [hget j hj]
        obtain ⟨_, c0, c1, c2, c3⟩ := hf j hj
        rw [Go.WideShapes.add_plain] at c0
        rw [Go.WideShapes.add_plain, Go.WideShapes.add_plain] at c1 c2 c3
        exact ⟨c0, c1, c2, c3⟩
    · have hget : ((List.range len).map f).getD j Sg.it0 = f j := by
        rw [List.getD_eq_getElem?_getD, List.getElem?_map, List.getElem?_range hj]; rfl
      rw [hget]
      have := (hf j hj).1
      unfold maxLen at this
      omega
end
set_option maxRecDepth 100000 in
set_option maxHeartbeats 1600000 in
theorem szSignedS_any (a : Option Addr) (len cap : Nat) (l : List Sg.It) (w : World) (hs : GR w a len l) (hlen : len ≤ 9223372036854775807) (ht : ∀ j, j < len → (l.getD j Sg.it0).text.size ≤ 9223372036854775807) :
    Calls Try.prog 24 #[.slice a len cap, .int .i64 1048576] w fun e w' => ∃ v : Int, e = .returned (.int .i64 v) ∧ (v < 0 ∨ (len ≤ 1048576 ∧ ∀ j, j < len → (l.getD j Sg.it0).text.size ≤ 1048576)) ∧ Below w.heap.size w w' := by
  by_cases h0 : (1048576 : Int) - (len : Int) < 0
  · go_enter Try.func24, Try.ntmps24
    go_wp2
    go_ret
    exact ⟨-1, rfl, .inl (by decide), Below.refl _ _⟩
  have hlen2 : len ≤ 1048576 := by omega
  have HT := Lib.hid ht
  clear ht
  go_enter Try.func24, Try.ntmps24
  go_wp2
  go_loopw [1, 5] (fun v i wr => ∃ (k : Nat) (u : Int), k ≤ len ∧ i = .int .i64 (k : Int) ∧ v = .int .i64 u ∧ 0 ≤ u ∧ u ≤ 1048576 ∧ Hid (∀ j, j < k → (l.getD j Sg.it0).text.size ≤ 1048576) ∧ Below w.heap.size w wr)
    (fun _ i _ => len - (intOf i).toNat)
  case atStart => exact ⟨0, _, by omega, rfl, rfl, by omega, by omega, Lib.hid (fun j hj => absurd hj (by omega)), Below.refl _ _⟩
  case round =>
    obtain ⟨k, u, hk, rfl, rfl, u0, u1, hsm, hbel⟩ := hrel
    by_cases hlt : k < len
    · obtain ⟨b, off, rfl, hb, hc⟩ := (hs.below hbel).2 (by omega)
      obtain ⟨c0, c1, c2, c3⟩ := hc k hlt
      have htt := HT.out k hlt
      have hstep : ∀ x, Hid (l.getD k Sg.it0 = x) → x.text.size ≤ 1048576 → Hid (∀ j, j < k + 1 → (l.getD j Sg.it0).text.size ≤ 1048576) := fun x hx hv => Lib.hid fun j hj => by
        by_cases hjk : j = k
        · rw [hjk, hx.out]; exact hv
        · exact hsm.out j (by omega)
      obtain ⟨x, hx⟩ : ∃ x, Hid (l.getD k Sg.it0 = x) := ⟨_, Lib.hid rfl⟩
      replace hstep := hstep x hx
      rw [hx.out] at c0 c1 c2 c3 htt
      obtain ⟨K, t, R, S⟩ := x
      simp only at c0 c1 c2 c3 htt
      clear hx hc hb hs
      go_wp2_with fail
      refine (szSigned_any K R S u t _ u0 u1 htt).mono ?_
      rintro e w1 ⟨v, rfl, hv, hb1⟩
      have hbel1 := below_after hbel hb1
      by_cases hn : v < 0
      · clear hv hstep
        go_wp2
        go_ret
        exact ⟨-1, rfl, .inl (by decide), hbel1⟩
      · obtain ⟨e1, e2⟩ := hv.resolve_left hn
        have v0 : 0 ≤ v := by omega
        have v1 : v ≤ 1048576 := by omega
        have hst := hstep (by omega)
        clear hv e1 e2 hstep
        go_wp2
        go_roundw
        case rel => exact ⟨k + 1, v, by omega, by simp, rfl, v0, v1, hst, hbel1⟩
        case measure => simp [intOf]; omega
    · have hk2 : k = len := by omega
      subst hk2
      go_wp2
      go_ret
      exact ⟨u, rfl, .inr ⟨hlen2, hsm.out⟩, hbel⟩
set_option maxRecDepth 100000 in
set_option maxHeartbeats 1600000 in
theorem eqSigned_any (K R S : Int) (t : ByteArray) (w : World) :
    Calls Try.prog 64 #[.agg #[.int .i64 K, .string t, .int .i64 R, .int .i64 S], .agg #[.int .i64 K, .string t, .int .i64 R, .int .i64 S]] w fun e w' => e = .returned (.bool true) ∧ Below w.heap.size w w' := by
  have hc0 := below_alloc (below_alloc (Below.refl w.heap.size w) (.cells #[.int .i64 K, .string t, .int .i64 R, .int .i64 S] 42 (0, 0))) (.cells #[.int .i64 K, .string t, .int .i64 R, .int .i64 S] 42 (0, 0))
  go_enter Try.func64, Try.ntmps64
  go_wp2_with fail
  refine (eqSig_any R S _).mono ?_
  rintro e w1 ⟨rfl, hb1⟩
  have hc1 := below_after hc0 hb1
  go_wp2
  go_ret
  exact ⟨rfl, hc1⟩
set_option maxRecDepth 100000 in
set_option maxHeartbeats 1600000 in
theorem eqSignedS_any (a b len cap cap' : Nat) (l : List Sg.It) (w : World) (ha : GR w (some ⟨a, 0, none⟩) len l) (hb : GR w (some ⟨b, 0, none⟩) len l) (hlen : len ≤ 9223372036854775807) :
    Calls Try.prog 26 #[.slice (some ⟨a, 0, none⟩) len cap, .slice (some ⟨b, 0, none⟩) len cap'] w fun e w' => e = .returned (.bool true) ∧ Below w.heap.size w w' := by
  go_enter Try.func26, Try.ntmps26
  go_wp2
  go_loopw [5] (fun i wr => ∃ k : Nat, k ≤ len ∧ i = .int .i64 (k : Int) ∧ Below w.heap.size w wr)
    (fun i _ => len - (intOf i).toNat)
  case atStart => exact ⟨0, by omega, rfl, Below.refl _ _⟩
  case round =>
    obtain ⟨k, hk, rfl, hbel⟩ := hrel
    by_cases hlt : k < len
    · obtain ⟨g, off, he, _, hc⟩ := (ha.below hbel).2 (by omega)
      cases he
      obtain ⟨g, off, he, _, hd⟩ := (hb.below hbel).2 (by omega)
      cases he
      have hA : ∀ W, Below w.heap.size w W → W.cell? ⟨a, k * 4, none⟩ = some (.int .i64 (l.getD k Sg.it0).key) ∧ W.cell? ⟨a, k * 4 + 1, none⟩ = some (.string (l.getD k Sg.it0).text) ∧ W.cell? ⟨a, k * 4 + 2, none⟩ = some (.int .i64 (l.getD k Sg.it0).r) ∧ W.cell? ⟨a, k * 4 + 3, none⟩ = some (.int .i64 (l.getD k Sg.it0).s) := fun W h => by
        obtain ⟨g, off, he, _, hc⟩ := (ha.below h).2 (show 0 < len by omega)
        cases he
        have := hc k hlt
        simp only [Nat.zero_add] at this
        exact this
      have hB : ∀ W, Below w.heap.size w W → W.cell? ⟨b, k * 4, none⟩ = some (.int .i64 (l.getD k Sg.it0).key) ∧ W.cell? ⟨b, k * 4 + 1, none⟩ = some (.string (l.getD k Sg.it0).text) ∧ W.cell? ⟨b, k * 4 + 2, none⟩ = some (.int .i64 (l.getD k Sg.it0).r) ∧ W.cell? ⟨b, k * 4 + 3, none⟩ = some (.int .i64 (l.getD k Sg.it0).s) := fun W h => by
        obtain ⟨g, off, he, _, hc⟩ := (hb.below h).2 (show 0 < len by omega)
        cases he
        have := hc k hlt
        simp only [Nat.zero_add] at this
        exact this
      obtain ⟨x, hx⟩ : ∃ x, Hid (l.getD k Sg.it0 = x) := ⟨_, Lib.hid rfl⟩
      rw [hx.out] at hA hB
      clear hc hd hx ha hb
      obtain ⟨K, t, R, S⟩ := x
      simp only at hA hB
      have hSof : ∀ W, Below w.heap.size w W → (W.cell? ⟨a, k * 4, none⟩ = some (.int .i64 K) ∧ W.cell? ⟨a, k * 4 + 1, none⟩ = some (.string t) ∧ W.cell? ⟨a, k * 4 + 2, none⟩ = some (.int .i64 R) ∧ W.cell? ⟨a, k * 4 + 3, none⟩ = some (.int .i64 S)) ∧ W.cell? ⟨b, k * 4, none⟩ = some (.int .i64 K) ∧ W.cell? ⟨b, k * 4 + 1, none⟩ = some (.string t) ∧ W.cell? ⟨b, k * 4 + 2, none⟩ = some (.int .i64 R) ∧ W.cell? ⟨b, k * 4 + 3, none⟩ = some (.int .i64 S) := fun W h => ⟨hA W h, hB W h⟩
      have hS0 := hSof wr.drew hbel.drew
      clear hA hB
      go_wp2
      go_region_held3 (fun W => (W.cell? ⟨a, k * 4, none⟩ = some (.int .i64 K) ∧ W.cell? ⟨a, k * 4 + 1, none⟩ = some (.string t) ∧ W.cell? ⟨a, k * 4 + 2, none⟩ = some (.int .i64 R) ∧ W.cell? ⟨a, k * 4 + 3, none⟩ = some (.int .i64 S)) ∧ W.cell? ⟨b, k * 4, none⟩ = some (.int .i64 K) ∧ W.cell? ⟨b, k * 4 + 1, none⟩ = some (.string t) ∧ W.cell? ⟨b, k * 4 + 2, none⟩ = some (.int .i64 R) ∧ W.cell? ⟨b, k * 4 + 3, none⟩ = some (.int .i64 S)) (first | with_reducible exact hS0 | with_reducible exact hS1)
        (first | (go_at_call 64; refine (eqSigned_any K R S t _).mono ?_; rintro e w1 ⟨rfl, hb1⟩; have hb2 := below_after hbel.drew hb1; have hS1 := hSof w1 hb2))
      go_wp2
      go_roundw
      case rel => exact ⟨k + 1, by omega, by simp, hb2⟩
      case measure => simp [intOf]; omega
    · go_wp2
      go_ret
      exact ⟨rfl, hbel⟩
theorem info_sgn : (Try.prog.info? 42).map (fun i => (i.zero, i.size, i.bytes)) = some (some (.agg #[.int .i64 0, .string ⟨#[]⟩, .int .i64 0, .int .i64 0]), 4, 40) := by kernel_rfl
/-- The block g holds len signed messages, the first k of which are those of l. -/
def SgBlk (g len k : Nat) (l : List Sg.It) (w : World) : Prop :=
  ∃ cs : Array Value, w.heap[g]? = some (.cells cs 42 (0, 0)) ∧ cs.size = len * 4 ∧ ∀ j, j < k → cs[j * 4]? = some (.int .i64 (l.getD j Sg.it0).key) ∧ cs[j * 4 + 1]? = some (.string (l.getD j Sg.it0).text) ∧ cs[j * 4 + 2]? = some (.int .i64 (l.getD j Sg.it0).r) ∧ cs[j * 4 + 3]? = some (.int .i64 (l.getD j Sg.it0).s)
theorem SgBlk.step {g len k : Nat} {l : List Sg.It} {w : World} (h : SgBlk g len k l w) (hk : k < len) : SgBlk g len (k + 1) l ((((w.setCell ⟨g, k * 4, none⟩ (.int .i64 (l.getD k Sg.it0).key)).setCell ⟨g, k * 4 + 1, none⟩ (.string (l.getD k Sg.it0).text)).setCell ⟨g, k * 4 + 2, none⟩ (.int .i64 (l.getD k Sg.it0).r)).setCell ⟨g, k * 4 + 3, none⟩ (.int .i64 (l.getD k Sg.it0).s)) := by
  obtain ⟨cs, h1, h2, h3⟩ := h
  refine ⟨_, block_setCell (block_setCell (block_setCell (block_setCell h1 (k * 4) _) (k * 4 + 1) _) (k * 4 + 2) _) (k * 4 + 3) _, by simpa using h2, fun j hj => ?_⟩
  by_cases hjk : j = k
  · subst hjk
    refine ⟨?_, ?_, ?_, ?_⟩ <;> simp [Array.getElem?_setIfInBounds, h2] <;> omega
  · obtain ⟨c0, c1, c2, c3⟩ := h3 j (by omega)
    refine ⟨?_, ?_, ?_, ?_⟩ <;> simp only [Array.getElem?_setIfInBounds] <;> (repeat rw [if_neg (by omega)]) <;> assumption
theorem SgBlk.slot {g len k : Nat} {l : List Sg.It} {w : World} (h : SgBlk g len k l w) (i : Nat) (hi : i < len * 4) : ∃ u, w.cell? ⟨g, i, none⟩ = some u := by
  obtain ⟨cs, h1, h2, _⟩ := h
  exact ⟨cs[i]'(by omega), by simp [World.cell?, h1, show i < cs.size by omega]⟩
theorem SgBlk.fro {g len k : Nat} {l : List Sg.It} {w : World} (h : SgBlk g len k l w) (i : Nat) : w.frozen? ⟨g, i, none⟩ = false := by
  obtain ⟨cs, h1, _, _⟩ := h
  simp [World.frozen?, h1]
theorem SgBlk.below {g len k : Nat} {l : List Sg.It} {w w' : World} (h : SgBlk g len k l w) (hb : Below w.heap.size w w') : SgBlk g len k l w' := by
  obtain ⟨cs, h1, h2, h3⟩ := h
  exact ⟨cs, (hb.block g (lt_of_block h1)).trans h1, h2, h3⟩
theorem SgBlk.gr {g len : Nat} {l : List Sg.It} {w : World} (h : SgBlk g len len l w) (hl : l.length = len) : GR w (some ⟨g, 0, none⟩) len l := by
  obtain ⟨cs, h1, h2, h3⟩ := h
  refine ⟨hl, fun _ => ⟨g, 0, rfl, lt_of_block h1, fun j hj => ?_⟩⟩
  obtain ⟨c0, c1, c2, c3⟩ := h3 j hj
  simp only [Nat.zero_add]
  have hc : ∀ i, w.cell? ⟨g, i, none⟩ = cs[i]? := fun i => by simp [World.cell?, h1]
  exact ⟨(hc _).trans c0, (hc _).trans c1, (hc _).trans c2, (hc _).trans c3⟩
set_option maxRecDepth 100000 in
set_option maxHeartbeats 1600000 in
theorem toSignedS_any (a : Option Addr) (len cap : Nat) (l : List Sg.It) (w : World) (hs : GR w a len l) (hlen : len ≤ 1048576) :
    Calls Try.prog 25 #[.slice a len cap] w fun e w' => ∃ b, e = .returned (.slice (some ⟨b, 0, none⟩) len len) ∧ GR w' (some ⟨b, 0, none⟩) len l ∧ Below w.heap.size w w' := by
  obtain ⟨i0, hi, hz0, hz1, hz2⟩ := info_parts info_sgn
  have hmk : ∀ W : World, (Instr.makeSlice 37 (.int .i64 (len : Int)) (.int .i64 (len : Int))).run Try.prog W = .ok (.slice (some ⟨W.heap.size, 0, none⟩) len len) (W.alloc (.cells (madeCells #[.int .i64 0, .string ⟨#[]⟩, .int .i64 0, .int .i64 0] (len * 4)) 42)) := fun W => by
    have := run_make (P := Try.prog) W 37 42 i0 _ Try.underlying37 hi hz0 .i64 .i64 (len : Int) (len : Int) (by omega) (by omega) (by rw [hz2]; omega) (by omega)
    rw [hz1] at this
    simpa [Value.cells] using this
  have hl1 := hs.1
  clear hi hz0 hz1 hz2
  go_enter Try.func25, Try.ntmps25
  go_wp2
  go_loopw [4] (fun i wr => ∃ k : Nat, k ≤ len ∧ i = .int .i64 (k : Int) ∧ Hid (SgBlk w.heap.size len k l wr) ∧ w.heap.size < wr.heap.size ∧ Below w.heap.size w wr)
    (fun i _ => len - (intOf i).toNat)
  case atStart => exact ⟨0, by omega, rfl, Lib.hid ⟨_, heap_alloc_new _ _, size_madeCells _ _, fun j hj => absurd hj (by omega)⟩, by simp, (Below.refl _ _).alloc (Nat.le_refl _) _⟩
  case round =>
    obtain ⟨k, hk, rfl, hblk, hlt0, hbel⟩ := hrel
    by_cases hlt : k < len
    · obtain ⟨b, off, rfl, hb, hc⟩ := (hs.below hbel).2 (by omega)
      obtain ⟨c0, c1, c2, c3⟩ := hc k hlt
      have hstep : ∀ W, Hid (SgBlk w.heap.size len k l W) → ∀ K t R S, Hid (l.getD k Sg.it0 = ⟨K, t, R, S⟩) → Hid (SgBlk w.heap.size len (k + 1) l ((((W.setCell ⟨w.heap.size, k * 4, none⟩ (.int .i64 K)).setCell ⟨w.heap.size, k * 4 + 1, none⟩ (.string t)).setCell ⟨w.heap.size, k * 4 + 2, none⟩ (.int .i64 R)).setCell ⟨w.heap.size, k * 4 + 3, none⟩ (.int .i64 S))) := fun W hW K t R S hx => Lib.hid (by
        have := hW.out.step hlt
        rw [hx.out] at this
        exact this)
      obtain ⟨x, hx⟩ : ∃ x, Hid (l.getD k Sg.it0 = x) := ⟨_, Lib.hid rfl⟩
      rw [hx.out] at c0 c1 c2 c3
      obtain ⟨K, t, R, S⟩ := x
      simp only at c0 c1 c2 c3
      clear hc hb hs
      go_wp2_with fail
      refine (toSigned_any K R S t _).mono ?_
      rintro e w1 ⟨rfl, hb1⟩
      have hblk1 := Lib.hid (hblk.out.below hb1)
      have hbel1 := below_after hbel hb1
      have hlt1 : w.heap.size < w1.heap.size := Nat.lt_of_lt_of_le hlt0 hb1.size
      obtain ⟨z0, s0⟩ := hblk1.out.slot (k * 4) (by omega)
      obtain ⟨z1, s1⟩ := hblk1.out.slot (k * 4 + 1) (by omega)
      obtain ⟨z2, s2⟩ := hblk1.out.slot (k * 4 + 2) (by omega)
      obtain ⟨z3, s3⟩ := hblk1.out.slot (k * 4 + 3) (by omega)
      have f0 := hblk1.out.fro (k * 4)
      have f1 := hblk1.out.fro (k * 4 + 1)
      have f2 := hblk1.out.fro (k * 4 + 2)
      have f3 := hblk1.out.fro (k * 4 + 3)
      have hblk2 := hstep _ hblk1 K t R S hx
      have hbel2 := ((((hbel1).setCell (p := ⟨w.heap.size, k * 4, none⟩) (Nat.le_refl _) (.int .i64 K)).setCell (p := ⟨w.heap.size, k * 4 + 1, none⟩) (Nat.le_refl _) (.string t)).setCell (p := ⟨w.heap.size, k * 4 + 2, none⟩) (Nat.le_refl _) (.int .i64 R)).setCell (p := ⟨w.heap.size, k * 4 + 3, none⟩) (Nat.le_refl _) (.int .i64 S)
      clear hstep hblk hx hblk1 hbel1 hbel hb1
      go_wp2
      go_roundw
      case rel => exact ⟨k + 1, by omega, by simp, hblk2, by simpa [World.setCell] using hlt1, hbel2⟩
      case measure => simp [intOf]; omega
    · have hk2 : k = len := by omega
      subst hk2
      clear hs
      go_wp2
      go_ret
      exact ⟨_, rfl, hblk.out.gr hl1, hbel⟩
end Go.Proofs.Ytimajobbkemdbab
