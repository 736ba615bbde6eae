/-
  Lists of strings: what a slice holds; the laws' own helpers (size, copy, comparison, marks).
-/
import Derived.Test.YtedjbikphdflhabEn
import Derived.Test.YtedjbikphdflhabBa
import Derived.Test.YtedjbikphdflhabOw
import Derived.LoopTactic
import Derived.Deep.QuietTactic
import Derived.BigQuiet
import Derived.WalkSmall
import Derived.Lib.Hide
import Derived.Deep.OwnRows
import Derived.Laws.MakeOwn
import Derived.Deep.RegionWith
import Derived.Laws.Closers25b
import Derived.Outline
namespace Go.Proofs.Ytedjbikphdflhab
open Go.RowKit

/-- The slice at a holds the len strings ss. -/
def SR (w : World) (a : Option Addr) (len : Nat) (ss : List ByteArray) : Prop :=
  ss.length = len ∧ (0 < len → ∃ b off, a = some ⟨b, off, none⟩ ∧ b < w.heap.size ∧ ∀ i, i < len → w.cell? ⟨b, off + i, none⟩ = some (.string (ss.getD i ByteArray.empty)))
theorem SR.grown {w w' : World} {a : Option Addr} {len : Nat} {ss : List ByteArray} {row : Option Nat} (h : SR w a len ss) (hg : w.grownBy w' row) (hne : 0 < len → ∀ b off, a = some ⟨b, off, none⟩ → some b ≠ row) : SR w' a len ss :=
  ⟨h.1, fun h0 => by
    obtain ⟨b, off, rfl, hb, hc⟩ := h.2 h0
    exact ⟨b, off, rfl, Nat.lt_of_lt_of_le hb hg.size, fun i hi => hg.cell (hc i hi) (by simpa using hne h0 b off rfl)⟩⟩
theorem SR.below {w w' : World} {a : Option Addr} {len : Nat} {ss : List ByteArray} (h : SR w a len ss) (hb : Below w.heap.size w w') : SR w' a len ss :=
  h.grown (row := none) ⟨hb.os, hb.tape, hb.output, hb.size, fun k hk _ => hb.block k hk⟩ (fun _ _ _ _ => by simp)
theorem SR.alloc {w : World} {a : Option Addr} {len : Nat} {ss : List ByteArray} (h : SR w a len ss) (o : Obj) : SR (w.alloc o) a len ss :=
  h.grown (World.grownBy_alloc w o none) (fun _ _ _ _ => by simp)
/-- What came in as a list of strings. -/
def IsStrs (w : World) (a : Option Addr) (len cap : Nat) (ss : List ByteArray) : Prop :=
  (a = none ∧ len = 0 ∧ cap = 0 ∧ ss = []) ∨
  ∃ x, a = some x ∧ len ≤ cap ∧ cap ≤ maxLen ∧ ss.length = cap ∧ (∀ i, i < ss.length → w.cell? (x.add i) = some (.string (ss.getD i ByteArray.empty))) ∧ ∀ s ∈ ss, s.size ≤ maxLen
theorem strs_at {w : World} {a : Addr} {n : Nat} {ss : List ByteArray} (h : ∀ i, i < n → w.cell? (a.add i) = some (.string (ss.getD i ByteArray.empty))) (hp : 0 < n) :
    ∃ b off, a = ⟨b, off, none⟩ ∧ ∀ j, j < n → w.cell? ⟨b, off + j, none⟩ = some (.string (ss.getD j ByteArray.empty)) := by
  obtain ⟨b, off, spot⟩ := a
  have hspot : spot = none := by simpa [Addr.add] using World.cell?_spot (h 0 hp)
  subst hspot
  exact ⟨b, off, rfl, fun j hj => by rw [← Go.WideShapes.add_plain]; exact h j hj⟩
theorem getD_take {ss : List ByteArray} {n i : Nat} (h : i < n) : (ss.take n).getD i ByteArray.empty = ss.getD i ByteArray.empty := by
  rw [List.getD_eq_getElem?_getD, List.getD_eq_getElem?_getD, List.getElem?_take_of_lt h]
theorem IsStrs.sr {w : World} {a : Option Addr} {len cap : Nat} {ss : List ByteArray} (h : IsStrs w a len cap ss) : SR w a len (ss.take len) := by
  rcases h with ⟨_, rfl, _, rfl⟩ | ⟨x, rfl, hl, hm, hz, hc, _⟩
  · exact ⟨rfl, fun h0 => absurd h0 (by omega)⟩
  · refine ⟨by rw [List.length_take]; omega, fun h0 => ?_⟩
    obtain ⟨b, off, rfl, hcc⟩ := strs_at hc (by omega)
    refine ⟨b, off, rfl, World.block_lt_of_cell? w ⟨b, off + 0, none⟩ (hcc 0 (by omega)), fun i hi => ?_⟩
    rw [getD_take hi]
    exact hcc i (by omega)
theorem IsStrs.len {w : World} {a : Option Addr} {len cap : Nat} {ss : List ByteArray} (h : IsStrs w a len cap ss) : len ≤ 9223372036854775807 ∧ len ≤ cap ∧ cap ≤ 9223372036854775807 := by
  have : len ≤ cap ∧ cap ≤ maxLen := by
    rcases h with ⟨_, rfl, rfl, _⟩ | ⟨_, _, h, h2, _⟩
    · exact ⟨Nat.le_refl _, Nat.zero_le _⟩
    · exact ⟨h, h2⟩
  unfold maxLen at this
  omega
theorem IsStrs.sizes {w : World} {a : Option Addr} {len cap : Nat} {ss : List ByteArray} (h : IsStrs w a len cap ss) : ∀ s ∈ ss.take len, s.size ≤ 9223372036854775807 := by
  intro s hs
  have : s.size ≤ maxLen := by
    rcases h with ⟨_, _, _, rfl⟩ | ⟨_, _, _, _, _, _, hw⟩
    · simp at hs
    · exact hw s (List.mem_of_mem_take hs)
  unfold maxLen at this
  omega
/-- Strings that the call owns. -/
theorem SR.own {w : World} {base : Nat} {e : TypeId} {a : Option Addr} {len cap n : Nat} {ss : List ByteArray} (h : w.ownsRow base e 1 (.slice a len cap) n (ss.map Value.string)) : len = n ∧ SR w a len ss := by
  have hl : ss.length = n := by simpa using h.1
  rcases h.2 with ⟨he, h0⟩ | ⟨g, cap', cur, he, hg, hh, hn, _, _, _⟩
  · cases he
    exact ⟨h0.symm, by omega, fun h => absurd h (by omega)⟩
  · cases he
    refine ⟨rfl, hl, fun h0 => ⟨g, 0, rfl, lt_of_block hh, fun i hi => ?_⟩⟩
    have := h.cells (g := g) rfl i (.string (ss.getD i ByteArray.empty)) (by rw [List.getElem?_map, List.getD_eq_getElem?_getD, List.getElem?_eq_getElem (by omega)]; rfl)
    have hadr : (⟨g, 0, none⟩ : Addr).add i = ⟨g, 0 + i, none⟩ := by unfold Addr.add; split <;> simp_all
    rw [hadr] at this
    exact this
theorem getD_mem {ss : List ByteArray} {i : Nat} (h : i < ss.length) : ss.getD i ByteArray.empty ∈ ss := by
  rw [List.getD_eq_getElem?_getD, List.getElem?_eq_getElem h]
  exact List.getElem_mem h

theorem info_str : (Try.prog.info? 9).map (fun i => (i.zero, i.size, i.bytes)) = some (some (.string ByteArray.empty), 1, 16) := by kernel_rfl
theorem made_cell (w : World) (z : Value) (n : Nat) (t : TypeId) (j : Nat) (h : j < n) : (w.alloc (.cells (madeCells #[z] n) t)).cell? ⟨w.heap.size, j, none⟩ = some z :=
  (World.cell?_alloc_mark w _ _ _ j).trans (by simp [madeCells, h, Nat.mod_one])
theorem new_frozen (w : World) (cs : Array Value) (t : TypeId) (a : Nat) : (w.alloc (.cells cs t)).frozen? ⟨w.heap.size, a, none⟩ = false :=
  World.frozen?_alloc_new _ _ _ _

set_option maxRecDepth 100000 in
set_option maxHeartbeats 800000 in
theorem szStringS_any (a : Option Addr) (len cap : Nat) (ss : List ByteArray) (left : Int) (w : World) (hs : SR w a len ss) (h0 : 0 ≤ left) (h1 : left ≤ 1048576) (hlen : len ≤ 9223372036854775807) (hsz : ∀ s ∈ ss, s.size ≤ 9223372036854775807) :
    Calls Try.prog 27 #[.slice a len cap, .int .i64 left] w fun e w' => ∃ v, e = .returned (.int .i64 v) ∧ (v < 0 ∨ (0 ≤ v ∧ (len : Int) ≤ left ∧ ∀ s ∈ ss, (s.size : Int) ≤ left)) ∧ Below w.heap.size w w' := by
  by_cases hbig : left < (len : Int)
  · go_enter Try.func27, Try.ntmps27
    go_wp2
    go_ret
    exact ⟨_, rfl, .inl (by omega), Below.refl _ _⟩
  have hss := hs.1
  go_enter Try.func27, Try.ntmps27
  go_wp2
  go_loopw [1, 5] (fun v i wr => ∃ (k : Nat) (L : Int), k ≤ len ∧ i = .int .i64 (k : Int) ∧ v = .int .i64 L ∧ 0 ≤ L ∧ L ≤ left - len ∧ (∀ j, j < k → ((ss.getD j ByteArray.empty).size : Int) ≤ left) ∧ Below w.heap.size w wr)
    (fun _ i _ => len - (intOf i).toNat)
  case atStart => exact ⟨0, _, by omega, rfl, rfl, by omega, by omega, fun j hj => absurd hj (by omega), Below.refl _ _⟩
  case round =>
    obtain ⟨k, L, hk, rfl, rfl, hL0, hL1, hsm, hbel⟩ := hrel
    by_cases hlt : k < len
    · have hsz1 := hsz _ (getD_mem (ss := ss) (i := k) (by omega))
      have hsr := hs.below hbel
      obtain ⟨b, off, rfl, hb, hc⟩ := hsr.2 (by omega)
      have hck := hc k hlt
      clear hc hsr hsz hs
      obtain ⟨t, HT⟩ : ∃ t, Hid (ss.getD k ByteArray.empty = t) := ⟨_, Lib.hid rfl⟩
      rw [HT.out] at hck hsz1
      by_cases hneg : L < (t.size : Int)
      · go_wp2
        go_ret
        exact ⟨_, rfl, .inl (by omega), hbel⟩
      · go_wp2
        go_roundw
        case rel =>
          refine ⟨k + 1, _, by omega, by simp, rfl, by omega, by omega, fun j hj => ?_, hbel⟩
          by_cases hjk : j < k
          · exact hsm j hjk
          · have : j = k := by omega
            rw [this, HT.out]
            omega
        case measure => simp [intOf]; omega
    · have HS := Lib.hid hsm
      clear hsm hsz
      go_wp2
      go_ret
      refine ⟨_, rfl, .inr ⟨by omega, by omega, fun s hsin => ?_⟩, hbel⟩
      obtain ⟨j, hj, rfl⟩ := List.getElem_of_mem hsin
      have := HS.out j (by omega)
      rwa [List.getD_eq_getElem?_getD, List.getElem?_eq_getElem hj] at this
set_option maxRecDepth 100000 in
set_option maxHeartbeats 800000 in
theorem toStringS_any (a : Option Addr) (len cap : Nat) (ss : List ByteArray) (w : World) (hs : SR w a len ss) (hlen : len ≤ 1048576) :
    Calls Try.prog 29 #[.slice a len cap] w fun e w' => ∃ b, e = .returned (.slice (some ⟨b, 0, none⟩) len len) ∧ w.heap.size ≤ b ∧ SR w' (some ⟨b, 0, none⟩) len ss ∧ Below w.heap.size w w' := by
  have hmk := run_make_row' (P := Try.prog) 44 9 (.string ByteArray.empty) 16 Try.underlying44 (by kernel_rfl) rfl .i64 .i64 len (by omega) (by omega)
  go_enter Try.func29, Try.ntmps29
  go_wp2
  go_loopw [4] (fun i wr => ∃ k : Nat, k ≤ len ∧ i = .int .i64 (k : Int) ∧ (∀ j, j < k → wr.cell? ⟨w.heap.size, j, none⟩ = some (.string (ss.getD j ByteArray.empty))) ∧ (∀ j, j < len → (wr.cell? ⟨w.heap.size, j, none⟩).isSome = true ∧ wr.frozen? ⟨w.heap.size, j, none⟩ = false) ∧ w.heap.size < wr.heap.size ∧ Below w.heap.size w wr)
    (fun i _ => len - (intOf i).toNat)
  case atStart =>
    exact ⟨0, by omega, rfl, fun j hj => absurd hj (by omega), fun j hj => ⟨by rw [made_cell _ _ _ _ _ hj]; rfl, new_frozen _ _ _ _⟩, by simp, (Below.refl _ _).alloc (Nat.le_refl _) _⟩
  case round =>
    obtain ⟨k, hk, rfl, hcs, hfr, hlt0, hbel⟩ := hrel
    by_cases hlt : k < len
    · have hsr := hs.below hbel
      obtain ⟨b, off, rfl, hb, hc⟩ := hsr.2 (by omega)
      have hck := hc k hlt
      have hne : b ≠ w.heap.size := by
        obtain ⟨b', off', he, hb', _⟩ := hs.2 (by omega)
        cases he
        omega
      clear hc hsr hs
      obtain ⟨t, HT⟩ : ∃ t, Hid (ss.getD k ByteArray.empty = t) := ⟨_, Lib.hid rfl⟩
      rw [HT.out] at hck
      have hf := (hfr k hlt).2
      obtain ⟨u0, hu0⟩ : ∃ u, wr.cell? ⟨w.heap.size, k, none⟩ = some u := Option.isSome_iff_exists.1 (hfr k hlt).1
      have HF := Lib.hid hfr
      have HC := Lib.hid hcs
      clear hfr hcs
      go_wp2
      go_roundw
      case rel =>
        refine ⟨k + 1, by omega, by simp, fun j hj => ?_, fun j hj => ⟨?_, by rw [World.frozen?_setCell]; exact (HF.out j hj).2⟩, by simpa [World.setCell] using hlt0, hbel.setCell (p := ⟨w.heap.size, k, none⟩) (Nat.le_refl _) _⟩
        · by_cases hjk : j = k
          · subst hjk
            rw [HT.out]; exact World.cell?_setCell_same _ _ _ hu0
          · exact (World.cell?_setCell_other _ _ _ _ (by intro e; cases e; exact hjk rfl)).trans (HC.out j (by omega))
        · by_cases hjk : j = k
          · subst hjk
            rw [World.cell?_setCell_same _ _ _ hu0]
            rfl
          · exact (congrArg Option.isSome (World.cell?_setCell_other _ _ _ _ (by intro e; cases e; exact hjk rfl))).trans (HF.out j hj).1
      case measure => simp [intOf]; omega
    · have hk2 : k = len := by omega
      subst hk2
      have HC := Lib.hid hcs
      have h1 := hs.1
      clear hfr hcs hs
      go_wp2
      go_ret
      exact ⟨_, rfl, Nat.le_refl _, ⟨h1, fun h0 => ⟨_, _, rfl, hlt0, fun j hj => by rw [Nat.zero_add]; exact HC.out j hj⟩⟩, hbel⟩
set_option maxRecDepth 100000 in
set_option maxHeartbeats 800000 in
theorem eqStringS_any (a b : Option Addr) (len cap cap' : Nat) (ss : List ByteArray) (w : World) (ha : SR w a len ss) (hb : SR w b len ss) (hlen : len ≤ 9223372036854775807) :
    Calls Try.prog 31 #[.slice a len cap, .slice b len cap'] w fun e w' => e = .returned (.bool true) ∧ Below w.heap.size w w' := by
  go_enter Try.func31, Try.ntmps31
  go_wp2
  go_loopw [5] (fun i wr => ∃ k : Nat, k ≤ len ∧ i = .int .i64 (k : Int) ∧ Below w.heap.size w wr)
    (fun i _ => len - (intOf i).toNat)
  case atStart => exact ⟨0, by omega, rfl, Below.refl _ _⟩
  case round =>
    obtain ⟨k, hk, rfl, hbel⟩ := hrel
    by_cases hlt : k < len
    · have ha' := ha.below hbel
      have hb' := hb.below hbel
      clear ha hb
      obtain ⟨g, off, rfl, _, hc⟩ := ha'.2 (by omega)
      obtain ⟨g2, off2, rfl, _, hc2⟩ := hb'.2 (by omega)
      have hck := hc k hlt
      have hck2 := hc2 k hlt
      clear hc hc2 ha' hb'
      generalize ss.getD k ByteArray.empty = t at hck hck2
      go_wp2
      go_quiet (fail)
      go_wp2
      go_roundw
      case rel => exact ⟨k + 1, by omega, by simp, below_drewN hbel _⟩
      case measure => simp [intOf]; omega
    · go_wp2
      go_ret
      exact ⟨rfl, hbel⟩

/-! ### marks -/
def Mk.dec : Nat → Int → ByteArray → ByteArray
  | 0, _, out => out
  | f + 1, k, out => if 0 < k then Mk.dec f (k / 10) (strOfNums [48 + k % 10] ++ out) else out
theorem Mk.dec_pos (f : Nat) (k : Int) (out : ByteArray) (h : 0 < k) : Mk.dec (f + 1) k out = Mk.dec f (k / 10) (strOfNums [48 + k % 10] ++ out) := by
  rw [Mk.dec, if_pos h]
theorem Mk.dec_end (f : Nat) (k : Int) (out : ByteArray) (h : ¬ 0 < k) : Mk.dec f k out = out := by
  cases f with
  | zero => rfl
  | succ f => rw [Mk.dec, if_neg h]
/-- The mark of number k, k being at least 1. -/
def Mk.mark (k : Int) : ByteArray := ⟨#[109]⟩ ++ Mk.dec k.toNat k ⟨#[]⟩

set_option maxRecDepth 100000 in
set_option maxHeartbeats 800000 in
theorem markText_any (k : Int) (w : World) (h0 : 1 ≤ k) (h1 : k ≤ 1000000000) :
    Calls Try.prog 72 #[.int .i64 k] w fun e w' => e = .returned (.string (Mk.mark k)) ∧ Below w.heap.size w w' := by
  have c1 := fun (x : Int) (W : World) => conv_new [x] 1 W
  simp only [List.map, List.length] at c1
  go_enter Try.func72, Try.ntmps72
  go_wp2
  go_loopw [0, 3] (fun v o wr => ∃ (f : Nat) (j : Int) (out : ByteArray), v = .int .i64 j ∧ o = .string out ∧ 0 ≤ j ∧ j ≤ k ∧ j ≤ (f : Int) ∧ (out.size : Int) + j ≤ k ∧ Mk.dec f j out = Mk.dec k.toNat k ⟨#[]⟩ ∧ Below w.heap.size w wr)
    (fun v _ _ => (intOf v).toNat)
  case atStart => exact ⟨k.toNat, k, _, rfl, rfl, by omega, by omega, by omega, by simp [ByteArray.size], rfl, Below.refl _ _⟩
  case round =>
    obtain ⟨f, j, out, rfl, rfl, j0, j1, j2, hsz, hd, hbel⟩ := hrel
    by_cases hp : 0 < j
    · obtain ⟨f, rfl⟩ : ∃ f', f = f' + 1 := ⟨f - 1, by omega⟩
      rw [Mk.dec_pos _ _ _ hp] at hd
      have HD := Lib.hid hd
      clear hd
      have hadd : ∀ W, (Op.stringOp .add (strOfNums [48 + j % 10]) out).run Try.prog W = .ok (.string (strOfNums [48 + j % 10] ++ out)) W :=
        fun W => run_string_add_sum (P := Try.prog) W _ _ (by rw [strOfNums_size]; simp; omega)
      go_wp2
      go_roundw
      case rel => exact ⟨f, j / 10, _, rfl, rfl, by omega, by omega, by omega, by rw [ByteArray.size_append, strOfNums_size]; simp; omega, HD.out, hbel.alloc hbel.size _⟩
      case measure => simp [intOf]; omega
    · rw [Mk.dec_end _ _ _ hp] at hd
      have hadd : ∀ W, (Op.stringOp .add (⟨#[109]⟩ : ByteArray) out).run Try.prog W = .ok (.string (⟨#[109]⟩ ++ out)) W :=
        fun W => run_string_add_sum (P := Try.prog) W _ _ (by have : (⟨#[109]⟩ : ByteArray).size = 1 := rfl; omega)
      have HD : Hid (Mk.mark k = ⟨#[109]⟩ ++ out) := by unfold Mk.mark; rw [← hd]; exact rfl
      clear hd
      go_wp2
      go_ret
      exact ⟨by rw [HD.out]; rfl, hbel⟩
set_option maxRecDepth 100000 in
set_option maxHeartbeats 800000 in
theorem markStringS_any (a : Option Addr) (g len cap : Nat) (k : Int) (w : World) (ha : 0 < len → a = some ⟨g, 0, none⟩) (hg : 0 < len → g < w.heap.size) (hc : ∀ j, j < len → (w.cell? ⟨g, j, none⟩).isSome = true ∧ w.frozen? ⟨g, j, none⟩ = false)
    (h0 : 1 ≤ k) (h1 : k ≤ 1000) (hlen : len ≤ 1048576) :
    Calls Try.prog 32 #[.slice a len cap, .int .i64 k] w fun e w' => e = .returned (.int .i64 (k + len)) ∧ w.grownBy w' (some g) ∧ ∀ j, j < len → w'.cell? ⟨g, j, none⟩ = some (.string (Mk.mark (k + j))) := by
  go_enter Try.func32, Try.ntmps32
  go_wp2
  go_loopw [1, 5] (fun v i wr => ∃ n : Nat, n ≤ len ∧ i = .int .i64 (n : Int) ∧ v = .int .i64 (k + n) ∧ w.grownBy wr (some g) ∧ (∀ j, j < n → wr.cell? ⟨g, j, none⟩ = some (.string (Mk.mark (k + j)))) ∧ (∀ j, j < len → (wr.cell? ⟨g, j, none⟩).isSome = true ∧ wr.frozen? ⟨g, j, none⟩ = false))
    (fun _ i _ => len - (intOf i).toNat)
  case atStart => exact ⟨0, by omega, rfl, by simp, World.grownBy.refl _ _, fun j hj => absurd hj (by omega), hc⟩
  case round =>
    obtain ⟨n, hn, rfl, rfl, hgr, hms, hfr⟩ := hrel
    by_cases hlt : n < len
    · obtain rfl := ha (by omega)
      have hgw := Nat.lt_of_lt_of_le (hg (by omega)) hgr.size
      have HF := Lib.hid hfr
      have HC := Lib.hid hms
      have HG := Lib.hid hg
      clear hfr hms hc hg ha
      go_wp2_with fail
      refine (markText_any (k + n) _ (by omega) (by omega)).mono ?_
      rintro e w2 ⟨rfl, hb2⟩
      have hcell : ∀ j, w2.cell? ⟨g, j, none⟩ = wr.cell? ⟨g, j, none⟩ := fun j => World.cell?_of_block (w := wr) (a := ⟨g, j, none⟩) (hb2.block g hgw)
      have hfroz : ∀ j, w2.frozen? ⟨g, j, none⟩ = wr.frozen? ⟨g, j, none⟩ := fun j => by unfold World.frozen?; rw [hb2.block g hgw]
      obtain ⟨u0, hu0⟩ : ∃ u, w2.cell? ⟨g, n, none⟩ = some u := Option.isSome_iff_exists.1 (by rw [hcell]; exact (HF.out n hlt).1)
      have hf : w2.frozen? ⟨g, n, none⟩ = false := by rw [hfroz]; exact (HF.out n hlt).2
      have HCE := Lib.hid hcell
      have HFE := Lib.hid hfroz
      clear hcell hfroz
      have hgr2 : w.grownBy w2 (some g) := hgr.trans ⟨hb2.os, hb2.tape, hb2.output, hb2.size, fun q hq _ => hb2.block q hq⟩
      clear hgr hb2
      go_wp2
      go_roundw
      case rel =>
        refine ⟨n + 1, by omega, by simp, by simp; omega, hgr2.trans ⟨rfl, rfl, rfl, by simp [World.setCell], fun j _ hr => Below.heap_setCell _ _ _ _ (fun e => hr (by simp [e]))⟩, fun j hj => ?_, fun j hj => ⟨?_, by rw [World.frozen?_setCell, HFE.out]; exact (HF.out j hj).2⟩⟩
        · by_cases hjk : j = n
          · subst hjk
            exact World.cell?_setCell_same _ _ _ hu0
          · exact (World.cell?_setCell_other _ _ _ _ (by intro e; cases e; exact hjk rfl)).trans ((HCE.out j).trans (HC.out j (by omega)))
        · by_cases hjk : j = n
          · subst hjk
            rw [World.cell?_setCell_same _ _ _ hu0]
            rfl
          · exact (congrArg Option.isSome ((World.cell?_setCell_other _ _ _ _ (by intro e; cases e; exact hjk rfl)).trans (HCE.out j))).trans (HF.out j hj).1
      case measure => simp [intOf]; omega
    · have hn2 : n = len := by omega
      subst hn2
      have HC := Lib.hid hms
      clear hfr hms hc hg ha
      go_wp2
      go_ret
      exact ⟨rfl, hgr, HC.out⟩
set_option maxRecDepth 100000 in
set_option maxHeartbeats 800000 in
theorem heldStringS_any (a : Option Addr) (len cap : Nat) (ss : List ByteArray) (k : Int) (w : World) (hs : SR w a len ss) (hm : ∀ j, j < len → ss.getD j ByteArray.empty = Mk.mark (k + j)) (h0 : 1 ≤ k) (h1 : k ≤ 1000) (hlen : len ≤ 1048576) :
    Calls Try.prog 100 #[.slice a len cap, .int .i64 k] w fun e w' => e = .returned (.int .i64 (k + len)) ∧ Below w.heap.size w w' := by
  go_enter Try.func100, Try.ntmps100
  go_wp2
  go_loopw [1, 5] (fun v i wr => ∃ n : Nat, n ≤ len ∧ i = .int .i64 (n : Int) ∧ v = .int .i64 (k + n) ∧ Below w.heap.size w wr)
    (fun _ i _ => len - (intOf i).toNat)
  case atStart => exact ⟨0, by omega, rfl, by simp, Below.refl _ _⟩
  case round =>
    obtain ⟨n, hn, rfl, rfl, hbel⟩ := hrel
    by_cases hlt : n < len
    · have hs' := hs.below hbel
      have hmn := hm n hlt
      obtain ⟨g, off, rfl, hgb, hc⟩ := hs'.2 (by omega)
      have hck := hc n hlt
      rw [hmn] at hck
      have HS := Lib.hid hs
      have HM := Lib.hid hm
      clear hs hs' hc hm hmn
      go_wp2
      go_region_with (go_at_call 72; go_must (refine (markText_any (k + (n : Int)) _ (by omega) (by omega)).mono ?_); go_must (rintro e w2 ⟨rfl, hb2⟩); have hck2 : w2.cell? ⟨g, off + n, none⟩ = some (.string (Mk.mark (k + (n : Int)))) := (World.cell?_of_block (w := wr.drew) (a := ⟨g, off + n, none⟩) (hb2.block g hgb)).trans hck)
      all_goals
        go_wp2
        go_roundw
        case rel => exact ⟨n + 1, by omega, by simp, by simp; omega, hbel.drew.trans (hb2.mono hbel.size)⟩
        case measure => simp [intOf]; omega
    · have hn2 : n = len := by omega
      subst hn2
      clear hm hs
      go_wp2
      go_ret
      exact ⟨rfl, hbel⟩
end Go.Proofs.Ytedjbikphdflhab
