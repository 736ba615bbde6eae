import Derived.Test.YtoocibabceeagabGreatSl
import Derived.OpenShut
/-
  Lists of numbers: what a slice holds; the laws' own helpers (copy, comparison, marks).
-/
namespace Go.Proofs.YtoocibabceeagabGreat
open Go.RowKit

/-- The slice at a holds the len numbers zs. -/
def IR (w : World) (a : Option Addr) (len : Nat) (zs : List Int) : Prop :=
  zs.length = len ∧ (0 < len → ∃ b off, a = some ⟨b, off, none⟩ ∧ b < w.heap.size ∧ ∀ i, i < len → w.cell? ⟨b, off + i, none⟩ = some (.int .i64 (zs.getD i 0)))
theorem IR.grown {w w' : World} {a : Option Addr} {len : Nat} {zs : List Int} {row : Option Nat} (h : IR w a len zs) (hg : w.grownBy w' row) (hne : 0 < len → ∀ b off, a = some ⟨b, off, none⟩ → some b ≠ row) : IR w' a len zs :=
  ⟨h.1, fun h0 => by
    obtain ⟨b, off, rfl, hb, hc⟩ := h.2 h0
    exact ⟨b, off, rfl, Nat.lt_of_lt_of_le hb hg.size, fun i hi => hg.cell (hc i hi) (by simpa using hne h0 b off rfl)⟩⟩
theorem IR.below {w w' : World} {a : Option Addr} {len : Nat} {zs : List Int} (h : IR w a len zs) (hb : Below w.heap.size w w') : IR w' a len zs :=
  h.grown (row := none) ⟨hb.os, hb.tape, hb.output, hb.size, fun k hk _ => hb.block k hk⟩ (fun _ _ _ _ => by simp)
theorem IR.alloc {w : World} {a : Option Addr} {len : Nat} {zs : List Int} (h : IR w a len zs) (o : Obj) : IR (w.alloc o) a len zs :=
  h.grown (World.grownBy_alloc w o none) (fun _ _ _ _ => by simp)
/-- What came in as a list of numbers. -/
def IsInts (w : World) (a : Option Addr) (len cap : Nat) (zs : List Int) : Prop :=
  (a = none ∧ len = 0 ∧ cap = 0 ∧ zs = []) ∨
  ∃ x, a = some x ∧ len ≤ cap ∧ cap ≤ maxLen ∧ zs.length = cap ∧ (∀ i, i < zs.length → w.cell? (x.add i) = some (.int .i64 (zs.getD i 0))) ∧ ∀ n ∈ zs, (Lit.int .i64 n).wf = true
theorem getD_takeI {zs : List Int} {n i : Nat} (h : i < n) : (zs.take n).getD i 0 = zs.getD i 0 := by
  rw [List.getD_eq_getElem?_getD, List.getD_eq_getElem?_getD, List.getElem?_take_of_lt h]
theorem IsInts.ir {w : World} {a : Option Addr} {len cap : Nat} {zs : List Int} (h : IsInts w a len cap zs) : IR w a len (zs.take len) := by
  rcases h with ⟨_, rfl, _, rfl⟩ | ⟨x, rfl, hl, hm, hz, hc, _⟩
  · exact ⟨rfl, fun h0 => absurd h0 (by omega)⟩
  · refine ⟨by rw [List.length_take]; omega, fun h0 => ?_⟩
    obtain ⟨b, off, rfl, hcc⟩ := ints_at hc (by omega)
    refine ⟨b, off, rfl, World.block_lt_of_cell? w ⟨b, off + 0, none⟩ (hcc 0 (by omega)), fun i hi => ?_⟩
    rw [getD_takeI hi]
    exact hcc i (by omega)
theorem IsInts.len {w : World} {a : Option Addr} {len cap : Nat} {zs : List Int} (h : IsInts w a len cap zs) : len ≤ 9223372036854775807 ∧ len ≤ cap ∧ cap ≤ 9223372036854775807 := by
  have : len ≤ cap ∧ cap ≤ maxLen := by
    rcases h with ⟨_, rfl, rfl, _⟩ | ⟨_, _, h, h2, _⟩
    · exact ⟨Nat.le_refl _, Nat.zero_le _⟩
    · exact ⟨h, h2⟩
  unfold maxLen at this
  omega
theorem IsInts.sizes {w : World} {a : Option Addr} {len cap : Nat} {zs : List Int} (h : IsInts w a len cap zs) : ∀ n ∈ zs.take len, -9223372036854775808 ≤ n ∧ n ≤ 9223372036854775807 := by
  intro n hn
  rcases h with ⟨_, _, _, rfl⟩ | ⟨_, _, _, _, _, _, hw⟩
  · simp at hn
  · have := bounds_i64 (hw n (List.mem_of_mem_take hn))
    omega
/-- Numbers that the call owns. -/
theorem IR.own {w : World} {base : Nat} {e : TypeId} {a : Option Addr} {len cap n : Nat} {zs : List Int} (h : w.ownsRow base e 1 (.slice a len cap) n (zs.map (Value.int .i64))) : len = n ∧ IR w a len zs := by
  have hl : zs.length = n := by simpa using h.1
  rcases h.2 with ⟨he, h0⟩ | ⟨g, cap', cur, he, hg, hh, hn, _, _, _⟩
  · cases he
    exact ⟨h0.symm, by omega, fun h => absurd h (by omega)⟩
  · cases he
    refine ⟨rfl, hl, fun h0 => ⟨g, 0, rfl, lt_of_block hh, fun i hi => ?_⟩⟩
    have := h.cells (g := g) rfl i (.int .i64 (zs.getD i 0)) (by rw [List.getElem?_map, List.getD_eq_getElem?_getD, List.getElem?_eq_getElem (by omega)]; rfl)
    have hadr : (⟨g, 0, none⟩ : Addr).add i = ⟨g, 0 + i, none⟩ := by unfold Addr.add; split <;> simp_all
    rw [hadr] at this
    exact this
theorem getD_memI {zs : List Int} {i : Nat} (h : i < zs.length) : zs.getD i 0 ∈ zs := by
  rw [List.getD_eq_getElem?_getD, List.getElem?_eq_getElem h]
  exact List.getElem_mem h


end Go.Proofs.YtoocibabceeagabGreat

/-
  The laws' own helpers: a copy's cells can be written.
-/
namespace Go.Proofs.YtoocibabceeagabGreat
open Go.RowKit

set_option maxRecDepth 100000 in
set_option maxHeartbeats 800000 in
theorem toStringS_own (a : Option Addr) (len cap : Nat) (ss : List ByteArray) (w : World) (hs : SR w a len ss) (hlen : len ≤ 1048576) :
    Calls Tryz.prog 47 #[.slice a len cap] w fun e w' => ∃ b, e = .returned (.slice (some ⟨b, 0, none⟩) len len) ∧ w.heap.size ≤ b ∧ SR w' (some ⟨b, 0, none⟩) len ss ∧ Below w.heap.size w w' ∧ b < w'.heap.size ∧ ∀ j, j < len → (w'.cell? ⟨b, j, none⟩).isSome = true ∧ w'.frozen? ⟨b, j, none⟩ = false := by
  have hmk := run_make_row' (P := Tryz.prog) 25 9 (.string ByteArray.empty) 16 Tryz.underlying25 (by kernel_rfl) rfl .i64 .i64 len (by omega) (by omega)
  go_enter Tryz.func47, Tryz.ntmps47
  go_wp2
  go_loopw [4] (fun i wr => ∃ k : Nat, k ≤ len ∧ i = .int .i64 (k : Int) ∧ (∀ j, j < k → wr.cell? ⟨w.heap.size, j, none⟩ = some (.string (ss.getD j ByteArray.empty))) ∧ (∀ j, j < len → (wr.cell? ⟨w.heap.size, j, none⟩).isSome = true ∧ wr.frozen? ⟨w.heap.size, j, none⟩ = false) ∧ w.heap.size < wr.heap.size ∧ Below w.heap.size w wr)
    (fun i _ => len - (intOf i).toNat)
  case atStart =>
    exact ⟨0, by omega, rfl, fun j hj => absurd hj (by omega), fun j hj => ⟨by rw [made_cell _ _ _ _ _ hj]; rfl, new_frozen _ _ _ _⟩, by simp, (Below.refl _ _).alloc (Nat.le_refl _) _⟩
  case round =>
    obtain ⟨k, hk, rfl, hcs, hfr, hlt0, hbel⟩ := hrel
    by_cases hlt : k < len
    · have hsr := hs.below hbel
      obtain ⟨b, off, rfl, hb, hc⟩ := hsr.2 (by omega)
      have hck := hc k hlt
      have hne : b ≠ w.heap.size := by
        obtain ⟨b', off', he, hb', _⟩ := hs.2 (by omega)
        cases he
        omega
      clear hc hsr hs
      obtain ⟨t, HT⟩ : ∃ t, Hid (ss.getD k ByteArray.empty = t) := ⟨_, Lib.hid rfl⟩
      rw [HT.out] at hck
      have hf := (hfr k hlt).2
      obtain ⟨u0, hu0⟩ : ∃ u, wr.cell? ⟨w.heap.size, k, none⟩ = some u := Option.isSome_iff_exists.1 (hfr k hlt).1
      have HF := Lib.hid hfr
      have HC := Lib.hid hcs
      clear hfr hcs
      go_wp2
      go_roundw
      case rel =>
        refine ⟨k + 1, by omega, by simp, fun j hj => ?_, fun j hj => ⟨?_, by rw [World.frozen?_setCell]; exact (HF.out j hj).2⟩, by simpa [World.setCell] using hlt0, hbel.setCell (p := ⟨w.heap.size, k, none⟩) (Nat.le_refl _) _⟩
        · by_cases hjk : j = k
          · subst hjk
            rw [HT.out]; exact World.cell?_setCell_same _ _ _ hu0
          · exact (World.cell?_setCell_other _ _ _ _ (by intro e; cases e; exact hjk rfl)).trans (HC.out j (by omega))
        · by_cases hjk : j = k
          · subst hjk
            rw [World.cell?_setCell_same _ _ _ hu0]
            rfl
          · exact (congrArg Option.isSome (World.cell?_setCell_other _ _ _ _ (by intro e; cases e; exact hjk rfl))).trans (HF.out j hj).1
      case measure => simp [intOf]; omega
    · have hk2 : k = len := by omega
      subst hk2
      have HF := Lib.hid hfr
      have HC := Lib.hid hcs
      have h1 := hs.1
      clear hfr hcs hs
      go_wp2
      go_ret
      exact ⟨_, rfl, Nat.le_refl _, ⟨h1, fun h0 => ⟨_, _, rfl, hlt0, fun j hj => by rw [Nat.zero_add]; exact HC.out j hj⟩⟩, hbel, hlt0, HF.out⟩
/-- What is known of a list that the program hands back: its cells can be written. -/
theorem own_cellsN {w : World} {base : Nat} {e : TypeId} {a : Option Addr} {n cap : Nat} {xs : List Value} (h : w.ownsRow base e 1 (.slice a n cap) n xs) (hb : base ≤ w.heap.size) :
    ∃ g, (0 < n → a = some ⟨g, 0, none⟩) ∧ (0 < n → g < w.heap.size) ∧ base ≤ g ∧ ∀ j, j < n → (w.cell? ⟨g, j, none⟩).isSome = true ∧ w.frozen? ⟨g, j, none⟩ = false := by
  rcases h.2 with ⟨_, h0⟩ | ⟨g, cap', cur, he, hg, hh, hn, _, hcur, _⟩
  · exact ⟨w.heap.size, fun h => absurd h (by omega), fun h => absurd h (by omega), hb, fun j hj => absurd hj (by omega)⟩
  · cases he
    refine ⟨g, fun _ => rfl, fun _ => lt_of_block hh, hg, fun j hj => ⟨?_, Lib.frozen_of_heap hh j⟩⟩
    rw [Lib.cell_of_heap hh, Array.getElem?_eq_getElem (by omega)]
    rfl
/-- The marks 1, 2, .. n. -/
def marksN (n : Nat) : List Int := (List.range n).map fun (j : Nat) => 1 + (j : Int)
theorem marksN_getD (n j : Nat) (h : j < n) : (marksN n).getD j 0 = 1 + (j : Int) := by
  unfold marksN
  rw [List.getD_eq_getElem?_getD, List.getElem?_map, List.getElem?_range h]
  rfl
/-- Cells that can be written stay so. -/
def Wr (w : World) (g n : Nat) : Prop := (0 < n → g < w.heap.size) ∧ ∀ j, j < n → (w.cell? ⟨g, j, none⟩).isSome = true ∧ w.frozen? ⟨g, j, none⟩ = false
theorem Wr.grown {w w' : World} {g n : Nat} {row : Option Nat} (h : Wr w g n) (hg : w.grownBy w' row) (hne : some g ≠ row) : Wr w' g n :=
  ⟨fun h0 => Nat.lt_of_lt_of_le (h.1 h0) hg.size, fun j hj => by
    have hk := hg.block g (h.1 (by omega)) hne
    have h1 := h.2 j hj
    refine ⟨?_, ?_⟩
    · rw [World.cell?_of_block (w := w) (a := ⟨g, j, none⟩) hk]; exact h1.1
    · have : w'.frozen? ⟨g, j, none⟩ = w.frozen? ⟨g, j, none⟩ := by unfold World.frozen?; rw [hk]
      rw [this]; exact h1.2⟩
theorem Wr.below {w w' : World} {g n : Nat} (h : Wr w g n) (hb : Below w.heap.size w w') : Wr w' g n :=
  h.grown (row := none) ⟨hb.os, hb.tape, hb.output, hb.size, fun k hk _ => hb.block k hk⟩ (by simp)
theorem IR.ne {w : World} {a : Option Addr} {n g : Nat} {zs : List Int} (h : IR w a n zs) (hg : w.heap.size ≤ g) : 0 < n → ∀ b off, a = some ⟨b, off, none⟩ → some b ≠ some g := by
  intro h0 b off he hbg
  obtain ⟨b', off', he', hb', _⟩ := h.2 h0
  rw [he] at he'
  cases he'
  cases hbg
  omega
theorem addr_ne {a : Option Addr} {n g B : Nat} (ha : 0 < n → a = some ⟨g, 0, none⟩) (hg : g ≠ B) : 0 < n → ∀ b off, a = some ⟨b, off, none⟩ → some b ≠ some B := by
  intro h0 b off he hbg
  rw [ha h0] at he
  cases he
  cases hbg
  exact hg rfl
end Go.Proofs.YtoocibabceeagabGreat
