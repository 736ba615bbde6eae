/-
  The laws' own helpers for shares: comparing, marking and looking for marks.
-/
import Derived.Test.YtbhpealkhpginaaQw
namespace Go.Proofs.Ytbhpealkhpginaa
open Go.RowKit

theorem eq_part (a b c d : Int) (w : World) : (Op.equalIn 10000 35 (.agg #[.int .i64 a, .int .i64 b]) (.agg #[.int .i64 c, .int .i64 d])).run Try.prog w = .ok (a == c && b == d) w := by
  have u3 := Try.underlying3
  have a3 := Try.isAgg3
  have z3 := Try.sizeOf3
  have hS : Try.prog.underlying 35 = some (.struct (Try.prog.fieldsOf 35)) := by kernel_rfl
  rw [show (10000 : Nat) = 9999 + 1 from rfl, run_equalIn_agg w 9999 35 _ _ hS (by kernel_rfl)]
  simp only [Program.fieldsOf, Try.underlying35]
  go_simp
  by_cases h1 : a = c <;> by_cases h2 : b = d <;> simp [h1, h2]
theorem noGuard_residue : Try.prog.eqGuardType Try.prog.depth 77 = false := by kernel_rfl
theorem noGuard_part : Try.prog.eqGuardType Try.prog.depth 35 = false := by kernel_rfl
set_option maxRecDepth 100000 in
set_option maxHeartbeats 1600000 in
theorem wcParts_any (a b : Option Addr) (len cap cap' : Nat) (l : List (Int × Int)) (w : World) (ha : QR w a len l) (hb : QR w b len l) (hlen : len ≤ 9223372036854775807) :
    Calls Try.prog 15 #[.slice a len cap, .slice b len cap'] w fun e w' => e = .returned (.bool true) ∧ Below w.heap.size w w' := by
  have hq2 := noGuard_part
  go_enter Try.func15, Try.ntmps15
  go_wp2
  go_loopw [5] (fun i wr => ∃ k : Nat, k ≤ len ∧ i = .int .i64 (k : Int) ∧ Below w.heap.size w wr)
    (fun i _ => len - (intOf i).toNat)
  case atStart => exact ⟨0, by omega, rfl, Below.refl _ _⟩
  case round =>
    obtain ⟨k, hk, rfl, hbel⟩ := hrel
    by_cases hlt : k < len
    · obtain ⟨g, off, rfl, _, hc⟩ := (ha.below hbel).2 (by omega)
      obtain ⟨g2, off2, rfl, _, hc2⟩ := (hb.below hbel).2 (by omega)
      obtain ⟨c0, c1⟩ := hc k hlt
      obtain ⟨d0, d1⟩ := hc2 k hlt
      obtain ⟨X, hX⟩ : ∃ x, Hid (Po.X l k = x) := ⟨_, Lib.hid rfl⟩
      obtain ⟨Y, hY⟩ : ∃ x, Hid (Po.Y l k = x) := ⟨_, Lib.hid rfl⟩
      rw [hX.out] at c0 d0
      rw [hY.out] at c1 d1
      have hq1 := fun W => eq_part X Y X Y W
      simp only [beq_self_eq_true, Bool.and_true] at hq1
      clear hc hc2 ha hb hX hY
      go_wp2
      go_quiet (fail)
      go_wp2
      go_roundw
      case rel => exact ⟨k + 1, by omega, by simp, below_drewN8 hbel _⟩
      case measure => simp [intOf]; omega
    · go_wp2
      go_ret
      exact ⟨rfl, hbel⟩
def marksP (n : Nat) : List (Int × Int) := (List.range n).map fun (j : Nat) => (1 + 2 * (j : Int), 1 + 2 * (j : Int) + 1)
theorem marksP_len (n : Nat) : (marksP n).length = n := by simp [marksP]
theorem marksP_X (n j : Nat) (h : j < n) : Po.X (marksP n) j = 1 + 2 * (j : Int) ∧ Po.Y (marksP n) j = 1 + 2 * (j : Int) + 1 := by
  unfold Po.X Po.Y marksP
  rw [List.getD_eq_getElem?_getD, List.getElem?_map, List.getElem?_range h]
  exact ⟨rfl, rfl⟩
/-- The block g has room for len shares, the first k of which are those of l. -/
def MB (g len k : Nat) (l : List (Int × Int)) (w : World) : Prop :=
  ∃ cs : Array Value, w.heap[g]? = some (.cells cs 35 (0, 0)) ∧ len * 2 ≤ cs.size ∧ ∀ j, j < k → cs[j * 2]? = some (.int .i64 (Po.X l j)) ∧ cs[j * 2 + 1]? = some (.int .i64 (Po.Y l j))
theorem MB.step {g len k : Nat} {l : List (Int × Int)} {w : World} (h : MB g len k l w) (hk : k < len) : MB g len (k + 1) l ((w.setCell ⟨g, k * 2, none⟩ (.int .i64 (Po.X l k))).setCell ⟨g, k * 2 + 1, none⟩ (.int .i64 (Po.Y l k))) := by
  obtain ⟨cs, h1, h2, h3⟩ := h
  refine ⟨_, block_setCell (block_setCell h1 (k * 2) _) (k * 2 + 1) _, by simpa using h2, fun j hj => ?_⟩
  by_cases hjk : j = k
  · subst hjk
    refine ⟨?_, ?_⟩
    · rw [Array.getElem?_setIfInBounds_ne (by omega), Array.getElem?_setIfInBounds_self_of_lt (by omega)]
    · rw [Array.getElem?_setIfInBounds_self_of_lt (by simp; omega)]
  · obtain ⟨c0, c1⟩ := h3 j (by omega)
    refine ⟨?_, ?_⟩ <;> simp only [Array.getElem?_setIfInBounds] <;> (repeat rw [if_neg (by omega)]) <;> assumption
theorem MB.slot {g len k : Nat} {l : List (Int × Int)} {w : World} (h : MB g len k l w) (i : Nat) (hi : i < len * 2) : ∃ u, w.cell? ⟨g, i, none⟩ = some u := by
  obtain ⟨cs, h1, h2, _⟩ := h
  exact ⟨cs[i]'(by omega), by simp [World.cell?, h1, show i < cs.size by omega]⟩
theorem MB.fro {g len k : Nat} {l : List (Int × Int)} {w : World} (h : MB g len k l w) (i : Nat) : w.frozen? ⟨g, i, none⟩ = false := by
  obtain ⟨cs, h1, _, _⟩ := h
  simp [World.frozen?, h1]
theorem MB.below {g len k : Nat} {l : List (Int × Int)} {w w' : World} (h : MB g len k l w) (hb : Below w.heap.size w w') : MB g len k l w' := by
  obtain ⟨cs, h1, h2, h3⟩ := h
  exact ⟨cs, (hb.block g (lt_of_block h1)).trans h1, h2, h3⟩
theorem MB.grown {g len k : Nat} {l : List (Int × Int)} {w w' : World} {row : Option Nat} (h : MB g len k l w) (hg : w.grownBy w' row) (hne : some g ≠ row) : MB g len k l w' := by
  obtain ⟨cs, h1, h2, h3⟩ := h
  exact ⟨cs, (hg.block g (lt_of_block h1) (fun e => hne e)).trans h1, h2, h3⟩
theorem MB.lt {g len k : Nat} {l : List (Int × Int)} {w : World} (h : MB g len k l w) : g < w.heap.size := by
  obtain ⟨cs, h1, _, _⟩ := h
  exact lt_of_block h1
theorem MB.qr {g len : Nat} {l : List (Int × Int)} {w : World} (h : MB g len len l w) (hl : l.length = len) : QR w (some ⟨g, 0, none⟩) len l := by
  obtain ⟨cs, h1, h2, h3⟩ := h
  refine ⟨hl, fun _ => ⟨g, 0, rfl, lt_of_block h1, fun j hj => ?_⟩⟩
  obtain ⟨c0, c1⟩ := h3 j hj
  simp only [Nat.zero_add]
  have hc : ∀ i, w.cell? ⟨g, i, none⟩ = cs[i]? := fun i => by simp [World.cell?, h1]
  exact ⟨(hc _).trans c0, (hc _).trans c1⟩
theorem MB.of_own {w : World} {base g cap n : Nat} {xs : List Value} (l : List (Int × Int)) (h : w.ownsRow base 35 2 (.slice (some ⟨g, 0, none⟩) n cap) n xs) : MB g n 0 l w := by
  rcases h.2 with ⟨he, h0⟩ | ⟨g', cap', cur, he, hg, hh, hn, hm, hs, _⟩
  · cases he
  · cases he
    exact ⟨cur, hh, by rw [hs]; exact Nat.mul_le_mul_right 2 hn, fun j hj => absurd hj (by omega)⟩
theorem gsetP {w a : World} {g : Nat} (h : w.grownBy a (some g)) (i : Nat) (v : Value) : w.grownBy (a.setCell ⟨g, i, none⟩ v) (some g) :=
  h.trans ⟨rfl, rfl, rfl, by rw [World.size_setCell]; exact Nat.le_refl _, fun j _ hr => Below.heap_setCell _ _ _ _ (fun e => hr (by subst e; rfl))⟩
set_option maxRecDepth 100000 in
set_option maxHeartbeats 1600000 in
theorem markPartS_any (g len cap : Nat) (w : World) (hM : MB g len 0 (marksP len) w) (hlen : len ≤ 1048576) :
    Calls Try.prog 29 #[.slice (some ⟨g, 0, none⟩) len cap, .int .i64 1] w fun e w' => e = .returned (.int .i64 (1 + 2 * (len : Int))) ∧ w.grownBy w' (some g) ∧ QR w' (some ⟨g, 0, none⟩) len (marksP len) := by
  go_enter Try.func29, Try.ntmps29
  go_wp2
  go_loopw [1, 5] (fun v i wr => ∃ n : Nat, n ≤ len ∧ i = .int .i64 (n : Int) ∧ v = .int .i64 (1 + 2 * (n : Int)) ∧ w.grownBy wr (some g) ∧ Hid (MB g len n (marksP len) wr))
    (fun _ i _ => len - (intOf i).toNat)
  case atStart => exact ⟨0, by omega, rfl, rfl, World.grownBy.refl _ _, Lib.hid hM⟩
  case round =>
    obtain ⟨n, hn, rfl, rfl, hgr, hB⟩ := hrel
    clear hM
    by_cases hlt : n < len
    · obtain ⟨u0, s0⟩ := hB.out.slot (n * 2) (by omega)
      obtain ⟨u1, s1⟩ := hB.out.slot (n * 2 + 1) (by omega)
      have f0 := hB.out.fro (n * 2)
      have f1 := hB.out.fro (n * 2 + 1)
      have hst := hB.out.step hlt
      rw [(marksP_X len n hlt).1, (marksP_X len n hlt).2] at hst
      have HB := Lib.hid hst
      have hg2 : w.grownBy ((wr.setCell ⟨g, n * 2, none⟩ (.int .i64 (1 + 2 * (n : Int)))).setCell ⟨g, n * 2 + 1, none⟩ (.int .i64 (1 + 2 * (n : Int) + 1))) (some g) :=
        gsetP (gsetP hgr _ _) _ _
      have HG := Lib.hid hg2
      clear hst hg2 hB hgr
      go_wp2
      go_roundw
      case rel => exact ⟨n + 1, by omega, by simp, by simp; omega, HG.out, HB⟩
      case measure => simp [intOf]; omega
    · have hn2 : n = len := by omega
      subst hn2
      have hq := hB.out.qr (marksP_len n)
      clear hB
      go_wp2
      go_ret
      exact ⟨rfl, hgr, hq⟩
set_option maxRecDepth 100000 in
set_option maxHeartbeats 1600000 in
theorem heldPartS_any (a : Option Addr) (len cap : Nat) (w : World) (hs : QR w a len (marksP len)) (hlen : len ≤ 1048576) :
    Calls Try.prog 30 #[.slice a len cap, .int .i64 1] w fun e w' => e = .returned (.int .i64 (1 + 2 * (len : Int))) ∧ Below w.heap.size w w' := by
  go_enter Try.func30, Try.ntmps30
  go_wp2
  go_loopw [1, 5] (fun v i wr => ∃ n : Nat, n ≤ len ∧ i = .int .i64 (n : Int) ∧ v = .int .i64 (1 + 2 * (n : Int)) ∧ Below w.heap.size w wr)
    (fun _ i _ => len - (intOf i).toNat)
  case atStart => exact ⟨0, by omega, rfl, rfl, Below.refl _ _⟩
  case round =>
    obtain ⟨n, hn, rfl, rfl, hbel⟩ := hrel
    by_cases hlt : n < len
    · obtain ⟨b, off, rfl, hb, hc⟩ := (hs.below hbel).2 (by omega)
      obtain ⟨c0, c1⟩ := hc n hlt
      rw [(marksP_X len n hlt).1] at c0
      rw [(marksP_X len n hlt).2] at c1
      clear hc hs hb
      go_wp2
      go_roundw
      case rel => exact ⟨n + 1, by omega, by simp, by simp; omega, hbel⟩
      case measure => simp [intOf]; omega
    · have hn2 : n = len := by omega
      subst hn2
      clear hs
      go_wp2
      go_ret
      exact ⟨rfl, hbel⟩
end Go.Proofs.Ytbhpealkhpginaa
