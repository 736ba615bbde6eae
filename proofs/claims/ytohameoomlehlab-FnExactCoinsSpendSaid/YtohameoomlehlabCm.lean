/-
  The laws' own helpers for lists of coins: marks.
-/
import Derived.Test.YtohameoomlehlabCl
import Derived.Test.YtohameoomlehlabSl
import Derived.Deep.RegionWith
import Derived.Deep.DeepMust
namespace Go.Proofs.Ytohameoomlehlab
open Go.RowKit

/-- What markCoinS writes. -/
def marksCoin (n : Nat) : List Co := (List.range n).map fun (k : Nat) => ⟨1 + 6 * (k : Int), 1 + 6 * (k : Int) + 1, 1 + 6 * (k : Int) + 1 + 1, Mk.mark (1 + 6 * (k : Int) + 1 + 1 + 1), 1 + 6 * (k : Int) + 1 + 1 + 1 + 1, true⟩
theorem marksCoin_len (n : Nat) : (marksCoin n).length = n := by simp [marksCoin]
theorem marksCoin_at (n k : Nat) (h : k < n) : Co.nth (marksCoin n) k = ⟨1 + 6 * (k : Int), 1 + 6 * (k : Int) + 1, 1 + 6 * (k : Int) + 1 + 1, Mk.mark (1 + 6 * (k : Int) + 1 + 1 + 1), 1 + 6 * (k : Int) + 1 + 1 + 1 + 1, true⟩ := by
  unfold Co.nth marksCoin
  rw [List.getD_eq_getElem?_getD, List.getElem?_map, List.getElem?_range h]
  rfl
theorem gsetCoin {w a : World} {g : Nat} (h : w.grownBy a (some g)) (i : Nat) (v : Value) : w.grownBy (a.setCell ⟨g, i, none⟩ v) (some g) :=
  h.trans ⟨rfl, rfl, rfl, by rw [World.size_setCell]; exact Nat.le_refl _, fun j _ hr => Below.heap_setCell _ _ _ _ (fun e => hr (by subst e; rfl))⟩
theorem CB.marked {g len k : Nat} {l : List Co} {w w2 : World} (h : CB g len k l w) (hk : k < len) (hb : w2.heap[g]? = (((w.setCell ⟨g, k * 6, none⟩ (.int .i64 (Co.nth l k).tx)).setCell ⟨g, k * 6 + 1, none⟩ (.int .i64 (Co.nth l k).out)).setCell ⟨g, k * 6 + 2, none⟩ (.int .i64 (Co.nth l k).amt)).heap[g]?) : CB g len (k + 1) l (((w2.setCell ⟨g, k * 6 + 3, none⟩ (.string (Co.nth l k).lock)).setCell ⟨g, k * 6 + 4, none⟩ (.int .i64 (Co.nth l k).ht)).setCell ⟨g, k * 6 + 5, none⟩ (.bool (Co.nth l k).rew)) := by
  have h9 := h
  obtain ⟨cs, h1, h2, h3⟩ := h
  refine h9.at_ hk ?_
  have e2 := hb.trans (block_setCell (block_setCell (block_setCell (h1) (k * 6) _) (k * 6 + 1) _) (k * 6 + 2) _)
  exact (block_setCell (block_setCell (block_setCell (e2) (k * 6 + 3) _) (k * 6 + 4) _) (k * 6 + 5) _).trans (block_setCell (block_setCell (block_setCell (block_setCell (block_setCell (block_setCell (h1) (k * 6) _) (k * 6 + 1) _) (k * 6 + 2) _) (k * 6 + 3) _) (k * 6 + 4) _) (k * 6 + 5) _).symm
set_option maxRecDepth 100000 in
set_option maxHeartbeats 3200000 in
theorem markCoinS_any (a : Option Addr) (g len cap : Nat) (w : World) (ha : 0 < len → a = some ⟨g, 0, none⟩) (hM : 0 < len → CB g len 0 (marksCoin len) w) (hlen : len ≤ 1048576) :
    Calls Try.prog 23 #[.slice a len cap, .int .i64 1] w fun e w' => e = .returned (.int .i64 (1 + 6 * (len : Int))) ∧ w.grownBy w' (some g) ∧ (0 < len → CB g len len (marksCoin len) w') := by
  go_enter Try.func23, Try.ntmps23
  go_wp2
  go_loopw [1, 5] (fun v i wr => ∃ n : Nat, n ≤ len ∧ i = .int .i64 (n : Int) ∧ v = .int .i64 (1 + 6 * (n : Int)) ∧ w.grownBy wr (some g) ∧ Hid (0 < len → CB g len n (marksCoin len) wr))
    (fun _ i _ => len - (intOf i).toNat)
  case atStart => exact ⟨0, by omega, rfl, rfl, World.grownBy.refl _ _, Lib.hid hM⟩
  case round =>
    obtain ⟨n, hn, rfl, rfl, hgr, hB⟩ := hrel
    clear hM
    by_cases hlt : n < len
    · obtain rfl := ha (by omega)
      have hob := hB.out (by omega)
      obtain ⟨u0, s0⟩ := hob.slot (n * 6) (by omega)
      have f0 := hob.fro (n * 6)
      obtain ⟨u1, s1⟩ := hob.slot (n * 6 + 1) (by omega)
      have f1 := hob.fro (n * 6 + 1)
      obtain ⟨u2, s2⟩ := hob.slot (n * 6 + 2) (by omega)
      have f2 := hob.fro (n * 6 + 2)
      have hglt := hob.lt
      have HG := Lib.hid (gsetCoin (gsetCoin (gsetCoin (hgr) (n * 6) (.int .i64 (1 + 6 * (n : Int)))) (n * 6 + 1) (.int .i64 (1 + 6 * (n : Int) + 1))) (n * 6 + 2) (.int .i64 (1 + 6 * (n : Int) + 1 + 1)))
      have HOB := Lib.hid hob
      have HO3 := Lib.hid (((hob.set (n * 6) (.int .i64 (1 + 6 * (n : Int))) (by omega)).set (n * 6 + 1) (.int .i64 (1 + 6 * (n : Int) + 1)) (by omega)).set (n * 6 + 2) (.int .i64 (1 + 6 * (n : Int) + 1 + 1)) (by omega))
      have ht5 : (1 + 6 * (n : Int) + 1 + 1 + 1 + 1 + 1).tmod 3 = 0 := by rw [Int.tmod_eq_emod_of_nonneg (by omega)]; omega
      clear hB hob hgr ha
      go_wp2_with fail
      refine (markText_any (1 + 6 * (n : Int) + 1 + 1 + 1) _ (by omega) (by omega)).mono ?_
      rintro e w2 ⟨rfl, hb2⟩
      have hbk : w2.heap[g]? = (((wr.setCell ⟨g, n * 6, none⟩ (.int .i64 (1 + 6 * (n : Int)))).setCell ⟨g, n * 6 + 1, none⟩ (.int .i64 (1 + 6 * (n : Int) + 1))).setCell ⟨g, n * 6 + 2, none⟩ (.int .i64 (1 + 6 * (n : Int) + 1 + 1))).heap[g]? := hb2.block g (by simp only [World.size_setCell]; exact hglt)
      have hst := Lib.hid (HOB.out.marked hlt (w2 := w2) (by rw [marksCoin_at len n hlt]; exact hbk))
      rw [marksCoin_at len n hlt] at hst
      have hob2 := HO3.out.kept hbk
      obtain ⟨u3, s3⟩ := hob2.slot (n * 6 + 3) (by omega)
      have f3 := hob2.fro (n * 6 + 3)
      obtain ⟨u4, s4⟩ := hob2.slot (n * 6 + 4) (by omega)
      have f4 := hob2.fro (n * 6 + 4)
      obtain ⟨u5, s5⟩ := hob2.slot (n * 6 + 5) (by omega)
      have f5 := hob2.fro (n * 6 + 5)
      have HG2 := Lib.hid (gsetCoin (gsetCoin (gsetCoin (HG.out.trans ⟨hb2.os, hb2.tape, hb2.output, hb2.size, fun q hq _ => hb2.block q hq⟩) (n * 6 + 3) (.string (Mk.mark (1 + 6 * (n : Int) + 1 + 1 + 1)))) (n * 6 + 4) (.int .i64 (1 + 6 * (n : Int) + 1 + 1 + 1 + 1))) (n * 6 + 5) (.bool true))
      clear hbk hb2 s0 f0 s1 f1 s2 f2 HOB HG HO3 hob2
      go_wp2
      go_roundw
      case rel => exact ⟨n + 1, by omega, by simp, by simp; omega, HG2.out, Lib.hid fun _ => hst.out⟩
      case measure => simp [intOf]; omega
    · have hn2 : n = len := by omega
      subst hn2
      have HBO := Lib.hid hB.out
      clear hB ha
      go_wp2
      go_ret
      exact ⟨rfl, hgr, HBO.out⟩
set_option maxRecDepth 100000 in
set_option maxHeartbeats 3200000 in
theorem heldCoinS_any (lo : Nat) (a : Option Addr) (len cap : Nat) (w : World) (hs : CoL lo w a len (marksCoin len)) (hlen : len ≤ 1048576) :
    Calls Try.prog 24 #[.slice a len cap, .int .i64 1] w fun e w' => e = .returned (.int .i64 (1 + 6 * (len : Int))) ∧ Below w.heap.size w w' := by
  have HS := Lib.hid hs
  clear hs
  go_enter Try.func24, Try.ntmps24
  go_wp2
  go_loopw [1, 5] (fun v i wr => ∃ n : Nat, n ≤ len ∧ i = .int .i64 (n : Int) ∧ v = .int .i64 (1 + 6 * (n : Int)) ∧ Below w.heap.size w wr)
    (fun _ i _ => len - (intOf i).toNat)
  case atStart => exact ⟨0, by omega, rfl, rfl, Below.refl _ _⟩
  case round =>
    obtain ⟨n, hn, rfl, rfl, hbel⟩ := hrel
    by_cases hlt : n < len
    · obtain ⟨g, off, rfl, _, hgb, hc⟩ := (HS.out.below hbel).2 (by omega)
      obtain ⟨c0, c1, c2, c3, c4, c5⟩ := hc n hlt
      rw [marksCoin_at len n hlt] at c0 c1 c2 c3 c4 c5
      simp only at c0 c1 c2 c3 c4 c5
      have hw1 : IntKind.i64.wrap (1 + 6 * (n : Int) + 1) = 1 + 6 * (n : Int) + 1 := IntWalk.i64_in _ (by omega)
      have hw2 : IntKind.i64.wrap (1 + 6 * (n : Int) + 1 + 1) = 1 + 6 * (n : Int) + 1 + 1 := IntWalk.i64_in _ (by omega)
      have hw3 : IntKind.i64.wrap (1 + 6 * (n : Int) + 1 + 1 + 1) = 1 + 6 * (n : Int) + 1 + 1 + 1 := IntWalk.i64_in _ (by omega)
      have hw4 : IntKind.i64.wrap (1 + 6 * (n : Int) + 1 + 1 + 1 + 1) = 1 + 6 * (n : Int) + 1 + 1 + 1 + 1 := IntWalk.i64_in _ (by omega)
      have hw5 : IntKind.i64.wrap (1 + 6 * (n : Int) + 1 + 1 + 1 + 1 + 1) = 1 + 6 * (n : Int) + 1 + 1 + 1 + 1 + 1 := IntWalk.i64_in _ (by omega)
      have hw6 : IntKind.i64.wrap (1 + 6 * (n : Int) + 1 + 1 + 1 + 1 + 1 + 1) = 1 + 6 * (n : Int) + 1 + 1 + 1 + 1 + 1 + 1 := IntWalk.i64_in _ (by omega)
      have ht5 : (1 + 6 * (n : Int) + 1 + 1 + 1 + 1 + 1).tmod 3 = 0 := by rw [Int.tmod_eq_emod_of_nonneg (by omega)]; omega
      clear hc HS
      go_wp2
      go_region_with (go_at_call 45; go_must (refine (markText_any (1 + 6 * (n : Int) + 1 + 1 + 1) _ (by omega) (by omega)).mono ?_); go_must (rintro e w2 ⟨rfl, hb2⟩); have hck3 : w2.cell? ⟨g, off + n * 6 + 3, none⟩ = some (.string (Mk.mark (1 + 6 * (n : Int) + 1 + 1 + 1))) := (World.cell?_of_block (w := wr.drew) (a := ⟨g, off + n * 6 + 3, none⟩) (hb2.block g hgb)).trans c3; have hck4 : w2.cell? ⟨g, off + n * 6 + 4, none⟩ = some (.int .i64 (1 + 6 * (n : Int) + 1 + 1 + 1 + 1)) := (World.cell?_of_block (w := wr.drew) (a := ⟨g, off + n * 6 + 4, none⟩) (hb2.block g hgb)).trans c4; have hck5 : w2.cell? ⟨g, off + n * 6 + 5, none⟩ = some (.bool true) := (World.cell?_of_block (w := wr.drew) (a := ⟨g, off + n * 6 + 5, none⟩) (hb2.block g hgb)).trans c5)
      all_goals
        go_wp2
        go_roundw
        case rel => exact ⟨n + 1, by omega, by simp, by simp; omega, hbel.drew.trans (hb2.mono hbel.size)⟩
        case measure => simp [intOf]; omega
    · have hn2 : n = len := by omega
      subst hn2
      clear HS
      go_wp2
      go_ret
      exact ⟨rfl, hbel⟩
end Go.Proofs.Ytohameoomlehlab
