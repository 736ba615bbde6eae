/-
  The laws' own helpers for lists of operations: markOpS, heldOpS.
-/
import Derived.Test.YtdaffohimifecaaGreatOb
import Derived.Test.YtdaffohimifecaaGreatYb
namespace Go.Proofs.YtdaffohimifecaaGreat
open Go.RowKit

/-- The operations that markOpS writes. -/
def marksO (n : Nat) : List Jo := (List.range n).map fun (k : Nat) => ⟨1 + 4 * (k : Int), 1 + 4 * (k : Int) + 1, 1 + 4 * (k : Int) + 1 + 1, Mk.mark (1 + 4 * (k : Int) + 1 + 1 + 1)⟩
theorem marksO_len (n : Nat) : (marksO n).length = n := by simp [marksO]
theorem marksO_at (n k : Nat) (h : k < n) : Jo.at_ (marksO n) k = ⟨1 + 4 * (k : Int), 1 + 4 * (k : Int) + 1, 1 + 4 * (k : Int) + 1 + 1, Mk.mark (1 + 4 * (k : Int) + 1 + 1 + 1)⟩ := by
  unfold Jo.at_ marksO
  rw [List.getD_eq_getElem?_getD, List.getElem?_map, List.getElem?_range h]
  rfl
theorem OB.mark {g len k : Nat} {l : List Jo} {w w2 : World} (h : OB g len k l w) (hk : k < len) (hb : w2.heap[g]? = ((((w).setCell ⟨g, k * 4, none⟩ (.int .i64 (Jo.at_ l k).c)).setCell ⟨g, k * 4 + 1, none⟩ (.int .i64 (Jo.at_ l k).a)).setCell ⟨g, k * 4 + 2, none⟩ (.int .i64 (Jo.at_ l k).b)).heap[g]?) : OB g len (k + 1) l (w2.setCell ⟨g, k * 4 + 3, none⟩ (.string (Jo.at_ l k).t)) := by
  obtain ⟨cs, h1, h2, h3⟩ := h
  have h4 := hb.trans (block_setCell (block_setCell (block_setCell h1 (k * 4) _) (k * 4 + 1) _) (k * 4 + 2) _)
  refine ⟨_, block_setCell h4 (k * 4 + 3) _, by simpa using h2, fun j hj => ?_⟩
  by_cases hjk : j = k
  · subst hjk
    refine ⟨?_, ?_, ?_, ?_⟩ <;> simp [Array.getElem?_setIfInBounds] <;> omega
  · obtain ⟨c0, c1, c2, c3⟩ := h3 j (by omega)
    refine ⟨?_, ?_, ?_, ?_⟩ <;> simp only [Array.getElem?_setIfInBounds] <;> (repeat rw [if_neg (by omega)]) <;> assumption
theorem OB.three {g len k : Nat} {l : List Jo} {w w2 : World} (h : OB g len k l w) (hk : k < len) (a b c : Value) (hb : w2.heap[g]? = (((w.setCell ⟨g, k * 4, none⟩ a).setCell ⟨g, k * 4 + 1, none⟩ b).setCell ⟨g, k * 4 + 2, none⟩ c).heap[g]?) : (∃ u, w2.cell? ⟨g, k * 4 + 3, none⟩ = some u) ∧ w2.frozen? ⟨g, k * 4 + 3, none⟩ = false := by
  obtain ⟨cs, h1, h2, h3⟩ := h
  have h4 := hb.trans (block_setCell (block_setCell (block_setCell h1 (k * 4) a) (k * 4 + 1) b) (k * 4 + 2) c)
  exact ⟨⟨cs[k * 4 + 3]'(by omega), by simp [World.cell?, h4, show k * 4 + 3 < cs.size by omega]⟩, by simp [World.frozen?, h4]⟩
theorem OB.grown {g len k : Nat} {l : List Jo} {w w' : World} {row : Option Nat} (h : OB g len k l w) (hg : w.grownBy w' row) (hne : some g ≠ row) : OB g len k l w' := by
  obtain ⟨cs, h1, h2, h3⟩ := h
  exact ⟨cs, (hg.block g (lt_of_block h1) hne).trans h1, h2, h3⟩
theorem gsetO {w a : World} {g : Nat} (h : w.grownBy a (some g)) (i : Nat) (v : Value) : w.grownBy (a.setCell ⟨g, i, none⟩ v) (some g) :=
  h.trans ⟨rfl, rfl, rfl, by rw [World.size_setCell]; exact Nat.le_refl _, fun j _ hr => Below.heap_setCell _ _ _ _ (fun e => hr (by subst e; rfl))⟩
set_option maxRecDepth 100000 in
set_option maxHeartbeats 1600000 in
theorem markOpS_any (a : Option Addr) (g len cap : Nat) (w : World) (ha : 0 < len → a = some ⟨g, 0, none⟩) (hM : 0 < len → OB g len 0 (marksO len) w) (hlen : len ≤ 1048576) :
    Calls Tryz.prog 27 #[.slice a len cap, .int .i64 1] w fun e w' => e = .returned (.int .i64 (1 + 4 * (len : Int))) ∧ w.grownBy w' (some g) ∧ (0 < len → OB g len len (marksO len) w') := by
  go_enter Tryz.func27, Tryz.ntmps27
  go_wp2
  go_loopw [1, 5] (fun v i wr => ∃ n : Nat, n ≤ len ∧ i = .int .i64 (n : Int) ∧ v = .int .i64 (1 + 4 * (n : Int)) ∧ w.grownBy wr (some g) ∧ Hid (0 < len → OB g len n (marksO len) wr))
    (fun _ i _ => len - (intOf i).toNat)
  case atStart => exact ⟨0, by omega, rfl, rfl, World.grownBy.refl _ _, Lib.hid hM⟩
  case round =>
    obtain ⟨n, hn, rfl, rfl, hgr, hB⟩ := hrel
    clear hM
    by_cases hlt : n < len
    · obtain rfl := ha (by omega)
      have hob := hB.out (by omega)
      obtain ⟨u0, s0⟩ := hob.slot (n * 4) (by omega)
      obtain ⟨u1, s1⟩ := hob.slot (n * 4 + 1) (by omega)
      obtain ⟨u2, s2⟩ := hob.slot (n * 4 + 2) (by omega)
      have f0 := hob.fro (n * 4)
      have f1 := hob.fro (n * 4 + 1)
      have f2 := hob.fro (n * 4 + 2)
      have hglt := hob.lt
      have HG := Lib.hid (gsetO (gsetO (gsetO hgr (n * 4) (.int .i64 (1 + 4 * (n : Int)))) (n * 4 + 1) (.int .i64 (1 + 4 * (n : Int) + 1))) (n * 4 + 2) (.int .i64 (1 + 4 * (n : Int) + 1 + 1)))
      have HOB := Lib.hid hob
      clear hB hob hgr ha
      go_wp2_with fail
      refine (markText_any (1 + 4 * (n : Int) + 1 + 1 + 1) _ (by omega) (by omega)).mono ?_
      rintro e w2 ⟨rfl, hb2⟩
      have hbk : w2.heap[g]? = (((wr.setCell ⟨g, n * 4, none⟩ (.int .i64 (1 + 4 * (n : Int)))).setCell ⟨g, n * 4 + 1, none⟩ (.int .i64 (1 + 4 * (n : Int) + 1))).setCell ⟨g, n * 4 + 2, none⟩ (.int .i64 (1 + 4 * (n : Int) + 1 + 1))).heap[g]? := hb2.block g (by rw [World.size_setCell, World.size_setCell, World.size_setCell]; exact hglt)
      have hst := Lib.hid (HOB.out.mark hlt (w2 := w2) (by rw [marksO_at len n hlt]; exact hbk))
      rw [marksO_at len n hlt] at hst
      obtain ⟨⟨u3, s3⟩, f3⟩ := HOB.out.three hlt _ _ _ hbk
      have HG2 := Lib.hid (gsetO (HG.out.trans ⟨hb2.os, hb2.tape, hb2.output, hb2.size, fun q hq _ => hb2.block q hq⟩) (n * 4 + 3) (.string (Mk.mark (1 + 4 * (n : Int) + 1 + 1 + 1))))
      clear hbk hb2 s0 s1 s2 f0 f1 f2 HOB HG
      go_wp2
      go_roundw
      case rel => exact ⟨n + 1, by omega, by simp, by simp; omega, HG2.out, Lib.hid fun _ => hst.out⟩
      case measure => simp [intOf]; omega
    · have hn2 : n = len := by omega
      subst hn2
      have HBO := Lib.hid hB.out
      clear hB ha
      go_wp2
      go_ret
      exact ⟨rfl, hgr, HBO.out⟩
end Go.Proofs.YtdaffohimifecaaGreat
