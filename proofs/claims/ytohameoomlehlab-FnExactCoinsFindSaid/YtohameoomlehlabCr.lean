/-
  Contracts of the program's coins: valid ones, places, the order.
-/
import Derived.Test.YtohameoomlehlabCq
import Derived.Test.YtohameoomlehlabWq
import Derived.Test.YtohameoomlehlabDg
import Derived.Test.YtohameoomlehlabShelf
import Derived.Shelf.SlSortCmp.WholeK
import Derived.Deep.RegionHeld3
import Derived.Deep.RegionWith
namespace Go.Proofs.Ytohameoomlehlab
open Go.RowKit

set_option maxRecDepth 100000 in
set_option maxHeartbeats 1600000 in
theorem outValidC (am : Int) (lk : ByteArray) (w : World) (hz : lk.size ≤ 9223372036854775807) :
    Calls Try.prog 62 #[.agg #[.int .i64 am, .string lk]] w fun e w' => e = .returned (.bool ((decide (1 ≤ am) && decide (am ≤ 1000000)) && decide ((lk.size : Int) ≤ 300))) ∧ Below w.heap.size w w' := by
  have hbel : Below w.heap.size w (w.alloc (.cells #[.int .i64 am, .string lk] 89 (0, 0))) := (Below.refl _ _).alloc (Nat.le_refl _) _
  cases h1 : decide (1 ≤ am)
  · go_enter Try.func62, Try.ntmps62
    go_wp2
    go_ret
    exact ⟨rfl, hbel⟩
  cases h2 : decide (am ≤ 1000000)
  · go_enter Try.func62, Try.ntmps62
    go_wp2
    go_ret
    exact ⟨rfl, hbel⟩
  have hq : decide ((lk.size : Int) ≤ 300) = decide (lk.size ≤ 300) := by rw [decide_eq_decide]; omega
  rw [hq]
  obtain ⟨v, hv⟩ : ∃ v, decide (lk.size ≤ 300) = v := ⟨_, rfl⟩
  rw [hv] at hq ⊢
  clear hv
  go_enter Try.func62, Try.ntmps62
  go_wp2
  go_ret
  exact ⟨rfl, hbel⟩

set_option maxRecDepth 100000 in
set_option maxHeartbeats 1600000 in
theorem inValidC (tx out : Int) (w : World) :
    Calls Try.prog 63 #[.agg #[.int .i64 tx, .int .i64 out, .slice none 0 0]] w fun e w' => e = .returned (.bool ((decide (0 ≤ tx) && decide (tx ≤ 4294967295)) && (decide (0 ≤ out) && decide (out ≤ 5)))) ∧ Below w.heap.size w w' := by
  have hbel : Below w.heap.size w (w.alloc (.cells #[.int .i64 tx, .int .i64 out, .slice none 0 0] 92 (0, 0))) := (Below.refl _ _).alloc (Nat.le_refl _) _
  have hc2 := isStack_any none 0 0 [] (w.alloc (.cells #[.int .i64 tx, .int .i64 out, .slice none 0 0] 92 (0, 0))) ⟨rfl, fun h => absurd h (Nat.lt_irrefl 0)⟩ (by omega) (fun s h => (List.not_mem_nil h).elim)
  have hv2 : decide (Vm.fits []) = true := by decide
  rw [hv2] at hc2
  have hc0 := fun W => isDigest_any tx W
  cases hA : (decide (0 ≤ tx) && decide (tx ≤ 4294967295))
  · simp only [hA] at hc0
    clear hc2 hA
    go_enter Try.func63, Try.ntmps63
    go_wp2_with fail
    refine (hc0 _).mono ?_
    rintro e w' ⟨rfl, rfl⟩
    go_wp2
    go_ret
    exact ⟨rfl, hbel⟩
  simp only [hA] at hc0
  clear hA
  cases hB : decide (0 ≤ out)
  · clear hc2
    go_enter Try.func63, Try.ntmps63
    go_wp2_with fail
    refine (hc0 _).mono ?_
    rintro e w' ⟨rfl, rfl⟩
    go_wp2
    go_ret
    exact ⟨rfl, hbel⟩
  cases hC : decide (out ≤ 5)
  · have hC6 : decide (out < 6) = false := by rw [← hC, decide_eq_decide]; omega
    clear hc2
    go_enter Try.func63, Try.ntmps63
    go_wp2_with fail
    refine (hc0 _).mono ?_
    rintro e w' ⟨rfl, rfl⟩
    go_wp2
    go_ret
    exact ⟨rfl, hbel⟩
  have hC6 : decide (out < 6) = true := by rw [← hC, decide_eq_decide]; omega
  clear hC
  go_enter Try.func63, Try.ntmps63
  go_wp2_with fail
  refine (hc0 _).mono ?_
  rintro e w' ⟨rfl, rfl⟩
  go_wp2_with fail
  refine hc2.mono ?_
  rintro e w' ⟨rfl, rfl⟩
  go_wp2
  go_ret
  exact ⟨rfl, hbel⟩

set_option maxRecDepth 100000 in
set_option maxHeartbeats 1600000 in
theorem cmpOr_any (g cap : Nat) (a b : Int) (w : World) (ha : w.cell? ⟨g, 0, none⟩ = some (.int .i64 a)) (hb : w.cell? ⟨g, 1, none⟩ = some (.int .i64 b)) :
    Calls Try.prog 64 #[.slice (some ⟨g, 0, none⟩) 2 cap] w fun e w' => e = .returned (.int .i64 (if a = 0 then b else a)) ∧ w' = w := by
  by_cases h0 : a = 0
  · subst h0
    rw [if_pos rfl]
    by_cases h1 : b = 0
    · subst h1
      go_enter Try.func64, Try.ntmps64
      go_wp2
      refine wp_loop_rounds 3 ?_
      rw [rounds_succ]
      go_wp2
      rw [rounds_succ]
      go_wp2
      rw [rounds_succ]
      go_wp2
      go_ret
      exact ⟨rfl, rfl⟩
    · have hd : decide (b = 0) = false := decide_eq_false h1
      go_enter Try.func64, Try.ntmps64
      go_wp2
      refine wp_loop_rounds 2 ?_
      rw [rounds_succ]
      go_wp2
      rw [rounds_succ]
      go_wp2
      go_ret
      exact ⟨rfl, rfl⟩
  · rw [if_neg h0]
    have hd : decide (a = 0) = false := decide_eq_false h0
    go_enter Try.func64, Try.ntmps64
    go_wp2
    refine wp_loop_rounds 1 ?_
    rw [rounds_succ]
    go_wp2
    go_ret
    exact ⟨rfl, rfl⟩
theorem cmpInt_any (x y : Int) (w : World) : Calls Try.prog 65 #[.int .i64 x, .int .i64 y] w fun e w' => e = .returned (.int .i64 (Co.ci x y)) ∧ w' = w := Try.cmp_Compare_int x y w
theorem Bk.c3t' {B : Nat} {t : TypeId} {u0 u1 u2 : Value} {w : World} (h : Bk B t #[u0, u1, u2] w) : w.cell? ⟨B, 0, none⟩ = some u0 ∧ w.cell? ⟨B, 1, none⟩ = some u1 ∧ w.cell? ⟨B, 2, none⟩ = some u2 := ⟨h.cell 0, h.cell 1, h.cell 2⟩
theorem grow_three (w : World) (a b c : Obj) : (((w.alloc a).alloc b).alloc c).drew = Go.Sort.grow (w.drewN 1) (#[a] ++ (#[b] ++ #[c])) := by
  rw [Go.Sort.alloc_eq_grow w a, Go.Sort.alloc_eq_grow _ b, Go.Sort.alloc_eq_grow _ c, Go.Sort.grow_grow]
  show Go.Sort.grow (Go.Sort.grow (w.drewN 1) _) _ = _
  rw [Go.Sort.grow_grow]
set_option maxRecDepth 100000 in
set_option maxHeartbeats 3200000 in
theorem compare_any (tx out amt : Int) (lock : ByteArray) (ht : Int) (rew : Bool) (tx' out' amt' : Int) (lock' : ByteArray) (ht' : Int) (rew' : Bool) (w : World) :
    Calls Try.prog 38 #[.agg #[.int .i64 tx, .int .i64 out, .int .i64 amt, .string lock, .int .i64 ht, .bool rew], .agg #[.int .i64 tx', .int .i64 out', .int .i64 amt', .string lock', .int .i64 ht', .bool rew']] w fun e w' => e = .returned (.int .i64 (Co.cmp ⟨tx, out, amt, lock, ht, rew⟩ ⟨tx', out', amt', lock', ht', rew'⟩)) ∧ ∃ q os, w' = Go.Sort.grow (w.drewN q) os := by
  have HC : Hid (Co.cmp ⟨tx, out, amt, lock, ht, rew⟩ ⟨tx', out', amt', lock', ht', rew'⟩ = if Co.ci tx tx' = 0 then Co.ci out out' else Co.ci tx tx') := Lib.hid rfl
  rw [HC.out]
  have hc1 := fun W => cmpInt_any tx tx' W
  have hc2 := fun W => cmpInt_any out out' W
  obtain ⟨r1, h1⟩ : ∃ x, Co.ci tx tx' = x := ⟨_, rfl⟩
  obtain ⟨r2, h2⟩ : ∃ x, Co.ci out out' = x := ⟨_, rfl⟩
  rw [h1, h2]
  rw [h1] at hc1
  rw [h2] at hc2
  have v1 : Bk w.heap.size 30 #[.int .i64 tx, .int .i64 out, .int .i64 amt, .string lock, .int .i64 ht, .bool rew] ((w.alloc (.cells #[.int .i64 tx, .int .i64 out, .int .i64 amt, .string lock, .int .i64 ht, .bool rew] 30 (0, 0))).alloc (.cells #[.int .i64 tx', .int .i64 out', .int .i64 amt', .string lock', .int .i64 ht', .bool rew'] 30 (0, 0))).drew := ((Bk.new _ _ _).alloc _).drew
  have v2 : Bk (w.heap.size + 1) 30 #[.int .i64 tx', .int .i64 out', .int .i64 amt', .string lock', .int .i64 ht', .bool rew'] ((w.alloc (.cells #[.int .i64 tx, .int .i64 out, .int .i64 amt, .string lock, .int .i64 ht, .bool rew] 30 (0, 0))).alloc (.cells #[.int .i64 tx', .int .i64 out', .int .i64 amt', .string lock', .int .i64 ht', .bool rew'] 30 (0, 0))).drew := (Bk.new' _ _ _ _ (by simp)).drew
  have hS0 : (((w.alloc (.cells #[.int .i64 tx, .int .i64 out, .int .i64 amt, .string lock, .int .i64 ht, .bool rew] 30 (0, 0))).alloc (.cells #[.int .i64 tx', .int .i64 out', .int .i64 amt', .string lock', .int .i64 ht', .bool rew'] 30 (0, 0))).drew.cell? ⟨w.heap.size, 0, none⟩ = some (.int .i64 tx) ∧ ((w.alloc (.cells #[.int .i64 tx, .int .i64 out, .int .i64 amt, .string lock, .int .i64 ht, .bool rew] 30 (0, 0))).alloc (.cells #[.int .i64 tx', .int .i64 out', .int .i64 amt', .string lock', .int .i64 ht', .bool rew'] 30 (0, 0))).drew.cell? ⟨w.heap.size, 1, none⟩ = some (.int .i64 out) ∧ ((w.alloc (.cells #[.int .i64 tx, .int .i64 out, .int .i64 amt, .string lock, .int .i64 ht, .bool rew] 30 (0, 0))).alloc (.cells #[.int .i64 tx', .int .i64 out', .int .i64 amt', .string lock', .int .i64 ht', .bool rew'] 30 (0, 0))).drew.cell? ⟨w.heap.size + 1, 0, none⟩ = some (.int .i64 tx') ∧ ((w.alloc (.cells #[.int .i64 tx, .int .i64 out, .int .i64 amt, .string lock, .int .i64 ht, .bool rew] 30 (0, 0))).alloc (.cells #[.int .i64 tx', .int .i64 out', .int .i64 amt', .string lock', .int .i64 ht', .bool rew'] 30 (0, 0))).drew.cell? ⟨w.heap.size + 1, 1, none⟩ = some (.int .i64 out')) := ⟨v1.cell 0, v1.cell 1, v2.cell 0, v2.cell 1⟩
  have v3 := (v1.alloc (.cells #[.int .i64 r1, .int .i64 r2] 3 (0, 0))).drew
  have v4 := (v2.alloc (.cells #[.int .i64 r1, .int .i64 r2] 3 (0, 0))).drew
  have hS1 : ((((w.alloc (.cells #[.int .i64 tx, .int .i64 out, .int .i64 amt, .string lock, .int .i64 ht, .bool rew] 30 (0, 0))).alloc (.cells #[.int .i64 tx', .int .i64 out', .int .i64 amt', .string lock', .int .i64 ht', .bool rew'] 30 (0, 0))).alloc (.cells #[.int .i64 r1, .int .i64 r2] 3 (0, 0))).drew.cell? ⟨w.heap.size, 0, none⟩ = some (.int .i64 tx) ∧ (((w.alloc (.cells #[.int .i64 tx, .int .i64 out, .int .i64 amt, .string lock, .int .i64 ht, .bool rew] 30 (0, 0))).alloc (.cells #[.int .i64 tx', .int .i64 out', .int .i64 amt', .string lock', .int .i64 ht', .bool rew'] 30 (0, 0))).alloc (.cells #[.int .i64 r1, .int .i64 r2] 3 (0, 0))).drew.cell? ⟨w.heap.size, 1, none⟩ = some (.int .i64 out) ∧ (((w.alloc (.cells #[.int .i64 tx, .int .i64 out, .int .i64 amt, .string lock, .int .i64 ht, .bool rew] 30 (0, 0))).alloc (.cells #[.int .i64 tx', .int .i64 out', .int .i64 amt', .string lock', .int .i64 ht', .bool rew'] 30 (0, 0))).alloc (.cells #[.int .i64 r1, .int .i64 r2] 3 (0, 0))).drew.cell? ⟨w.heap.size + 1, 0, none⟩ = some (.int .i64 tx') ∧ (((w.alloc (.cells #[.int .i64 tx, .int .i64 out, .int .i64 amt, .string lock, .int .i64 ht, .bool rew] 30 (0, 0))).alloc (.cells #[.int .i64 tx', .int .i64 out', .int .i64 amt', .string lock', .int .i64 ht', .bool rew'] 30 (0, 0))).alloc (.cells #[.int .i64 r1, .int .i64 r2] 3 (0, 0))).drew.cell? ⟨w.heap.size + 1, 1, none⟩ = some (.int .i64 out')) := ⟨v3.cell 0, v3.cell 1, v4.cell 0, v4.cell 1⟩
  have v5 : Bk (w.heap.size + 1 + 1) 3 #[.int .i64 r1, .int .i64 r2] (((w.alloc (.cells #[.int .i64 tx, .int .i64 out, .int .i64 amt, .string lock, .int .i64 ht, .bool rew] 30 (0, 0))).alloc (.cells #[.int .i64 tx', .int .i64 out', .int .i64 amt', .string lock', .int .i64 ht', .bool rew'] 30 (0, 0))).alloc (.cells #[.int .i64 r1, .int .i64 r2] 3 (0, 0))).drew := (Bk.new' _ _ _ _ (by simp)).drew
  have hor := cmpOr_any (w.heap.size + 1 + 1) 2 r1 r2 _ (v5.cell 0) (v5.cell 1)
  have HR := Lib.hid (grow_three w (.cells #[.int .i64 tx, .int .i64 out, .int .i64 amt, .string lock, .int .i64 ht, .bool rew] 30 (0, 0)) (.cells #[.int .i64 tx', .int .i64 out', .int .i64 amt', .string lock', .int .i64 ht', .bool rew'] 30 (0, 0)) (.cells #[.int .i64 r1, .int .i64 r2] 3 (0, 0)))
  obtain ⟨R, hR⟩ : ∃ R, (if r1 = 0 then r2 else r1) = R := ⟨_, rfl⟩
  rw [hR] at hor ⊢
  clear HC h1 h2 hR v1 v2 v3 v4 v5
  go_enter Try.func38, Try.ntmps38
  go_wp2
  go_region_held3 (fun W => (W.cell? ⟨w.heap.size, 0, none⟩ = some (.int .i64 tx) ∧ W.cell? ⟨w.heap.size, 1, none⟩ = some (.int .i64 out) ∧ W.cell? ⟨w.heap.size + 1, 0, none⟩ = some (.int .i64 tx') ∧ W.cell? ⟨w.heap.size + 1, 1, none⟩ = some (.int .i64 out'))) (first | with_reducible exact hS0 | with_reducible exact hS1)
    (first
      | (go_at_call_of 65 (Value.int .i64 tx); refine (hc1 _).mono ?_; rintro e w1 ⟨rfl, rfl⟩)
      | (go_at_call_of 65 (Value.int .i64 out); refine (hc2 _).mono ?_; rintro e w2 ⟨rfl, rfl⟩)
      | (go_at_call 64; refine hor.mono ?_; rintro e w3 ⟨rfl, rfl⟩))
  go_wp2
  go_ret
  exact ⟨rfl, 1, _, HR.out⟩
end Go.Proofs.Ytohameoomlehlab
