/-
  The coins of a map in order: the sort.
-/
import Derived.Test.YtohameoomlehlabCx
import Derived.Test.YtohameoomlehlabShelf
namespace Go.Proofs.Ytohameoomlehlab
open Go.RowKit Go.Shelf Go.Maps

/-! ### nothing to be sorted -/
set_option maxRecDepth 100000 in
set_option maxHeartbeats 800000 in
theorem insNone_any (fv : Value) (w : World) : Calls Try.prog 115 #[.slice none 0 0, .int .i64 0, .int .i64 0, fv] w fun e w' => e = .returned (.tuple #[]) ∧ w' = w := by
  go_enter Try.func115, Try.ntmps115
  go_wp2
  refine wp_loop_rounds 1 ?_
  rw [rounds_succ]
  go_wp2
  go_end0
  exact ⟨rfl, rfl⟩
set_option maxRecDepth 100000 in
set_option maxHeartbeats 800000 in
theorem pdqNone_any (lim : Int) (fv : Value) (w : World) : Calls Try.prog 108 #[.slice none 0 0, .int .i64 0, .int .i64 0, .int .i64 lim, fv] w fun e w' => e = .returned (.tuple #[]) ∧ w' = w := by
  have hins := fun W => insNone_any fv W
  go_enter Try.func108, Try.ntmps108
  go_wp2
  refine wp_loop_rounds 1 ?_
  rw [rounds_succ]
  go_wp2_with (go_at_call 115; refine (hins _).mono ?_; rintro e w' ⟨rfl, rfl⟩)
  (try simp only [Exit.inBlock, Exit.then]); refine bodyPost_ret (results_none rfl _ _ _) rfl ?_
  exact ⟨rfl, rfl⟩
set_option maxRecDepth 100000 in
set_option maxHeartbeats 800000 in
theorem sortNone_any (fv : Value) (w : World) : Calls Try.prog 89 #[.slice none 0 0, fv] w fun e w' => e = .returned (.tuple #[]) ∧ w' = w := by
  have hp := fun lim W => pdqNone_any lim fv W
  have hl : ∀ W, Calls Try.prog 109 #[.int .u64 0] W fun e w' => e = .returned (.int .i64 (Lib.bitLen 0 : Nat)) ∧ w' = W := fun W => Try.bits_Len 0 W (by omega) (by omega)
  go_enter Try.func89, Try.ntmps89
  go_wp2_with (first | (go_at_call 109; refine (hl _).mono ?_; rintro e w' ⟨rfl, rfl⟩) | (go_at_call 108; refine (hp _ _).mono ?_; rintro e w' ⟨rfl, rfl⟩))
  go_end0
  exact ⟨rfl, rfl⟩
/-! ### the row of the coins' cells -/
def Co.el (c : Co) : List Value := [.int .i64 c.tx, .int .i64 c.out, .int .i64 c.amt, .string c.lock, .int .i64 c.ht, .bool c.rew]
theorem Co.el_one (c : Co) : ∀ v ∈ c.el, v.oneCell' = true := fun v hv => by
  have h : c.el = Co.cs [c] := rfl
  rw [h] at hv
  exact Co.cs_one [c] v hv
theorem Co.flat_cs (l : List Co) : Go.Sort.flatK Co.el 6 l.toArray = (Co.cs l).toArray := by
  refine Go.Sort.ext_get! (by simp [Co.cs_length]) fun t ht => ?_
  have ht' : t < l.length * 6 := by simpa using ht
  rw [Go.Sort.get_flatK Co.el 6 l.toArray t (by simpa using ht')]
  have hj : t / 6 < l.length := by omega
  obtain ⟨e0, e1, e2, e3, e4, e5⟩ := Co.cs_get l (t / 6) hj
  have hn : l.toArray[t / 6]! = Co.nth l (t / 6) := by
    have h1 := Co.nth_get hj
    rw [getElem!_pos l.toArray (t / 6) (by simpa using hj)]
    rw [List.getElem?_eq_getElem hj] at h1
    simpa using Option.some.inj h1
  rw [hn]
  have hr : (Co.cs l).toArray[t]! = ((Co.cs l)[t]?).getD default := by
    rw [getElem!_def]
    simp
    cases (Co.cs l)[t]? <;> rfl
  rw [hr]
  have hm : t % 6 < 6 := Nat.mod_lt _ (by omega)
  have htt : t = t / 6 * 6 + t % 6 := by omega
  obtain ⟨m, hmm⟩ : ∃ m, t % 6 = m := ⟨_, rfl⟩
  rw [hmm] at hm htt ⊢
  obtain ⟨j, hjj⟩ : ∃ j, t / 6 = j := ⟨_, rfl⟩
  rw [hjj] at e0 e1 e2 e3 e4 e5 htt ⊢
  subst htt
  rcases (by omega : m = 0 ∨ m = 1 ∨ m = 2 ∨ m = 3 ∨ m = 4 ∨ m = 5) with rfl | rfl | rfl | rfl | rfl | rfl
  · rw [Nat.add_zero, e0]; rfl
  · rw [e1]; rfl
  · rw [e2]; rfl
  · rw [e3]; rfl
  · rw [e4]; rfl
  · rw [e5]; rfl
theorem holds_coins {w : World} {g : Nat} {cur : Array Value} {t : TypeId} {l : List Co} (hb : w.heap[g]? = some (.cells cur t (0, 0))) (ht : cur.toList.take (l.length * 6) = Co.cs l) : Go.Sort.HoldsK Co.el 6 w g 0 l.toArray := by
  unfold Go.Sort.HoldsK
  rw [Co.flat_cs]
  intro j hj
  have hj' : j < l.length * 6 := by simpa [Co.cs_length] using hj
  refine ⟨?_, by simp [World.frozen?, hb]⟩
  have h1 : (cur.toList.take (l.length * 6))[j]? = (Co.cs l)[j]? := by rw [ht]
  rw [List.getElem?_take_of_lt hj'] at h1
  have hj2 : j < (Co.cs l).length := by rw [Co.cs_length]; exact hj'
  simp only [World.cell?, hb, Nat.zero_add]
  simp only [Option.isSome_none, Bool.false_eq_true, if_false]
  rw [← Array.getElem?_toList, h1, List.getElem?_eq_getElem hj2, getElem!_pos _ j (by simpa using hj2)]
  simp
theorem heap_sortC {w : World} {g n : Nat} {os : Array Obj} {cur : Array Value} {e : TypeId} {fr : Nat × Nat} (d : Array Value) (hb : w.heap[g]? = some (.cells cur e fr)) :
    (Go.Sort.grow (Go.Sort.putRow id (Go.Sort.ahead w n) g 0 d) os).heap[g]? = some (.cells (Go.Sort.putCells id 0 d cur) e fr) := by
  have hg : g < w.heap.size := lt_of_block hb
  rw [Go.Sort.heap_grow_old _ _ (by simpa using hg)]
  simp [Go.Sort.putRow, Go.Sort.mapBlock, Go.Sort.ahead, Array.getElem?_modify, hb, Go.Sort.onCells]
theorem below_sortC {w : World} {g n base : Nat} {os : Array Obj} (d : Array Value) (hbase : base ≤ g) : ∀ k, k < base → k < w.heap.size → (Go.Sort.grow (Go.Sort.putRow id (Go.Sort.ahead w n) g 0 d) os).heap[k]? = w.heap[k]? := fun k hk hkw => by
  rw [Go.Sort.heap_grow_old _ _ (by simpa using hkw)]
  have : g ≠ k := by omega
  simp [Go.Sort.putRow, Go.Sort.mapBlock, Go.Sort.ahead, Array.getElem?_modify, this]
theorem take_putC (cur : Array Value) (ts : List Value) (h : ts.length ≤ cur.size) : (Go.Sort.putCells id 0 ts.toArray cur).toList.take ts.length = ts := by
  apply List.ext_getElem?
  intro j
  by_cases hj : j < ts.length
  · rw [List.getElem?_take_of_lt hj, Array.getElem?_toList]
    simp [Go.Sort.putCells, hj, show j < cur.size by omega]
  · rw [List.getElem?_take_eq_none (by omega), List.getElem?_eq_none (by omega)]
set_option maxRecDepth 100000 in
set_option maxHeartbeats 800000 in
/-- slices.SortFunc at coins that a call owns. -/
theorem sortCoins_any (base : Nat) (v : Value) (xs l : List Co) (w : World) (h : OwnC base w v xs) (hg : Co.Good l) (hp : xs.Perm l) (hbw : base ≤ w.heap.size) :
    Calls Try.prog 89 #[v, .func (.func 38) #[] #[]] w fun e w' => e = .returned (.tuple #[]) ∧ Hid (OwnC base w' v l) ∧ Below base w w' := by
  have hll := hp.length_eq
  have hl80 := hg.len
  rcases h.row.2 with ⟨rfl, h0⟩ | ⟨g, cap, cur, rfl, hbase, hgb, h1, h2, h3, h4⟩
  · have hx : xs = [] := List.eq_nil_of_length_eq_zero h0
    subst hx
    have hl : l = [] := List.nil_perm.1 hp
    subst hl
    exact (sortNone_any _ w).mono fun e w' hq => by
      obtain ⟨rfl, rfl⟩ := hq
      exact ⟨rfl, Lib.hid h, Below.refl _ _⟩
  · have hgl := lt_of_block hgb
    have hH := holds_coins hgb h4
    have eg : ∀ args w, (callFunc 38 args).run Try.prog w = .ok (.enter 38 args) w := enters_of Try.func38 (by kernel_rfl) rfl
    have hcon := AnyQ.slices_SortFunc Try.laysSortCoin 6 Try.isAgg30 Try.sizeOf30 Co.el (fun _ => rfl) Co.el_one Co.cmp Co.swo 38 #[] g 0 cap xs.toArray w eg
      (fun m os dk _ x y => compare_any x.tx x.out x.amt x.lock x.ht x.rew y.tx y.out y.amt y.lock y.ht y.rew _) hH hgl (by simp; omega)
    change Calls Try.prog 89 _ _ _ at hcon
    have hs : xs.toArray.size = xs.length := by simp
    rw [hs] at hcon
    refine hcon.mono fun e w' hq => ?_
    obtain ⟨he, d', n, os, hp', hs', hw⟩ := hq
    obtain ⟨hd, hd2⟩ := Co.sorted_of hg (d := xs.toArray) (by simpa using hp) (by rw [hs]; exact hp') (by rw [hs]; exact hs')
    have hdl : d' = l.toArray := by rw [← hd]
    subst hdl
    have hw2 : w' = Go.Sort.grow (Go.Sort.putRow id (Go.Sort.ahead w n) g 0 (Co.cs l).toArray) os := by
      rw [hw, ← Co.flat_cs]
      rfl
    subst hw2
    have hcl : (Co.cs l).length = xs.length * 6 := by rw [Co.cs_length, hll]
    refine ⟨he, Lib.hid ?_, ⟨rfl, rfl, rfl, by simp, fun k hk => below_sortC _ hbase k hk (by omega)⟩⟩
    unfold OwnC
    rw [← hll]
    refine ⟨hcl, .inr ⟨g, cap, _, rfl, hbase, heap_sortC _ hgb, h1, h2, by simp [Go.Sort.putCells, h3], ?_⟩⟩
    rw [← hcl]
    exact take_putC cur _ (by rw [hcl, h3]; exact Nat.mul_le_mul_right 6 h1)
end Go.Proofs.Ytohameoomlehlab
