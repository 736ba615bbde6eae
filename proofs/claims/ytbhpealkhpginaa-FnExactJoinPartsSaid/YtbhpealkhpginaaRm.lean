/-
  Contracts of chapter 8: the coefficients one after another; of the program.
-/
import Derived.RangeFuncNested
import Derived.RangeFuncBound
import Derived.RangeFuncCalls
import Derived.RangeFuncLeaves
import Derived.RangeFuncFrom
import Derived.RangeFuncBox
import Derived.Shelf.Abstract
import Derived.Shelf.RegionOpen
import Derived.WalkKit
import Derived.OwnWalkIn
import Derived.TacticsInMore
import Derived.LoopNIn
import Derived.LoopIn
import Derived.Test.YtbhpealkhpginaaSh
import Derived.Test.YtbhpealkhpginaaIl
import Derived.Test.YtbhpealkhpginaaQt
import Derived.Test.YtbhpealkhpginaaPr
namespace Go.Proofs.Ytbhpealkhpginaa
open Go.RowKit Go.Shelf
attribute [local go_sem] Oper.semAt_some

/-- What has come when k rounds are over. -/
def Sq.upto {α : Type} (f : Nat → α) (k : Nat) : List α := (List.range k).map f
theorem Sq.upto_succ {α : Type} (f : Nat → α) (k : Nat) : Sq.upto f (k + 1) = Sq.upto f k ++ [f k] := by simp [Sq.upto, List.range_succ]
theorem Sq.upto_length {α : Type} (f : Nat → α) (k : Nat) : (Sq.upto f k).length = k := by simp [Sq.upto]
theorem Sq.upto_get {α : Type} (f : Nat → α) (k j : Nat) (h : j < k) : (Sq.upto f k)[j]? = some (f j) := by simp [Sq.upto, h]
theorem makeFunc_run9 : ∀ (fn : Fn) (first cap : Array Value) (w : World), (Instr.makeFunc fn first cap).run Try.prog w = .ok (.func fn first cap) w := fun _ _ _ _ => rfl
/-- The boxes of a polynomial's coefficients: s, then those of cs. -/
structure PV (w : World) (Bs Bc : Nat) (s : Int) (a : Option Addr) (len cap : Nat) (cs : List Int) : Prop where
  lts : Bs < w.heap.size
  ltc : Bc < w.heap.size
  cs0 : w.cell? ⟨Bs, 0, none⟩ = some (.int .i64 s)
  cc0 : w.cell? ⟨Bc, 0, none⟩ = some (.slice a len cap)
  ir : IR w a len cs
theorem PV.below {w w' : World} {Bs Bc : Nat} {s : Int} {a : Option Addr} {len cap : Nat} {cs : List Int} (h : PV w Bs Bc s a len cap cs) (hb : Below w.heap.size w w') : PV w' Bs Bc s a len cap cs :=
  ⟨Nat.lt_of_lt_of_le h.lts hb.size, Nat.lt_of_lt_of_le h.ltc hb.size, (hb.cell (p := ⟨Bs, 0, none⟩) h.lts).trans h.cs0, (hb.cell (p := ⟨Bc, 0, none⟩) h.ltc).trans h.cc0, h.ir.below hb⟩
set_option maxRecDepth 100000 in
set_option maxHeartbeats 2000000 in
theorem coefs1_in {α : Type} (val : α → Int) (f : Nat → α) (F : Fence) (n : Nat) (hf : F.fn 54) (hro : F.round = none) (hn : 1 ≤ n) (l Bs Bc n₀ : Nat) (a : Option Addr) (len cap : Nat) (hm : len ≤ 9223372036854775807)
    (J Jx : List α → World → Prop)
    (hY : ∀ pre x W, J pre W → pre.length < len + 1 → YieldAt F (n - 1) Try.prog l #[.int .i64 (val x)] W fun e W' =>
      (e = .returned (.bool true) ∧ J (pre ++ [x]) W' ∧ Below n₀ W W') ∨ (e = .returned (.bool false) ∧ Jx (pre ++ [x]) W'))
    (W : World) (hlc : Bc < n₀) (hBs : W.cell? ⟨Bs, 0, none⟩ = some (.int .i64 (val (f 0)))) (hBc : W.cell? ⟨Bc, 0, none⟩ = some (.slice a len cap))
    (hc : 0 < len → ∃ b off, a = some ⟨b, off, none⟩ ∧ b < n₀ ∧ ∀ j, j < len → W.cell? ⟨b, off + j, none⟩ = some (.int .i64 (val (f (j + 1))))) (h0 : J [] W) :
    CallsIn F n Try.prog 54 #[.func (.yield l) #[] #[], .pointer (some ⟨Bs, 0, none⟩), .pointer (some ⟨Bc, 0, none⟩)] W fun e W' => (∃ v, e = .returned v) ∧
      ((∃ ys, ys = Sq.upto f (len + 1) ∧ J ys W') ∨ (∃ pre, (∃ k, k ≤ len + 1 ∧ pre = Sq.upto f k) ∧ Jx pre W')) := by
  refine callsIn_of_wp Try.func54 rfl hf ?_ hro
  simp only [Try.ntmps54, List.size_toArray, List.length_cons, List.length_nil, Nat.reduceAdd, Nat.reduceSub, Array.replicate_succ, Array.replicate_zero, List.push_toArray, List.append_toArray, List.nil_append, List.cons_append]
  obtain ⟨fn, tmps, assign, body, hy, hR⟩ := hY [] (f 0) W h0 (by simp)
  gi_wp2
  refine hR.mono ?_
  rintro e W3 (⟨rfl, hJ3, hk3⟩ | ⟨rfl, hJx3⟩)
  · have hBc3 := (hk3.cell (p := ⟨Bc, 0, none⟩) hlc).trans hBc
    clear hR hy
    gi_wp2
    gi_loopw [12] (fun i wr => ∃ k : Nat, k ≤ len ∧ i = .int .i64 (k : Int) ∧ J (Sq.upto f (k + 1)) wr ∧ Below n₀ W wr)
      (fun i _ => len - (intOf i).toNat)
    case atStart => exact ⟨0, Nat.zero_le _, rfl, hJ3, hk3⟩
    case round =>
      obtain ⟨k, hk, rfl, hJs, hnx⟩ := hrel
      by_cases hlt : k < len
      · obtain ⟨b, off, rfl, hb, hcc⟩ := hc (by omega)
        have hcx := (hnx.cell (p := ⟨b, off + k, none⟩) hb).trans (hcc k hlt)
        obtain ⟨fn, tmps, assign, body, hy, hR⟩ := hY _ (f (k + 1)) wr hJs (by rw [Sq.upto_length]; omega)
        clear hcc hc hBc hBs
        gi_wp2
        refine hR.mono ?_
        rintro e W4 (⟨rfl, hJ4, hk4⟩ | ⟨rfl, hJx4⟩)
        · gi_wp2
          go_roundw
          case rel => exact ⟨k + 1, by omega, by simp, by rw [Sq.upto_succ]; exact hJ4, hnx.trans hk4⟩
          case measure => simp [intOf]; omega
        · gi_wp2
          refine bodyPost_ret (results_none rfl _ _ _) rfl ?_
          exact ⟨⟨_, rfl⟩, .inr ⟨_, ⟨k + 1 + 1, by omega, (Sq.upto_succ _ _).symm⟩, hJx4⟩⟩
      · obtain rfl : k = len := by omega
        gi_wp2
        go_end0
        exact ⟨⟨_, rfl⟩, .inl ⟨_, rfl, hJs⟩⟩
  · gi_wp2
    refine bodyPost_ret (results_none rfl _ _ _) rfl ?_
    exact ⟨⟨_, rfl⟩, .inr ⟨_, ⟨1, by omega, rfl⟩, hJx3⟩⟩
/-- The coefficients come one after another. -/
theorem coefs_stops {α : Type} (val : α → Int) (f : Nat → α) (F : Fence) (n : Nat) (hf : F.fn 54) (hro : F.round = none) (hn : 1 ≤ n) (Bs Bc n₀ : Nat) (s : Int) (a : Option Addr) (len cap : Nat) (cs : List Int) (hm : len ≤ 9223372036854775807)
    (w : World) (h : PV w Bs Bc s a len cap cs) (hlc : Bc < n₀) (hlb : ∀ b off, a = some ⟨b, off, none⟩ → 0 < len → b < n₀) (hs : val (f 0) = s) (hv : ∀ j, j < len → val (f (j + 1)) = cs.getD j 0) :
    SeqStopsK F n Try.prog 54 #[.pointer (some ⟨Bs, 0, none⟩), .pointer (some ⟨Bc, 0, none⟩)] (fun x : α => #[Value.int .i64 (val x)]) (Below n₀) (fun ys => ys = Sq.upto f (len + 1)) (fun pre => ∃ k, k ≤ len + 1 ∧ pre = Sq.upto f k) (len + 1) w := fun l J Jx W hW _ _ hY h0 => by
  have h2 := h.below hW
  refine coefs1_in val f F n hf hro hn l Bs Bc n₀ a len cap hm J Jx hY W hlc (by rw [hs]; exact h2.cs0) h2.cc0 (fun hl => ?_) h0
  obtain ⟨b, off, rfl, hb, hcc⟩ := h2.ir.2 hl
  exact ⟨b, off, rfl, hlb b off rfl hl, fun j hj => by rw [hv j hj]; exact hcc j hj⟩
set_option maxRecDepth 100000 in
set_option maxHeartbeats 800000 in
theorem coefficients_any (s : Int) (a : Option Addr) (len cap : Nat) (cs : List Int) (w : World) (h : IR w a len cs) :
    Calls Try.prog 38 #[.int .i64 s, .slice a len cap] w fun e w' => ∃ Bs Bc, e = .returned (.func (.func 54) #[] #[.pointer (some ⟨Bs, 0, none⟩), .pointer (some ⟨Bc, 0, none⟩)]) ∧ PV w' Bs Bc s a len cap cs ∧ w.heap.size ≤ Bs ∧ w.heap.size ≤ Bc ∧ Below w.heap.size w w' := by
  have hmf := makeFunc_run9
  have HS : Bk w.heap.size 3 #[.int .i64 s] ((w.alloc (.cells #[.int .i64 s] 3 (0, 0))).alloc (.cells #[.slice a len cap] 23 (0, 0))) := (Bk.new _ _ _).alloc _
  have HC : Bk (w.heap.size + 1) 23 #[.slice a len cap] ((w.alloc (.cells #[.int .i64 s] 3 (0, 0))).alloc (.cells #[.slice a len cap] 23 (0, 0))) := Bk.new' _ _ _ _ (by simp)
  have hb := below_alloc (below_alloc (Below.refl w.heap.size w) (.cells #[.int .i64 s] 3 (0, 0))) (.cells #[.slice a len cap] 23 (0, 0))
  have HP : PV ((w.alloc (.cells #[.int .i64 s] 3 (0, 0))).alloc (.cells #[.slice a len cap] 23 (0, 0))) w.heap.size (w.heap.size + 1) s a len cap cs := ⟨HS.lt, HC.lt, HS.cell 0, HC.cell 0, h.below hb⟩
  clear HS HC h
  go_enter Try.func38, Try.ntmps38
  go_wp2
  go_ret
  exact ⟨_, _, rfl, HP, by omega, by omega, hb⟩
theorem Po.cg_upto (s : Int) (cs : List Int) : ∀ n, (∀ y ∈ Sq.upto (fun j => (s :: cs).getD j 0) n, Po.inY y = true) → Po.cg (s :: cs) n = true := by
  intro n
  induction n with
  | zero => intro _; rfl
  | succ n ih =>
    intro h
    rw [Sq.upto_succ] at h
    unfold Po.cg
    rw [ih (fun y hy => h y (List.mem_append.2 (.inl hy))), h _ (List.mem_append.2 (.inr (by simp)))]
    rfl
set_option maxRecDepth 100000 in
set_option maxHeartbeats 3200000 in
theorem areScalars_any (Bs Bc : Nat) (s : Int) (a : Option Addr) (len cap : Nat) (cs : List Int) (w : World) (h : PV w Bs Bc s a len cap cs) (hm : len ≤ 9223372036854775807) :
    Calls Try.prog 39 #[.func (.func 54) #[] #[.pointer (some ⟨Bs, 0, none⟩), .pointer (some ⟨Bc, 0, none⟩)]] w fun e w' => e = .returned (.bool (Po.cg (s :: cs) (len + 1))) ∧ Below w.heap.size w w' := by
  refine (callsIn_wide (n := 4)).1 ?_
  refine callsIn_of_wp_marks Try.func39 rfl trivial ?_ rfl
  simp only [Try.ntmps39, List.size_toArray, List.length_cons, List.length_nil, Nat.reduceAdd, Nat.reduceSub, Array.replicate_succ, Array.replicate_zero, List.push_toArray, List.append_toArray, List.nil_append, List.cons_append]
  gi_wp2
  have bR := Boxed.new w 4 (.bool false)
  have hB0 : Below w.heap.size w (w.alloc (.cells #[.bool false] 4)) := (Below.refl _ w).alloc (Nat.le_refl _) _
  refine wpIn_rangeFunc_ownF rfl (by omega) (gf := 54) (lb := #[.pointer (some ⟨Bs, 0, none⟩), .pointer (some ⟨Bc, 0, none⟩)]) rfl trivial (enters_of Try.func54 (by kernel_rfl) rfl)
    (coefs_stops (fun y : Int => y) (fun j => (s :: cs).getD j 0) Fence.wide _ trivial rfl (by omega) Bs Bc w.heap.size s a len cap cs hm _ (h.below hB0) h.ltc (fun b off he hl => by obtain ⟨b', off', he', hb', _⟩ := h.ir.2 hl; rw [he] at he'; cases he'; exact hb') rfl (fun j hj => rfl)) belowK_t (belowK_b (by simp)) (Below.refl _ _) (fun _ => rfl)
    (fun pre W => ((∀ y ∈ pre, Po.inY y = true) ∧ W.cell? ⟨w.heap.size, 0, none⟩ = some (.bool false) ∧ W.frozen? ⟨w.heap.size, 0, none⟩ = false) ∧ Below w.heap.size w W)
    (fun c pre W => (c = .ret ∧ (∃ y ∈ pre, Po.inY y = false) ∧ W.cell? ⟨w.heap.size, 0, none⟩ = some (.bool false)) ∧ Below w.heap.size w W)
    (OwnFrom.and (Own.from (fun s A B row hs hg hr => ⟨hs.1, cell_kept hs.2.1 hg hr, (frozen_kept hs.2.1 hg hr).trans hs.2.2⟩) _) (ownFrom_below (Nat.le_refl _) (by simp)))
    (fun c => OwnFrom.and (Own.from (fun s A B row hs hg hr => ⟨hs.1, hs.2.1, cell_kept hs.2.2 hg hr⟩) _) (ownFrom_below (Nat.le_refl _) (by simp)))
    ⟨⟨by simp, bR.cell, bR.frozen⟩, hB0⟩
    (fun x => { tmps := #[.func (.func 54) #[] #[.pointer (some ⟨Bs, 0, none⟩), .pointer (some ⟨Bc, 0, none⟩)], undef, .pointer (some ⟨w.heap.size, 0, none⟩), .int .i64 x, .func (.func 54) #[] #[.pointer (some ⟨Bs, 0, none⟩), .pointer (some ⟨Bc, 0, none⟩)], .int .i64 x, undef, undef, undef], defers := [] }) ?assign ?body ?done ?stop
  case assign =>
    intro l x W K hK
    gi_wp2
    exact hK
  case body =>
    rintro l pre x W ⟨⟨hp, hcr, hfr⟩, hB⟩ _
    have hcon := fun W => isScalar0_any x W
    rw [show Sg.win x = Po.inY x from rfl] at hcon
    cases hx : Po.inY x
    · rw [hx] at hcon
      have HX := Lib.hid hx
      clear hx
      gi_wp2_with (refine ⟨trivial, ?_⟩; gi_at_call 50; refine (CallsIn.inRound l (callsIn_wide.2 (hcon _))).mono ?_; rintro e w' ⟨rfl, rfl⟩)
      exact ⟨KeepsOthers.setCell _ _ _, ⟨rfl, ⟨x, List.mem_append.2 (.inr (by simp)), HX.out⟩, World.cell?_setCell_same' _ _ _ (by rw [hcr]; rfl)⟩, hB.setCell (p := ⟨w.heap.size, 0, none⟩) (Nat.le_refl _) _⟩
    · rw [hx] at hcon
      have HX := Lib.hid hx
      clear hx
      gi_wp2_with (refine ⟨trivial, ?_⟩; gi_at_call 50; refine (CallsIn.inRound l (callsIn_wide.2 (hcon _))).mono ?_; rintro e w' ⟨rfl, rfl⟩)
      exact ⟨KeepsOthers.refl _, Below.refl _ _, ⟨fun y hy => (List.mem_append.1 hy).elim (hp y) (fun e => by simp at e; subst e; exact HX.out), hcr, hfr⟩, hB⟩
  case done =>
    rintro D ys W hD rfl ⟨⟨hp, hcr, hfr⟩, hB⟩ hK
    have HC := Lib.hid (Po.cg_upto s cs (len + 1) hp)
    clear hp h bR hB0
    gi_wp2
    have hK' := (KeepsOthers.setCell W ⟨w.heap.size, 0, none⟩ (.bool true)).same D _ hK rfl
    refine ⟨by simp, .inl ⟨_, _, rfl, run_takeDeferred hK', ?_⟩⟩
    have hc5 := cell_kept (World.cell?_setCell_same' W ⟨w.heap.size, 0, none⟩ (.bool true) (by rw [hcr]; rfl)) (grownBy_putObj' _ D (.deferred none)) (fun r e => by cases e; exact ⟨_, hK', rfl⟩)
    refine ⟨.bool true, ?_, by rw [HC.out], (hB.setCell (p := ⟨w.heap.size, 0, none⟩) (Nat.le_refl _) _).trans (belowK_b (w := w) (Nat.le_refl _) _ D _ _ (by simp at hD; omega) hK' rfl rfl)⟩
    simp [results, Try.f39, go_sem, hc5]
  case stop =>
    rintro D c pre W hD ⟨k, hk, rfl⟩ ⟨⟨rfl, ⟨y, hy, hyf⟩, hcr⟩, hB⟩ hK
    have HC : Hid (Po.cg (s :: cs) (len + 1) = false) := Lib.hid (by
      simp only [Sq.upto, List.mem_map, List.mem_range] at hy
      obtain ⟨j, hj, rfl⟩ := hy
      exact Po.cg_no (s :: cs) j hyf (len + 1) (by omega))
    clear hy hyf h bR hB0
    gi_wp2
    refine ⟨by simp, .inl ⟨_, _, rfl, run_takeDeferred hK, ?_⟩⟩
    have hc5 := cell_kept hcr (grownBy_putObj' _ D (.deferred none)) (fun r e => by cases e; exact ⟨_, hK, rfl⟩)
    refine ⟨.bool false, ?_, by rw [HC.out], hB.trans (belowK_b (w := w) (Nat.le_refl _) W D _ _ (by simp at hD; omega) hK rfl rfl)⟩
    simp [results, Try.f39, go_sem, hc5]
end Go.Proofs.Ytbhpealkhpginaa
