/-
  Contracts of the model: the reader of coins, CoinsRead.
-/
import Derived.Test.YtohameoomlehlaaGreatCf
import Derived.Test.YtohameoomlehlaaGreatTj0
namespace Go.Proofs.YtohameoomlehlaaGreat
open Go.RowKit Go.Deep

def Co.le1 (s : ByteArray) : Option (Int × ByteArray) := if s.size < 1 then none else some (En.lev s 0 1, En.rest s 1)
theorem Co.le1_bd {s r : ByteArray} {k : Int} (h : Co.le1 s = some (k, r)) : 0 ≤ k ∧ k ≤ 255 := by
  unfold Co.le1 at h
  split at h
  · cases h
  · cases h
    have := En.lev_bd s 1 0
    omega
theorem Co.rdF_none {s : ByteArray} (h : Co.le1 s = none) : Co.rdF s = none := by
  unfold Co.le1 at h
  unfold Co.rdF
  split at h
  · rename_i h1; rw [if_pos h1]
  · cases h
theorem Co.rdF_big {s r : ByteArray} {k : Int} (h : Co.le1 s = some (k, r)) (hk : 1 < k) : Co.rdF s = none := by
  unfold Co.le1 at h
  unfold Co.rdF
  split at h
  · cases h
  · rename_i h1; cases h; rw [if_neg h1, if_pos hk]
theorem Co.rdF_ok {s r : ByteArray} {k : Int} (h : Co.le1 s = some (k, r)) (hk : ¬ 1 < k) : Co.rdF s = some (decide (k = 1), r) := by
  unfold Co.le1 at h
  unfold Co.rdF
  split at h
  · cases h
  · rename_i h1; cases h; rw [if_neg h1, if_neg hk]
/-- Reading a coin, step by step: a bad step makes it none. -/
theorem Co.rd_gen {s r1 r2 r3 r4 r5 r6 : ByteArray} {b1 b2 b3 b4 b5 b6 : Bool} {tx out amt ht : Int} {lock : ByteArray} {rew : Bool}
    (h1 : (b1 = true → Tr.dig s = none) ∧ (b1 = false → Tr.dig s = some (tx, r1)))
    (h2 : (b2 = true → b1 = true ∨ En.dec r1 = none) ∧ (b2 = false → b1 = false ∧ En.dec r1 = some (out, r2)))
    (h3 : (b3 = true → b2 = true ∨ En.dec r2 = none) ∧ (b3 = false → b2 = false ∧ En.dec r2 = some (amt, r3)))
    (h4 : (b4 = true → b3 = true ∨ En.decT r3 = none) ∧ (b4 = false → b3 = false ∧ En.decT r3 = some (lock, r4)))
    (h5 : (b5 = true → b4 = true ∨ En.dec r4 = none) ∧ (b5 = false → b4 = false ∧ En.dec r4 = some (ht, r5)))
    (h6 : (b6 = true → b5 = true ∨ Co.rdF r5 = none) ∧ (b6 = false → b5 = false ∧ Co.rdF r5 = some (rew, r6))) :
    (b6 = true → Co.rd s = none) ∧ (b6 = false → Co.rd s = some (⟨tx, out, amt, lock, ht, rew⟩, r6)) := by
  unfold Co.rd
  cases b1 with
  | true =>
    have e1 : Tr.dig s = none := h1.1 rfl
    have k2 : b2 = true := by cases b2 with | true => rfl | false => have := (h2.2 rfl).1; cases this
    have k3 : b3 = true := by cases b3 with | true => rfl | false => have := (h3.2 rfl).1; rw [k2] at this; cases this
    have k4 : b4 = true := by cases b4 with | true => rfl | false => have := (h4.2 rfl).1; rw [k3] at this; cases this
    have k5 : b5 = true := by cases b5 with | true => rfl | false => have := (h5.2 rfl).1; rw [k4] at this; cases this
    have k6 : b6 = true := by cases b6 with | true => rfl | false => have := (h6.2 rfl).1; rw [k5] at this; cases this
    rw [e1, k6]
    exact ⟨fun _ => rfl, fun h => by cases h⟩
  | false =>
  have e1 := h1.2 rfl
  rw [e1]
  simp only
  cases b2 with
  | true =>
    have e2 : En.dec r1 = none := (h2.1 rfl).resolve_left (by decide)
    have k3 : b3 = true := by cases b3 with | true => rfl | false => have := (h3.2 rfl).1; cases this
    have k4 : b4 = true := by cases b4 with | true => rfl | false => have := (h4.2 rfl).1; rw [k3] at this; cases this
    have k5 : b5 = true := by cases b5 with | true => rfl | false => have := (h5.2 rfl).1; rw [k4] at this; cases this
    have k6 : b6 = true := by cases b6 with | true => rfl | false => have := (h6.2 rfl).1; rw [k5] at this; cases this
    rw [e2, k6]
    exact ⟨fun _ => rfl, fun h => by cases h⟩
  | false =>
  have e2 := (h2.2 rfl).2
  rw [e2]
  simp only
  cases b3 with
  | true =>
    have e3 : En.dec r2 = none := (h3.1 rfl).resolve_left (by decide)
    have k4 : b4 = true := by cases b4 with | true => rfl | false => have := (h4.2 rfl).1; cases this
    have k5 : b5 = true := by cases b5 with | true => rfl | false => have := (h5.2 rfl).1; rw [k4] at this; cases this
    have k6 : b6 = true := by cases b6 with | true => rfl | false => have := (h6.2 rfl).1; rw [k5] at this; cases this
    rw [e3, k6]
    exact ⟨fun _ => rfl, fun h => by cases h⟩
  | false =>
  have e3 := (h3.2 rfl).2
  rw [e3]
  simp only
  cases b4 with
  | true =>
    have e4 : En.decT r3 = none := (h4.1 rfl).resolve_left (by decide)
    have k5 : b5 = true := by cases b5 with | true => rfl | false => have := (h5.2 rfl).1; cases this
    have k6 : b6 = true := by cases b6 with | true => rfl | false => have := (h6.2 rfl).1; rw [k5] at this; cases this
    rw [e4, k6]
    exact ⟨fun _ => rfl, fun h => by cases h⟩
  | false =>
  have e4 := (h4.2 rfl).2
  rw [e4]
  simp only
  cases b5 with
  | true =>
    have e5 : En.dec r4 = none := (h5.1 rfl).resolve_left (by decide)
    have k6 : b6 = true := by cases b6 with | true => rfl | false => have := (h6.2 rfl).1; cases this
    rw [e5, k6]
    exact ⟨fun _ => rfl, fun h => by cases h⟩
  | false =>
  have e5 := (h5.2 rfl).2
  rw [e5]
  simp only
  cases b6 with
  | true =>
    have e6 : Co.rdF r5 = none := (h6.1 rfl).resolve_left (by decide)
    rw [e6]
    exact ⟨fun _ => rfl, fun h => by cases h⟩
  | false =>
    have e6 := (h6.2 rfl).2
    rw [e6]
    exact ⟨(fun h => by cases h), fun _ => rfl⟩
theorem le13 (B : Nat) (s : ByteArray) (b : Bool) (w : World) (hb : w.heap[B]? = some (.cells #[.string s, .bool b] 45 (0, 0))) :
    Calls Tryz.prog 33 #[.pointer (some ⟨B, 0, none⟩), .int .i64 1] w fun e w' => ∃ v, e = .returned (.int .i64 v) ∧ Gen13 B b (Co.le1 s) v w w' := by
  cases b with
  | true =>
    refine (le13_bad B s 1 w hb).mono ?_
    rintro e w' ⟨he, hT⟩
    exact ⟨0, he, s, true, hT, Lib.hid ⟨fun _ => .inl rfl, fun h => by cases h⟩⟩
  | false =>
    by_cases h1 : s.size < 1
    · refine (le_short B s 1 w (by omega) hb).mono ?_
      rintro e w' ⟨he, hT⟩
      exact ⟨0, he, s, true, hT, Lib.hid ⟨fun _ => .inr (by unfold Co.le1; rw [if_pos h1]), fun h => by cases h⟩⟩
    · refine (le_ok B s 1 w (by omega) (by omega) (by omega) hb).mono ?_
      rintro e w' ⟨he, hT⟩
      exact ⟨_, he, _, false, hT, Lib.hid ⟨(fun h => by cases h), fun _ => ⟨rfl, by unfold Co.le1; rw [if_neg h1]; rfl⟩⟩⟩
/-- While a coin is read: the reader, the result's block, the coin's block. -/
structure CS (B T : Nat) (w : World) (r : ByteArray) (b : Bool) (u0 u1 u2 u3 u4 u5 : Value) (W : World) : Prop where
  bl : B < w.heap.size
  tr : w.heap.size < T
  rd : W.heap[B]? = some (.cells #[.string r, .bool b] 45 (0, 0))
  rb : Bk w.heap.size 48 #[.int .i64 0, .int .i64 0, .int .i64 0, .string ⟨#[]⟩, .int .i64 0, .bool false] W
  tb : Bk T 48 #[u0, u1, u2, u3, u4, u5] W
  gr : w.grownBy W (some B)
section
variable {B T : Nat} {w W : World} {r : ByteArray} {b : Bool} {u0 u1 u2 u3 u4 u5 : Value} (h : CS B T w r b u0 u1 u2 u3 u4 u5 W)
include h
theorem CS.read {W' : World} {r' : ByteArray} {b' : Bool} (hr : Rs B W W' r' b') : CS B T w r' b' u0 u1 u2 u3 u4 u5 W' :=
  ⟨h.bl, h.tr, hr.held, ⟨(hr.kept.block _ h.rb.lt (by have := h.bl; simp; omega)).trans h.rb.held⟩, ⟨(hr.kept.block _ h.tb.lt (by have := h.bl; have := h.tr; simp; omega)).trans h.tb.held⟩, grownBy_trans' h.gr hr.kept⟩
theorem CS.put {v0 v1 v2 v3 v4 v5 : Value} (i : Nat) (v : Value) (hb : Bk T 48 #[v0, v1, v2, v3, v4, v5] (W.setCell ⟨T, i, none⟩ v)) : CS B T w r b v0 v1 v2 v3 v4 v5 (W.setCell ⟨T, i, none⟩ v) :=
  ⟨h.bl, h.tr, (Below.heap_setCell _ _ _ _ (fun e => by have := h.bl; have := h.tr; simp at e; omega)).trans h.rd, ⟨(Below.heap_setCell _ _ _ _ (fun e => by have := h.tr; simp at e; omega)).trans h.rb.held⟩, hb,
   ⟨h.gr.os, h.gr.tape, h.gr.output, by have := h.gr.size; simp [World.setCell]; exact this, fun k hk hr => (Below.heap_setCell _ _ _ _ (fun e => by have := h.tr; simp at e; omega)).trans (h.gr.block k hk hr)⟩⟩
theorem CS.put1 (v : Value) : CS B T w r b u0 v u2 u3 u4 u5 (W.setCell ⟨T, 1, none⟩ v) := h.put 1 v (h.tb.set 1 v)
theorem CS.put2 (v : Value) : CS B T w r b u0 u1 v u3 u4 u5 (W.setCell ⟨T, 2, none⟩ v) := h.put 2 v (h.tb.set 2 v)
theorem CS.put3 (v : Value) : CS B T w r b u0 u1 u2 v u4 u5 (W.setCell ⟨T, 3, none⟩ v) := h.put 3 v (h.tb.set 3 v)
theorem CS.put4 (v : Value) : CS B T w r b u0 u1 u2 u3 v u5 (W.setCell ⟨T, 4, none⟩ v) := h.put 4 v (h.tb.set 4 v)
theorem CS.put5 (v : Value) : CS B T w r b u0 u1 u2 u3 u4 v (W.setCell ⟨T, 5, none⟩ v) := h.put 5 v (h.tb.set 5 v)
theorem CS.bad (d : Bool) : CS B T w r d u0 u1 u2 u3 u4 u5 (W.setCell ⟨B, 1, none⟩ (.bool d)) := h.read (Rs.setB h.rd d)
theorem CS.cells : (W.cell? ⟨T, 0, none⟩ = some u0 ∧ W.cell? ⟨T, 1, none⟩ = some u1 ∧ W.cell? ⟨T, 2, none⟩ = some u2 ∧ W.cell? ⟨T, 3, none⟩ = some u3 ∧ W.cell? ⟨T, 4, none⟩ = some u4 ∧ W.cell? ⟨T, 5, none⟩ = some u5) ∧ W.frozen? ⟨T, 0, none⟩ = false ∧ W.frozen? ⟨T, 1, none⟩ = false ∧ W.frozen? ⟨T, 2, none⟩ = false ∧ W.frozen? ⟨T, 3, none⟩ = false ∧ W.frozen? ⟨T, 4, none⟩ = false ∧ W.frozen? ⟨T, 5, none⟩ = false := ⟨Bk.c6 h.tb, Bk.f6 h.tb⟩
theorem CS.rcells : (W.cell? ⟨w.heap.size, 0, none⟩ = some (.int .i64 0) ∧ W.cell? ⟨w.heap.size, 1, none⟩ = some (.int .i64 0) ∧ W.cell? ⟨w.heap.size, 2, none⟩ = some (.int .i64 0) ∧ W.cell? ⟨w.heap.size, 3, none⟩ = some (.string ⟨#[]⟩) ∧ W.cell? ⟨w.heap.size, 4, none⟩ = some (.int .i64 0) ∧ W.cell? ⟨w.heap.size, 5, none⟩ = some (.bool false)) ∧ W.frozen? ⟨w.heap.size, 0, none⟩ = false ∧ W.frozen? ⟨w.heap.size, 1, none⟩ = false ∧ W.frozen? ⟨w.heap.size, 2, none⟩ = false ∧ W.frozen? ⟨w.heap.size, 3, none⟩ = false ∧ W.frozen? ⟨w.heap.size, 4, none⟩ = false ∧ W.frozen? ⟨w.heap.size, 5, none⟩ = false := ⟨Bk.c6 h.rb, Bk.f6 h.rb⟩
end
theorem heap_set6 {W : World} {B T : Nat} (h : T ≠ B) (v0 v1 v2 v3 v4 v5 : Value) : ((((((W.setCell ⟨T, 0, none⟩ v0).setCell ⟨T, 1, none⟩ v1).setCell ⟨T, 2, none⟩ v2).setCell ⟨T, 3, none⟩ v3).setCell ⟨T, 4, none⟩ v4).setCell ⟨T, 5, none⟩ v5).heap[B]? = W.heap[B]? := by
  have k : ∀ (W : World) i v, (W.setCell ⟨T, i, none⟩ v).heap[B]? = W.heap[B]? := fun W i v => Below.heap_setCell _ _ _ _ (fun e => h (by simpa using e.symm))
  rw [k, k, k, k, k, k]
theorem grown_set6 {w W : World} {row : Option Nat} (hg : w.grownBy W row) {T : Nat} (hT : w.heap.size ≤ T) (v0 v1 v2 v3 v4 v5 : Value) : w.grownBy ((((((W.setCell ⟨T, 0, none⟩ v0).setCell ⟨T, 1, none⟩ v1).setCell ⟨T, 2, none⟩ v2).setCell ⟨T, 3, none⟩ v3).setCell ⟨T, 4, none⟩ v4).setCell ⟨T, 5, none⟩ v5) row := by
  have k : ∀ (W : World) i v, w.grownBy W row → w.grownBy (W.setCell ⟨T, i, none⟩ v) row := fun W i v h => ⟨h.os, h.tape, h.output, by have := h.size; simp [World.setCell]; exact this, fun j hj hr => (Below.heap_setCell _ _ _ _ (fun e => by simp at e; omega)).trans (h.block j hj hr)⟩
  exact k _ _ _ (k _ _ _ (k _ _ _ (k _ _ _ (k _ _ _ (k _ _ _ hg)))))
/-- What the reader of coins answers. -/
def CoinQ (B : Nat) (s : ByteArray) (w : World) (e : Ending) (w' : World) : Prop :=
  ∃ (c : Co) (r : ByteArray) (b : Bool), e = .returned (.agg #[.int .i64 c.tx, .int .i64 c.out, .int .i64 c.amt, .string c.lock, .int .i64 c.ht, .bool c.rew]) ∧ Rs B w w' r b ∧ Hid ((b = true → Co.rd s = none) ∧ (b = false → Co.rd s = some (c, r)))

set_option maxRecDepth 100000 in
set_option maxHeartbeats 3200000 in
theorem coin_any (B : Nat) (s : ByteArray) (w : World) (hb : w.heap[B]? = some (.cells #[.string s, .bool false] 45 (0, 0))) :
    Calls Tryz.prog 16 #[.pointer (some ⟨B, 0, none⟩)] w (CoinQ B s w) := by
  have hBl := lt_of_block hb
  have hb0 : (w.alloc (.cells #[.int .i64 0, .int .i64 0, .int .i64 0, .string ⟨#[]⟩, .int .i64 0, .bool false] 48 (0, 0))).heap[B]? = some (.cells #[.string s, .bool false] 45 (0, 0)) := (Below.heap_alloc _ _ _ hBl).trans hb
  have v0 : Bk w.heap.size 48 #[.int .i64 0, .int .i64 0, .int .i64 0, .string ⟨#[]⟩, .int .i64 0, .bool false] (w.alloc (.cells #[.int .i64 0, .int .i64 0, .int .i64 0, .string ⟨#[]⟩, .int .i64 0, .bool false] 48 (0, 0))) := Bk.new _ _ _
  clear hb
  go_enter Tryz.func16, Tryz.ntmps16
  go_wp2_with fail
  refine (digest13 B s false _ hb0).mono ?_
  rintro e w1 ⟨tx, rfl, r1, b1, hr1, H1'⟩
  have H1 : Hid ((b1 = true → Tr.dig s = none) ∧ (b1 = false → Tr.dig s = some (tx, r1))) := Lib.hid ⟨fun h => (H1'.out.1 h).resolve_left (by decide), fun h => (H1'.out.2 h).2⟩
  clear H1'
  have h2 : CS B w1.heap.size w r1 b1 (.int .i64 tx) (.int .i64 0) (.int .i64 0) (.string ⟨#[]⟩) (.int .i64 0) (.bool false) (w1.alloc (.cells #[.int .i64 tx, .int .i64 0, .int .i64 0, .string ⟨#[]⟩, .int .i64 0, .bool false] 48 (0, 0))) := by
    have hsz : w.heap.size < w1.heap.size := by have := hr1.kept.size; simp at this; omega
    refine ⟨hBl, hsz, (Below.heap_alloc _ _ _ (lt_of_block hr1.held)).trans hr1.held, Bk.alloc ⟨(hr1.kept.block _ v0.lt (by simp; omega)).trans v0.held⟩ _, Bk.new _ _ _, ?_⟩
    exact grownBy_trans' (grownBy_trans' (World.grownBy_alloc w _ (some B)) hr1.kept) (World.grownBy_alloc _ _ _)
  clear hb0 v0 hr1

  go_wp2_with fail
  refine (num13 B r1 b1 _ h2.rd).mono ?_
  rintro e w2 ⟨out, rfl, r2, b2, hr2, H2⟩
  have g2 := h2.read hr2
  clear  h2 hr2
  obtain ⟨⟨c0, c1, c2, c3, c4, c5⟩, f0, f1, f2, f3, f4, f5⟩ := g2.cells
  have h3 := g2.put1 (.int .i64 out)
  clear g2
  go_wp2_with fail
  refine (num13 B r2 b2 _ h3.rd).mono ?_
  rintro e w3 ⟨amt, rfl, r3, b3, hr3, H3⟩
  have g3 := h3.read hr3
  clear c0 c1 c2 c3 c4 c5 f0 f1 f2 f3 f4 f5 h3 hr3
  obtain ⟨⟨c0, c1, c2, c3, c4, c5⟩, f0, f1, f2, f3, f4, f5⟩ := g3.cells
  have h4 := g3.put2 (.int .i64 amt)
  clear g3
  go_wp2_with fail
  refine (text13 B r3 b3 _ h4.rd).mono ?_
  rintro e w4 ⟨lock, rfl, r4, b4, hr4, H4⟩
  have g4 := h4.read hr4
  clear c0 c1 c2 c3 c4 c5 f0 f1 f2 f3 f4 f5 h4 hr4
  obtain ⟨⟨c0, c1, c2, c3, c4, c5⟩, f0, f1, f2, f3, f4, f5⟩ := g4.cells
  have h5 := g4.put3 (.string lock)
  clear g4
  go_wp2_with fail
  refine (num13 B r4 b4 _ h5.rd).mono ?_
  rintro e w5 ⟨ht, rfl, r5, b5, hr5, H5⟩
  have g5 := h5.read hr5
  clear c0 c1 c2 c3 c4 c5 f0 f1 f2 f3 f4 f5 h5 hr5
  obtain ⟨⟨c0, c1, c2, c3, c4, c5⟩, f0, f1, f2, f3, f4, f5⟩ := g5.cells
  have h6 := g5.put4 (.int .i64 ht)
  clear g5

  go_wp2_with fail
  refine (le13 B r5 b5 _ h6.rd).mono ?_
  rintro e w6 ⟨k, rfl, r6, b6, hr6, H6⟩
  have g6 := h6.read hr6
  clear c0 c1 c2 c3 c4 c5 f0 f1 f2 f3 f4 f5 h6 hr6
  obtain ⟨D, hD⟩ : ∃ x, (b6 || decide (1 < k)) = x := ⟨_, rfl⟩
  obtain ⟨RW, hRW⟩ : ∃ x, decide (k = 1) = x := ⟨_, rfl⟩
  have HF : Hid ((D = true → b5 = true ∨ Co.rdF r5 = none) ∧ (D = false → b5 = false ∧ Co.rdF r5 = some (RW, r6))) := Lib.hid (by
    have hh := H6.out
    cases b6 with
    | true =>
      rw [Bool.true_or] at hD
      subst hD
      exact ⟨fun _ => (hh.1 rfl).imp id Co.rdF_none, fun h => by cases h⟩
    | false =>
      obtain ⟨q1, q2⟩ := hh.2 rfl
      rw [Bool.false_or] at hD
      by_cases hk : 1 < k
      · rw [decide_eq_true hk] at hD
        subst hD
        exact ⟨fun _ => .inr (Co.rdF_big q2 hk), fun h => by cases h⟩
      · rw [decide_eq_false hk] at hD
        subst hD
        exact ⟨(fun h => by cases h), fun _ => ⟨q1, by rw [Co.rdF_ok q2 hk, hRW]⟩⟩)
  have HALL := Lib.hid (Co.rd_gen H1.out H2.out H3.out H4.out H5.out HF.out)
  have hq1 : (k == 1) = RW := by rw [← hRW]; by_cases h : k = 1 <;> simp [h]
  clear H1 H2 H3 H4 H5 H6 HF hRW
  have k0 := rs_bad g6.rd
  have k1 := rs_f1 g6.rd
  obtain ⟨⟨c0, c1, c2, c3, c4, c5⟩, f0, f1, f2, f3, f4, f5⟩ := g6.cells
  have h7 := g6.bad D
  have h8 := h7.put5 (.bool RW)
  obtain ⟨⟨d0, d1, d2, d3, d4, d5⟩, e0, e1, e2, e3, e4, e5⟩ := h7.cells
  obtain ⟨⟨x0, x1, x2, x3, x4, x5⟩, _, _, _, _, _, _⟩ := h8.cells
  obtain ⟨⟨y0, y1, y2, y3, y4, y5⟩, z0, z1, z2, z3, z4, z5⟩ := h8.rcells
  have hR := Bk.store6 h8.rb (.int .i64 tx) (.int .i64 out) (.int .i64 amt) (.string lock) (.int .i64 ht) (.bool RW)
  have hG := grown_set6 h8.gr (Nat.le_refl w.heap.size) (.int .i64 tx) (.int .i64 out) (.int .i64 amt) (.string lock) (.int .i64 ht) (.bool RW)
  have hRS : Rs B w _ r6 D := ⟨(heap_set6 (Nat.ne_of_gt hBl) (.int .i64 tx) (.int .i64 out) (.int .i64 amt) (.string lock) (.int .i64 ht) (.bool RW)).trans h8.rd, hG⟩
  clear h7 h8 g6 hBl hG
  cases b6
  · rw [Bool.false_or] at hD
    by_cases hk : 1 < k
    · rw [decide_eq_true hk] at hD
      subst hD
      go_wp2
      refine bodyPost_ret (results_cell_row (P := Tryz.prog) rfl _ _ w.heap.size 48 _ (0, 0) _ rfl hR.held Tryz.underlying48 rfl (by kernel_rfl)) rfl ?_
      exact ⟨⟨tx, out, amt, lock, ht, RW⟩, r6, true, rfl, hRS, Lib.hid ⟨fun _ => HALL.out.1 (by first | trivial | rfl), fun h => by cases h⟩⟩
    · rw [decide_eq_false hk] at hD
      subst hD
      have hd := decide_eq_false hk
      go_wp2
      refine bodyPost_ret (results_cell_row (P := Tryz.prog) rfl _ _ w.heap.size 48 _ (0, 0) _ rfl hR.held Tryz.underlying48 rfl (by kernel_rfl)) rfl ?_
      exact ⟨⟨tx, out, amt, lock, ht, RW⟩, r6, false, rfl, hRS, Lib.hid ⟨(fun h => by cases h), fun _ => HALL.out.2 (by first | trivial | rfl)⟩⟩
  · rw [Bool.true_or] at hD
    subst hD
    go_wp2
    refine bodyPost_ret (results_cell_row (P := Tryz.prog) rfl _ _ w.heap.size 48 _ (0, 0) _ rfl hR.held Tryz.underlying48 rfl (by kernel_rfl)) rfl ?_
    exact ⟨⟨tx, out, amt, lock, ht, RW⟩, r6, true, rfl, hRS, Lib.hid ⟨fun _ => HALL.out.1 (by first | trivial | rfl), fun h => by cases h⟩⟩
end Go.Proofs.YtohameoomlehlaaGreat
