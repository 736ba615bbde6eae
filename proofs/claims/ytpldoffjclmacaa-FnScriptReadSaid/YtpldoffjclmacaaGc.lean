/-
  Contracts of chapter 4: the group, of the program and of the model.
-/
import Derived.Test.YtpldoffjclmacaaGr
import Derived.Test.YtpldoffjclmacaaBa
import Derived.Test.YtpldoffjclmacaaEn
import Derived.LoopTactic
import Derived.Deep.QuietTactic
import Derived.BigQuiet
import Derived.WalkSmall
import Derived.Lib.Hide
import Derived.WalkMore
import Derived.Laws.ResultCell
import Derived.Laws.Rows
namespace Go.Proofs.Ytpldoffjclmacaa
open Go.RowKit

theorem Gr.mul_bd (a b : Int) (m : Int) (ha : 0 ≤ a) (ha2 : a < m) (hb : 0 ≤ b) (hb2 : b < m) (hm : m ≤ 2147483648) : 0 ≤ a * b ∧ a * b ≤ 4611686018427387904 := by
  refine ⟨Int.mul_nonneg ha hb, ?_⟩
  have h1 : a * b ≤ 2147483648 * b := Int.mul_le_mul_of_nonneg_right (by omega) hb
  omega

theorem heap_new3 (w : World) (A B C : Obj) : (((w.alloc A).alloc B).alloc C).heap[w.heap.size + 1 + 1]? = some C := by
  show (((w.heap.push A).push B).push C)[w.heap.size + 1 + 1]? = some C
  rw [Array.getElem?_push, if_pos (by simp)]
theorem heap_new2 (w : World) (A B C : Obj) : (((w.alloc A).alloc B).alloc C).heap[w.heap.size + 1]? = some B := by
  show (((w.heap.push A).push B).push C)[w.heap.size + 1]? = some B
  rw [Array.getElem?_push, if_neg (by simp), Array.getElem?_push, if_pos (by simp)]
theorem heap_new1 (w : World) (A B C : Obj) : (((w.alloc A).alloc B).alloc C).heap[w.heap.size]? = some A := by
  show (((w.heap.push A).push B).push C)[w.heap.size]? = some A
  rw [Array.getElem?_push, if_neg (by simp; omega), Array.getElem?_push, if_neg (by simp), Array.getElem?_push, if_pos rfl]
theorem heap_newA (w : World) (A B : Obj) : ((w.alloc A).alloc B).heap[w.heap.size]? = some A := by
  show ((w.heap.push A).push B)[w.heap.size]? = some A
  rw [Array.getElem?_push, if_neg (by simp), Array.getElem?_push, if_pos rfl]
theorem heap_newB (w : World) (A B : Obj) : ((w.alloc A).alloc B).heap[w.heap.size + 1]? = some B := by
  show ((w.heap.push A).push B)[w.heap.size + 1]? = some B
  rw [Array.getElem?_push, if_pos (by simp)]
theorem below_alloc {w w1 : World} (h : Below w.heap.size w w1) (A : Obj) : Below w.heap.size w (w1.alloc A) := h.alloc h.size A
set_option maxRecDepth 100000 in
set_option maxHeartbeats 800000 in
theorem l4Pow_any (a e m : Int) (w : World) (hm : 1 < m) (hm2 : m ≤ 2147483648) (ha : 0 ≤ a) (ha2 : a < m) (he2 : e ≤ 9223372036854775807) :
    Calls Try.prog 77 #[.int .i64 a, .int .i64 e, .int .i64 m] w fun x w' => x = .returned (.int .i64 (Gr.pw m a e)) ∧ w' = w := by
  go_enter Try.func77, Try.ntmps77
  go_wp2
  go_loopw [0, 1, 7] (fun x i o wr => ∃ a' e' o' : Int, x = .int .i64 a' ∧ i = .int .i64 e' ∧ o = .int .i64 o' ∧ 0 ≤ a' ∧ a' < m ∧ e' ≤ e ∧ (e' = e ∨ 0 ≤ e') ∧ 0 ≤ o' ∧ o' < m ∧ Hid (o' * Gr.pw m a' e' % m = Gr.pw m a e) ∧ wr = w)
    (fun _ i _ _ => (intOf i).toNat)
  case atStart => exact ⟨a, e, 1, rfl, rfl, rfl, ha, ha2, Int.le_refl _, .inl rfl, by omega, hm, Lib.hid (by rw [Int.one_mul]; exact Int.emod_eq_of_lt (Gr.pw_bd m a e (by omega)).1 (Gr.pw_bd m a e (by omega)).2), rfl⟩
  case round =>
    obtain ⟨a', e', o', rfl, rfl, rfl, a0, a1, hle, hor, o0, o1, HP, rfl⟩ := hrel
    obtain ⟨p0, p1⟩ := Gr.mul_bd o' a' m o0 o1 a0 a1 hm2
    obtain ⟨q0, q1⟩ := Gr.mul_bd a' a' m a0 a1 a0 a1 hm2
    have s0 := Int.emod_nonneg (o' * a') (show m ≠ 0 by omega)
    have s1 := Int.emod_lt_of_pos (o' * a') (show 0 < m by omega)
    have t0 := Int.emod_nonneg (a' * a') (show m ≠ 0 by omega)
    have t1 := Int.emod_lt_of_pos (a' * a') (show 0 < m by omega)
    by_cases hlt : 0 < e'
    · by_cases h2 : e' % 2 = 1
      · have h3 : (e' % 2 == 1) = true := by simp [h2]
        have HN : Hid (o' * a' % m * Gr.pw m (a' * a' % m) (e' / 2) % m = Gr.pw m a e) := by
          rw [Gr.pw_odd m a' e' o' (by omega) h2, HP.out]; exact rfl
        clear HP h2
        go_wp2
        go_roundw
        case rel => exact ⟨_, _, _, rfl, rfl, rfl, t0, t1, by omega, .inr (by omega), s0, s1, HN, trivial⟩
        case measure => simp [intOf]; omega
      · have h3 : (e' % 2 == 1) = false := by simp [h2]
        have HN : Hid (o' * Gr.pw m (a' * a' % m) (e' / 2) % m = Gr.pw m a e) := by
          rw [Gr.pw_even m a' e' (by omega) (by omega), HP.out]; exact rfl
        clear HP h2
        go_wp2
        go_roundw
        case rel => exact ⟨_, _, _, rfl, rfl, rfl, t0, t1, by omega, .inr (by omega), o0, o1, HN, trivial⟩
        case measure => simp [intOf]; omega
    · have HE : Hid (Gr.pw m a e = o') := by
        rw [← HP.out, Gr.pw_zero m a' e' hm (by omega), Int.mul_one]; exact Int.emod_eq_of_lt o0 o1
      go_wp2
      go_ret
      exact ⟨by rw [HE.out]; rfl, rfl⟩
/-- Block B holds a residue. -/
structure Bx (B : Nat) (n m : Int) (w : World) : Prop where
  held : w.heap[B]? = some (.cells #[.int .i64 n, .int .i64 m] 46 (0, 0))
theorem Bx.c0 {B : Nat} {n m : Int} {w : World} (h : Bx B n m w) : w.cell? ⟨B, 0, none⟩ = some (.int .i64 n) := by have := h.held; simp [World.cell?, this]
theorem Bx.c1 {B : Nat} {n m : Int} {w : World} (h : Bx B n m w) : w.cell? ⟨B, 1, none⟩ = some (.int .i64 m) := by have := h.held; simp [World.cell?, this]
theorem Bx.f0 {B : Nat} {n m : Int} {w : World} (h : Bx B n m w) (i : Nat) : w.frozen? ⟨B, i, none⟩ = false := by have := h.held; simp [World.frozen?, this]
theorem Bx.lt {B : Nat} {n m : Int} {w : World} (h : Bx B n m w) : B < w.heap.size := lt_of_block h.held
theorem Bx.below {B : Nat} {n m : Int} {w w' : World} (h : Bx B n m w) (hb : Below w.heap.size w w') : Bx B n m w' := ⟨(hb.block B h.lt).trans h.held⟩
theorem Bx.store {B : Nat} {n m : Int} {w : World} (h : Bx B n m w) (n' m' : Int) : Bx B n' m' ((w.setCell ⟨B, 0, none⟩ (.int .i64 n')).setCell ⟨B, 1, none⟩ (.int .i64 m')) := ⟨block_setCell (block_setCell h.held 0 _) 1 _⟩
theorem Bx.other {B : Nat} {n m : Int} {w : World} (h : Bx B n m w) (C : Nat) (hC : B ≠ C) (x y : Value) : Bx B n m ((w.setCell ⟨C, 0, none⟩ x).setCell ⟨C, 1, none⟩ y) :=
  ⟨(Below.heap_setCell _ _ _ _ hC).trans ((Below.heap_setCell _ _ _ _ hC).trans h.held)⟩
theorem below_store {w w1 : World} (h : Below w.heap.size w w1) (B : Nat) (hB : w.heap.size ≤ B) (x y : Value) : Below w.heap.size w ((w1.setCell ⟨B, 0, none⟩ x).setCell ⟨B, 1, none⟩ y) := (h.setCell hB x).setCell hB y
theorem below_after {w w1 w2 : World} (h : Below w.heap.size w w1) (k : Below w1.heap.size w1 w2) : Below w.heap.size w w2 := h.trans (k.mono h.size)
theorem results_cell_row2 {P : Program} {fn : Func} {p u : Tmp} {ty : TypeId} (h : fn.results = #[.cell p ty, .tmp u]) (tmps : Array Value) (w : World) (g : Nat) (t : TypeId) (cs : Array Value) (fr : Nat × Nat) (d : TypeDesc)
    (hp : tmps.getD p undef = .pointer (some ⟨g, 0, none⟩)) (hg : w.heap[g]? = some (.cells cs t fr))
    (hu : P.underlying ty = some d) (hd : (match d with | .struct _ | .array _ _ => true | _ => false) = true) (hi : (P.info? ty).map (·.size) = some cs.size) :
    (results fn tmps).run P w = .ok (.tuple #[.agg cs, tmps.getD u undef]) w := by
  rw [results_cell_tmp h]
  have hp' : tmps[p]?.getD undef = .pointer (some ⟨g, 0, none⟩) := by simpa using hp
  simp [Result.andThen, hp', asAddr, run_loadVar_row w g t ty cs fr d hg hu hd hi]
end Go.Proofs.Ytpldoffjclmacaa
