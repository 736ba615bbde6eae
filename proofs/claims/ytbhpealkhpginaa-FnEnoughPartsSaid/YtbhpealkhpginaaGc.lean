/-
  Contracts of chapter 4: the group, of the program and of the model.
-/
import Derived.Test.YtbhpealkhpginaaGr
import Derived.Test.YtbhpealkhpginaaBa
import Derived.Test.YtbhpealkhpginaaEn
import Derived.LoopTactic
import Derived.Deep.QuietTactic
import Derived.BigQuiet
import Derived.WalkSmall
import Derived.Lib.Hide
import Derived.WalkMore
import Derived.Laws.ResultCell
import Derived.Laws.Rows
namespace Go.Proofs.Ytbhpealkhpginaa
open Go.RowKit

theorem Gr.mul_bd (a b : Int) (m : Int) (ha : 0 ≤ a) (ha2 : a < m) (hb : 0 ≤ b) (hb2 : b < m) (hm : m ≤ 2147483648) : 0 ≤ a * b ∧ a * b ≤ 4611686018427387904 := by
  refine ⟨Int.mul_nonneg ha hb, ?_⟩
  have h1 : a * b ≤ 2147483648 * b := Int.mul_le_mul_of_nonneg_right (by omega) hb
  omega

theorem heap_new3 (w : World) (A B C : Obj) : (((w.alloc A).alloc B).alloc C).heap[w.heap.size + 1 + 1]? = some C := by
  show (((w.heap.push A).push B).push C)[w.heap.size + 1 + 1]? = some C
  rw [Array.getElem?_push, if_pos (by simp)]
theorem heap_new2 (w : World) (A B C : Obj) : (((w.alloc A).alloc B).alloc C).heap[w.heap.size + 1]? = some B := by
  show (((w.heap.push A).push B).push C)[w.heap.size + 1]? = some B
  rw [Array.getElem?_push, if_neg (by simp), Array.getElem?_push, if_pos (by simp)]
theorem heap_new1 (w : World) (A B C : Obj) : (((w.alloc A).alloc B).alloc C).heap[w.heap.size]? = some A := by
  show (((w.heap.push A).push B).push C)[w.heap.size]? = some A
  rw [Array.getElem?_push, if_neg (by simp; omega), Array.getElem?_push, if_neg (by simp), Array.getElem?_push, if_pos rfl]
theorem heap_newA (w : World) (A B : Obj) : ((w.alloc A).alloc B).heap[w.heap.size]? = some A := by
  show ((w.heap.push A).push B)[w.heap.size]? = some A
  rw [Array.getElem?_push, if_neg (by simp), Array.getElem?_push, if_pos rfl]
theorem heap_newB (w : World) (A B : Obj) : ((w.alloc A).alloc B).heap[w.heap.size + 1]? = some B := by
  show ((w.heap.push A).push B)[w.heap.size + 1]? = some B
  rw [Array.getElem?_push, if_pos (by simp)]
theorem below_alloc {w w1 : World} (h : Below w.heap.size w w1) (A : Obj) : Below w.heap.size w (w1.alloc A) := h.alloc h.size A
set_option maxRecDepth 100000 in
set_option maxHeartbeats 800000 in
theorem l4Pow_any (a e m : Int) (w : World) (hm : 1 < m) (hm2 : m ≤ 2147483648) (ha : 0 ≤ a) (ha2 : a < m) (he2 : e ≤ 9223372036854775807) :
    Calls Try.prog 67 #[.int .i64 a, .int .i64 e, .int .i64 m] w fun x w' => x = .returned (.int .i64 (Gr.pw m a e)) ∧ w' = w := by
  go_enter Try.func67, Try.ntmps67
  go_wp2
  go_loopw [0, 1, 7] (fun x i o wr => ∃ a' e' o' : Int, x = .int .i64 a' ∧ i = .int .i64 e' ∧ o = .int .i64 o' ∧ 0 ≤ a' ∧ a' < m ∧ e' ≤ e ∧ (e' = e ∨ 0 ≤ e') ∧ 0 ≤ o' ∧ o' < m ∧ Hid (o' * Gr.pw m a' e' % m = Gr.pw m a e) ∧ wr = w)
    (fun _ i _ _ => (intOf i).toNat)
  case atStart => exact ⟨a, e, 1, rfl, rfl, rfl, ha, ha2, Int.le_refl _, .inl rfl, by omega, hm, Lib.hid (by rw [Int.one_mul]; exact Int.emod_eq_of_lt (Gr.pw_bd m a e (by omega)).1 (Gr.pw_bd m a e (by omega)).2), rfl⟩
  case round =>
    obtain ⟨a', e', o', rfl, rfl, rfl, a0, a1, hle, hor, o0, o1, HP, rfl⟩ := hrel
    obtain ⟨p0, p1⟩ := Gr.mul_bd o' a' m o0 o1 a0 a1 hm2
    obtain ⟨q0, q1⟩ := Gr.mul_bd a' a' m a0 a1 a0 a1 hm2
    have s0 := Int.emod_nonneg (o' * a') (show m ≠ 0 by omega)
    have s1 := Int.emod_lt_of_pos (o' * a') (show 0 < m by omega)
    have t0 := Int.emod_nonneg (a' * a') (show m ≠ 0 by omega)
    have t1 := Int.emod_lt_of_pos (a' * a') (show 0 < m by omega)
    by_cases hlt : 0 < e'
    · by_cases h2 : e' % 2 = 1
      · have h3 : (e' % 2 == 1) = true := by simp [h2]
        have HN : Hid (o' * a' % m * Gr.pw m (a' * a' % m) (e' / 2) % m = Gr.pw m a e) := by
          rw [Gr.pw_odd m a' e' o' (by omega) h2, HP.out]; exact rfl
        clear HP h2
        go_wp2
        go_roundw
        case rel => exact ⟨_, _, _, rfl, rfl, rfl, t0, t1, by omega, .inr (by omega), s0, s1, HN, trivial⟩
        case measure => simp [intOf]; omega
      · have h3 : (e' % 2 == 1) = false := by simp [h2]
        have HN : Hid (o' * Gr.pw m (a' * a' % m) (e' / 2) % m = Gr.pw m a e) := by
          rw [Gr.pw_even m a' e' (by omega) (by omega), HP.out]; exact rfl
        clear HP h2
        go_wp2
        go_roundw
        case rel => exact ⟨_, _, _, rfl, rfl, rfl, t0, t1, by omega, .inr (by omega), o0, o1, HN, trivial⟩
        case measure => simp [intOf]; omega
    · have HE : Hid (Gr.pw m a e = o') := by
        rw [← HP.out, Gr.pw_zero m a' e' hm (by omega), Int.mul_one]; exact Int.emod_eq_of_lt o0 o1
      go_wp2
      go_ret
      exact ⟨by rw [HE.out]; rfl, rfl⟩
set_option maxRecDepth 100000 in
set_option maxHeartbeats 800000 in
theorem times_any (a b m : Int) (w : World) (hm : 1 < m) (hm2 : m ≤ 2147483648) (ha : 0 ≤ a) (ha2 : a < m) (hb : 0 ≤ b) (hb2 : b < m) :
    Calls Try.prog 56 #[.agg #[.int .i64 a, .int .i64 m], .agg #[.int .i64 b, .int .i64 m]] w fun x w' => x = .returned (.agg #[.int .i64 (a * b % m), .int .i64 m]) ∧ Below w.heap.size w w' := by
  obtain ⟨p0, p1⟩ := Gr.mul_bd a b m ha ha2 hb hb2 hm2
  go_enter Try.func56, Try.ntmps56
  go_wp2
  go_region
  go_wp2
  refine bodyPost_ret (results_cell_row (P := Try.prog) rfl _ _ (w.heap.size + 1 + 1) 77 #[.int .i64 (a * b % m), .int .i64 m] (0, 0) _ rfl (heap_new3 _ _ _ _) Try.underlying77 rfl (by kernel_rfl)) rfl ?_
  exact ⟨rfl, (below_alloc (below_alloc (below_alloc (Below.refl _ _) _) _) _).drew⟩
/-- Block B holds a residue. -/
structure Bx (B : Nat) (n m : Int) (w : World) : Prop where
  held : w.heap[B]? = some (.cells #[.int .i64 n, .int .i64 m] 77 (0, 0))
theorem Bx.c0 {B : Nat} {n m : Int} {w : World} (h : Bx B n m w) : w.cell? ⟨B, 0, none⟩ = some (.int .i64 n) := by have := h.held; simp [World.cell?, this]
theorem Bx.c1 {B : Nat} {n m : Int} {w : World} (h : Bx B n m w) : w.cell? ⟨B, 1, none⟩ = some (.int .i64 m) := by have := h.held; simp [World.cell?, this]
theorem Bx.f0 {B : Nat} {n m : Int} {w : World} (h : Bx B n m w) (i : Nat) : w.frozen? ⟨B, i, none⟩ = false := by have := h.held; simp [World.frozen?, this]
theorem Bx.lt {B : Nat} {n m : Int} {w : World} (h : Bx B n m w) : B < w.heap.size := lt_of_block h.held
theorem Bx.below {B : Nat} {n m : Int} {w w' : World} (h : Bx B n m w) (hb : Below w.heap.size w w') : Bx B n m w' := ⟨(hb.block B h.lt).trans h.held⟩
theorem Bx.store {B : Nat} {n m : Int} {w : World} (h : Bx B n m w) (n' m' : Int) : Bx B n' m' ((w.setCell ⟨B, 0, none⟩ (.int .i64 n')).setCell ⟨B, 1, none⟩ (.int .i64 m')) := ⟨block_setCell (block_setCell h.held 0 _) 1 _⟩
theorem Bx.other {B : Nat} {n m : Int} {w : World} (h : Bx B n m w) (C : Nat) (hC : B ≠ C) (x y : Value) : Bx B n m ((w.setCell ⟨C, 0, none⟩ x).setCell ⟨C, 1, none⟩ y) :=
  ⟨(Below.heap_setCell _ _ _ _ hC).trans ((Below.heap_setCell _ _ _ _ hC).trans h.held)⟩
theorem below_store {w w1 : World} (h : Below w.heap.size w w1) (B : Nat) (hB : w.heap.size ≤ B) (x y : Value) : Below w.heap.size w ((w1.setCell ⟨B, 0, none⟩ x).setCell ⟨B, 1, none⟩ y) := (h.setCell hB x).setCell hB y
theorem below_after {w w1 w2 : World} (h : Below w.heap.size w w1) (k : Below w1.heap.size w1 w2) : Below w.heap.size w w2 := h.trans (k.mono h.size)
set_option maxRecDepth 100000 in
set_option maxHeartbeats 800000 in
theorem power_any (a m e : Int) (w : World) (hm : 1 < m) (hm2 : m ≤ 2147483648) (ha : 0 ≤ a) (ha2 : a < m) (he2 : e ≤ 9223372036854775807) :
    Calls Try.prog 66 #[.agg #[.int .i64 a, .int .i64 m], .int .i64 e] w fun x w' => x = .returned (.agg #[.int .i64 (Gr.pw m a e), .int .i64 m]) ∧ Below w.heap.size w w' := by
  go_enter Try.func66, Try.ntmps66
  go_wp2
  try go_region
  go_wp2
  go_loopw [1] (fun i wr => ∃ a' e' o' : Int, i = .int .i64 e' ∧ 0 ≤ a' ∧ a' < m ∧ e' ≤ e ∧ (e' = e ∨ 0 ≤ e') ∧ 0 ≤ o' ∧ o' < m ∧ Hid (o' * Gr.pw m a' e' % m = Gr.pw m a e) ∧ Bx w.heap.size a' m wr ∧ Bx (w.heap.size + 1 + 1) o' m wr ∧ (∃ x y, Bx (w.heap.size + 1) x y wr) ∧ Below w.heap.size w wr)
    (fun i _ => (intOf i).toNat)
  case atStart =>
    exact ⟨a, e, 1, rfl, ha, ha2, Int.le_refl _, .inl rfl, by omega, hm, Lib.hid (by rw [Int.one_mul]; exact Int.emod_eq_of_lt (Gr.pw_bd m a e (by omega)).1 (Gr.pw_bd m a e (by omega)).2), ⟨heap_new1 _ _ _ _⟩, ⟨heap_new3 _ _ _ _⟩, ⟨0, 0, ⟨heap_new2 _ _ _ _⟩⟩, below_alloc (below_alloc (below_alloc (Below.refl _ _) _) _) _⟩
  case round =>
    obtain ⟨a', e', o', rfl, a0, a1, hle, hor, o0, o1, HP, HA, HO, ⟨x, y, HX⟩, hb⟩ := hrel
    obtain ⟨p0, p1⟩ := Gr.mul_bd o' a' m o0 o1 a0 a1 hm2
    obtain ⟨q0, q1⟩ := Gr.mul_bd a' a' m a0 a1 a0 a1 hm2
    have s0 := Int.emod_nonneg (o' * a') (show m ≠ 0 by omega)
    have s1 := Int.emod_lt_of_pos (o' * a') (show 0 < m by omega)
    have t0 := Int.emod_nonneg (a' * a') (show m ≠ 0 by omega)
    have t1 := Int.emod_lt_of_pos (a' * a') (show 0 < m by omega)
    have c0 := HA.c0
    have c1 := HA.c1
    have d0 := HO.c0
    have d1 := HO.c1
    by_cases hlt : 0 < e'
    · by_cases h2 : e' % 2 = 1
      · have h3 : (e' % 2 == 1) = true := by simp [h2]
        have HN : Hid (o' * a' % m * Gr.pw m (a' * a' % m) (e' / 2) % m = Gr.pw m a e) := by
          rw [Gr.pw_odd m a' e' o' (by omega) h2, HP.out]; exact rfl
        clear HP h2
        go_wp2_with fail
        refine (times_any o' a' m _ hm hm2 o0 o1 a0 a1).mono ?_
        rintro e w1 ⟨rfl, hb1⟩
        have HA1 := HA.below hb1
        have HO1 := HO.below hb1
        have HX1 := HX.below hb1
        have f0 := HO1.f0 0
        have f1 := HO1.f0 1
        have HOs := HO1.store (o' * a' % m) m
        have HAs := HA1.other (w.heap.size + 1 + 1) (by omega) (.int .i64 (o' * a' % m)) (.int .i64 m)
        have HXs := HX1.other (w.heap.size + 1 + 1) (by omega) (.int .i64 (o' * a' % m)) (.int .i64 m)
        have hbs := below_store (below_after hb hb1) (w.heap.size + 1 + 1) (by omega) (.int .i64 (o' * a' % m)) (.int .i64 m)
        have c0 := HA1.c0
        have c1 := HA1.c1
        have d0 := HO1.c0
        have d1 := HO1.c1
        clear HA1 HO1 HX1 HA HO HX hb hb1
        go_wp2_with fail
        refine (times_any a' a' m _ hm hm2 a0 a1 a0 a1).mono ?_
        rintro e w2 ⟨rfl, hb2⟩
        have HA2 := HAs.below hb2
        have HO2 := HOs.below hb2
        have HX2 := HXs.below hb2
        have hbb := below_after hbs hb2
        have c0 := HA2.c0
        have c1 := HA2.c1
        have g0 := HA2.f0 0
        have g1 := HA2.f0 1
        have HA3 := HA2.store (a' * a' % m) m
        have HO3 := HO2.other w.heap.size (by omega) (.int .i64 (a' * a' % m)) (.int .i64 m)
        have HX3 := HX2.other w.heap.size (by omega) (.int .i64 (a' * a' % m)) (.int .i64 m)
        have hb3 := below_store hbb w.heap.size (Nat.le_refl _) (.int .i64 (a' * a' % m)) (.int .i64 m)
        clear HA2 HO2 HX2 hbb HAs HOs HXs hbs hb2
        go_wp2
        go_roundw
        case rel => exact ⟨_, _, _, rfl, t0, t1, by omega, .inr (by omega), s0, s1, HN, HA3, HO3, ⟨_, _, HX3⟩, hb3⟩
        case measure => simp [intOf]; omega
      · have h3 : (e' % 2 == 1) = false := by simp [h2]
        have HN : Hid (o' * Gr.pw m (a' * a' % m) (e' / 2) % m = Gr.pw m a e) := by
          rw [Gr.pw_even m a' e' (by omega) (by omega), HP.out]; exact rfl
        clear HP h2
        have HAs := HA
        have HOs := HO
        have HXs := HX
        have hbs := hb
        clear HA HO HX hb
        go_wp2_with fail
        refine (times_any a' a' m _ hm hm2 a0 a1 a0 a1).mono ?_
        rintro e w2 ⟨rfl, hb2⟩
        have HA2 := HAs.below hb2
        have HO2 := HOs.below hb2
        have HX2 := HXs.below hb2
        have hbb := below_after hbs hb2
        have c0 := HA2.c0
        have c1 := HA2.c1
        have g0 := HA2.f0 0
        have g1 := HA2.f0 1
        have HA3 := HA2.store (a' * a' % m) m
        have HO3 := HO2.other w.heap.size (by omega) (.int .i64 (a' * a' % m)) (.int .i64 m)
        have HX3 := HX2.other w.heap.size (by omega) (.int .i64 (a' * a' % m)) (.int .i64 m)
        have hb3 := below_store hbb w.heap.size (Nat.le_refl _) (.int .i64 (a' * a' % m)) (.int .i64 m)
        clear HA2 HO2 HX2 hbb HAs HOs HXs hbs hb2
        go_wp2
        go_roundw
        case rel => exact ⟨_, _, _, rfl, t0, t1, by omega, .inr (by omega), o0, o1, HN, HA3, HO3, ⟨_, _, HX3⟩, hb3⟩
        case measure => simp [intOf]; omega
    · have HE : Hid (Gr.pw m a e = o') := by
        rw [← HP.out, Gr.pw_zero m a' e' hm (by omega), Int.mul_one]; exact Int.emod_eq_of_lt o0 o1
      have x0 := HX.c0
      have x1 := HX.c1
      have g0 := HX.f0 0
      have g1 := HX.f0 1
      have HX3 := HX.store o' m
      have hb3 := below_store hb (w.heap.size + 1) (by omega) (.int .i64 o') (.int .i64 m)
      clear HP
      go_wp2
      rw [HE.out]
      refine bodyPost_ret (results_cell_row (P := Try.prog) rfl _ _ (w.heap.size + 1) 77 #[.int .i64 o', .int .i64 m] (0, 0) _ rfl HX3.held Try.underlying77 rfl (by kernel_rfl)) rfl ?_
      exact ⟨rfl, hb3⟩
set_option maxRecDepth 100000 in
set_option maxHeartbeats 800000 in
theorem inverse_any (a m : Int) (w : World) (hm : 1 < m) (hm2 : m ≤ 2147483648) (ha : 0 ≤ a) (ha2 : a < m) :
    Calls Try.prog 62 #[.agg #[.int .i64 a, .int .i64 m]] w fun x w' => x = .returned (.agg #[.int .i64 (Gr.pw m a (m - 2)), .int .i64 m]) ∧ Below w.heap.size w w' := by
  go_enter Try.func62, Try.ntmps62
  go_wp2_with fail
  have HX : ∀ A, Bx (w.heap.size + 1) 0 0 ((w.alloc A).alloc (.cells #[.int .i64 0, .int .i64 0] 77 (0, 0))) := fun A => ⟨heap_newB _ _ _⟩
  refine (power_any a m (m - 2) _ hm hm2 ha ha2 (by omega)).mono ?_
  rintro e w1 ⟨rfl, hb1⟩
  have HX1 := (HX _).below hb1
  have hb := below_after (below_alloc (below_alloc (Below.refl _ _) _) _) hb1
  clear HX hb1
  have x0 := HX1.c0
  have x1 := HX1.c1
  have g0 := HX1.f0 0
  have g1 := HX1.f0 1
  have HX3 := HX1.store (Gr.pw m a (m - 2)) m
  have hb3 := below_store hb (w.heap.size + 1) (by omega) (.int .i64 (Gr.pw m a (m - 2))) (.int .i64 m)
  clear HX1 hb
  go_wp2
  refine bodyPost_ret (results_cell_row (P := Try.prog) rfl _ _ (w.heap.size + 1) 77 _ (0, 0) _ rfl HX3.held Try.underlying77 rfl (by kernel_rfl)) rfl ?_
  exact ⟨rfl, hb3⟩
theorem results_cell_row2 {P : Program} {fn : Func} {p u : Tmp} {ty : TypeId} (h : fn.results = #[.cell p ty, .tmp u]) (tmps : Array Value) (w : World) (g : Nat) (t : TypeId) (cs : Array Value) (fr : Nat × Nat) (d : TypeDesc)
    (hp : tmps.getD p undef = .pointer (some ⟨g, 0, none⟩)) (hg : w.heap[g]? = some (.cells cs t fr))
    (hu : P.underlying ty = some d) (hd : (match d with | .struct _ | .array _ _ => true | _ => false) = true) (hi : (P.info? ty).map (·.size) = some cs.size) :
    (results fn tmps).run P w = .ok (.tuple #[.agg cs, tmps.getD u undef]) w := by
  rw [results_cell_tmp h]
  have hp' : tmps[p]?.getD undef = .pointer (some ⟨g, 0, none⟩) := by simpa using hp
  simp [Result.andThen, hp', asAddr, run_loadVar_row w g t ty cs fr d hg hu hd hi]
theorem field_n (n m : Int) (W : World) : (Instr.field 77 (.agg #[.int .i64 n, .int .i64 m]) 0).run Try.prog W = .ok (.int .i64 n) W := by
  simp [Instr.field, part, isAgg, asAgg, run_underlying Try.underlying77, run_underlying Try.underlying3]
end Go.Proofs.Ytbhpealkhpginaa
