/-
  Contracts of scripts: takeOp, ScriptRead; of the program.
-/
import Derived.Test.YtpldoffjclmacaaYc
import Derived.Test.YtpldoffjclmacaaYe
namespace Go.Proofs.Ytpldoffjclmacaa
open Go.RowKit

theorem results_cell_tmp3Y {P : Program} {fn : Func} {p u : Tmp} {ty : TypeId} (h : fn.results = #[.cell p ty, .tmp u]) (tmps : Array Value) (w : World) (g : Nat) (t : TypeId) (cs : Array Value) (fr : Nat × Nat) (d : TypeDesc)
    (hp : tmps.getD p undef = .pointer (some ⟨g, 0, none⟩)) (hg : w.heap[g]? = some (.cells cs t fr))
    (hu : P.underlying ty = some d) (hd : (match d with | .struct _ | .array _ _ => true | _ => false) = true) (hi : (P.info? ty).map (·.size) = some cs.size) :
    (results fn tmps).run P w = .ok (.tuple #[.agg cs, tmps.getD u undef]) w := by
  rw [results_cell_tmp h]
  have hp' : tmps[p]?.getD undef = .pointer (some ⟨g, 0, none⟩) := by simpa using hp
  simp [Result.andThen, hp', asAddr, run_loadVar_row w g t ty cs fr d hg hu hd hi]
theorem gb_setY {w w' : World} {row : Option Nat} (h : w.grownBy w' row) (D i : Nat) (v : Value) (hD : w.heap.size ≤ D) : w.grownBy (w'.setCell ⟨D, i, none⟩ v) row :=
  ⟨h.os, h.tape, h.output, by simpa [World.setCell] using h.size, fun k hk hne => (Below.heap_setCell _ _ _ _ (show k ≠ D by omega)).trans (h.block k hk hne)⟩
theorem gb_set4Y {w w' : World} {row : Option Nat} (h : w.grownBy w' row) (D : Nat) (hD : w.heap.size ≤ D) (a b c d : Value) : w.grownBy ((((w'.setCell ⟨D, 0, none⟩ a).setCell ⟨D, 1, none⟩ b).setCell ⟨D, 2, none⟩ c).setCell ⟨D, 3, none⟩ d) row :=
  gb_setY (gb_setY (gb_setY (gb_setY h D 0 a hD) D 1 b hD) D 2 c hD) D 3 d hD
theorem gb_allocY {w w' : World} {row : Option Nat} (h : w.grownBy w' row) (o : Obj) : w.grownBy (w'.alloc o) row := grownBy_trans' h (World.grownBy_alloc w' o row)
theorem gb_belowY {w w' w2 : World} {row : Option Nat} (h : w.grownBy w' row) (hb : Below w'.heap.size w' w2) : w.grownBy w2 row :=
  grownBy_trans' h ⟨hb.os, hb.tape, hb.output, hb.size, fun k hk _ => hb.block k hk⟩
/-- What takeOp hands back. -/
def TkOp (B : Nat) (s : ByteArray) (w : World) (e : Ending) (w' : World) : Prop :=
  (Jo.one s = none ∧ (∃ c a b t r, e = .returned (.tuple #[.agg #[.int .i64 c, .int .i64 a, .int .i64 b, .string t], .bool false]) ∧ Bk B 9 #[.string r] w') ∧ w.grownBy w' (some B)) ∨
  (∃ c a b t r, Jo.one s = some (⟨c, a, b, t⟩, r) ∧ e = .returned (.tuple #[.agg #[.int .i64 c, .int .i64 a, .int .i64 b, .string t], .bool true]) ∧ Bk B 9 #[.string r] w' ∧ w.grownBy w' (some B))
theorem takeNum_gen (B : Nat) (s : ByteArray) (w : World) (hb : Bk B 9 #[.string s] w) :
    Calls Try.prog 51 #[takerAt B] w fun e w' => ∃ v ok r, e = .returned (.tuple #[.int .i64 v, .bool ok]) ∧ Bk B 9 #[.string r] w' ∧ w.grownBy w' (some B) ∧ Hid ((ok = true → En.dec s = some (v, r)) ∧ (ok = false → En.dec s = none)) := by
  refine (takeNum_any B s w hb.held).mono ?_
  rintro e w' ⟨he, r, hT, _, hr⟩
  cases hd : En.dec s with
  | none =>
    rw [En.decV_none hd] at he
    exact ⟨_, _, r, he, ⟨hT.held⟩, hT.kept, Lib.hid ⟨(fun h => by cases h), fun _ => rfl⟩⟩
  | some x =>
    obtain ⟨n, r0⟩ := x
    obtain rfl := hr _ hd
    rw [En.decV_some hd] at he
    exact ⟨_, _, _, he, ⟨hT.held⟩, hT.kept, Lib.hid ⟨fun _ => rfl, fun h => by cases h⟩⟩
theorem takeText_gen (B : Nat) (s : ByteArray) (w : World) (hb : Bk B 9 #[.string s] w) :
    Calls Try.prog 50 #[takerAt B] w fun e w' => ∃ v ok r, e = .returned (.tuple #[.string v, .bool ok]) ∧ Bk B 9 #[.string r] w' ∧ w.grownBy w' (some B) ∧ Hid ((ok = true → En.decT s = some (v, r)) ∧ (ok = false → En.decT s = none)) := by
  refine (takeText_any B s w hb.held).mono ?_
  rintro e w' ⟨he, r, hT, _, hr⟩
  cases hd : En.decT s with
  | none =>
    rw [En.decTV_none hd] at he
    exact ⟨_, _, r, he, ⟨hT.held⟩, hT.kept, Lib.hid ⟨(fun h => by cases h), fun _ => rfl⟩⟩
  | some x =>
    obtain ⟨n, r0⟩ := x
    obtain rfl := hr _ hd
    rw [En.decTV_some hd] at he
    exact ⟨_, _, _, he, ⟨hT.held⟩, hT.kept, Lib.hid ⟨fun _ => rfl, fun h => by cases h⟩⟩
set_option maxRecDepth 100000 in
set_option maxHeartbeats 3200000 in
theorem takeOp_any (B : Nat) (s : ByteArray) (w : World) (hpos : 0 < s.size) (hb : Bk B 9 #[.string s] w) : Calls Try.prog 33 #[takerAt B] w (TkOp B s w) := by
  have hBlt := hb.lt
  have h1 : 1 ≤ (s.size : Int) := by omega
  have hBR : B ≠ w.heap.size := by omega
  have vR0 := Bk.new w 46 #[.int .i64 0, .int .i64 0, .int .i64 0, .string ⟨#[]⟩]
  have vB0 := hb.alloc (.cells #[.int .i64 0, .int .i64 0, .int .i64 0, .string ⟨#[]⟩] 46 (0, 0))
  have gW0 := World.grownBy_alloc w (.cells #[.int .i64 0, .int .i64 0, .int .i64 0, .string ⟨#[]⟩] 46 (0, 0)) (some B)
  have hfs : 0 < (En.front s 1).size := by rw [En.size_front s 1 h1]; decide
  have hix := En.front_zero s
  have hbd := En.byt_bd s 0
  have hcon := fun W hb => take_yes B s 1 W (by omega) h1 hb
  have HP := Lib.hid hpos
  obtain ⟨c, HC⟩ : ∃ c, Hid (En.byt s 0 = c) := ⟨_, Lib.hid rfl⟩
  rw [HC.out] at hbd
  simp only [HC.out] at hix
  obtain ⟨F, HF⟩ : ∃ F, Hid (En.front s 1 = F) := ⟨_, Lib.hid rfl⟩
  simp only [HF.out] at hix hcon hfs
  have hw6 : IntKind.i64.wrap c = c := IntWalk.i64_in _ (by omega)
  clear hb hpos h1
  go_enter Try.func33, Try.ntmps33
  go_wp2_with fail
  refine (hcon _ vB0.held).mono ?_
  rintro e w1 ⟨rfl, hT1⟩
  have vR1 := (vR0.gbY hT1.kept (by simpa using fun h : w.heap.size = B => hBR h.symm)).alloc (.cells #[.int .i64 c, .int .i64 0, .int .i64 0, .string ⟨#[]⟩] 46 (0, 0))
  have gW1 := gb_allocY (grownBy_trans' gW0 hT1.kept) (.cells #[.int .i64 c, .int .i64 0, .int .i64 0, .string ⟨#[]⟩] 46 (0, 0))
  have vB1 : Bk B 9 #[.string (En.rest s 1)] _ := Bk.alloc ⟨hT1.held⟩ (.cells #[.int .i64 c, .int .i64 0, .int .i64 0, .string ⟨#[]⟩] 46 (0, 0))
  have vX1 := Bk.new w1 46 #[.int .i64 c, .int .i64 0, .int .i64 0, .string ⟨#[]⟩]
  have hsz1 : w.heap.size < w1.heap.size := by have := hT1.kept.size; simp at this; omega
  have hBX : B ≠ w1.heap.size := by omega
  have hRX : w.heap.size ≠ w1.heap.size := by omega
  clear hcon vR0 gW0 vB0 hT1
  have hneXB : some w1.heap.size ≠ some B := by simpa using fun h : w1.heap.size = B => hBX h.symm
  have hneRB : some w.heap.size ≠ some B := by simpa using fun h : w.heap.size = B => hBR h.symm
  by_cases k0 : c = 0
  · subst k0
    go_wp2_with fail
    refine (takeText_gen B (En.rest s 1) _ vB1).mono ?_
    rintro e w2 ⟨tt, ok, r2, rfl, vB2, hg2, HQ⟩
    have vX2 := vX1.gbY hg2 hneXB
    obtain ⟨f0, f1, f2, f3⟩ := vX2.f4
    have x3 : w2.cell? ⟨w1.heap.size, 3, none⟩ = some (.string ⟨#[]⟩) := vX2.cell 3
    have vX3 : Bk w1.heap.size 46 #[.int .i64 0, .int .i64 0, .int .i64 0, .string tt] _ := vX2.set 3 (.string tt)
    have vR3 := (vR1.gbY hg2 hneRB).oset w1.heap.size 3 (.string tt) hRX
    have vB3 := vB2.oset w1.heap.size 3 (.string tt) hBX
    have gW3 := gb_setY (grownBy_trans' gW1 hg2) w1.heap.size 3 (.string tt) (by omega)
    obtain ⟨y0, y1, y2, y3⟩ := Bk.c4 vX3
    have HFIN : Hid (∀ w9 : World, Bk B 9 #[.string r2] w9 → w.grownBy w9 (some B) → TkOp B s w (.returned (.tuple #[.agg #[.int .i64 0, .int .i64 0, .int .i64 0, .string tt], .bool ok])) w9) := Lib.hid fun w9 hB9 hg9 => by
      cases ok with
      | false => exact .inl ⟨Jo.one_push_no HC.out (HQ.out.2 rfl), ⟨_, _, _, _, _, rfl, hB9⟩, hg9⟩
      | true => exact .inr ⟨_, _, _, _, _, Jo.one_push HC.out (HQ.out.1 rfl), rfl, hB9, hg9⟩
    clear vR1 gW1 vB1 vX1 hg2 vX2 vB2 vX3
    obtain ⟨r0, r1, r2, r3⟩ := Bk.c4 vR3
    obtain ⟨z0, z1, z2, z3⟩ := vR3.f4
    have vR9 := Bk.store4 vR3 (.int .i64 0) (.int .i64 0) (.int .i64 0) (.string tt)
    have gW9 := gb_set4Y gW3 w.heap.size (Nat.le_refl _) (.int .i64 0) (.int .i64 0) (.int .i64 0) (.string tt)
    have vB9 := Bk.other4 vB3 w.heap.size hBR (.int .i64 0) (.int .i64 0) (.int .i64 0) (.string tt)
    clear vR3 gW3 vB3
    go_wp2
    refine bodyPost_ret (results_cell_tmp3Y (P := Try.prog) rfl _ _ w.heap.size 46 _ (0, 0) _ rfl vR9.held Try.underlying46 rfl (by kernel_rfl)) rfl ?_
    exact HFIN.out _ vB9 gW9
  have q0 : (c == 0) = false := by simpa using k0
  by_cases k12 : c = 12
  · subst k12
    obtain ⟨d0, d1, d2, d3⟩ := Bk.c4 vX1
    go_wp2_with fail
    refine (numbers_two w1.heap.size _ d0).mono ?_
    rintro e w2 ⟨g, rfl, vG2, hgl, hbm⟩
    have vX2 := vX1.below hbm
    have vR2 := vR1.below hbm
    have vB2 := vB1.below hbm
    have gW2 := gb_belowY gW1 hbm
    have hgl' : w1.heap.size < g := by simp at hgl; omega
    have hGB : some g ≠ some B := by simp; omega
    have hGX : g ≠ w1.heap.size := by omega
    obtain ⟨g0, g1⟩ := Bk.c2 vG2
    clear vX1 vR1 vB1 gW1 hbm d0 d1 d2 d3
    go_wp2
    refine wp_loop_rounds 3 ?_
    rw [rounds_succ]
    go_wp2_with fail
    refine (takeNum_gen B (En.rest s 1) _ vB2).mono ?_
    rintro e w3 ⟨A, ok, r3, rfl, vB3, hg3, HQ⟩
    have vX3 := vX2.gbY hg3 hneXB
    obtain ⟨f0, f1, f2, f3⟩ := vX3.f4
    have x1 : w3.cell? ⟨w1.heap.size, 1, none⟩ = some (.int .i64 0) := vX3.cell 1
    have vX4 : Bk w1.heap.size 46 #[.int .i64 12, .int .i64 A, .int .i64 0, .string ⟨#[]⟩] _ := vX3.set 1 (.int .i64 A)
    have vR4 := (vR2.gbY hg3 hneRB).oset w1.heap.size 1 (.int .i64 A) hRX
    have vB4 := vB3.oset w1.heap.size 1 (.int .i64 A) hBX
    have vG4 := (vG2.gbY hg3 hGB).oset w1.heap.size 1 (.int .i64 A) hGX
    have gW4 := gb_setY (grownBy_trans' gW2 hg3) w1.heap.size 1 (.int .i64 A) (by omega)
    clear vX2 vR2 vB2 gW2 vG2 hg3 vX3 vB3 g0 g1
    cases ok
    · have HNO := Lib.hid (Jo.one_many_no HC.out (.inl (HQ.out.2 rfl)))
      clear HQ vX4 vG4
      obtain ⟨r0, r1, r2, r3⟩ := Bk.c4 vR4
      obtain ⟨z0, z1, z2, z3⟩ := vR4.f4
      have vR9 := Bk.store4 vR4 (.int .i64 0) (.int .i64 0) (.int .i64 0) (.string ⟨#[]⟩)
      have gW9 := gb_set4Y gW4 w.heap.size (Nat.le_refl _) (.int .i64 0) (.int .i64 0) (.int .i64 0) (.string ⟨#[]⟩)
      have vB9 := Bk.other4 vB4 w.heap.size hBR (.int .i64 0) (.int .i64 0) (.int .i64 0) (.string ⟨#[]⟩)
      clear vR4 gW4 vB4
      go_wp2
      refine bodyPost_ret (results_cell_tmp3Y (P := Try.prog) rfl _ _ w.heap.size 46 _ (0, 0) _ rfl vR9.held Try.underlying46 rfl (by kernel_rfl)) rfl ?_
      exact .inl ⟨HNO.out, ⟨_, _, _, _, _, rfl, vB9⟩, gW9⟩
    obtain ⟨g0, g1⟩ := Bk.c2 vG4
    have HQ1 := Lib.hid (HQ.out.1 rfl)
    clear HQ
    go_wp2
    clear f0 f1 f2 f3 x1
    rw [rounds_succ]
    go_wp2_with fail
    refine (takeNum_gen B r3 _ vB4).mono ?_
    rintro e w5 ⟨B2, ok, r5, rfl, vB5, hg5, HQ⟩
    have vX5 := vX4.gbY hg5 hneXB
    obtain ⟨f0, f1, f2, f3⟩ := vX5.f4
    have x1 : w5.cell? ⟨w1.heap.size, 2, none⟩ = some (.int .i64 0) := vX5.cell 2
    have vX6 : Bk w1.heap.size 46 #[.int .i64 12, .int .i64 A, .int .i64 B2, .string ⟨#[]⟩] _ := vX5.set 2 (.int .i64 B2)
    have vR6 := (vR4.gbY hg5 hneRB).oset w1.heap.size 2 (.int .i64 B2) hRX
    have vB6 := vB5.oset w1.heap.size 2 (.int .i64 B2) hBX
    have gW6 := gb_setY (grownBy_trans' gW4 hg5) w1.heap.size 2 (.int .i64 B2) (by omega)
    clear vX4 vR4 vB4 gW4 vG4 hg5 vX5 vB5 g0 g1
    cases ok
    · have HNO := Lib.hid (Jo.one_many_no HC.out (.inr ⟨_, _, HQ1.out, HQ.out.2 rfl⟩))
      clear HQ vX6
      obtain ⟨r0, r1, r2, r3⟩ := Bk.c4 vR6
      obtain ⟨z0, z1, z2, z3⟩ := vR6.f4
      have vR9 := Bk.store4 vR6 (.int .i64 0) (.int .i64 0) (.int .i64 0) (.string ⟨#[]⟩)
      have gW9 := gb_set4Y gW6 w.heap.size (Nat.le_refl _) (.int .i64 0) (.int .i64 0) (.int .i64 0) (.string ⟨#[]⟩)
      have vB9 := Bk.other4 vB6 w.heap.size hBR (.int .i64 0) (.int .i64 0) (.int .i64 0) (.string ⟨#[]⟩)
      clear vR6 gW6 vB6
      go_wp2
      refine bodyPost_ret (results_cell_tmp3Y (P := Try.prog) rfl _ _ w.heap.size 46 _ (0, 0) _ rfl vR9.held Try.underlying46 rfl (by kernel_rfl)) rfl ?_
      exact .inl ⟨HNO.out, ⟨_, _, _, _, _, rfl, vB9⟩, gW9⟩
    have HYES := Lib.hid (Jo.one_many HC.out HQ1.out (HQ.out.1 rfl))
    obtain ⟨y0, y1, y2, y3⟩ := Bk.c4 vX6
    clear HQ vX6
    go_wp2
    clear f0 f1 f2 f3 x1
    rw [rounds_succ]
    obtain ⟨r0, r1, r2, r3⟩ := Bk.c4 vR6
    obtain ⟨z0, z1, z2, z3⟩ := vR6.f4
    have vR9 := Bk.store4 vR6 (.int .i64 12) (.int .i64 A) (.int .i64 B2) (.string ⟨#[]⟩)
    have gW9 := gb_set4Y gW6 w.heap.size (Nat.le_refl _) (.int .i64 12) (.int .i64 A) (.int .i64 B2) (.string ⟨#[]⟩)
    have vB9 := Bk.other4 vB6 w.heap.size hBR (.int .i64 12) (.int .i64 A) (.int .i64 B2) (.string ⟨#[]⟩)
    clear vR6 gW6 vB6
    go_wp2
    refine bodyPost_ret (results_cell_tmp3Y (P := Try.prog) rfl _ _ w.heap.size 46 _ (0, 0) _ rfl vR9.held Try.underlying46 rfl (by kernel_rfl)) rfl ?_
    exact .inr ⟨_, _, _, _, _, HYES.out, rfl, vB9, gW9⟩
  have q12 : (c == 12) = false := by simpa using k12
  by_cases k13 : c = 13
  · subst k13
    obtain ⟨d0, d1, d2, d3⟩ := Bk.c4 vX1
    go_wp2_with fail
    refine (numbers_one w1.heap.size 13 _ d0 (by omega)).mono ?_
    rintro e w2 ⟨g, rfl, vG2, hgl, hbm⟩
    have vX2 := vX1.below hbm
    have vR2 := vR1.below hbm
    have vB2 := vB1.below hbm
    have gW2 := gb_belowY gW1 hbm
    have hgl' : w1.heap.size < g := by simp at hgl; omega
    have g0 : w2.cell? ⟨g, 0, none⟩ = some (.pointer (some ⟨w1.heap.size, 1, none⟩)) := vG2.cell 0
    clear vX1 vR1 vB1 gW1 hbm d0 d1 d2 d3
    go_wp2
    refine wp_loop_rounds 2 ?_
    rw [rounds_succ]
    go_wp2_with fail
    refine (takeNum_gen B (En.rest s 1) _ vB2).mono ?_
    rintro e w3 ⟨A, ok, r3, rfl, vB3, hg3, HQ⟩
    have vX3 := vX2.gbY hg3 hneXB
    obtain ⟨f0, f1, f2, f3⟩ := vX3.f4
    have x1 : w3.cell? ⟨w1.heap.size, 1, none⟩ = some (.int .i64 0) := vX3.cell 1
    have vX4 : Bk w1.heap.size 46 #[.int .i64 13, .int .i64 A, .int .i64 0, .string ⟨#[]⟩] _ := vX3.set 1 (.int .i64 A)
    have vR4 := (vR2.gbY hg3 hneRB).oset w1.heap.size 1 (.int .i64 A) hRX
    have vB4 := vB3.oset w1.heap.size 1 (.int .i64 A) hBX
    have gW4 := gb_setY (grownBy_trans' gW2 hg3) w1.heap.size 1 (.int .i64 A) (by omega)
    clear vX2 vR2 vB2 gW2 vG2 hg3 vX3 vB3 g0
    cases ok
    · have HNO := Lib.hid (Jo.one_num_no (.inl HC.out) (HQ.out.2 rfl))
      clear HQ vX4
      obtain ⟨r0, r1, r2, r3⟩ := Bk.c4 vR4
      obtain ⟨z0, z1, z2, z3⟩ := vR4.f4
      have vR9 := Bk.store4 vR4 (.int .i64 0) (.int .i64 0) (.int .i64 0) (.string ⟨#[]⟩)
      have gW9 := gb_set4Y gW4 w.heap.size (Nat.le_refl _) (.int .i64 0) (.int .i64 0) (.int .i64 0) (.string ⟨#[]⟩)
      have vB9 := Bk.other4 vB4 w.heap.size hBR (.int .i64 0) (.int .i64 0) (.int .i64 0) (.string ⟨#[]⟩)
      clear vR4 gW4 vB4
      go_wp2
      refine bodyPost_ret (results_cell_tmp3Y (P := Try.prog) rfl _ _ w.heap.size 46 _ (0, 0) _ rfl vR9.held Try.underlying46 rfl (by kernel_rfl)) rfl ?_
      exact .inl ⟨HNO.out, ⟨_, _, _, _, _, rfl, vB9⟩, gW9⟩
    have HYES : Hid (Jo.one s = some (⟨13, A, 0, ⟨#[]⟩⟩, r3)) := Lib.hid (by
      have := Jo.one_num (.inl HC.out) (HQ.out.1 rfl)
      rw [HC.out] at this; exact this)
    obtain ⟨y0, y1, y2, y3⟩ := Bk.c4 vX4
    clear HQ vX4
    go_wp2
    clear f0 f1 f2 f3 x1
    rw [rounds_succ]
    obtain ⟨r0, r1, r2, r3⟩ := Bk.c4 vR4
    obtain ⟨z0, z1, z2, z3⟩ := vR4.f4
    have vR9 := Bk.store4 vR4 (.int .i64 13) (.int .i64 A) (.int .i64 0) (.string ⟨#[]⟩)
    have gW9 := gb_set4Y gW4 w.heap.size (Nat.le_refl _) (.int .i64 13) (.int .i64 A) (.int .i64 0) (.string ⟨#[]⟩)
    have vB9 := Bk.other4 vB4 w.heap.size hBR (.int .i64 13) (.int .i64 A) (.int .i64 0) (.string ⟨#[]⟩)
    clear vR4 gW4 vB4
    go_wp2
    refine bodyPost_ret (results_cell_tmp3Y (P := Try.prog) rfl _ _ w.heap.size 46 _ (0, 0) _ rfl vR9.held Try.underlying46 rfl (by kernel_rfl)) rfl ?_
    exact .inr ⟨_, _, _, _, _, HYES.out, rfl, vB9, gW9⟩
  have q13 : (c == 13) = false := by simpa using k13
  by_cases k14 : c = 14
  · subst k14
    obtain ⟨d0, d1, d2, d3⟩ := Bk.c4 vX1
    go_wp2_with fail
    refine (numbers_one w1.heap.size 14 _ d0 (by omega)).mono ?_
    rintro e w2 ⟨g, rfl, vG2, hgl, hbm⟩
    have vX2 := vX1.below hbm
    have vR2 := vR1.below hbm
    have vB2 := vB1.below hbm
    have gW2 := gb_belowY gW1 hbm
    have hgl' : w1.heap.size < g := by simp at hgl; omega
    have g0 : w2.cell? ⟨g, 0, none⟩ = some (.pointer (some ⟨w1.heap.size, 1, none⟩)) := vG2.cell 0
    clear vX1 vR1 vB1 gW1 hbm d0 d1 d2 d3
    go_wp2
    refine wp_loop_rounds 2 ?_
    rw [rounds_succ]
    go_wp2_with fail
    refine (takeNum_gen B (En.rest s 1) _ vB2).mono ?_
    rintro e w3 ⟨A, ok, r3, rfl, vB3, hg3, HQ⟩
    have vX3 := vX2.gbY hg3 hneXB
    obtain ⟨f0, f1, f2, f3⟩ := vX3.f4
    have x1 : w3.cell? ⟨w1.heap.size, 1, none⟩ = some (.int .i64 0) := vX3.cell 1
    have vX4 : Bk w1.heap.size 46 #[.int .i64 14, .int .i64 A, .int .i64 0, .string ⟨#[]⟩] _ := vX3.set 1 (.int .i64 A)
    have vR4 := (vR2.gbY hg3 hneRB).oset w1.heap.size 1 (.int .i64 A) hRX
    have vB4 := vB3.oset w1.heap.size 1 (.int .i64 A) hBX
    have gW4 := gb_setY (grownBy_trans' gW2 hg3) w1.heap.size 1 (.int .i64 A) (by omega)
    clear vX2 vR2 vB2 gW2 vG2 hg3 vX3 vB3 g0
    cases ok
    · have HNO := Lib.hid (Jo.one_num_no (.inr HC.out) (HQ.out.2 rfl))
      clear HQ vX4
      obtain ⟨r0, r1, r2, r3⟩ := Bk.c4 vR4
      obtain ⟨z0, z1, z2, z3⟩ := vR4.f4
      have vR9 := Bk.store4 vR4 (.int .i64 0) (.int .i64 0) (.int .i64 0) (.string ⟨#[]⟩)
      have gW9 := gb_set4Y gW4 w.heap.size (Nat.le_refl _) (.int .i64 0) (.int .i64 0) (.int .i64 0) (.string ⟨#[]⟩)
      have vB9 := Bk.other4 vB4 w.heap.size hBR (.int .i64 0) (.int .i64 0) (.int .i64 0) (.string ⟨#[]⟩)
      clear vR4 gW4 vB4
      go_wp2
      refine bodyPost_ret (results_cell_tmp3Y (P := Try.prog) rfl _ _ w.heap.size 46 _ (0, 0) _ rfl vR9.held Try.underlying46 rfl (by kernel_rfl)) rfl ?_
      exact .inl ⟨HNO.out, ⟨_, _, _, _, _, rfl, vB9⟩, gW9⟩
    have HYES : Hid (Jo.one s = some (⟨14, A, 0, ⟨#[]⟩⟩, r3)) := Lib.hid (by
      have := Jo.one_num (.inr HC.out) (HQ.out.1 rfl)
      rw [HC.out] at this; exact this)
    obtain ⟨y0, y1, y2, y3⟩ := Bk.c4 vX4
    clear HQ vX4
    go_wp2
    clear f0 f1 f2 f3 x1
    rw [rounds_succ]
    obtain ⟨r0, r1, r2, r3⟩ := Bk.c4 vR4
    obtain ⟨z0, z1, z2, z3⟩ := vR4.f4
    have vR9 := Bk.store4 vR4 (.int .i64 14) (.int .i64 A) (.int .i64 0) (.string ⟨#[]⟩)
    have gW9 := gb_set4Y gW4 w.heap.size (Nat.le_refl _) (.int .i64 14) (.int .i64 A) (.int .i64 0) (.string ⟨#[]⟩)
    have vB9 := Bk.other4 vB4 w.heap.size hBR (.int .i64 14) (.int .i64 A) (.int .i64 0) (.string ⟨#[]⟩)
    clear vR4 gW4 vB4
    go_wp2
    refine bodyPost_ret (results_cell_tmp3Y (P := Try.prog) rfl _ _ w.heap.size 46 _ (0, 0) _ rfl vR9.held Try.underlying46 rfl (by kernel_rfl)) rfl ?_
    exact .inr ⟨_, _, _, _, _, HYES.out, rfl, vB9, gW9⟩
  have q14 : (c == 14) = false := by simpa using k14
  obtain ⟨d0, d1, d2, d3⟩ := Bk.c4 vX1
  have HYES : Hid (Jo.one s = some (⟨c, 0, 0, ⟨#[]⟩⟩, En.rest s 1)) := Lib.hid (by
    have := Jo.one_bare (r := s) (by rw [HC.out]; exact k0) (by rw [HC.out]; exact k12) (by rw [HC.out]; exact k13) (by rw [HC.out]; exact k14)
    rw [HC.out] at this; exact this)
  go_wp2_with fail
  refine (numbers_none w1.heap.size c _ d0 k12 k13 k14).mono ?_
  rintro e wn ⟨rfl, hwn⟩
  rw [← hwn] at vR1 gW1 vB1 d0 d1 d2 d3
  clear k0 k12 k13 k14 vX1 hwn
  go_wp2
  refine wp_loop_rounds 1 ?_
  rw [rounds_succ]
  obtain ⟨r0, r1, r2, r3⟩ := Bk.c4 vR1
  obtain ⟨z0, z1, z2, z3⟩ := vR1.f4
  have vR9 := Bk.store4 vR1 (.int .i64 c) (.int .i64 0) (.int .i64 0) (.string ⟨#[]⟩)
  have gW9 := gb_set4Y gW1 w.heap.size (Nat.le_refl _) (.int .i64 c) (.int .i64 0) (.int .i64 0) (.string ⟨#[]⟩)
  have vB9 := Bk.other4 vB1 w.heap.size hBR (.int .i64 c) (.int .i64 0) (.int .i64 0) (.string ⟨#[]⟩)
  clear vR1 gW1 vB1
  go_wp2
  refine bodyPost_ret (results_cell_tmp3Y (P := Try.prog) rfl _ _ w.heap.size 46 _ (0, 0) _ rfl vR9.held Try.underlying46 rfl (by kernel_rfl)) rfl ?_
  exact .inr ⟨_, _, _, _, _, HYES.out, rfl, vB9, gW9⟩
/-- What is left with the taker. -/
def Jo.leftT (B : Nat) (w : World) : Nat := match w.cell? ⟨B, 0, none⟩ with
  | some (.string r) => r.size
  | _ => 0
theorem Jo.leftT_eq {B : Nat} {w : World} {r : ByteArray} (h : Bk B 9 #[.string r] w) : Jo.leftT B w = r.size := by
  unfold Jo.leftT
  rw [show w.cell? ⟨B, 0, none⟩ = some (.string r) from h.cell 0]
theorem RdI.long {s r : ByteArray} {acc : List Jo} (h : RdI s acc r false) (hn : acc.length = 40) (hr : 0 < r.size) : Jo.read s = none := by
  have h1 := (h.1 rfl).1
  unfold Jo.all at h1
  unfold Jo.read
  rw [h1]
  cases hx : Jo.rd r.size r with
  | none => rfl
  | some l =>
    simp only
    rw [if_neg]
    intro hok
    have hl := ((Jo.ok_iff _).1 hok).1
    rw [List.length_append, hn] at hl
    have hl0 : l = [] := by
      cases l with
      | nil => rfl
      | cons a l => rw [List.length_cons] at hl; omega
    subst hl0
    have := Jo.bytes_rd _ _ _ hx
    rw [← this] at hr
    exact absurd hr (by decide)
theorem RdI.none_ {s r : ByteArray} {acc : List Jo} (h : RdI s acc r false) (hr : 0 < r.size) (h1 : Jo.one r = none) : Jo.read s = none := by
  have h2 := (h.1 rfl).1
  rw [Jo.all_none hr h1] at h2
  unfold Jo.all at h2
  unfold Jo.read
  rw [h2]
set_option maxRecDepth 100000 in
set_option maxHeartbeats 3200000 in
theorem implScriptRead_any (s : ByteArray) (w : World) (hs : s.size ≤ 1048576) : Calls Try.prog 11 #[.string s] w (JoRd s w) := by
  obtain ⟨i0, hi, hz0, hz1, hz2⟩ := info_parts info_op
  go_enter Try.func11, Try.ntmps11
  go_wp2_with fail
  refine (bytesOf_any s _).mono ?_
  rintro e w0 ⟨rfl, rfl⟩
  go_wp2
  go_loopw [6] (fun v wr => ∃ (acc : List Jo) (r : ByteArray), Hid (wr.ownsRow w.heap.size 46 4 v acc.length (Jo.cells acc)) ∧ Hid (Bk w.heap.size 9 #[.string r] wr) ∧ Hid (RdI s acc r false) ∧ Below w.heap.size w wr)
    (fun _ wr => Jo.leftT w.heap.size wr)
  case atStart => exact ⟨[], s, Lib.hid ⟨rfl, .inl ⟨rfl, rfl⟩⟩, Lib.hid (Bk.new _ _ _), Lib.hid (RdI.start s), (Below.refl _ _).alloc (Nat.le_refl _) _⟩
  case round =>
    obtain ⟨acc, r, HOWN, HR, HI, hbel⟩ := hrel
    have hE := str_empty_iff r
    have HLEFT := Lib.hid (Jo.leftT_eq HR.out)
    have hacc := HI.out.2.2
    obtain ⟨n, HN⟩ : ∃ n, Hid (acc.length = n) := ⟨_, Lib.hid rfl⟩
    rw [HN.out] at hacc HOWN
    obtain ⟨va, vc, rfl⟩ : ∃ va vc, u6 = .slice va n vc := by
      rcases HOWN.out.2 with ⟨h1, h2⟩ | ⟨g, cap', cur, h1, _⟩
      · exact ⟨none, 0, by rw [h1, h2]⟩
      · exact ⟨_, _, h1⟩
    go_wp2_with fail
    refine (rest_any w.heap.size r _ HR.out.held).mono ?_
    rintro e wx ⟨rfl, rfl⟩
    by_cases h0 : r.size = 0
    · have hne : r.toList.isEmpty = true := by rw [hE]; exact decide_eq_true h0
      have HD := Lib.hid (HI.out.done h0)
      have hol := OL.own HOWN.out
      have hcon := implScriptOk_any va n vc acc _ hol.2 (by omega)
      clear hE HI hol
      obtain ⟨f, HF⟩ : ∃ f, Hid (Jo.ok acc = f) := ⟨_, Lib.hid rfl⟩
      rw [HF.out] at hcon HD
      go_wp2_with fail
      refine hcon.mono ?_
      rintro e w1 ⟨rfl, hb1⟩
      have hbel1 := below_aft9 hbel hb1
      have HO1 : Hid (w1.ownsRow w.heap.size 46 4 (.slice va n vc) n (Jo.cells acc)) := Lib.hid (HOWN.out.kept (row := none) ⟨hb1.os, hb1.tape, hb1.output, hb1.size, fun q hq _ => hb1.block q hq⟩ (Classical.em _))
      clear hcon HOWN hb1 hbel
      cases f
      · go_wp2
        go_ret2
        exact .inl ⟨by rw [HD.out]; rfl, rfl, hbel1⟩
      · go_wp2
        go_ret2
        exact .inr ⟨acc, va, vc, by rw [HD.out]; rfl, by rw [HN.out]; rfl, by rw [HN.out]; exact HO1.out, hbel1⟩
    · have hne : r.toList.isEmpty = false := by rw [hE]; exact decide_eq_false h0
      have hpos : 0 < r.size := by omega
      have HP := Lib.hid hpos
      have hbs := hbel.size
      have hRlt := HR.out.lt
      have HNONE := Lib.hid (fun h => HI.out.none_ hpos h)
      have HLONG := Lib.hid (fun h => HI.out.long h hpos)
      have HST := Lib.hid (fun x r2 h => HI.out.step (x := x) (r2 := r2) (b := false) hpos (fun _ => h) (fun h => by cases h))
      clear hE h0
      go_wp2_with fail
      refine (takeOp_any w.heap.size r _ hpos HR.out).mono ?_
      rintro e w1 (⟨hno, ⟨c, a, b, t, r2, rfl, vB1⟩, hg1⟩ | ⟨c, a, b, t, r2, hyes, rfl, vB1, hg1⟩)
      · have HB := Lib.hid (HNONE.out hno)
        have hbel1 := ((Below.grown hbel hg1 hbs (fun j hj => by cases hj; exact Nat.le_refl _))).alloc (by have := hg1.size; omega) (.cells #[.int .i64 c, .int .i64 a, .int .i64 b, .string t] 46 (0, 0))
        clear HNONE HLONG HST hno HI HOWN
        go_wp2
        go_ret2
        exact .inl ⟨HB.out, rfl, hbel1⟩
      have hbel0 := Below.grown hbel hg1 hbs (fun j hj => by cases hj; exact Nat.le_refl _)
      have hbs1 := hbel0.size
      have hbel1 := hbel0.alloc hbs1 (.cells #[.int .i64 c, .int .i64 a, .int .i64 b, .string t] 46 (0, 0))
      by_cases hn : n = 40
      · have HB := Lib.hid (HLONG.out (HN.out.trans hn))
        subst hn
        clear HNONE HLONG HST hyes HI HOWN
        go_wp2
        go_ret2
        exact .inl ⟨HB.out, rfl, hbel1⟩
      have hn40 : ((n : Int) == 40) = false := by simpa using fun e : (n : Int) = 40 => hn (by omega)
      have hneR : (.slice va n vc : Value).ownBlock ≠ some w.heap.size := own_type HOWN.out (by decide) HR.out.held
      have HO1 := Lib.hid ((HOWN.out.kept (row := some w.heap.size) hg1 (.inr hneR)).alloc (.cells #[.int .i64 c, .int .i64 a, .int .i64 b, .string t] 46 (0, 0)))
      have vX1 := Bk.new w1 46 #[.int .i64 c, .int .i64 a, .int .i64 b, .string t]
      obtain ⟨y0, y1, y2, y3⟩ := Bk.c4 vX1
      have vB2 := Lib.hid (vB1.alloc (.cells #[.int .i64 c, .int .i64 a, .int .i64 b, .string t] 46 (0, 0)))
      have HYES := Lib.hid hyes
      have S1 := Lib.hid (four_new (w1.alloc (.cells #[.int .i64 c, .int .i64 a, .int .i64 b, .string t] 46 (0, 0))) (.int .i64 c) (.int .i64 a) (.int .i64 b) (.string t) 46 (w1.heap.size + 1) (by simp))
      have hsz := hbel1.size
      clear HNONE HLONG hyes HI HOWN hneR vX1 vB1 hg1
      go_wp2_with (at_builtin; refine wpList_append_own _ rfl _ _ 23 rfl w.heap.size 46 i0 (.agg #[.int .i64 0, .int .i64 0, .int .i64 0, .string ⟨#[]⟩]) 4 40 Try.underlying23 hi hz0 hz1 hz2 rfl (by decide) _ _ _ rfl (HO1.out.alloc (.cells #[.int .i64 c, .int .i64 a, .int .i64 b, .string t] 46 (0, 0))) ⟨w1.heap.size + 1, 0, none⟩ 1 1 [.int .i64 c, .int .i64 a, .int .i64 b, .string t] rfl rfl ?_ ?_ ?_ ?_ ?_ ?_)
      any_goals first | exact S1.out | (intro u hu; simp at hu; rcases hu with rfl | rfl | rfl | rfl <;> rfl) | (unfold maxLen; omega) | omega | exact Nat.le_trans hsz (by simp) | (simp; omega)
      intro v' w5 hown5 hgrow _
      have hneR : some w.heap.size ≠ (.slice va n vc : Value).ownBlock := fun h => own_type HO1.out (by decide) vB2.out.held h.symm
      have vB5 : Hid (Bk w.heap.size 9 #[.string r2] w5) := Lib.hid ((vB2.out.alloc _).gbY hgrow hneR)
      have HI5 := Lib.hid (HST.out _ _ HYES.out)
      have hown6 : Hid (w5.ownsRow w.heap.size 46 4 v' (acc ++ [(⟨c, a, b, t⟩ : Jo)]).length (Jo.cells (acc ++ [(⟨c, a, b, t⟩ : Jo)]))) := Lib.hid (by
        rw [List.length_append, HN.out, Jo.cells_append]
        exact hown5)
      have hbel5 : Below w.heap.size w w5 := (hbel1.alloc hsz (.cells #[.int .i64 c, .int .i64 a, .int .i64 b, .string t] 46 (0, 0))).grown hgrow (Nat.le_trans hsz (by simp)) (fun q hq => (HO1.out.lt _ hq).1)
      have HM5 := Lib.hid (show Jo.leftT w.heap.size w5 < _ by rw [Jo.leftT_eq vB5.out]; exact Nat.lt_of_lt_of_eq (Jo.one_size HP.out HYES.out) HLEFT.out.symm)
      clear hown5 hgrow hneR
      go_wp2
      go_roundw
      case rel => exact ⟨_, _, hown6, vB5, HI5, hbel5⟩
      case measure => exact HM5.out
end Go.Proofs.Ytpldoffjclmacaa
