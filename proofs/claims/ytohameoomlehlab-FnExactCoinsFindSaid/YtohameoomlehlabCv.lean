/-
  Contracts of the program's coins: one less.
-/
import Derived.Test.YtohameoomlehlabCt
namespace Go.Proofs.Ytohameoomlehlab
open Go.RowKit Go.Maps
theorem gset6V (w : World) (B i : Nat) (v : Value) : w.grownBy (w.setCell ⟨B, i, none⟩ v) (some B) := ⟨rfl, rfl, rfl, by simp [World.setCell], fun j _ hr => Below.heap_setCell _ _ _ _ (fun e => hr (by simp [e]))⟩
theorem CM.set6 {w : World} {B n D : Nat} {l : List Co} (h : CM w B n l) (hB : B ≠ D) (v0 v1 v2 v3 v4 v5 : Value) : CM ((((((w.setCell ⟨D, 0, none⟩ v0).setCell ⟨D, 1, none⟩ v1).setCell ⟨D, 2, none⟩ v2).setCell ⟨D, 3, none⟩ v3).setCell ⟨D, 4, none⟩ v4).setCell ⟨D, 5, none⟩ v5) B n l :=
  have hne : some B ≠ some D := fun e => hB (Option.some.inj e)
  (((((h.kept (gset6V _ D 0 v0) hne).kept (gset6V _ D 1 v1) hne).kept (gset6V _ D 2 v2) hne).kept (gset6V _ D 3 v3) hne).kept (gset6V _ D 4 v4) hne).kept (gset6V _ D 5 v5) hne
def SpQ (B n n0 : Nat) (l : List Co) (t o : Int) (w : World) (e : Ending) (w' : World) : Prop :=
  e = .returned (.tuple #[Co.val (Co.get (Co.pick l t o)), .bool (Co.pick l t o).isSome]) ∧ (∀ c, Co.pick l t o = some c → CM w' B n (Co.drop l t o)) ∧ Below n0 w w'
set_option maxRecDepth 100000 in
set_option maxHeartbeats 400000 in
theorem spend_any (B n n0 : Nat) (l : List Co) (t o : Int) (w : World) (h : CM w B n l) (h0 : n0 ≤ B) (hi : Co.In t o) :
    Calls Try.prog 47 #[.map (some B), .agg #[.int .i64 t, .int .i64 o]] w (SpQ B n n0 l t o w) := by
  have hBl := h.lt
  have hw0 : n0 ≤ w.heap.size := by omega
  obtain ⟨y, hy⟩ : ∃ y, Co.get (Co.pick l t o) = y := ⟨_, rfl⟩
  obtain ⟨p, hp⟩ : ∃ p, (Co.pick l t o).isSome = p := ⟨_, rfl⟩
  have HQ : Hid (SpQ B n n0 l t o w = fun e w' => e = .returned (.tuple #[Co.val y, .bool p]) ∧ (∀ c, Co.pick l t o = some c → CM w' B n (Co.drop l t o)) ∧ Below n0 w w') := Lib.hid (by unfold SpQ; rw [hy, hp])
  obtain ⟨y0, y1, y2, y3, y4, y5⟩ := y
  have HM2 := Lib.hid (((h.alloc (.cells #[.int .i64 t, .int .i64 o] 60 (0, 0))).alloc (.cells #[.int .i64 0, .int .i64 0, .int .i64 0, .string ⟨#[]⟩, .int .i64 0, .bool false] 30 (0, 0))))
  have v1 : Bk w.heap.size 60 #[.int .i64 t, .int .i64 o] ((w.alloc (.cells #[.int .i64 t, .int .i64 o] 60 (0, 0))).alloc (.cells #[.int .i64 0, .int .i64 0, .int .i64 0, .string ⟨#[]⟩, .int .i64 0, .bool false] 30 (0, 0))) := (Bk.new _ _ _).alloc _
  have v2 : Bk (w.heap.size + 1) 30 #[.int .i64 0, .int .i64 0, .int .i64 0, .string ⟨#[]⟩, .int .i64 0, .bool false] ((w.alloc (.cells #[.int .i64 t, .int .i64 o] 60 (0, 0))).alloc (.cells #[.int .i64 0, .int .i64 0, .int .i64 0, .string ⟨#[]⟩, .int .i64 0, .bool false] 30 (0, 0))) := Bk.new' _ _ _ _ (by simp)
  have hb2 : Below n0 w ((w.alloc (.cells #[.int .i64 t, .int .i64 o] 60 (0, 0))).alloc (.cells #[.int .i64 0, .int .i64 0, .int .i64 0, .string ⟨#[]⟩, .int .i64 0, .bool false] 30 (0, 0))) := ((Below.refl _ _).alloc (by omega) _).alloc (by simp; omega) _
  have hlk := HM2.out.look hi
  have hyy := hy
  unfold Co.get at hyy
  rw [hyy, hp] at hlk
  simp only [Co.kv, Co.val] at hlk
  have v3 := v1.alloc (.cells #[.int .i64 y0, .int .i64 y1, .int .i64 y2, .string y3, .int .i64 y4, .bool y5] 30 (0, 0))
  have v4 := v2.alloc (.cells #[.int .i64 y0, .int .i64 y1, .int .i64 y2, .string y3, .int .i64 y4, .bool y5] 30 (0, 0))
  obtain ⟨W2, HW⟩ : ∃ W, Hid (((w.alloc (.cells #[.int .i64 t, .int .i64 o] 60 (0, 0))).alloc (.cells #[.int .i64 0, .int .i64 0, .int .i64 0, .string ⟨#[]⟩, .int .i64 0, .bool false] 30 (0, 0))) = W) := ⟨_, Lib.hid rfl⟩
  have hz2 : W2.heap.size = w.heap.size + 1 + 1 := by rw [← HW.out]; simp
  rw [HW.out] at HM2 hb2 hlk v3 v4
  have v5 : Bk (w.heap.size + 1 + 1) 30 #[.int .i64 y0, .int .i64 y1, .int .i64 y2, .string y3, .int .i64 y4, .bool y5] (W2.alloc (.cells #[.int .i64 y0, .int .i64 y1, .int .i64 y2, .string y3, .int .i64 y4, .bool y5] 30 (0, 0))) := by rw [← hz2]; exact Bk.new _ _ _
  have hb3 := hb2.alloc (Nat.le_trans hw0 hb2.size) (.cells #[.int .i64 y0, .int .i64 y1, .int .i64 y2, .string y3, .int .i64 y4, .bool y5] 30 (0, 0))
  obtain ⟨w3, hdel, HD⟩ : ∃ w3, (∀ ty, (Builtin.delete_ #[56, 60] ty #[.map (some B), .agg #[.int .i64 t, .int .i64 o]]).run Try.prog (W2.alloc (.cells #[.int .i64 y0, .int .i64 y1, .int .i64 y2, .string y3, .int .i64 y4, .bool y5] 30 (0, 0))) = .ok (.tuple #[]) w3) ∧ Hid ((∀ c, Co.pick l t o = some c → CM w3 B n (Co.drop l t o)) ∧ (W2.alloc (.cells #[.int .i64 y0, .int .i64 y1, .int .i64 y2, .string y3, .int .i64 y4, .bool y5] 30 (0, 0))).grownBy w3 (some B)) := by
    obtain ⟨w3, k1, k2, k3, k4⟩ := (HM2.out.alloc (.cells #[.int .i64 y0, .int .i64 y1, .int .i64 y2, .string y3, .int .i64 y4, .bool y5] 30 (0, 0))).del_all hi
    exact ⟨w3, k1, Lib.hid ⟨k2, k3⟩⟩
  have hg := HD.out.2
  have x4 : Bk (w.heap.size + 1) 30 #[.int .i64 0, .int .i64 0, .int .i64 0, .string ⟨#[]⟩, .int .i64 0, .bool false] w3 := ⟨(hg.block _ v4.lt (by simp; omega)).trans v4.held⟩
  have x5 : Bk (w.heap.size + 1 + 1) 30 #[.int .i64 y0, .int .i64 y1, .int .i64 y2, .string y3, .int .i64 y4, .bool y5] w3 := ⟨(hg.block _ v5.lt (by simp; omega)).trans v5.held⟩
  have hb4 := hb3.grown hg (Nat.le_trans hw0 hb3.size) (fun j hj => by cases hj; exact h0)
  have hR := x4.store6 (.int .i64 y0) (.int .i64 y1) (.int .i64 y2) (.string y3) (.int .i64 y4) (.bool y5)
  have hb5 := below_set6 hb4 (B := w.heap.size + 1) (by omega) (.int .i64 y0) (.int .i64 y1) (.int .i64 y2) (.string y3) (.int .i64 y4) (.bool y5)
  obtain ⟨p0, p1, _, _⟩ := bk2C v1
  obtain ⟨p0', p1', _, _⟩ := bk2C v3
  obtain ⟨q0, q1, q2, q3, q4, q5⟩ := Bk.c6 x5
  obtain ⟨f0, f1, f2, f3, f4, f5⟩ := Bk.f6 x4
  obtain ⟨r0, r1, r2, r3, r4, r5⟩ := Bk.c6 x4
  rw [HQ.out]
  clear HQ hy hyy hp v1 v2 v3 v4 v5 x4 x5 hb2 hb3 HM2 hg h
  go_enter Try.func47, Try.ntmps47
  go_wp2_with fail
  rw [HW.out, hlk]
  clear HW hlk
  go_wp2
  refine bodyPost_ret (results_cell_rowC (P := Try.prog) rfl _ _ (w.heap.size + 1) 30 _ (0, 0) _ rfl hR.held Try.underlying30 rfl (by kernel_rfl)) rfl ?_
  exact ⟨rfl, fun c hc => (HD.out.1 c hc).set6 (by omega) _ _ _ _ _ _, hb5⟩
end Go.Proofs.Ytohameoomlehlab
