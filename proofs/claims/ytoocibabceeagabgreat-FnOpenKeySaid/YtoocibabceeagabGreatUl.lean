/-
  What the laws on witnesses use: locks that are made, and what opens them.
-/
import Derived.Test.YtoocibabceeagabGreatUk
import Derived.Test.YtoocibabceeagabGreatUb
import Derived.Test.YtoocibabceeagabGreatUh
import Derived.Test.YtoocibabceeagabGreatUc
import Derived.Laws.Rows
namespace Go.Proofs.YtoocibabceeagabGreat
open Go.RowKit

set_option maxRecDepth 100000 in
set_option maxHeartbeats 3200000 in
theorem wcSig_any (s : ByteArray) (w : World) :
    Calls Tryz.prog 19 #[.string s] w fun e w' => e = .returned (.agg #[.int .i64 (Jo.sr s), .int .i64 (Jo.ss s)]) ∧ Below w.heap.size w w' := by
  have vR0 := Bk.new w 38 #[.int .i64 0, .int .i64 0]
  have hb0 : Below w.heap.size w (w.alloc (.cells #[.int .i64 0, .int .i64 0] 38 (0, 0))) := (Below.refl _ _).alloc (Nat.le_refl _) _
  have hcon := fun W => implItemSig_any s W
  obtain ⟨r, HR⟩ : ∃ r, Hid (Jo.sr s = r) := ⟨_, Lib.hid rfl⟩
  obtain ⟨t, HT⟩ : ∃ r, Hid (Jo.ss s = r) := ⟨_, Lib.hid rfl⟩
  obtain ⟨f, HF⟩ : ∃ r, Hid (decide (s.size = 8) = r) := ⟨_, Lib.hid rfl⟩
  rw [HR.out, HT.out, HF.out] at hcon
  rw [HR.out, HT.out]
  clear HR HT HF
  go_enter Tryz.func19, Tryz.ntmps19
  go_wp2_with fail
  refine (hcon _).mono ?_
  rintro e w2 ⟨rfl, hx⟩
  have hb2 := below_aft9 hb0 hx
  have vR3 := (vR0.below hx).alloc (.cells #[.int .i64 r, .int .i64 t] 38 (0, 0))
  have HX := Bk.new w2 38 #[.int .i64 r, .int .i64 t]
  obtain ⟨c0, c1⟩ := Bk.c2 HX
  obtain ⟨r0, r1⟩ := Bk.c2 vR3
  obtain ⟨f0, f1⟩ := vR3.f2
  have vR9 := vR3.store2 (.int .i64 r) (.int .i64 t)
  have hb9 := below_store2 (below_alloc hb2 (.cells #[.int .i64 r, .int .i64 t] 38 (0, 0))) w.heap.size (Nat.le_refl _) (.int .i64 r) (.int .i64 t)
  clear hx hb2 vR0 hb0 HX vR3
  go_wp2
  refine bodyPost_ret (results_cell_row (P := Tryz.prog) rfl _ _ w.heap.size 38 _ (0, 0) _ rfl vR9.held Tryz.underlying38 rfl (by kernel_rfl)) rfl ?_
  exact ⟨rfl, hb9⟩
theorem Gr.kok_base : Gr.kok 4 = true := (Sg.kok_iff 4).2 ⟨Gr.base, by decide⟩
theorem keyOf_sec (x : Int) (hx : Wt.sec x = true) (w : World) : Calls Tryz.prog 15 #[.int .i64 x] w fun e w' => e = .returned (.tuple #[.int .i64 (Sg.gp x), .bool true]) ∧ Below w.heap.size w w' := by
  have h := implKeyOf_any x w
  rw [Sg.key_ok (Wt.sec_sok hx), Wt.sec_sok hx] at h
  exact h
/-- What a lock's function that succeeds hands back. -/
def LkY (l : List Jo) (w : World) (e : Ending) (w' : World) : Prop := e = .returned (.tuple #[.string (Jo.bs l), .bool true]) ∧ Below w.heap.size w w'
theorem LkQ.yes {ok : Bool} {l : List Jo} {w : World} {e : Ending} {w' : World} (hk : ok = true) (h : LkQ ok l w e w') : LkY l w e w' := by
  subst hk
  exact h
theorem lockKey_sec (x : Int) (hx : Wt.sec x = true) (w : World) : Calls Tryz.prog 16 #[.int .i64 (Sg.gp x)] w (LkY (Lk.key (Sg.gp x)) w) :=
  (implLockKey_any (Sg.gp x) w).mono fun _ _ h => LkQ.yes (Wt.kok_gp hx) h
theorem Lk.timed_yes {d p h q : Int} (hd : 0 ≤ d ∧ d ≤ 4294967295) (hp : Gr.kok p = true) (hq : Gr.kok q = true) (hh : 0 ≤ h ∧ h ≤ 9999) : Lk.timedOk d p h q = true := by
  unfold Lk.timedOk
  rw [hp, hq]
  simp [hd, hh]
theorem Lk.rev_yes {r d o : Int} (hr : Gr.kok r = true) (ho : Gr.kok o = true) (hd : 1 ≤ d ∧ d ≤ 99) : Lk.revocableOk r d o = true := by
  unfold Lk.revocableOk
  rw [hr, ho]
  simp [hd]
theorem lockTimed_yes (d p h q : Int) (ht : Lk.timedOk d p h q = true) (w : World) : Calls Tryz.prog 27 #[.int .i64 d, .int .i64 p, .int .i64 h, .int .i64 q] w (LkY (Lk.timed d p h q) w) :=
  (implLockTimed_any d p h q w).mono fun _ _ g => LkQ.yes ht g
theorem lockRev_yes (r d o : Int) (ht : Lk.revocableOk r d o = true) (w : World) : Calls Tryz.prog 33 #[.int .i64 r, .int .i64 d, .int .i64 o] w (LkY (Lk.revocable r d o) w) :=
  (implLockRevocable_any r d o w).mono fun _ _ g => LkQ.yes ht g
theorem unlock_lock {l : List Jo} (hok : Jo.ok l = true) (L : List ByteArray) (T : ByteArray) (h k : Int) (v : Bool) (hv : Vm.opens ⟨T, h, k⟩ (some l) L = v) (hz : ∀ s ∈ L, s.size ≤ 9223372036854775807) (hT : T.size ≤ 1048576) (g n c : Nat) (hn : n ≤ 100) (w : World) (hs : SR w (some ⟨g, 0, none⟩) n L) :
    Calls Tryz.prog 17 #[.string (Jo.bs l), .slice (some ⟨g, 0, none⟩) n c, .agg #[.string T, .int .i64 h, .int .i64 k]] w fun e w' => e = .returned (.bool v) ∧ Below w.heap.size w w' := by
  have hb := Jo.bs_size l
  have := implUnlock_any (Jo.bs l) (some ⟨g, 0, none⟩) n c L ⟨T, h, k⟩ w (by omega) hs (by omega) hz (fun h => by cases h) hT
  unfold UnP at this
  rw [Jo.read_bs hok, hv] at this
  exact this
theorem Wt.tr_one : Wt.tr true = ⟨#[1]⟩ := rfl
theorem Wt.tr_eq (b : Bool) : Vm.tr b = Wt.tr b := rfl
theorem Wt.sizes1 (x : Int) (t : ByteArray) : ∀ s ∈ [Wt.sig x t], s.size ≤ 9223372036854775807 := fun s h => by
  simp at h
  rw [h, Wt.sig_size]
  decide
theorem Wt.sizes2 (x : Int) (t b : ByteArray) (hb : b.size ≤ 80) : ∀ s ∈ [Wt.sig x t, b], s.size ≤ 9223372036854775807 := fun s h => by
  simp at h
  rcases h with rfl | rfl
  · rw [Wt.sig_size]; decide
  · omega
theorem Wt.sizes3 (x : Int) (t p b : ByteArray) (hp : p.size ≤ 80) (hb : b.size ≤ 80) : ∀ s ∈ [Wt.sig x t, p, b], s.size ≤ 9223372036854775807 := fun s h => by
  simp at h
  rcases h with rfl | rfl | rfl
  · rw [Wt.sig_size]; decide
  · omega
  · omega
end Go.Proofs.YtoocibabceeagabGreat
