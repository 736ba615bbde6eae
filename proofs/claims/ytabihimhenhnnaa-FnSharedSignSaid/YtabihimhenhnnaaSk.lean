/-
  Contracts of chapter 5: Verify; of the program and of the model.
-/
import Derived.Test.YtabihimhenhnnaaSj
namespace Go.Proofs.Ytabihimhenhnnaa
open Go.RowKit

set_option maxRecDepth 100000 in
set_option maxHeartbeats 1600000 in
theorem implVerify_any (key r s : Int) (t : ByteArray) (w : World) (ht : t.size ≤ 1048576) :
    Calls Try.prog 15 #[.int .i64 key, .string t, .agg #[.int .i64 r, .int .i64 s]] w fun x w' => x = .returned (.bool (Sg.ver key t r s)) ∧ Below w.heap.size w w' := by
  have HQ : Hid (Sg.ver key t r s = (Sg.shape key r s && Sg.eqn key (Sg.ch r key t) r s)) := Lib.hid rfl
  have hc0 := below_alloc (Below.refl w.heap.size w) (.cells #[.int .i64 r, .int .i64 s] 32 (0, 0))
  cases hs : Sg.shape key r s
  · have hcon1 := fun W => asEquation_no key r s t W hs
    rw [HQ.out, hs, Bool.false_and]
    clear hs HQ
    go_enter Try.func15, Try.ntmps15
    go_wp2_with fail
    refine (hcon1 _).mono ?_
    rintro x1 w1 ⟨rfl, hb1⟩
    have hc1 := below_alloc (below_after hc0 hb1) (.cells #[.int .i64 0, .int .i64 0, .int .i64 0, .int .i64 0, .int .i64 0, .int .i64 0, .int .i64 0, .int .i64 0] 72 (0, 0))
    clear hb1 hc0 hcon1
    go_wp2
    go_ret
    exact ⟨rfl, hc1⟩
  · have hcon1 := fun W => asEquation_yes key r s t W hs ht
    rw [HQ.out, hs, Bool.true_and]
    obtain ⟨⟨hk, _⟩, hr, s0, s1⟩ := (Sg.shape_iff _ _ _).mp hs
    obtain ⟨k0, k1⟩ := Gr.E_bd hk
    obtain ⟨r0, r1⟩ := Gr.E_bd hr
    obtain ⟨c0, c1⟩ := Sg.ch_bd r key t
    have hcon3 := fun W => holds_any key (Sg.ch r key t) r s W (by omega) (by omega) (by omega) (by omega) c0 c1 s1
    obtain ⟨E, HE⟩ : ∃ E, Hid (Sg.ch r key t = E) := ⟨_, Lib.hid rfl⟩
    rw [HE.out] at hcon1 hcon3 ⊢
    obtain ⟨V, HV⟩ : ∃ V, Hid (Sg.eqn key E r s = V) := ⟨_, Lib.hid rfl⟩
    rw [HV.out] at hcon3 ⊢
    clear hs HQ hk hr s0 s1 k0 k1 r0 r1 c0 c1 HE HV
    go_enter Try.func15, Try.ntmps15
    go_wp2_with fail
    refine (hcon1 _).mono ?_
    rintro x1 w1 ⟨rfl, hb1⟩
    have hc1 := below_alloc (below_after hc0 hb1) (.cells #[.int .i64 s, .int .i64 1073741789, .int .i64 r, .int .i64 2147483579, .int .i64 key, .int .i64 2147483579, .int .i64 E, .int .i64 1073741789] 72 (0, 0))
    clear hb1 hc0 hcon1
    go_wp2_with fail
    refine (hcon3 _).mono ?_
    rintro x2 w2 ⟨rfl, hb2⟩
    have hc2 := below_after hc1 hb2
    clear hb2 hc1 hcon3
    go_wp2
    go_ret
    exact ⟨rfl, hc2⟩
end Go.Proofs.Ytabihimhenhnnaa
