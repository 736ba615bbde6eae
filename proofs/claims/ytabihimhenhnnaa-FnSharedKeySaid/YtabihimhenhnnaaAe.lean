/-
  Contracts of chapter 7: adaptor signatures; of the program.
-/
import Derived.Test.YtabihimhenhnnaaAd
import Derived.Test.YtabihimhenhnnaaSk
import Derived.Test.YtabihimhenhnnaaSj
namespace Go.Proofs.Ytabihimhenhnnaa
open Go.RowKit

theorem Bk.c3 {B : Nat} {t : TypeId} {u0 u1 u2 : Value} {w : World} (h : Bk B t #[u0, u1, u2] w) : w.cell? ⟨B, 0, none⟩ = some u0 ∧ w.cell? ⟨B, 1, none⟩ = some u1 ∧ w.cell? ⟨B, 2, none⟩ = some u2 :=
  ⟨h.cell 0, h.cell 1, h.cell 2⟩
theorem Bk.f3 {B : Nat} {t : TypeId} {cs : Array Value} {w : World} (h : Bk B t cs w) : w.frozen? ⟨B, 0, none⟩ = false ∧ w.frozen? ⟨B, 1, none⟩ = false ∧ w.frozen? ⟨B, 2, none⟩ = false :=
  ⟨h.fro 0, h.fro 1, h.fro 2⟩
theorem Bk.store3 {B : Nat} {t : TypeId} {u0 u1 u2 : Value} {w : World} (h : Bk B t #[u0, u1, u2] w) (v0 v1 v2 : Value) : Bk B t #[v0, v1, v2] ((((w).setCell ⟨B, 0, none⟩ v0).setCell ⟨B, 1, none⟩ v1).setCell ⟨B, 2, none⟩ v2) := by
  have h0 : Bk B t #[v0, u1, u2] ((w).setCell ⟨B, 0, none⟩ v0) := h.set 0 v0
  have h1 : Bk B t #[v0, v1, u2] (((w).setCell ⟨B, 0, none⟩ v0).setCell ⟨B, 1, none⟩ v1) := h0.set 1 v1
  have h2 : Bk B t #[v0, v1, v2] ((((w).setCell ⟨B, 0, none⟩ v0).setCell ⟨B, 1, none⟩ v1).setCell ⟨B, 2, none⟩ v2) := h1.set 2 v2
  exact h2
theorem Bk.other3 {B : Nat} {t : TypeId} {cs : Array Value} {w : World} (h : Bk B t cs w) (C : Nat) (hC : B ≠ C) (v0 v1 v2 : Value) : Bk B t cs ((((w).setCell ⟨C, 0, none⟩ v0).setCell ⟨C, 1, none⟩ v1).setCell ⟨C, 2, none⟩ v2) :=
  (((h).oset C 0 _ hC).oset C 1 _ hC).oset C 2 _ hC
theorem below_store3 {w w1 : World} (h : Below w.heap.size w w1) (B : Nat) (hB : w.heap.size ≤ B) (v0 v1 v2 : Value) : Below w.heap.size w ((((w1).setCell ⟨B, 0, none⟩ v0).setCell ⟨B, 1, none⟩ v1).setCell ⟨B, 2, none⟩ v2) :=
  (((h).setCell (p := ⟨B, 0, none⟩) hB _).setCell (p := ⟨B, 1, none⟩) hB _).setCell (p := ⟨B, 2, none⟩) hB _
set_option maxRecDepth 100000 in
set_option maxHeartbeats 1600000 in
theorem answer_any (n e u : Int) (w : World) (n0 : 0 ≤ n) (n1 : n < 1073741789) (e0 : 0 ≤ e) (e1 : e < 1073741789) (u0 : 0 ≤ u) (u1 : u < 1073741789) :
    Calls Try.prog 37 #[.agg #[.int .i64 n, .int .i64 1073741789], .int .i64 e, .agg #[.int .i64 u, .int .i64 1073741789]] w fun x w' => x = .returned (.agg #[.int .i64 ((n + e * u) % 1073741789), .int .i64 1073741789]) ∧ Below w.heap.size w w' := by
  have HQ : Hid ((n + e * u) % 1073741789 = (n + e * u % 1073741789) % 1073741789) := Lib.hid (by omega)
  rw [HQ.out]
  have hm0 := Int.emod_nonneg (e * u) (show (1073741789 : Int) ≠ 0 by decide)
  have hm1 := Int.emod_lt_of_pos (e * u) (show (0 : Int) < 1073741789 by decide)
  have hcon1 := fun W => times_any e u 1073741789 W (by omega) (by omega) e0 e1 u0 u1
  obtain ⟨M, HM⟩ : ∃ M, Hid (e * u % 1073741789 = M) := ⟨_, Lib.hid rfl⟩
  rw [HM.out] at hcon1 hm0 hm1 ⊢
  have hcon2 := fun W => plus_any n M 1073741789 W (by omega) (by omega) n0 n1 hm0 hm1
  obtain ⟨V, HV⟩ : ∃ V, Hid ((n + M) % 1073741789 = V) := ⟨_, Lib.hid rfl⟩
  rw [HV.out] at hcon2 ⊢
  clear HQ HM HV hm0 hm1
  have HA : Bk w.heap.size 50 #[.int .i64 n, .int .i64 1073741789] (((w.alloc (.cells #[.int .i64 n, .int .i64 1073741789] 50 (0, 0))).alloc (.cells #[.int .i64 u, .int .i64 1073741789] 50 (0, 0))).alloc (.cells #[.int .i64 0, .int .i64 0] 50 (0, 0))) := ((Bk.new w _ _).alloc _).alloc _
  have HU : Bk (w.heap.size + 1) 50 #[.int .i64 u, .int .i64 1073741789] (((w.alloc (.cells #[.int .i64 n, .int .i64 1073741789] 50 (0, 0))).alloc (.cells #[.int .i64 u, .int .i64 1073741789] 50 (0, 0))).alloc (.cells #[.int .i64 0, .int .i64 0] 50 (0, 0))) := (Bk.new' _ _ _ _ (by simp)).alloc _
  have HZ : Bk (w.heap.size + 1 + 1) 50 #[.int .i64 0, .int .i64 0] (((w.alloc (.cells #[.int .i64 n, .int .i64 1073741789] 50 (0, 0))).alloc (.cells #[.int .i64 u, .int .i64 1073741789] 50 (0, 0))).alloc (.cells #[.int .i64 0, .int .i64 0] 50 (0, 0))) := Bk.new' _ _ _ _ (by simp)
  have hc0 : Below w.heap.size w (((w.alloc (.cells #[.int .i64 n, .int .i64 1073741789] 50 (0, 0))).alloc (.cells #[.int .i64 u, .int .i64 1073741789] 50 (0, 0))).alloc (.cells #[.int .i64 0, .int .i64 0] 50 (0, 0))) := below_alloc (below_alloc (below_alloc (Below.refl _ _) _) _) _
  have hSof : ∀ W, Bk w.heap.size 50 #[.int .i64 n, .int .i64 1073741789] W → Bk (w.heap.size + 1) 50 #[.int .i64 u, .int .i64 1073741789] W → W.cell? ⟨w.heap.size, 0, none⟩ = some (.int .i64 n) ∧ W.cell? ⟨w.heap.size, 1, none⟩ = some (.int .i64 1073741789) ∧ W.cell? ⟨w.heap.size + 1, 0, none⟩ = some (.int .i64 u) ∧ W.cell? ⟨w.heap.size + 1, 1, none⟩ = some (.int .i64 1073741789) := fun W h k => ⟨h.cell 0, h.cell 1, k.cell 0, k.cell 1⟩
  have hS0 := hSof _ HA.drew HU.drew
  go_enter Try.func37, Try.ntmps37
  go_wp2
  go_region_held3 (fun W => W.cell? ⟨w.heap.size, 0, none⟩ = some (.int .i64 n) ∧ W.cell? ⟨w.heap.size, 1, none⟩ = some (.int .i64 1073741789) ∧ W.cell? ⟨w.heap.size + 1, 0, none⟩ = some (.int .i64 u) ∧ W.cell? ⟨w.heap.size + 1, 1, none⟩ = some (.int .i64 1073741789)) (first | with_reducible exact hS0 | with_reducible exact hS1 | with_reducible exact hS2 | with_reducible exact hS3)
    (first
      | (go_at_call 35; refine (hcon1 _).mono ?_; rintro x1 w1 ⟨rfl, hb1⟩; have HA1 := HA.drew.below hb1; have HU1 := HU.drew.below hb1; have HZ1 := HZ.drew.below hb1; have hS1 := hSof _ HA1 HU1; have hc1 := below_after hc0.drew hb1)
      | (go_at_call 33; refine (hcon2 w1).mono ?_; rintro x2 w2 ⟨rfl, hb2⟩; have HA2 := HA1.below hb2; have HU2 := HU1.below hb2; have HZ2 := HZ1.below hb2; have hS2 := hSof _ HA2 HU2; have hc2 := below_after hc1 hb2; obtain ⟨z0, z1⟩ := Bk.c2 HZ2; obtain ⟨f0, f1⟩ := HZ2.f2; have hS3 := hSof _ (Bk.other2 HA2 (w.heap.size + 1 + 1) (by omega) (.int .i64 V) (.int .i64 1073741789)) (Bk.other2 HU2 (w.heap.size + 1 + 1) (by omega) (.int .i64 V) (.int .i64 1073741789)); have HZ3 := Bk.store2 HZ2 (.int .i64 V) (.int .i64 1073741789); have hc3 := below_store2 hc2 (w.heap.size + 1 + 1) (by omega) (.int .i64 V) (.int .i64 1073741789)))
  all_goals
    go_wp2
    refine bodyPost_ret (results_cell_row (P := Try.prog) rfl _ _ (w.heap.size + 1 + 1) 50 _ (0, 0) _ rfl HZ3.held Try.underlying50 rfl (by kernel_rfl)) rfl ?_
    exact ⟨rfl, hc3⟩
end Go.Proofs.Ytabihimhenhnnaa
