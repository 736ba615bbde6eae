/-
  Contracts of chapter 5: equations, Verify; of the program.
-/
import Derived.Test.YtpldoffjclmacabSh
import Derived.Test.YtpldoffjclmacabBk
import Derived.Deep.RegionHeld3
import Derived.Deep.DeepMust
import Derived.Laws.StructEq
namespace Go.Proofs.Ytpldoffjclmacab
open Go.RowKit

/-- The cells of an equation. -/
abbrev Sg.eqv (key e r s : Int) : Array Value := #[.int .i64 s, .int .i64 1073741789, .int .i64 r, .int .i64 2147483579, .int .i64 key, .int .i64 2147483579, .int .i64 e, .int .i64 1073741789]
abbrev Sg.eq0 : Array Value := #[.int .i64 0, .int .i64 0, .int .i64 0, .int .i64 0, .int .i64 0, .int .i64 0, .int .i64 0, .int .i64 0]
theorem Sg.win_of {key r s : Int} (h : Sg.shape key r s = true) : Gr.kok key = true ∧ Gr.ok r = true ∧ Sg.win s = true := by
  unfold Sg.shape at h
  rw [Bool.and_eq_true, Bool.and_eq_true] at h
  exact ⟨h.1.1, h.1.2, h.2⟩
theorem Sg.kok_ok {key : Int} (h : Gr.kok key = true) : Gr.ok key = true := by unfold Gr.kok at h; rw [Bool.and_eq_true] at h; exact h.1
/-- The right side's power: the term of one equation with a weight. -/
def Sg.tm (key e r wgt : Int) : Int := Gr.pw 2147483579 r wgt * Gr.pw 2147483579 key (wgt * e % 1073741789) % 2147483579
theorem Sg.tm_one {key e r : Int} (r0 : 0 ≤ r) (r1 : r < 2147483579) (e0 : 0 ≤ e) (e1 : e < 1073741789) : Sg.tm key e r 1 = Sg.rt key e r := by
  unfold Sg.tm Sg.rt
  rw [Gr.pw_one _ r r0 r1, Int.one_mul, Int.emod_eq_of_lt e0 e1]
theorem Sg.tm_bd (key e r wgt : Int) : 0 ≤ Sg.tm key e r wgt ∧ Sg.tm key e r wgt < 2147483579 := ⟨Int.emod_nonneg _ (by decide), Int.emod_lt_of_pos _ (by decide)⟩
theorem eq_residue (a b c d : Int) (w : World) : (Op.equalIn 10000 24 (.agg #[.int .i64 a, .int .i64 b]) (.agg #[.int .i64 c, .int .i64 d])).run Try.prog w = .ok (a == c && b == d) w := by
  have u3 := Try.underlying3
  have a3 := Try.isAgg3
  have z3 := Try.sizeOf3
  have hS : Try.prog.underlying 24 = some (.struct (Try.prog.fieldsOf 24)) := by kernel_rfl
  rw [show (10000 : Nat) = 9999 + 1 from rfl, run_equalIn_agg w 9999 24 _ _ hS (by kernel_rfl)]
  simp only [Program.fieldsOf, Try.underlying24]
  go_simp
  by_cases h1 : a = c <;> by_cases h2 : b = d <;> simp [h1, h2]
theorem eq_sig (a b c d : Int) (w : World) : (Op.equalIn 10000 24 (.agg #[.int .i64 a, .int .i64 b]) (.agg #[.int .i64 c, .int .i64 d])).run Try.prog w = .ok (a == c && b == d) w := by
  have u3 := Try.underlying3
  have a3 := Try.isAgg3
  have z3 := Try.sizeOf3
  have hS : Try.prog.underlying 24 = some (.struct (Try.prog.fieldsOf 24)) := by kernel_rfl
  rw [show (10000 : Nat) = 9999 + 1 from rfl, run_equalIn_agg w 9999 24 _ _ hS (by kernel_rfl)]
  simp only [Program.fieldsOf, Try.underlying24]
  go_simp
  by_cases h1 : a = c <;> by_cases h2 : b = d <;> simp [h1, h2]
theorem noGuard_residue : Try.prog.eqGuardType Try.prog.depth 24 = false := by kernel_rfl
theorem noGuard_sig : Try.prog.eqGuardType Try.prog.depth 24 = false := by kernel_rfl
end Go.Proofs.Ytpldoffjclmacab
