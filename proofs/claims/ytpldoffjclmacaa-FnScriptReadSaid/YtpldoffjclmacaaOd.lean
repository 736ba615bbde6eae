/-
  Contracts of scripts: l6Dec, l10Names, l10Word, ScriptText; of the model.
-/
import Derived.Test.YtpldoffjclmacaaOc
import Derived.Test.YtpldoffjclmacaaHo
import Derived.Deep.RegionWith
namespace Go.Proofs.Ytpldoffjclmacaa
open Go.RowKit

/-- The ways through a statement meet again. -/
theorem wp_meet9 {P : Program} {c : Code} {Q : Exit → Act → World → Prop} {a : Act} {w : World} (F : World → Prop) (A : Act)
    (h1 : c.wp P (fun e a' w' => match e with | .normal => a' = A ∧ F w' | _ => False) a w) (h2 : ∀ w', F w' → Q .normal A w') : c.wp P Q a w :=
  Code.wp_mono (fun e a' w' h => by
    cases e <;> first | exact (h : False).elim | (obtain ⟨ha, hF⟩ := h; subst ha; exact h2 w' hF)) h1
theorem Jo.dec_step {n : Int} (h0 : 10 ≤ n) (h1 : n ≤ 9999) : Jo.dec n = Jo.dec (n / 10) ++ [48 + n % 10] := by
  unfold Jo.dec
  by_cases a : n < 100
  · rw [if_neg (by omega), if_pos a, if_pos (by omega)]
    rfl
  · by_cases b : n < 1000
    · rw [if_neg (by omega), if_neg a, if_pos b, if_neg (by omega), if_pos (by omega)]
      simp only [List.cons_append, List.nil_append, List.cons.injEq, and_true]
      omega
    · rw [if_neg (by omega), if_neg a, if_neg b, if_neg (by omega), if_neg (by omega), if_pos (by omega)]
      simp only [List.cons_append, List.nil_append, List.cons.injEq, and_true]
      omega
theorem conv_cell1 (W : World) (B : Nat) (y : Int) (h : W.cell? ⟨B, 0, none⟩ = some (.int .u8 y)) :
    (convert 22 9 (.slice (some ⟨B, 0, none⟩) 1 1)).run Try.prog W = .ok (.string (strOfNums [y])) W :=
  run_convert_bytes_arg (P := Try.prog) _ 22 5 (by kernel_rfl) (by kernel_rfl) B 0 1 1 [y] rfl (fun i hi => by
    obtain rfl : i = 0 := by simpa using hi
    exact h) 9 (by kernel_rfl)
theorem Jo.word_c0 (x : Jo) (h : x.c = 0) : Jo.word x = 120 :: Hx.of x.t x.t.size := by unfold Jo.word; rw [if_pos h]
theorem Jo.word_c12 (x : Jo) (h : x.c = 12) : Jo.word x = Jo.name 12 ++ 58 :: (Jo.dec x.a ++ 58 :: Jo.dec x.b) := by unfold Jo.word; rw [if_neg (by omega), if_pos h]
theorem Jo.word_c1 (x : Jo) (h : x.c = 13 ∨ x.c = 14) : Jo.word x = Jo.name x.c.toNat ++ 58 :: Jo.dec x.a := by unfold Jo.word; rw [if_neg (by omega), if_neg (by omega), if_pos h]
theorem Jo.word_cn (x : Jo) (h0 : x.c ≠ 0) (h1 : x.c ≠ 12) (h2 : x.c ≠ 13) (h3 : x.c ≠ 14) : Jo.word x = Jo.name x.c.toNat := by unfold Jo.word; rw [if_neg h0, if_neg h1, if_neg (by omega)]
theorem str_add (W : World) (a b : List Int) (h : a.length + b.length ≤ 1000000) : (Op.stringOp .add (strOfNums a) (strOfNums b)).run Try.prog W = .ok (.string (strOfNums (a ++ b))) W := by
  rw [Jo.str_append]
  exact run_string_add_sum (P := Try.prog) W _ _ (by rw [strOfNums_size, strOfNums_size]; omega)
theorem str_add1 (W : World) (a : List Int) (c : Int) (s : ByteArray) (hs : s = strOfNums [c]) (h : a.length ≤ 1000000) : (Op.stringOp .add (strOfNums a) s).run Try.prog W = .ok (.string (strOfNums (a ++ [c]))) W := by
  rw [hs, Jo.str_append]
  exact run_string_add_sum (P := Try.prog) W _ _ (by rw [strOfNums_size, strOfNums_size]; simp; omega)
end Go.Proofs.Ytpldoffjclmacaa
