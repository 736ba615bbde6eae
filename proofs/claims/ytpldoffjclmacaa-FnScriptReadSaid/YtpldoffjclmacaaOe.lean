/-
  Contracts of scripts: ScriptText, ScriptBytes; of the model.
-/
import Derived.Test.YtpldoffjclmacaaOd
import Derived.Test.YtpldoffjclmacaaPc
namespace Go.Proofs.Ytpldoffjclmacaa
open Go.RowKit

/-- What ScriptText hands back. -/
def Jo.tx (l : List Jo) : ByteArray := if Jo.ok l = true then strOfNums (Jo.text l) else ⟨#[]⟩
/-- The text of the first k operations. -/
def Jo.pre (l : List Jo) (k : Nat) : List Int := Jo.join 32 ((l.take k).map Jo.word)
theorem Jo.join_snoc (m : Int) (ps : List (List Int)) (q : List Int) (h : ps ≠ []) : Jo.join m (ps ++ [q]) = Jo.join m ps ++ m :: q := by
  induction ps with
  | nil => exact absurd rfl h
  | cons p ps ih =>
    cases ps with
    | nil => rfl
    | cons r s =>
      show p ++ m :: Jo.join m (r :: s ++ [q]) = (p ++ m :: Jo.join m (r :: s)) ++ m :: q
      rw [ih (by simp)]
      simp
theorem Jo.take_snoc {l : List Jo} {k : Nat} (h : k < l.length) : l.take (k + 1) = l.take k ++ [Jo.at_ l k] := by
  rw [List.take_succ_eq_append_getElem h]
  congr 2
  have := Jo.at_get h
  rw [List.getElem?_eq_getElem h] at this
  exact Option.some.inj this
theorem Jo.pre_one {l : List Jo} (h : 0 < l.length) : Jo.pre l 1 = Jo.word (Jo.at_ l 0) := by
  unfold Jo.pre
  rw [Jo.take_snoc h]
  rfl
theorem Jo.pre_succ {l : List Jo} {k : Nat} (h : k < l.length) (h0 : 0 < k) : Jo.pre l (k + 1) = Jo.pre l k ++ 32 :: Jo.word (Jo.at_ l k) := by
  unfold Jo.pre
  rw [Jo.take_snoc h, List.map_append]
  refine Jo.join_snoc 32 _ _ (fun e => ?_)
  have := congrArg List.length e
  rw [List.length_map, List.length_take, List.length_nil] at this
  omega
theorem Jo.fld_at {l : List Jo} {k : Nat} (h : Jo.ok l = true) (hk : k < l.length) : Jo.fld (Jo.at_ l k) = true := ((Jo.ok_iff l).1 h).2.1 _ (List.mem_of_getElem? (Jo.at_get hk))
theorem Jo.pre_len {l : List Jo} (h : Jo.ok l = true) (k : Nat) : (Jo.pre l k).length ≤ 6480 := by
  obtain ⟨h1, h2, _⟩ := (Jo.ok_iff l).1 h
  have := Jo.join_len 32 161 ((l.take k).map Jo.word) (fun p hp => by
    obtain ⟨x, hx, rfl⟩ := List.mem_map.1 hp
    exact (Jo.word_plain (h2 x (List.mem_of_mem_take hx))).2.2.1)
  rw [List.length_map, List.length_take] at this
  unfold Jo.pre
  have e : (161 + 1) * min k l.length ≤ 162 * 40 := Nat.mul_le_mul_left 162 (by omega)
  omega
end Go.Proofs.Ytpldoffjclmacaa
