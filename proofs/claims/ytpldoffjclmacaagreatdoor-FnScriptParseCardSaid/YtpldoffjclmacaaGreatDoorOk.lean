/-
  Scripts: the operations of words, one after another; plain.
-/
import Derived.Test.YtpldoffjclmacaaGreatDoorPb
namespace Go.Proofs.YtpldoffjclmacaaGreatDoor

theorem Jo.ops_snoc (ws : List (List Int)) (w : List Int) : Jo.ops (ws ++ [w]) = match Jo.ops ws with
    | none => none
    | some l => match Jo.opOf w with
      | none => none
      | some x => some (l ++ [x]) := by
  induction ws with
  | nil =>
    simp only [List.nil_append, Jo.ops]
    cases Jo.opOf w <;> rfl
  | cons v vs ih =>
    simp only [List.cons_append, Jo.ops]
    cases Jo.opOf v with
    | none => rfl
    | some x =>
      simp only
      rw [ih]
      cases Jo.ops vs with
      | none => rfl
      | some l =>
        simp only
        cases Jo.opOf w <;> rfl
theorem Jo.ops_bad (ws vs : List (List Int)) (h : Jo.ops ws = none) : Jo.ops (ws ++ vs) = none := by
  induction ws with
  | nil => cases h
  | cons v r ih =>
    simp only [List.cons_append, Jo.ops] at h ⊢
    cases hv : Jo.opOf v with
    | none => rfl
    | some x =>
      rw [hv] at h
      simp only at h ⊢
      cases hr : Jo.ops r with
      | none => rw [ih hr]
      | some l => rw [hr] at h; cases h
theorem Jo.ops_len {ws : List (List Int)} {l : List Jo} (h : Jo.ops ws = some l) : l.length = ws.length := by
  induction ws generalizing l with
  | nil => cases h; rfl
  | cons v r ih =>
    simp only [Jo.ops] at h
    cases hv : Jo.opOf v with
    | none => rw [hv] at h; cases h
    | some x =>
      rw [hv] at h
      simp only at h
      cases hr : Jo.ops r with
      | none => rw [hr] at h; cases h
      | some m =>
        rw [hr] at h
        cases h
        simp [ih hr]
/-- One word more. -/
theorem Jo.ops_take {ws : List (List Int)} {k : Nat} {l : List Jo} (hk : k < ws.length) (h : Jo.ops (ws.take k) = some l) : Jo.ops (ws.take (k + 1)) = match Jo.opOf (ws.getD k []) with
    | none => none
    | some x => some (l ++ [x]) := by
  have e : ws.take (k + 1) = ws.take k ++ [ws.getD k []] := by
    rw [List.take_add_one, List.getD_eq_getElem?_getD, List.getElem?_eq_getElem hk]; rfl
  rw [e, Jo.ops_snoc, h]
theorem Jo.ops_take_bad {ws : List (List Int)} {k : Nat} {l : List Jo} (hk : k < ws.length) (h : Jo.ops (ws.take k) = some l) (h1 : Jo.opOf (ws.getD k []) = none) : Jo.ops ws = none := by
  have h2 := Jo.ops_take hk h
  rw [h1] at h2
  have h3 := Jo.ops_bad (ws.take (k + 1)) (ws.drop (k + 1)) h2
  rwa [List.take_append_drop] at h3
end Go.Proofs.YtpldoffjclmacaaGreatDoor
