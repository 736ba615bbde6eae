/-
  Shared signatures, plain: what SharedSign answers.
-/
import Derived.Test.YtabihimhenhnnaaSa
namespace Go.Proofs.Ytabihimhenhnnaa

def Sd.s0 (us : List Int) (t : ByteArray) : Int := if Sd.sok us then Sd.sr us t else 0
def Sd.s1 (us : List Int) (t : ByteArray) : Int := if Sd.sok us then Sd.ss us t else 0
theorem Sd.s_yes {us : List Int} (t : ByteArray) (h : Sd.sok us = true) : Sd.s0 us t = Sd.sr us t ∧ Sd.s1 us t = Sd.ss us t := by
  unfold Sd.s0 Sd.s1
  rw [h]
  exact ⟨rfl, rfl⟩
theorem Sd.s_no {us : List Int} (t : ByteArray) (h : Sd.sok us = false) : Sd.sok us = false ∧ Sd.s0 us t = 0 ∧ Sd.s1 us t = 0 := by
  unfold Sd.s0 Sd.s1
  rw [h]
  exact ⟨rfl, rfl, rfl⟩
theorem Sd.sok_no_good {us : List Int} (h : Sd.sgood us us.length = false) : Sd.sok us = false := by
  unfold Sd.sok
  rw [h, Bool.and_false, Bool.false_and]
theorem Sd.sok_no {us : List Int} {n : Nat} (hn : us.length = n) (h : Sd.room n = false ∨ ∃ j, j < n ∧ Gr.sok (us.getD j 0) = false) : Sd.sok us = false := by
  rcases h with h | ⟨j, hj, h⟩
  · unfold Sd.sok
    rw [hn, h, Bool.false_and, Bool.false_and]
  · exact Sd.sok_no_good (Sd.sgood_no us j h _ (by omega))
theorem Sd.sok_eq {us : List Int} (h : Sd.sgood us us.length = true) : Sd.sok us = Sd.ok (Sd.keys us) := by
  unfold Sd.sok Sd.ok
  rw [Sd.good_keys us h, h, Sd.keys_len]
theorem Sd.room_bd {us : List Int} (h : Sd.ok us = true) : 1 ≤ us.length ∧ us.length ≤ 8 := by
  unfold Sd.ok Sd.room at h
  rw [Bool.and_eq_true, Bool.and_eq_true, Bool.and_eq_true, decide_eq_true_iff, decide_eq_true_iff] at h
  exact h.1.1
theorem Sd.res_yes {ks : List Int} (h : Sd.ok ks = true) : Sd.res ks = Sd.key ks := by unfold Sd.res; rw [h]; rfl
theorem Sd.res_no {ks : List Int} (h : Sd.ok ks = false) : Sd.res ks = 0 := by unfold Sd.res; rw [h]; rfl
theorem Sd.keys_bd {us : List Int} (h : Sd.sgood us us.length = true) (j : Nat) (hj : j < us.length) : 0 ≤ (Sd.keys us).getD j 0 ∧ (Sd.keys us).getD j 0 < 2147483579 :=
  Sd.kok_bd (Sd.good_keys us h) j (by rw [Sd.keys_len]; exact hj)
end Go.Proofs.Ytabihimhenhnnaa
