/-
  Plain mathematics: what HexOf writes is read by FromHex.
-/
import Derived.Test.YtegdckdfllkmeabHo
namespace Go.Proofs.Ytegdckdfllkmeab
theorem Hx.v_dig (n : Int) (h0 : 0 ≤ n) (h : n < 16) : Hx.v (Hx.dig n) = n := by
  unfold Hx.dig Hx.v
  split
  · rw [if_pos (by omega)]; omega
  · rw [if_neg (by omega), if_pos (by omega)]; omega
theorem Hx.of_get (s : ByteArray) (k : Nat) : ∀ j, j < k → (Hx.of s k)[2 * j]? = some (Hx.dig (En.byt s j / 16)) ∧ (Hx.of s k)[2 * j + 1]? = some (Hx.dig (En.byt s j % 16)) := by
  induction k with
  | zero => intro j hj; omega
  | succ k ih =>
    intro j hj
    have hl := Hx.of_len s k
    simp only [Hx.of]
    by_cases hjk : j < k
    · rw [List.getElem?_append_left (by omega), List.getElem?_append_left (by omega)]
      exact ih j hjk
    · have : j = k := by omega
      subst this
      rw [List.getElem?_append_right (by omega), List.getElem?_append_right (by omega), hl]
      rw [show 2 * j - 2 * j = 0 by omega, show 2 * j + 1 - 2 * j = 1 by omega]
      exact ⟨rfl, rfl⟩
theorem En.byt_str (xs : List Int) (i : Nat) (x : Int) (hx : xs[i]? = some x) (h0 : 0 ≤ x) (h : x < 256) : En.byt (strOfNums xs) i = x := by
  unfold En.byt
  rw [strOfNums_data, List.getElem?_map, hx]
  exact En.u8 h0 h
/-- The string of hexadecimal digits. -/
def Hx.str (s : ByteArray) : ByteArray := strOfNums (Hx.of s s.size)
theorem Hx.str_size (s : ByteArray) : (Hx.str s).size = 2 * s.size := by unfold Hx.str; rw [strOfNums_size, Hx.of_len]
theorem Hx.str_get (s : ByteArray) (j : Nat) (hj : j < s.size) : Hx.v (En.byt (Hx.str s) (2 * j)) = En.byt s j / 16 ∧ Hx.v (En.byt (Hx.str s) (2 * j + 1)) = En.byt s j % 16 := by
  have b := En.byt_bd s j
  obtain ⟨g0, g1⟩ := Hx.of_get s s.size j hj
  have d0 := Hx.dig_bd (En.byt s j / 16) (by omega) (by omega)
  have d1 := Hx.dig_bd (En.byt s j % 16) (by omega) (by omega)
  unfold Hx.str
  rw [En.byt_str _ _ _ g0 d0.1 d0.2, En.byt_str _ _ _ g1 d1.1 d1.2]
  exact ⟨Hx.v_dig _ (by omega) (by omega), Hx.v_dig _ (by omega) (by omega)⟩
theorem Hx.str_good (s : ByteArray) : Hx.good (Hx.str s) := by
  refine ⟨by rw [Hx.str_size]; omega, fun j hj => ?_⟩
  rw [Hx.str_size] at hj
  obtain ⟨g0, g1⟩ := Hx.str_get s j (by omega)
  have b := En.byt_bd s j
  rw [g0, g1]
  omega
theorem Hx.str_back (s : ByteArray) : strOfNums (Hx.nums (Hx.str s) ((Hx.str s).size / 2)) = s := by
  apply ByteArray.ext
  apply Array.toList_inj.1
  rw [strOfNums_data, Hx.str_size, show 2 * s.size / 2 = s.size by omega]
  apply List.ext_getElem
  · rw [List.length_map, Hx.nums_len, Array.length_toList]; rfl
  · intro i h1 h2
    have hi : i < s.size := by simpa [Hx.nums_len] using h1
    obtain ⟨g0, g1⟩ := Hx.str_get s i hi
    have hn : Hx.num (Hx.str s) i = En.byt s i := by unfold Hx.num; rw [g0, g1]; omega
    simp only [Hx.nums, List.map_map, List.getElem_map, List.getElem_range, Function.comp_apply, hn]
    rw [← En.byt_eq s i hi]
    exact En.u8b rfl
end Go.Proofs.Ytegdckdfllkmeab
