/-
  Plain mathematics: what HexOf writes is read by FromHex.
-/
import Derived.Test.YtpldoffjclmacaaHo
namespace Go.Proofs.Ytpldoffjclmacaa
theorem Hx.v_dig (n : Int) (h0 : 0 ≤ n) (h : n < 16) : Hx.v (Hx.dig n) = n := by
  unfold Hx.dig Hx.v
  split
  · rw [if_pos (by omega)]; omega
  · rw [if_neg (by omega), if_pos (by omega)]; omega
theorem Hx.of_get (s : ByteArray) (k : Nat) : ∀ j, j < k → (Hx.of s k)[2 * j]? = some (Hx.dig (En.byt s j / 16)) ∧ (Hx.of s k)[2 * j + 1]? = some (Hx.dig (En.byt s j % 16)) := by
  induction k with
  | zero => intro j hj; omega
  | succ k ih =>
    intro j hj
    have hl := Hx.of_len s k
    simp only [Hx.of]
    by_cases hjk : j < k
    · rw [List.getElem?_append_left (by omega), List.getElem?_append_left (by omega)]
      exact ih j hjk
    · have : j = k := by omega
      subst this
      rw [List.getElem?_append_right (by omega), List.getElem?_append_right (by omega), hl]
      rw [show 2 * j - 2 * j = 0 by omega, show 2 * j + 1 - 2 * j = 1 by omega]
      exact ⟨rfl, rfl⟩
/-- The string of hexadecimal digits. -/
def Hx.str (s : ByteArray) : ByteArray := strOfNums (Hx.of s s.size)
theorem Hx.str_size (s : ByteArray) : (Hx.str s).size = 2 * s.size := by unfold Hx.str; rw [strOfNums_size, Hx.of_len]
theorem Hx.str_get (s : ByteArray) (j : Nat) (hj : j < s.size) : Hx.v (En.byt (Hx.str s) (2 * j)) = En.byt s j / 16 ∧ Hx.v (En.byt (Hx.str s) (2 * j + 1)) = En.byt s j % 16 := by
  have b := En.byt_bd s j
  obtain ⟨g0, g1⟩ := Hx.of_get s s.size j hj
  have d0 := Hx.dig_bd (En.byt s j / 16) (by omega) (by omega)
  have d1 := Hx.dig_bd (En.byt s j % 16) (by omega) (by omega)
  unfold Hx.str
  rw [En.byt_str _ _ _ g0 d0.1 d0.2, En.byt_str _ _ _ g1 d1.1 d1.2]
  exact ⟨Hx.v_dig _ (by omega) (by omega), Hx.v_dig _ (by omega) (by omega)⟩
theorem Hx.str_good (s : ByteArray) : Hx.good (Hx.str s) := by
  refine ⟨by rw [Hx.str_size]; omega, fun j hj => ?_⟩
  rw [Hx.str_size] at hj
  obtain ⟨g0, g1⟩ := Hx.str_get s j (by omega)
  have b := En.byt_bd s j
  rw [g0, g1]
  omega
theorem Hx.str_back (s : ByteArray) : strOfNums (Hx.nums (Hx.str s) ((Hx.str s).size / 2)) = s := by
  apply ByteArray.ext
  apply Array.toList_inj.1
  rw [strOfNums_data, Hx.str_size, show 2 * s.size / 2 = s.size by omega]
  apply List.ext_getElem
  · rw [List.length_map, Hx.nums_len, Array.length_toList]; rfl
  · intro i h1 h2
    have hi : i < s.size := by simpa [Hx.nums_len] using h1
    obtain ⟨g0, g1⟩ := Hx.str_get s i hi
    have hn : Hx.num (Hx.str s) i = En.byt s i := by unfold Hx.num; rw [g0, g1]; omega
    simp only [Hx.nums, List.map_map, List.getElem_map, List.getElem_range, Function.comp_apply, hn]
    rw [← En.byt_eq s i hi]
    exact En.u8b rfl
theorem Hx.dig_v (c : Int) (h : 0 ≤ Hx.v c) : Hx.dig (Hx.v c) = c := by
  unfold Hx.v at h ⊢
  unfold Hx.dig
  split
  · rw [if_pos (by omega)]; omega
  · rename_i h1
    rw [if_neg h1] at h
    split
    · rw [if_neg (by omega)]; omega
    · rename_i h2
      rw [if_neg h2] at h
      omega
theorem Hx.str_from (s : ByteArray) (h : Hx.good s) : Hx.str (strOfNums (Hx.nums s (s.size / 2))) = s := by
  obtain ⟨heven, hok⟩ := h
  have hxs : (strOfNums (Hx.nums s (s.size / 2))).size = s.size / 2 := by rw [strOfNums_size, Hx.nums_len]
  have hbyt : ∀ j, j < s.size / 2 → En.byt (strOfNums (Hx.nums s (s.size / 2))) j = Hx.num s j := by
    intro j hj
    obtain ⟨o0, o1⟩ := hok j hj
    have v0 := Hx.v_bd (En.byt s (2 * j))
    have v1 := Hx.v_bd (En.byt s (2 * j + 1))
    refine En.byt_str _ _ _ ?_ ?_ ?_
    · simp only [Hx.nums, List.getElem?_map, List.getElem?_range hj, Option.map_some]
    · unfold Hx.num; omega
    · unfold Hx.num; omega
  have hget : ∀ i, i < s.size → (Hx.of (strOfNums (Hx.nums s (s.size / 2))) (s.size / 2))[i]? = some (En.byt s i) := by
    intro i hi
    obtain ⟨g0, g1⟩ := Hx.of_get (strOfNums (Hx.nums s (s.size / 2))) (s.size / 2) (i / 2) (by omega)
    have hj : i / 2 < s.size / 2 := by omega
    obtain ⟨o0, o1⟩ := hok (i / 2) hj
    have v0 := Hx.v_bd (En.byt s (2 * (i / 2)))
    have v1 := Hx.v_bd (En.byt s (2 * (i / 2) + 1))
    rw [hbyt _ hj] at g0 g1
    have e0 : Hx.num s (i / 2) / 16 = Hx.v (En.byt s (2 * (i / 2))) := by unfold Hx.num; omega
    have e1 : Hx.num s (i / 2) % 16 = Hx.v (En.byt s (2 * (i / 2) + 1)) := by unfold Hx.num; omega
    rw [e0, Hx.dig_v _ o0] at g0
    rw [e1, Hx.dig_v _ o1] at g1
    by_cases hp : i % 2 = 0
    · rw [show 2 * (i / 2) = i by omega] at g0
      exact g0
    · rw [show 2 * (i / 2) + 1 = i by omega] at g1
      exact g1
  unfold Hx.str
  rw [hxs]
  apply ByteArray.ext
  apply Array.toList_inj.1
  rw [strOfNums_data]
  have hlen : (Hx.of (strOfNums (Hx.nums s (s.size / 2))) (s.size / 2)).length = s.size := by rw [Hx.of_len]; omega
  have hsl : s.data.toList.length = s.size := by rw [Array.length_toList]; rfl
  apply List.ext_getElem?
  intro i
  rw [List.getElem?_map]
  by_cases hi : i < s.size
  · rw [hget i hi, List.getElem?_eq_getElem (by omega)]
    simp only [Option.map_some]
    rw [← En.byt_eq s i hi]
    exact congrArg some (En.u8b rfl)
  · rw [List.getElem?_eq_none (by omega), List.getElem?_eq_none (by omega)]
    rfl
end Go.Proofs.Ytpldoffjclmacaa
