/-
  Plain: addresses as strings; one character changed, two exchanged.
-/
import Derived.Test.YtacgicpkhbjdaaaKg
namespace Go.Proofs.Ytacgicpkhbjdaaa

theorem Ka.str_data (l : List Int) : (Ka.str l).data.toList = l.map fun x => UInt8.ofNat (Ka.dig x).toNat := by
  unfold Ka.str
  rw [strOfNums_data, List.map_map]
  rfl
theorem Ka.str_size (l : List Int) : (Ka.str l).size = l.length := by unfold Ka.str; rw [strOfNums_size, List.length_map]
theorem Ka.byt_str {l : List Int} {k : Nat} (hin : Ka.In l) (hk : k < l.length) : En.byt (Ka.str l) k = Ka.dig (Ka.at_ l k) := by
  have hb := Ka.at_bd hin k
  have hd := Ka.dig_bd hb.1 hb.2
  refine En.byt_str _ k _ ?_ hd.1 hd.2
  rw [List.getElem?_map]
  unfold Ka.at_
  rw [List.getD_eq_getElem?_getD, List.getElem?_eq_getElem hk]
  rfl
theorem Ka.gd_str {l : List Int} (hl : l.length = 10) (hin : Ka.In l) : Ka.gd (Ka.str l) = true := by
  refine (Ka.gd_iff _).2 ⟨by rw [Ka.str_size, hl], fun j hj => ?_⟩
  have hb := Ka.at_bd hin j
  rw [Ka.byt_str hin (by omega), Ka.val_dig hb.1 hb.2]
  exact hb.1
theorem Ka.vals_str {l : List Int} (hl : l.length = 10) (hin : Ka.In l) : Ka.vals (Ka.str l) = l := by
  refine Ka.ext (Ka.vals_len _) hl fun k hk => ?_
  have hb := Ka.at_bd hin k
  rw [Ka.vals_at _ k hk, Ka.byt_str hin (by omega), Ka.val_dig hb.1 hb.2]
theorem Ka.u8_byt (s : ByteArray) (k : Nat) (h : k < s.data.toList.length) : UInt8.ofNat (En.byt s k).toNat = s.data.toList[k] := by
  unfold En.byt
  rw [List.getElem?_eq_getElem h]
  simp
theorem Ka.str_vals {s : ByteArray} (h : Ka.gd s = true) : Ka.str (Ka.vals s) = s := by
  obtain ⟨hsz, hp⟩ := (Ka.gd_iff s).1 h
  have hl : s.data.toList.length = 10 := by rw [Array.length_toList]; exact hsz
  apply ByteArray.ext
  apply Array.toList_inj.1
  rw [Ka.str_data]
  apply List.ext_getElem
  · rw [List.length_map, Ka.vals_len, hl]
  · intro k h1 h2
    have hk : k < 10 := by omega
    have hb := En.byt_bd s k
    rw [List.getElem_map, show (Ka.vals s)[k]'(by rw [Ka.vals_len]; exact hk) = Ka.at_ (Ka.vals s) k by unfold Ka.at_; rw [List.getD_eq_getElem?_getD, List.getElem?_eq_getElem (by rw [Ka.vals_len]; exact hk)]; rfl,
      Ka.vals_at s k hk, Ka.dig_val hb.1 hb.2 (hp k hk), Ka.u8_byt s k h2]
/-- One character in the place of another. -/
theorem Ka.str_set (l : List Int) (i : Nat) (v : Int) (hi : i < l.length) : (Ka.str l).extract 0 i ++ Ka.str [v] ++ (Ka.str l).extract (i + 1) (Ka.str l).size = Ka.str (l.set i v) := by
  apply ByteArray.ext
  apply Array.toList_inj.1
  rw [ByteArray.data_append, Array.toList_append, ByteArray.data_append, Array.toList_append, ByteArray.data_extract, ByteArray.data_extract, Array.toList_extract, Array.toList_extract, List.extract_eq_take_drop, List.extract_eq_take_drop, Ka.str_size, Ka.str_data, Ka.str_data, Ka.str_data]
  rw [List.map_set, List.set_eq_take_append_cons_drop, if_pos (by simpa using hi)]
  simp only [List.drop_zero, Nat.sub_zero, List.map_cons, List.map_nil, List.append_assoc, List.cons_append, List.nil_append]
  rw [List.take_of_length_le (l := List.drop (i + 1) _) (by simp)]
theorem Ka.str_set1 {s : ByteArray} (h : Ka.gd s = true) (i : Nat) (v : Int) (hi : i < 10) : s.extract 0 i ++ Ka.str [v] ++ s.extract (i + 1) s.size = Ka.str ((Ka.vals s).set i v) := by
  have := Ka.str_set (Ka.vals s) i v (by rw [Ka.vals_len]; exact hi)
  rwa [Ka.str_vals h] at this
/-- Two neighbours exchanged. -/
theorem Ka.str_swap (l : List Int) (k : Nat) (hk : k + 1 < l.length) :
    (Ka.str l).extract 0 k ++ (Ka.str l).extract (k + 1) (k + 1 + 1) ++ (Ka.str l).extract k (k + 1) ++ (Ka.str l).extract (k + 1 + 1) (Ka.str l).size = Ka.str (Ka.swap l k) := by
  apply ByteArray.ext
  apply Array.toList_inj.1
  simp only [ByteArray.data_append, Array.toList_append, ByteArray.data_extract, Array.toList_extract, List.extract_eq_take_drop, Ka.str_size, Ka.str_data]
  generalize hm : (l.map fun x => UInt8.ofNat (Ka.dig x).toNat) = m
  have hml : m.length = l.length := by rw [← hm, List.length_map]
  have h0 : ∀ i (h : i < l.length), UInt8.ofNat (Ka.dig (Ka.at_ l i)).toNat = m[i]'(by omega) := fun i h => by
    subst hm
    rw [List.getElem_map]
    unfold Ka.at_
    rw [List.getD_eq_getElem?_getD, List.getElem?_eq_getElem h]
    rfl
  unfold Ka.swap
  rw [List.map_set, List.map_set, hm, h0 (k + 1) hk, h0 k (by omega)]
  apply List.ext_getElem?
  intro j
  simp only [List.drop_zero, Nat.sub_zero, show k + 1 + 1 - (k + 1) = 1 by omega, show k + 1 - k = 1 by omega]
  have e1 : List.take 1 (List.drop (k + 1) m) = [m[k + 1]'(by omega)] := by
    rw [List.drop_eq_getElem_cons (by omega)]; rfl
  have e2 : List.take 1 (List.drop k m) = [m[k]'(by omega)] := by
    rw [List.drop_eq_getElem_cons (by omega)]; rfl
  rw [e1, e2, List.take_of_length_le (l := List.drop (k + 1 + 1) m) (by simp; omega)]
  simp only [List.append_assoc, List.cons_append, List.nil_append]
  rw [List.getElem?_append, List.length_take, show min k m.length = k by omega, List.getElem?_set, List.getElem?_set]
  by_cases hj : j < k
  · rw [if_pos hj, List.getElem?_take_of_lt hj, if_neg (by omega), if_neg (by omega)]
  · rw [if_neg hj]
    obtain ⟨d, rfl⟩ : ∃ d, j = k + d := ⟨j - k, by omega⟩
    rw [show k + d - k = d by omega]
    match d with
    | 0 =>
      rw [if_neg (by omega), if_pos (by omega), if_pos (by first | omega | (simp; omega))]
      rfl
    | 1 =>
      rw [if_pos (by omega), if_pos (by first | omega | (simp; omega))]
      rfl
    | d + 2 =>
      rw [if_neg (by omega), if_neg (by omega)]
      simp only [List.getElem?_cons_succ, List.getElem?_drop]
      congr 1
      omega
end Go.Proofs.Ytacgicpkhbjdaaa
