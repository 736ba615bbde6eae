/-
  Contracts of EncodeText, DecodeText (program and model), and what they call.
-/
import Derived.Test.YtpldoffjclmacaaGreatDoorRs
namespace Go.Proofs.YtpldoffjclmacaaGreatDoor
open Go.RowKit

/-- The encoding of a string. -/
def En.text (s : ByteArray) : ByteArray := En.num s.size ++ s
/-- Reading a number of at most top. -/
def En.bel (s : ByteArray) (top : Int) : Option (Int × ByteArray) := match En.dec s with
  | none => none
  | some x => if top < x.1 then none else some x
/-- Reading a string. -/
def En.decT (s : ByteArray) : Option (ByteArray × ByteArray) := match En.bel s 4000 with
  | none => none
  | some x => if (x.2.size : Int) < x.1 then none else some (En.front x.2 x.1, En.rest x.2 x.1)
theorem En.bel_none {s : ByteArray} {top : Int} (h : En.dec s = none) : En.bel s top = none := by unfold En.bel; rw [h]
theorem En.bel_big {s : ByteArray} {top : Int} {x : Int × ByteArray} (h : En.dec s = some x) (h1 : top < x.1) : En.bel s top = none := by unfold En.bel; rw [h]; exact if_pos h1
theorem En.bel_ok {s : ByteArray} {top : Int} {x : Int × ByteArray} (h : En.dec s = some x) (h1 : ¬ top < x.1) : En.bel s top = some x := by unfold En.bel; rw [h]; exact if_neg h1
theorem En.bel_inv {s : ByteArray} {top : Int} {x : Int × ByteArray} (h : En.bel s top = some x) : En.dec s = some x ∧ x.1 ≤ top := by
  unfold En.bel at h
  split at h
  · cases h
  · rename_i y hy
    split at h
    · cases h
    · cases h; exact ⟨hy, by omega⟩
theorem En.decT_none {s : ByteArray} (h : En.bel s 4000 = none) : En.decT s = none := by unfold En.decT; rw [h]
theorem En.decT_short {s : ByteArray} {x : Int × ByteArray} (h : En.bel s 4000 = some x) (h1 : (x.2.size : Int) < x.1) : En.decT s = none := by unfold En.decT; rw [h]; exact if_pos h1
theorem En.decT_ok {s : ByteArray} {x : Int × ByteArray} (h : En.bel s 4000 = some x) (h1 : ¬ (x.2.size : Int) < x.1) : En.decT s = some (En.front x.2 x.1, En.rest x.2 x.1) := by unfold En.decT; rw [h]; exact if_neg h1

theorem En.len_toList (s : ByteArray) : s.data.toList.length = s.size := by rw [Array.length_toList]; rfl
theorem En.front_append (s t : ByteArray) : En.front (s ++ t) s.size = s := by
  unfold En.front
  rw [Int.toNat_natCast]
  apply ByteArray.ext
  apply Array.toList_inj.1
  rw [ByteArray.data_extract, Array.toList_extract, List.extract_eq_take_drop, ByteArray.data_append, Array.toList_append]
  simp only [List.drop_zero, Nat.sub_zero]
  exact List.take_left' (En.len_toList s)
theorem En.rest_append (s t : ByteArray) : En.rest (s ++ t) s.size = t := by
  unfold En.rest
  rw [Int.toNat_natCast]
  apply ByteArray.ext
  apply Array.toList_inj.1
  rw [ByteArray.data_extract, Array.toList_extract, List.extract_eq_take_drop, ByteArray.data_append, Array.toList_append]
  rw [List.drop_left' (En.len_toList s)]
  exact List.take_of_length_le (by rw [En.len_toList, ByteArray.size_append]; omega)
theorem En.front_rest (s : ByteArray) (n : Int) (h0 : 0 ≤ n) (h : n ≤ s.size) : En.front s n ++ En.rest s n = s := by
  unfold En.front En.rest
  rw [ByteArray.extract_append_extract]
  rw [show min 0 n.toNat = 0 by omega, show max n.toNat s.size = s.size by omega]
  simp
/-- What is encoded is decoded. -/
theorem En.decT_text (s t : ByteArray) (h : s.size ≤ 4000) : En.decT (En.text s ++ t) = some (s, t) := by
  have hd : En.dec (En.text s ++ t) = some ((s.size : Int), s ++ t) := by
    unfold En.text
    rw [ByteArray.append_assoc]
    exact En.dec_num _ _ (by omega) (by omega)
  have hb : En.bel (En.text s ++ t) 4000 = some ((s.size : Int), s ++ t) := En.bel_ok hd (by simp only []; omega)
  rw [En.decT_ok hb (by simp only []; rw [ByteArray.size_append]; omega)]
  simp only [En.front_append, En.rest_append]
/-- What is decoded has one encoding. -/
theorem En.text_decT {s t r : ByteArray} (h : En.decT s = some (t, r)) : En.text t ++ r = s ∧ t.size ≤ 4000 := by
  unfold En.decT at h
  split at h
  · cases h
  · rename_i x hx
    obtain ⟨n, r0⟩ := x
    obtain ⟨hd, ht⟩ := En.bel_inv hx
    have hbd := En.dec_bd hd
    simp only [] at ht h
    split at h
    · cases h
    · simp only [Option.some.injEq, Prod.mk.injEq] at h
      obtain ⟨rfl, rfl⟩ := h
      have hsz : ((En.front r0 n).size : Int) = n := by rw [En.size_front _ _ (by omega)]; omega
      refine ⟨?_, by omega⟩
      unfold En.text
      rw [hsz, ByteArray.append_assoc, En.front_rest _ _ (by omega) (by omega)]
      exact En.num_dec hd

theorem strOfNums_num (n : Int) : strOfNums (En.bytes n) = En.num n := rfl

/-! ### Reading a string: the program. -/
def TkT (B : Nat) (s : ByteArray) (w w' : World) : Prop := ∃ r, Tk B w w' r ∧ r.size ≤ s.size ∧ ∀ x, En.decT s = some x → x.2 = r
def En.decTV (s : ByteArray) : Value := match En.decT s with
  | none => .tuple #[.string ⟨#[]⟩, .bool false]
  | some x => .tuple #[.string x.1, .bool true]
theorem En.decTV_none {s : ByteArray} (h : En.decT s = none) : En.decTV s = .tuple #[.string ⟨#[]⟩, .bool false] := by unfold En.decTV; rw [h]
theorem En.decTV_some {s : ByteArray} {x : ByteArray × ByteArray} (h : En.decT s = some x) : En.decTV s = .tuple #[.string x.1, .bool true] := by unfold En.decTV; rw [h]

/-- The answer of DecodeText. -/
def En.decTA (s : ByteArray) : Value := match En.decT s with
  | none => .tuple #[.string ⟨#[]⟩, .string ⟨#[]⟩, .bool false]
  | some x => .tuple #[.string x.1, .string x.2, .bool true]
theorem En.decTA_none {s : ByteArray} (h : En.decT s = none) : En.decTA s = .tuple #[.string ⟨#[]⟩, .string ⟨#[]⟩, .bool false] := by unfold En.decTA; rw [h]
theorem En.decTA_some {s : ByteArray} {x : ByteArray × ByteArray} (h : En.decT s = some x) : En.decTA s = .tuple #[.string x.1, .string x.2, .bool true] := by unfold En.decTA; rw [h]

end Go.Proofs.YtpldoffjclmacaaGreatDoor
