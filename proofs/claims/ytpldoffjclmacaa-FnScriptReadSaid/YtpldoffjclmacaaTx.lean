/-
  Contracts of EncodeText, DecodeText (program and model), and what they call.
-/
import Derived.Test.YtpldoffjclmacaaRs
namespace Go.Proofs.Ytpldoffjclmacaa
open Go.RowKit

/-- The encoding of a string. -/
def En.text (s : ByteArray) : ByteArray := En.num s.size ++ s
/-- Reading a number of at most top. -/
def En.bel (s : ByteArray) (top : Int) : Option (Int × ByteArray) := match En.dec s with
  | none => none
  | some x => if top < x.1 then none else some x
/-- Reading a string. -/
def En.decT (s : ByteArray) : Option (ByteArray × ByteArray) := match En.bel s 4000 with
  | none => none
  | some x => if (x.2.size : Int) < x.1 then none else some (En.front x.2 x.1, En.rest x.2 x.1)
theorem En.bel_none {s : ByteArray} {top : Int} (h : En.dec s = none) : En.bel s top = none := by unfold En.bel; rw [h]
theorem En.bel_big {s : ByteArray} {top : Int} {x : Int × ByteArray} (h : En.dec s = some x) (h1 : top < x.1) : En.bel s top = none := by unfold En.bel; rw [h]; exact if_pos h1
theorem En.bel_ok {s : ByteArray} {top : Int} {x : Int × ByteArray} (h : En.dec s = some x) (h1 : ¬ top < x.1) : En.bel s top = some x := by unfold En.bel; rw [h]; exact if_neg h1
theorem En.bel_inv {s : ByteArray} {top : Int} {x : Int × ByteArray} (h : En.bel s top = some x) : En.dec s = some x ∧ x.1 ≤ top := by
  unfold En.bel at h
  split at h
  · cases h
  · rename_i y hy
    split at h
    · cases h
    · cases h; exact ⟨hy, by omega⟩
theorem En.decT_none {s : ByteArray} (h : En.bel s 4000 = none) : En.decT s = none := by unfold En.decT; rw [h]
theorem En.decT_short {s : ByteArray} {x : Int × ByteArray} (h : En.bel s 4000 = some x) (h1 : (x.2.size : Int) < x.1) : En.decT s = none := by unfold En.decT; rw [h]; exact if_pos h1
theorem En.decT_ok {s : ByteArray} {x : Int × ByteArray} (h : En.bel s 4000 = some x) (h1 : ¬ (x.2.size : Int) < x.1) : En.decT s = some (En.front x.2 x.1, En.rest x.2 x.1) := by unfold En.decT; rw [h]; exact if_neg h1

set_option maxHeartbeats 400000 in
theorem l1Text_any (s : ByteArray) (w : World) (hs : (s.size : Int) ≤ 4294967295) :
    Calls Try.prog 30 #[.string s] w fun e w' => e = .returned (.string (En.text s)) ∧ Below w.heap.size w w' := by
  unfold En.text
  have ha := add_num s.size s hs
  go_enter Try.func30, Try.ntmps30
  go_wp2_with (go_at_call 31; refine (l1Num_any _ _ (by omega) (by omega)).mono ?_; rintro e w' ⟨rfl, hb⟩)
  go_ret
  exact ⟨rfl, hb⟩

theorem En.len_toList (s : ByteArray) : s.data.toList.length = s.size := by rw [Array.length_toList]; rfl
theorem En.front_append (s t : ByteArray) : En.front (s ++ t) s.size = s := by
  unfold En.front
  rw [Int.toNat_natCast]
  apply ByteArray.ext
  apply Array.toList_inj.1
  rw [ByteArray.data_extract, Array.toList_extract, List.extract_eq_take_drop, ByteArray.data_append, Array.toList_append]
  simp only [List.drop_zero, Nat.sub_zero]
  exact List.take_left' (En.len_toList s)
theorem En.rest_append (s t : ByteArray) : En.rest (s ++ t) s.size = t := by
  unfold En.rest
  rw [Int.toNat_natCast]
  apply ByteArray.ext
  apply Array.toList_inj.1
  rw [ByteArray.data_extract, Array.toList_extract, List.extract_eq_take_drop, ByteArray.data_append, Array.toList_append]
  rw [List.drop_left' (En.len_toList s)]
  exact List.take_of_length_le (by rw [En.len_toList, ByteArray.size_append]; omega)
theorem En.front_rest (s : ByteArray) (n : Int) (h0 : 0 ≤ n) (h : n ≤ s.size) : En.front s n ++ En.rest s n = s := by
  unfold En.front En.rest
  rw [ByteArray.extract_append_extract]
  rw [show min 0 n.toNat = 0 by omega, show max n.toNat s.size = s.size by omega]
  simp
/-- What is encoded is decoded. -/
theorem En.decT_text (s t : ByteArray) (h : s.size ≤ 4000) : En.decT (En.text s ++ t) = some (s, t) := by
  have hd : En.dec (En.text s ++ t) = some ((s.size : Int), s ++ t) := by
    unfold En.text
    rw [ByteArray.append_assoc]
    exact En.dec_num _ _ (by omega) (by omega)
  have hb : En.bel (En.text s ++ t) 4000 = some ((s.size : Int), s ++ t) := En.bel_ok hd (by simp only []; omega)
  rw [En.decT_ok hb (by simp only []; rw [ByteArray.size_append]; omega)]
  simp only [En.front_append, En.rest_append]
/-- What is decoded has one encoding. -/
theorem En.text_decT {s t r : ByteArray} (h : En.decT s = some (t, r)) : En.text t ++ r = s ∧ t.size ≤ 4000 := by
  unfold En.decT at h
  split at h
  · cases h
  · rename_i x hx
    obtain ⟨n, r0⟩ := x
    obtain ⟨hd, ht⟩ := En.bel_inv hx
    have hbd := En.dec_bd hd
    simp only [] at ht h
    split at h
    · cases h
    · simp only [Option.some.injEq, Prod.mk.injEq] at h
      obtain ⟨rfl, rfl⟩ := h
      have hsz : ((En.front r0 n).size : Int) = n := by rw [En.size_front _ _ (by omega)]; omega
      refine ⟨?_, by omega⟩
      unfold En.text
      rw [hsz, ByteArray.append_assoc, En.front_rest _ _ (by omega) (by omega)]
      exact En.num_dec hd

theorem strOfNums_num (n : Int) : strOfNums (En.bytes n) = En.num n := rfl

/-! ### Reading a string: the program. -/
def TkT (B : Nat) (s : ByteArray) (w w' : World) : Prop := ∃ r, Tk B w w' r ∧ r.size ≤ s.size ∧ ∀ x, En.decT s = some x → x.2 = r
def En.decTV (s : ByteArray) : Value := match En.decT s with
  | none => .tuple #[.string ⟨#[]⟩, .bool false]
  | some x => .tuple #[.string x.1, .bool true]
theorem En.decTV_none {s : ByteArray} (h : En.decT s = none) : En.decTV s = .tuple #[.string ⟨#[]⟩, .bool false] := by unfold En.decTV; rw [h]
theorem En.decTV_some {s : ByteArray} {x : ByteArray × ByteArray} (h : En.decT s = some x) : En.decTV s = .tuple #[.string x.1, .bool true] := by unfold En.decTV; rw [h]

set_option maxRecDepth 100000 in
set_option maxHeartbeats 800000 in
theorem takeText_any (B : Nat) (s : ByteArray) (w : World)
    (hb : w.heap[B]? = some (.cells #[.string s] 9 (0, 0))) :
    Calls Try.prog 50 #[takerAt B] w fun e w' => e = .returned (En.decTV s) ∧ TkT B s w w' := by
  cases hd : En.dec s with
  | none =>
    have HD := Lib.hid hd
    have HT := Lib.hid (En.decT_none (En.bel_none hd))
    clear hd
    go_enter Try.func50, Try.ntmps50
    go_wp2_with fail
    refine (takeNum_any B s _ hb).mono ?_
    rw [En.decV_none HD.out]
    rintro e w1 ⟨rfl, r, hT, hle, hr⟩
    go_wp2
    go_ret2
    exact ⟨congrArg Ending.returned (En.decTV_none HT.out).symm, r, hT, hle, fun x hx => by rw [HT.out] at hx; cases hx⟩
  | some x =>
    obtain ⟨n, r0⟩ := x
    have hbd := En.dec_bd hd
    have HD := Lib.hid hd
    by_cases h1 : 4000 < n
    · have HT := Lib.hid (En.decT_none (En.bel_big hd h1))
      clear hd
      go_enter Try.func50, Try.ntmps50
      go_wp2_with fail
      refine (takeNum_any B s _ hb).mono ?_
      rw [En.decV_some HD.out]
      rintro e w1 ⟨rfl, r, hT, hle, hr⟩
      clear hr
      go_wp2
      go_ret2
      exact ⟨congrArg Ending.returned (En.decTV_none HT.out).symm, r, hT, hle, fun x hx => by rw [HT.out] at hx; cases hx⟩
    have HB := Lib.hid (En.bel_ok (top := 4000) hd h1)
    by_cases h2 : (r0.size : Int) < n
    · have HT := Lib.hid (En.decT_short HB.out h2)
      clear hd
      go_enter Try.func50, Try.ntmps50
      go_wp2_with fail
      refine (takeNum_any B s _ hb).mono ?_
      rw [En.decV_some HD.out]
      rintro e w1 ⟨rfl, r, hT, hle, hr⟩
      obtain rfl := hr _ HD.out
      clear hr
      go_wp2_with fail
      refine (take_no B _ n _ h2 hT.held).mono ?_
      rintro e w2 ⟨rfl, rfl⟩
      go_wp2
      go_ret2
      exact ⟨congrArg Ending.returned (En.decTV_none HT.out).symm, _, hT, hle, fun x hx => by rw [HT.out] at hx; cases hx⟩
    · have HT := Lib.hid (En.decT_ok HB.out h2)
      clear hd
      go_enter Try.func50, Try.ntmps50
      go_wp2_with fail
      refine (takeNum_any B s _ hb).mono ?_
      rw [En.decV_some HD.out]
      rintro e w1 ⟨rfl, r, hT, hle, hr⟩
      obtain rfl := hr _ HD.out
      clear hr
      go_wp2_with fail
      refine (take_yes B _ n _ (by omega) (by omega) hT.held).mono ?_
      rintro e w2 ⟨rfl, hT2⟩
      go_wp2
      go_ret2
      exact ⟨congrArg Ending.returned (En.decTV_some HT.out).symm, _, hT.trans hT2, Nat.le_trans (En.size_rest_le _ _) hle, fun x hx => by rw [HT.out] at hx; cases hx; rfl⟩

/-- The answer of DecodeText. -/
def En.decTA (s : ByteArray) : Value := match En.decT s with
  | none => .tuple #[.string ⟨#[]⟩, .string ⟨#[]⟩, .bool false]
  | some x => .tuple #[.string x.1, .string x.2, .bool true]
theorem En.decTA_none {s : ByteArray} (h : En.decT s = none) : En.decTA s = .tuple #[.string ⟨#[]⟩, .string ⟨#[]⟩, .bool false] := by unfold En.decTA; rw [h]
theorem En.decTA_some {s : ByteArray} {x : ByteArray × ByteArray} (h : En.decT s = some x) : En.decTA s = .tuple #[.string x.1, .string x.2, .bool true] := by unfold En.decTA; rw [h]

/-! ### Reading a string: the model. -/
def RsOpt {α : Type} (B : Nat) (o : Option (α × ByteArray)) (w w' : World) : Prop := match o with
  | none => ∃ r, Rs B w w' r true
  | some x => Rs B w w' x.2 false
def En.belN (s : ByteArray) (top : Int) : Int := match En.bel s top with
  | none => 0
  | some x => x.1
theorem En.belN_none {s : ByteArray} {top : Int} (h : En.bel s top = none) : En.belN s top = 0 := by unfold En.belN; rw [h]
theorem En.belN_some {s : ByteArray} {top : Int} {x : Int × ByteArray} (h : En.bel s top = some x) : En.belN s top = x.1 := by unfold En.belN; rw [h]

set_option maxHeartbeats 800000 in
theorem below_any (B : Nat) (s : ByteArray) (top : Int) (w : World) (h0 : 0 ≤ top)
    (hb : w.heap[B]? = some (.cells #[.string s, .bool false] 69 (0, 0))) :
    Calls Try.prog 54 #[.pointer (some ⟨B, 0, none⟩), .int .i64 top] w fun e w' => e = .returned (.int .i64 (En.belN s top)) ∧ RsOpt B (En.bel s top) w w' := by
  cases hd : En.dec s with
  | none =>
    have HD := Lib.hid hd
    rw [En.belN_none (En.bel_none hd), En.bel_none hd]
    clear hd
    go_enter Try.func54, Try.ntmps54
    go_wp2_with fail
    refine (num_any B s _ hb).mono ?_
    rw [En.decN_none HD.out]
    simp only [RsDec.none_ HD.out]
    rintro e w1 ⟨rfl, r, hT⟩
    go_wp2
    go_ret
    exact ⟨rfl, r, hT⟩
  | some x =>
    have HD := Lib.hid hd
    by_cases h1 : top < x.1
    · rw [En.belN_none (En.bel_big hd h1), En.bel_big hd h1]
      clear hd
      go_enter Try.func54, Try.ntmps54
      go_wp2_with fail
      refine (num_any B s _ hb).mono ?_
      rw [En.decN_some HD.out]
      simp only [RsDec.some_ HD.out]
      rintro e w1 ⟨rfl, hT⟩
      have c1 := rs_bad hT.held
      have f1 := rs_f1 hT.held
      have hT3 := hT.trans (Rs.setB hT.held true)
      clear hT hb
      go_wp2
      go_ret
      exact ⟨rfl, _, hT3⟩
    · rw [En.belN_some (En.bel_ok hd h1), En.bel_ok hd h1]
      clear hd
      go_enter Try.func54, Try.ntmps54
      go_wp2_with fail
      refine (num_any B s _ hb).mono ?_
      rw [En.decN_some HD.out]
      simp only [RsDec.some_ HD.out]
      rintro e w1 ⟨rfl, hT⟩
      go_wp2
      go_ret
      exact ⟨rfl, hT⟩

def En.decTS (s : ByteArray) : ByteArray := match En.decT s with
  | none => ⟨#[]⟩
  | some x => x.1
theorem En.decTS_none {s : ByteArray} (h : En.decT s = none) : En.decTS s = ⟨#[]⟩ := by unfold En.decTS; rw [h]
theorem En.decTS_some {s : ByteArray} {x : ByteArray × ByteArray} (h : En.decT s = some x) : En.decTS s = x.1 := by unfold En.decTS; rw [h]

set_option maxRecDepth 100000 in
set_option maxHeartbeats 800000 in
theorem text_any (B : Nat) (s : ByteArray) (w : World)
    (hb : w.heap[B]? = some (.cells #[.string s, .bool false] 69 (0, 0))) :
    Calls Try.prog 36 #[.pointer (some ⟨B, 0, none⟩)] w fun e w' => e = .returned (.string (En.decTS s)) ∧ RsOpt B (En.decT s) w w' := by
  cases hd : En.bel s 4000 with
  | none =>
    have HD := Lib.hid hd
    rw [En.decTS_none (En.decT_none hd), En.decT_none hd]
    clear hd
    go_enter Try.func36, Try.ntmps36
    go_wp2_with fail
    refine (below_any B s 4000 _ (by omega) hb).mono ?_
    rw [En.belN_none HD.out, HD.out]
    rintro e w1 ⟨rfl, r, hT⟩
    have c1 := rs_bad hT.held
    have f1 := rs_f1 hT.held
    have hT3 := hT.trans (Rs.setB hT.held true)
    clear hT hb
    go_wp2
    go_ret
    exact ⟨rfl, _, hT3⟩
  | some x =>
    obtain ⟨n, r0⟩ := x
    have HD := Lib.hid hd
    have hbd := En.dec_bd (En.bel_inv hd).1
    have htop := (En.bel_inv hd).2
    by_cases h2 : (r0.size : Int) < n
    · rw [En.decTS_none (En.decT_short hd h2), En.decT_short hd h2]
      clear hd
      go_enter Try.func36, Try.ntmps36
      go_wp2_with fail
      refine (below_any B s 4000 _ (by omega) hb).mono ?_
      rw [En.belN_some HD.out, HD.out]
      rintro e w1 ⟨rfl, hT⟩
      have c0 := rs_str hT.held
      have c1 := rs_bad hT.held
      have f1 := rs_f1 hT.held
      have hT3 := hT.trans (Rs.setB hT.held true)
      clear hT hb
      go_wp2
      go_ret
      exact ⟨rfl, _, hT3⟩
    · rw [En.decTS_some (En.decT_ok hd h2), En.decT_ok hd h2]
      clear hd
      go_enter Try.func36, Try.ntmps36
      go_wp2_with fail
      refine (below_any B s 4000 _ (by omega) hb).mono ?_
      rw [En.belN_some HD.out, HD.out]
      rintro e w1 ⟨rfl, hT⟩
      have c0 := rs_str hT.held
      have c1 := rs_bad hT.held
      have f0 := rs_f0 hT.held
      have hT3 := hT.trans (Rs.setS hT.held (En.rest r0 n))
      unfold En.rest at hT3
      clear hT hb
      go_wp2
      go_ret
      exact ⟨rfl, hT3⟩

end Go.Proofs.Ytpldoffjclmacaa
