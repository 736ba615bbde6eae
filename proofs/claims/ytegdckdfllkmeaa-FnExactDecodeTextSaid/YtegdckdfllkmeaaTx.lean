/-
  Contracts of EncodeText, DecodeText (program and model), and what they call.
-/
import Derived.Test.YtegdckdfllkmeaaRs
import Derived.Laws.Concat
namespace Go.Proofs.Ytegdckdfllkmeaa
open Go.RowKit

/-- The encoding of a string. -/
def En.text (s : ByteArray) : ByteArray := En.num s.size ++ s
/-- Reading a number of at most top. -/
def En.bel (s : ByteArray) (top : Int) : Option (Int × ByteArray) := match En.dec s with
  | none => none
  | some x => if top < x.1 then none else some x
/-- Reading a string. -/
def En.decT (s : ByteArray) : Option (ByteArray × ByteArray) := match En.bel s 4000 with
  | none => none
  | some x => if (x.2.size : Int) < x.1 then none else some (En.front x.2 x.1, En.rest x.2 x.1)
theorem En.bel_none {s : ByteArray} {top : Int} (h : En.dec s = none) : En.bel s top = none := by unfold En.bel; rw [h]
theorem En.bel_big {s : ByteArray} {top : Int} {x : Int × ByteArray} (h : En.dec s = some x) (h1 : top < x.1) : En.bel s top = none := by unfold En.bel; rw [h]; exact if_pos h1
theorem En.bel_ok {s : ByteArray} {top : Int} {x : Int × ByteArray} (h : En.dec s = some x) (h1 : ¬ top < x.1) : En.bel s top = some x := by unfold En.bel; rw [h]; exact if_neg h1
theorem En.bel_inv {s : ByteArray} {top : Int} {x : Int × ByteArray} (h : En.bel s top = some x) : En.dec s = some x ∧ x.1 ≤ top := by
  unfold En.bel at h
  split at h
  · cases h
  · rename_i y hy
    split at h
    · cases h
    · cases h; exact ⟨hy, by omega⟩
theorem En.decT_none {s : ByteArray} (h : En.bel s 4000 = none) : En.decT s = none := by unfold En.decT; rw [h]
theorem En.decT_short {s : ByteArray} {x : Int × ByteArray} (h : En.bel s 4000 = some x) (h1 : (x.2.size : Int) < x.1) : En.decT s = none := by unfold En.decT; rw [h]; exact if_pos h1
theorem En.decT_ok {s : ByteArray} {x : Int × ByteArray} (h : En.bel s 4000 = some x) (h1 : ¬ (x.2.size : Int) < x.1) : En.decT s = some (En.front x.2 x.1, En.rest x.2 x.1) := by unfold En.decT; rw [h]; exact if_neg h1

theorem En.size_num (n : Int) : (En.num n).size ≤ 5 := by
  unfold En.num
  rw [show (strOfNums (En.bytes n)).size = (En.bytes n).length by simp [strOfNums, ByteArray.size]]
  unfold En.bytes
  split
  · simp
  · split
    · simp
    · simp
theorem add_num (n : Int) (s : ByteArray) (hs : (s.size : Int) ≤ 4294967295) (W : World) : (Op.stringOp .add (En.num n) s).run Try.prog W = .ok (.string (En.num n ++ s)) W := by
  have := En.size_num n
  exact run_string_add_sum (P := Try.prog) W _ _ (by omega)

set_option maxHeartbeats 400000 in
theorem l1Text_any (s : ByteArray) (w : World) (hs : (s.size : Int) ≤ 4294967295) :
    Calls Try.prog 32 #[.string s] w fun e w' => e = .returned (.string (En.text s)) ∧ Below w.heap.size w w' := by
  unfold En.text
  have ha := add_num s.size s hs
  go_enter Try.func32, Try.ntmps32
  go_wp2_with (go_at_call 27; refine (l1Num_any _ _ (by omega) (by omega)).mono ?_; rintro e w' ⟨rfl, hb⟩)
  go_ret
  exact ⟨rfl, hb⟩

theorem strOfNums_num (n : Int) : strOfNums (En.bytes n) = En.num n := rfl

set_option maxHeartbeats 400000 in
theorem implEncodeText_ok (s : ByteArray) (w : World) (hs : (s.size : Int) ≤ 4000) :
    Calls Try.prog 14 #[.string s] w fun e w' => e = .returned (.tuple #[.string (En.text s), .bool true]) ∧ Below w.heap.size w w' := by
  unfold En.text
  have c1 := fun (xs : List Int) (W : World) => conv_new xs xs.length W
  have c2 := strOfNums_num
  have ha := add_num s.size s (by omega)
  go_enter Try.func14, Try.ntmps14
  go_wp2_with (go_at_call 28; refine (numBytes_any _ _ (by omega) (by omega)).mono ?_; rintro e w' ⟨rfl, rfl⟩)
  go_ret2
  exact ⟨rfl, (Below.refl _ _).alloc (Nat.le_refl _) _⟩

set_option maxHeartbeats 400000 in
theorem implEncodeText_no (s : ByteArray) (w : World) (hs : 4000 < (s.size : Int)) :
    Calls Try.prog 14 #[.string s] w fun e w' => e = .returned (.tuple #[.string ⟨#[]⟩, .bool false]) ∧ Below w.heap.size w w' := by
  go_enter Try.func14, Try.ntmps14
  go_wp2
  go_ret2
  exact ⟨rfl, Below.refl _ _⟩

set_option maxHeartbeats 400000 in
theorem specEncodeText_ok (s : ByteArray) (w : World) (hs : (s.size : Int) ≤ 4000) :
    Calls Try.prog 13 #[.string s] w fun e w' => e = .returned (.tuple #[.string (En.text s), .bool true]) ∧ Below w.heap.size w w' := by
  go_enter Try.func13, Try.ntmps13
  go_wp2_with (go_at_call 32; refine (l1Text_any _ _ (by omega)).mono ?_; rintro e w' ⟨rfl, hb⟩)
  go_ret2
  exact ⟨rfl, hb⟩

set_option maxHeartbeats 400000 in
theorem specEncodeText_no (s : ByteArray) (w : World) (hs : 4000 < (s.size : Int)) :
    Calls Try.prog 13 #[.string s] w fun e w' => e = .returned (.tuple #[.string ⟨#[]⟩, .bool false]) ∧ Below w.heap.size w w' := by
  go_enter Try.func13, Try.ntmps13
  go_wp2
  go_ret2
  exact ⟨rfl, Below.refl _ _⟩

/-! ### Reading a string: the program. -/
def TkT (B : Nat) (s : ByteArray) (w w' : World) : Prop := ∃ r, Tk B w w' r ∧ r.size ≤ s.size ∧ ∀ x, En.decT s = some x → x.2 = r
def En.decTV (s : ByteArray) : Value := match En.decT s with
  | none => .tuple #[.string ⟨#[]⟩, .bool false]
  | some x => .tuple #[.string x.1, .bool true]
theorem En.decTV_none {s : ByteArray} (h : En.decT s = none) : En.decTV s = .tuple #[.string ⟨#[]⟩, .bool false] := by unfold En.decTV; rw [h]
theorem En.decTV_some {s : ByteArray} {x : ByteArray × ByteArray} (h : En.decT s = some x) : En.decTV s = .tuple #[.string x.1, .bool true] := by unfold En.decTV; rw [h]

set_option maxRecDepth 100000 in
set_option maxHeartbeats 800000 in
theorem takeText_any (B : Nat) (s : ByteArray) (w : World)
    (hb : w.heap[B]? = some (.cells #[.string s] 9 (0, 0))) :
    Calls Try.prog 34 #[takerAt B] w fun e w' => e = .returned (En.decTV s) ∧ TkT B s w w' := by
  cases hd : En.dec s with
  | none =>
    have HD := Lib.hid hd
    have HT := Lib.hid (En.decT_none (En.bel_none hd))
    clear hd
    go_enter Try.func34, Try.ntmps34
    go_wp2_with fail
    refine (takeNum_any B s _ hb).mono ?_
    rw [En.decV_none HD.out]
    rintro e w1 ⟨rfl, r, hT, hle, hr⟩
    go_wp2
    go_ret2
    exact ⟨congrArg Ending.returned (En.decTV_none HT.out).symm, r, hT, hle, fun x hx => by rw [HT.out] at hx; cases hx⟩
  | some x =>
    obtain ⟨n, r0⟩ := x
    have hbd := En.dec_bd hd
    have HD := Lib.hid hd
    by_cases h1 : 4000 < n
    · have HT := Lib.hid (En.decT_none (En.bel_big hd h1))
      clear hd
      go_enter Try.func34, Try.ntmps34
      go_wp2_with fail
      refine (takeNum_any B s _ hb).mono ?_
      rw [En.decV_some HD.out]
      rintro e w1 ⟨rfl, r, hT, hle, hr⟩
      clear hr
      go_wp2
      go_ret2
      exact ⟨congrArg Ending.returned (En.decTV_none HT.out).symm, r, hT, hle, fun x hx => by rw [HT.out] at hx; cases hx⟩
    have HB := Lib.hid (En.bel_ok (top := 4000) hd h1)
    by_cases h2 : (r0.size : Int) < n
    · have HT := Lib.hid (En.decT_short HB.out h2)
      clear hd
      go_enter Try.func34, Try.ntmps34
      go_wp2_with fail
      refine (takeNum_any B s _ hb).mono ?_
      rw [En.decV_some HD.out]
      rintro e w1 ⟨rfl, r, hT, hle, hr⟩
      obtain rfl := hr _ HD.out
      clear hr
      go_wp2_with fail
      refine (take_no B _ n _ h2 hT.held).mono ?_
      rintro e w2 ⟨rfl, rfl⟩
      go_wp2
      go_ret2
      exact ⟨congrArg Ending.returned (En.decTV_none HT.out).symm, _, hT, hle, fun x hx => by rw [HT.out] at hx; cases hx⟩
    · have HT := Lib.hid (En.decT_ok HB.out h2)
      clear hd
      go_enter Try.func34, Try.ntmps34
      go_wp2_with fail
      refine (takeNum_any B s _ hb).mono ?_
      rw [En.decV_some HD.out]
      rintro e w1 ⟨rfl, r, hT, hle, hr⟩
      obtain rfl := hr _ HD.out
      clear hr
      go_wp2_with fail
      refine (take_yes B _ n _ (by omega) (by omega) hT.held).mono ?_
      rintro e w2 ⟨rfl, hT2⟩
      go_wp2
      go_ret2
      exact ⟨congrArg Ending.returned (En.decTV_some HT.out).symm, _, hT.trans hT2, Nat.le_trans (En.size_rest_le _ _) hle, fun x hx => by rw [HT.out] at hx; cases hx; rfl⟩

/-- The answer of DecodeText. -/
def En.decTA (s : ByteArray) : Value := match En.decT s with
  | none => .tuple #[.string ⟨#[]⟩, .string ⟨#[]⟩, .bool false]
  | some x => .tuple #[.string x.1, .string x.2, .bool true]
theorem En.decTA_none {s : ByteArray} (h : En.decT s = none) : En.decTA s = .tuple #[.string ⟨#[]⟩, .string ⟨#[]⟩, .bool false] := by unfold En.decTA; rw [h]
theorem En.decTA_some {s : ByteArray} {x : ByteArray × ByteArray} (h : En.decT s = some x) : En.decTA s = .tuple #[.string x.1, .string x.2, .bool true] := by unfold En.decTA; rw [h]

set_option maxHeartbeats 800000 in
theorem implDecodeText_any (s : ByteArray) (w : World) :
    Calls Try.prog 16 #[.string s] w fun e w' => e = .returned (En.decTA s) ∧ Below w.heap.size w w' := by
  have hnew := heap_new w (.cells #[.string s] 9 (0, 0))
  cases hd : En.decT s with
  | none =>
    have HD := Lib.hid hd
    clear hd
    go_enter Try.func16, Try.ntmps16
    go_wp2_with (first
      | (go_at_call 30; refine (bytesOf_any s _).mono ?_; rintro e w1 ⟨rfl, rfl⟩)
      | (go_at_call 34; refine (takeText_any w.heap.size s _ hnew).mono ?_; rw [En.decTV_none HD.out]; rintro e w1 ⟨rfl, r, hT, hle, hr⟩))
    go_ret3
    exact ⟨congrArg Ending.returned (En.decTA_none HD.out).symm, ((Below.refl _ _).alloc (Nat.le_refl _) _).trans (hT.below (Nat.le_refl _) (by simp))⟩
  | some x =>
    have HD := Lib.hid hd
    clear hd
    go_enter Try.func16, Try.ntmps16
    go_wp2_with (first
      | (go_at_call 30; refine (bytesOf_any s _).mono ?_; rintro e w1 ⟨rfl, rfl⟩)
      | (go_at_call 34; refine (takeText_any w.heap.size s _ hnew).mono ?_; rw [En.decTV_some HD.out]; rintro e w1 ⟨rfl, r, hT, hle, hr⟩; obtain rfl := hr _ HD.out)
      | (go_at_call 46; refine (rest_any w.heap.size _ _ hT.held).mono ?_; rintro e w1 ⟨rfl, rfl⟩))
    go_ret3
    exact ⟨congrArg Ending.returned (En.decTA_some HD.out).symm, ((Below.refl _ _).alloc (Nat.le_refl _) _).trans (hT.below (Nat.le_refl _) (by simp))⟩

/-! ### Reading a string: the model. -/
def RsOpt {α : Type} (B : Nat) (o : Option (α × ByteArray)) (w w' : World) : Prop := match o with
  | none => ∃ r, Rs B w w' r true
  | some x => Rs B w w' x.2 false
def En.belN (s : ByteArray) (top : Int) : Int := match En.bel s top with
  | none => 0
  | some x => x.1
theorem En.belN_none {s : ByteArray} {top : Int} (h : En.bel s top = none) : En.belN s top = 0 := by unfold En.belN; rw [h]
theorem En.belN_some {s : ByteArray} {top : Int} {x : Int × ByteArray} (h : En.bel s top = some x) : En.belN s top = x.1 := by unfold En.belN; rw [h]

set_option maxHeartbeats 800000 in
theorem below_any (B : Nat) (s : ByteArray) (top : Int) (w : World) (h0 : 0 ≤ top)
    (hb : w.heap[B]? = some (.cells #[.string s, .bool false] 45 (0, 0))) :
    Calls Try.prog 48 #[.pointer (some ⟨B, 0, none⟩), .int .i64 top] w fun e w' => e = .returned (.int .i64 (En.belN s top)) ∧ RsOpt B (En.bel s top) w w' := by
  cases hd : En.dec s with
  | none =>
    have HD := Lib.hid hd
    rw [En.belN_none (En.bel_none hd), En.bel_none hd]
    clear hd
    go_enter Try.func48, Try.ntmps48
    go_wp2_with fail
    refine (num_any B s _ hb).mono ?_
    rw [En.decN_none HD.out]
    simp only [RsDec.none_ HD.out]
    rintro e w1 ⟨rfl, r, hT⟩
    go_wp2
    go_ret
    exact ⟨rfl, r, hT⟩
  | some x =>
    have HD := Lib.hid hd
    by_cases h1 : top < x.1
    · rw [En.belN_none (En.bel_big hd h1), En.bel_big hd h1]
      clear hd
      go_enter Try.func48, Try.ntmps48
      go_wp2_with fail
      refine (num_any B s _ hb).mono ?_
      rw [En.decN_some HD.out]
      simp only [RsDec.some_ HD.out]
      rintro e w1 ⟨rfl, hT⟩
      have c1 := rs_bad hT.held
      have f1 := rs_f1 hT.held
      have hT3 := hT.trans (Rs.setB hT.held true)
      clear hT hb
      go_wp2
      go_ret
      exact ⟨rfl, _, hT3⟩
    · rw [En.belN_some (En.bel_ok hd h1), En.bel_ok hd h1]
      clear hd
      go_enter Try.func48, Try.ntmps48
      go_wp2_with fail
      refine (num_any B s _ hb).mono ?_
      rw [En.decN_some HD.out]
      simp only [RsDec.some_ HD.out]
      rintro e w1 ⟨rfl, hT⟩
      go_wp2
      go_ret
      exact ⟨rfl, hT⟩

def En.decTS (s : ByteArray) : ByteArray := match En.decT s with
  | none => ⟨#[]⟩
  | some x => x.1
theorem En.decTS_none {s : ByteArray} (h : En.decT s = none) : En.decTS s = ⟨#[]⟩ := by unfold En.decTS; rw [h]
theorem En.decTS_some {s : ByteArray} {x : ByteArray × ByteArray} (h : En.decT s = some x) : En.decTS s = x.1 := by unfold En.decTS; rw [h]

set_option maxRecDepth 100000 in
set_option maxHeartbeats 800000 in
theorem text_any (B : Nat) (s : ByteArray) (w : World)
    (hb : w.heap[B]? = some (.cells #[.string s, .bool false] 45 (0, 0))) :
    Calls Try.prog 33 #[.pointer (some ⟨B, 0, none⟩)] w fun e w' => e = .returned (.string (En.decTS s)) ∧ RsOpt B (En.decT s) w w' := by
  cases hd : En.bel s 4000 with
  | none =>
    have HD := Lib.hid hd
    rw [En.decTS_none (En.decT_none hd), En.decT_none hd]
    clear hd
    go_enter Try.func33, Try.ntmps33
    go_wp2_with fail
    refine (below_any B s 4000 _ (by omega) hb).mono ?_
    rw [En.belN_none HD.out, HD.out]
    rintro e w1 ⟨rfl, r, hT⟩
    have c1 := rs_bad hT.held
    have f1 := rs_f1 hT.held
    have hT3 := hT.trans (Rs.setB hT.held true)
    clear hT hb
    go_wp2
    go_ret
    exact ⟨rfl, _, hT3⟩
  | some x =>
    obtain ⟨n, r0⟩ := x
    have HD := Lib.hid hd
    have hbd := En.dec_bd (En.bel_inv hd).1
    have htop := (En.bel_inv hd).2
    by_cases h2 : (r0.size : Int) < n
    · rw [En.decTS_none (En.decT_short hd h2), En.decT_short hd h2]
      clear hd
      go_enter Try.func33, Try.ntmps33
      go_wp2_with fail
      refine (below_any B s 4000 _ (by omega) hb).mono ?_
      rw [En.belN_some HD.out, HD.out]
      rintro e w1 ⟨rfl, hT⟩
      have c0 := rs_str hT.held
      have c1 := rs_bad hT.held
      have f1 := rs_f1 hT.held
      have hT3 := hT.trans (Rs.setB hT.held true)
      clear hT hb
      go_wp2
      go_ret
      exact ⟨rfl, _, hT3⟩
    · rw [En.decTS_some (En.decT_ok hd h2), En.decT_ok hd h2]
      clear hd
      go_enter Try.func33, Try.ntmps33
      go_wp2_with fail
      refine (below_any B s 4000 _ (by omega) hb).mono ?_
      rw [En.belN_some HD.out, HD.out]
      rintro e w1 ⟨rfl, hT⟩
      have c0 := rs_str hT.held
      have c1 := rs_bad hT.held
      have f0 := rs_f0 hT.held
      have hT3 := hT.trans (Rs.setS hT.held (En.rest r0 n))
      unfold En.rest at hT3
      clear hT hb
      go_wp2
      go_ret
      exact ⟨rfl, hT3⟩

set_option maxHeartbeats 800000 in
theorem specDecodeText_any (s : ByteArray) (w : World) :
    Calls Try.prog 15 #[.string s] w fun e w' => e = .returned (En.decTA s) ∧ Below w.heap.size w w' := by
  have hnew := heap_new w (.cells #[.string s, .bool false] 45 (0, 0))
  cases hd : En.decT s with
  | none =>
    have HD := Lib.hid hd
    clear hd
    go_enter Try.func15, Try.ntmps15
    go_wp2_with fail
    refine (text_any w.heap.size s _ hnew).mono ?_
    rw [En.decTS_none HD.out, HD.out]
    rintro e w1 ⟨rfl, r, hT⟩
    have c1 := rs_bad hT.held
    go_wp2
    go_ret3
    exact ⟨congrArg Ending.returned (En.decTA_none HD.out).symm, ((Below.refl _ _).alloc (Nat.le_refl _) _).trans (hT.below (Nat.le_refl _) (by simp))⟩
  | some x =>
    have HD := Lib.hid hd
    clear hd
    go_enter Try.func15, Try.ntmps15
    go_wp2_with fail
    refine (text_any w.heap.size s _ hnew).mono ?_
    rw [En.decTS_some HD.out, HD.out]
    rintro e w1 ⟨rfl, hT⟩
    have hT : Rs _ _ _ x.2 false := hT
    have c1 := rs_bad hT.held
    have c0 := rs_str hT.held
    go_wp2
    go_quiet (fail)
    go_wp2
    go_ret3
    exact ⟨congrArg Ending.returned (En.decTA_some HD.out).symm, below_drewN (((Below.refl _ _).alloc (Nat.le_refl _) _).trans (hT.below (Nat.le_refl _) (by simp))) _⟩
end Go.Proofs.Ytegdckdfllkmeaa
