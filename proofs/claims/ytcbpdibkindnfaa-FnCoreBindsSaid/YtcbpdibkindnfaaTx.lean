import Derived.Test.YtcbpdibkindnfaaChecked
import Derived.Test.YtcbpdibkindnfaaEn
import Derived.Test.YtcbpdibkindnfaaBa
import Derived.WalkKit
import Derived.WalkSpells
import Derived.Below
import Derived.Outline
import Derived.Laws.Concat
import Derived.Lib.Hide
import Derived.RangeFuncBox
import Derived.LoopTactic
import Derived.Deep.QuietTactic
import Derived.BigQuiet
import Derived.WalkSmall
/-
  Contracts: numBytes, EncodeNum of the program and l6In, l1Num, EncodeNum of the model.
-/
namespace Go.Proofs.Ytcbpdibkindnfaa
open Go.RowKit

set_option maxHeartbeats 400000 in
theorem l1Num_any (n : Int) (w : World) (h0 : 0 ≤ n) (h : n ≤ 4294967295) :
    Calls Try.prog 66 #[.int .i64 n] w fun e w' => e = .returned (.string (En.num n)) ∧ Below w.heap.size w w' := by
  have c1 := fun (a : Int) (W : World) => conv_new [a] 1 W
  have c3 := fun (a b c : Int) (W : World) => conv_new [a, b, c] 3 W
  have c5 := fun (a b c d e : Int) (W : World) => conv_new [a, b, c, d, e] 5 W
  simp only [List.map, List.length] at c1 c3 c5
  unfold En.num
  by_cases h1 : n < 253
  · rw [En.bytes_small h1]
    go_enter Try.func66, Try.ntmps66
    go_wp2
    go_ret
    exact ⟨rfl, (Below.refl _ _).alloc (Nat.le_refl _) _⟩
  by_cases h2 : n < 65536
  · rw [En.bytes_mid (by omega) h2]
    go_enter Try.func66, Try.ntmps66
    go_wp2
    go_ret
    exact ⟨rfl, (Below.refl _ _).alloc (Nat.le_refl _) _⟩
  · rw [En.bytes_big (by omega)]
    go_enter Try.func66, Try.ntmps66
    go_wp2
    go_ret
    exact ⟨rfl, (Below.refl _ _).alloc (Nat.le_refl _) _⟩
set_option maxHeartbeats 400000 in
theorem numBytes_any (n : Int) (w : World) (h0 : 0 ≤ n) (h : n ≤ 4294967295) :
    Calls Try.prog 83 #[.int .i64 n] w fun e w' => e = .returned (.slice (some ⟨w.heap.size, 0, none⟩) (En.bytes n).length (En.bytes n).length) ∧
      w' = w.alloc (.cells ((En.bytes n).map (Value.int .u8)).toArray 5) := by
  by_cases h1 : n < 253
  · rw [En.bytes_small h1]
    go_enter Try.func83, Try.ntmps83
    go_wp2
    go_ret
    exact ⟨rfl, rfl⟩
  by_cases h2 : n < 65536
  · rw [En.bytes_mid (by omega) h2]
    go_enter Try.func83, Try.ntmps83
    go_wp2
    go_ret
    exact ⟨rfl, rfl⟩
  · rw [En.bytes_big (by omega)]
    go_enter Try.func83, Try.ntmps83
    go_wp2
    go_ret
    exact ⟨rfl, rfl⟩
theorem En.size_num (n : Int) : (En.num n).size ≤ 5 := by
  unfold En.num
  rw [show (strOfNums (En.bytes n)).size = (En.bytes n).length by simp [strOfNums, ByteArray.size]]
  unfold En.bytes
  split
  · simp
  · split
    · simp
    · simp
theorem add_num (n : Int) (s : ByteArray) (hs : (s.size : Int) ≤ 4294967295) (W : World) : (Op.stringOp .add (En.num n) s).run Try.prog W = .ok (.string (En.num n ++ s)) W := by
  have := En.size_num n
  exact run_string_add_sum (P := Try.prog) W _ _ (by omega)
end Go.Proofs.Ytcbpdibkindnfaa

/-
  Contracts of reading a number: the program's closures (bytesOf, takeNum, takeLong, DecodeNum) and the model's reader (le, num, DecodeNum).
-/
namespace Go.Proofs.Ytcbpdibkindnfaa
open Go.RowKit

/-! ### The program's taker: a block with one string. -/
/-- From w to w' nothing but block B was written, and it holds the string r. -/
structure Tk (B : Nat) (w w' : World) (r : ByteArray) : Prop where
  held : w'.heap[B]? = some (.cells #[.string r] 9 (0, 0))
  kept : w.grownBy w' (some B)
theorem Tk.set {B : Nat} {w : World} {s : ByteArray} (h : w.heap[B]? = some (.cells #[.string s] 9 (0, 0))) (r : ByteArray) : Tk B w (w.setCell ⟨B, 0, none⟩ (.string r)) r :=
  ⟨one_setCell h, grownBy_setCell' w B _⟩
theorem grownBy_trans' {w a b : World} {row : Option Nat} (h : w.grownBy a row) (k : a.grownBy b row) : w.grownBy b row :=
  ⟨k.os.trans h.os, k.tape.trans h.tape, k.output.trans h.output, Nat.le_trans h.size k.size, fun j hj hr => (k.block j (Nat.lt_of_lt_of_le hj h.size) hr).trans (h.block j hj hr)⟩
theorem Tk.trans {B : Nat} {w a b : World} {s r : ByteArray} (h : Tk B w a s) (k : Tk B a b r) : Tk B w b r := ⟨k.held, grownBy_trans' h.kept k.kept⟩

theorem makeFunc_run : ∀ (fn : Fn) (first cap : Array Value) (w : World), (Instr.makeFunc fn first cap).run Try.prog w = .ok (.func fn first cap) w := fun _ _ _ _ => rfl

/-- What the reading of a number leaves: the block holds a string; the rest, if there was a number. -/
def TkDec (B : Nat) (s : ByteArray) (w w' : World) : Prop := ∃ r, Tk B w w' r ∧ r.size ≤ s.size ∧ ∀ x, En.dec s = some x → x.2 = r
theorem Tk.rfl' {B : Nat} {w : World} {s : ByteArray} (h : w.heap[B]? = some (.cells #[.string s] 9 (0, 0))) : Tk B w w s := ⟨h, World.grownBy.refl _ _⟩
theorem ne_bool {a b : Int} (h : a ≠ b) : (a == b) = false := by simpa using h
theorem eq_bool {a b : Int} (h : a = b) : (a == b) = true := by simpa using h

/-- The answer of DecodeNum. -/
def En.decA (s : ByteArray) : Value := match En.dec s with
  | none => .tuple #[.int .i64 0, .string ⟨#[]⟩, .bool false]
  | some x => .tuple #[.int .i64 x.1, .string x.2, .bool true]
theorem En.decA_none {s : ByteArray} (h : En.dec s = none) : En.decA s = .tuple #[.int .i64 0, .string ⟨#[]⟩, .bool false] := by unfold En.decA; rw [h]
theorem En.decA_some {s : ByteArray} {x : Int × ByteArray} (h : En.dec s = some x) : En.decA s = .tuple #[.int .i64 x.1, .string x.2, .bool true] := by unfold En.decA; rw [h]
theorem Tk.below {B : Nat} {w w' : World} {r : ByteArray} (h : Tk B w w' r) {k : Nat} (hk : k ≤ B) (hw : k ≤ w.heap.size) : Below k w w' :=
  Below.grown (Below.refl _ _) h.kept hw (fun j hj => by cases hj; exact hk)
theorem heap_new (w : World) (o : Obj) : (w.alloc o).heap[w.heap.size]? = some o := by
  show (w.heap.push o)[w.heap.size]? = _
  simp

end Go.Proofs.Ytcbpdibkindnfaa

/-
  Contracts of the model's reader: le, num, DecodeNum.
-/
namespace Go.Proofs.Ytcbpdibkindnfaa
open Go.RowKit
theorem grownBy_set (w : World) (B i : Nat) (v : Value) : w.grownBy (w.setCell ⟨B, i, none⟩ v) (some B) :=
  ⟨rfl, rfl, rfl, by simp [World.setCell], fun j _ hr => Below.heap_setCell _ _ _ _ (fun e => hr (by simp [e]))⟩
end Go.Proofs.Ytcbpdibkindnfaa

/-
  Contracts of EncodeText, DecodeText (program and model), and what they call.
-/
namespace Go.Proofs.Ytcbpdibkindnfaa
open Go.RowKit

/-- The encoding of a string. -/
def En.text (s : ByteArray) : ByteArray := En.num s.size ++ s
/-- Reading a number of at most top. -/
def En.bel (s : ByteArray) (top : Int) : Option (Int × ByteArray) := match En.dec s with
  | none => none
  | some x => if top < x.1 then none else some x
/-- Reading a string. -/
def En.decT (s : ByteArray) : Option (ByteArray × ByteArray) := match En.bel s 4000 with
  | none => none
  | some x => if (x.2.size : Int) < x.1 then none else some (En.front x.2 x.1, En.rest x.2 x.1)
theorem En.bel_none {s : ByteArray} {top : Int} (h : En.dec s = none) : En.bel s top = none := by unfold En.bel; rw [h]
theorem En.bel_big {s : ByteArray} {top : Int} {x : Int × ByteArray} (h : En.dec s = some x) (h1 : top < x.1) : En.bel s top = none := by unfold En.bel; rw [h]; exact if_pos h1
theorem En.bel_ok {s : ByteArray} {top : Int} {x : Int × ByteArray} (h : En.dec s = some x) (h1 : ¬ top < x.1) : En.bel s top = some x := by unfold En.bel; rw [h]; exact if_neg h1
theorem En.bel_inv {s : ByteArray} {top : Int} {x : Int × ByteArray} (h : En.bel s top = some x) : En.dec s = some x ∧ x.1 ≤ top := by
  unfold En.bel at h
  split at h
  · cases h
  · rename_i y hy
    split at h
    · cases h
    · cases h; exact ⟨hy, by omega⟩
theorem En.decT_none {s : ByteArray} (h : En.bel s 4000 = none) : En.decT s = none := by unfold En.decT; rw [h]
theorem En.decT_short {s : ByteArray} {x : Int × ByteArray} (h : En.bel s 4000 = some x) (h1 : (x.2.size : Int) < x.1) : En.decT s = none := by unfold En.decT; rw [h]; exact if_pos h1
theorem En.decT_ok {s : ByteArray} {x : Int × ByteArray} (h : En.bel s 4000 = some x) (h1 : ¬ (x.2.size : Int) < x.1) : En.decT s = some (En.front x.2 x.1, En.rest x.2 x.1) := by unfold En.decT; rw [h]; exact if_neg h1

set_option maxHeartbeats 400000 in
theorem l1Text_any (s : ByteArray) (w : World) (hs : (s.size : Int) ≤ 4294967295) :
    Calls Try.prog 69 #[.string s] w fun e w' => e = .returned (.string (En.text s)) ∧ Below w.heap.size w w' := by
  unfold En.text
  have ha := add_num s.size s hs
  go_enter Try.func69, Try.ntmps69
  go_wp2_with (go_at_call 66; refine (l1Num_any _ _ (by omega) (by omega)).mono ?_; rintro e w' ⟨rfl, hb⟩)
  go_ret
  exact ⟨rfl, hb⟩

theorem En.len_toList (s : ByteArray) : s.data.toList.length = s.size := by rw [Array.length_toList]; rfl
theorem En.front_append (s t : ByteArray) : En.front (s ++ t) s.size = s := by
  unfold En.front
  rw [Int.toNat_natCast]
  apply ByteArray.ext
  apply Array.toList_inj.1
  rw [ByteArray.data_extract, Array.toList_extract, List.extract_eq_take_drop, ByteArray.data_append, Array.toList_append]
  simp only [List.drop_zero, Nat.sub_zero]
  exact List.take_left' (En.len_toList s)
theorem En.rest_append (s t : ByteArray) : En.rest (s ++ t) s.size = t := by
  unfold En.rest
  rw [Int.toNat_natCast]
  apply ByteArray.ext
  apply Array.toList_inj.1
  rw [ByteArray.data_extract, Array.toList_extract, List.extract_eq_take_drop, ByteArray.data_append, Array.toList_append]
  rw [List.drop_left' (En.len_toList s)]
  exact List.take_of_length_le (by rw [En.len_toList, ByteArray.size_append]; omega)
theorem En.front_rest (s : ByteArray) (n : Int) (h0 : 0 ≤ n) (h : n ≤ s.size) : En.front s n ++ En.rest s n = s := by
  unfold En.front En.rest
  rw [ByteArray.extract_append_extract]
  rw [show min 0 n.toNat = 0 by omega, show max n.toNat s.size = s.size by omega]
  simp
/-- What is encoded is decoded. -/
theorem En.decT_text (s t : ByteArray) (h : s.size ≤ 4000) : En.decT (En.text s ++ t) = some (s, t) := by
  have hd : En.dec (En.text s ++ t) = some ((s.size : Int), s ++ t) := by
    unfold En.text
    rw [ByteArray.append_assoc]
    exact En.dec_num _ _ (by omega) (by omega)
  have hb : En.bel (En.text s ++ t) 4000 = some ((s.size : Int), s ++ t) := En.bel_ok hd (by simp only []; omega)
  rw [En.decT_ok hb (by simp only []; rw [ByteArray.size_append]; omega)]
  simp only [En.front_append, En.rest_append]
/-- What is decoded has one encoding. -/
theorem En.text_decT {s t r : ByteArray} (h : En.decT s = some (t, r)) : En.text t ++ r = s ∧ t.size ≤ 4000 := by
  unfold En.decT at h
  split at h
  · cases h
  · rename_i x hx
    obtain ⟨n, r0⟩ := x
    obtain ⟨hd, ht⟩ := En.bel_inv hx
    have hbd := En.dec_bd hd
    simp only [] at ht h
    split at h
    · cases h
    · simp only [Option.some.injEq, Prod.mk.injEq] at h
      obtain ⟨rfl, rfl⟩ := h
      have hsz : ((En.front r0 n).size : Int) = n := by rw [En.size_front _ _ (by omega)]; omega
      refine ⟨?_, by omega⟩
      unfold En.text
      rw [hsz, ByteArray.append_assoc, En.front_rest _ _ (by omega) (by omega)]
      exact En.num_dec hd

theorem strOfNums_num (n : Int) : strOfNums (En.bytes n) = En.num n := rfl

set_option maxHeartbeats 400000 in
theorem implEncodeText_ok (s : ByteArray) (w : World) (hs : (s.size : Int) ≤ 4000) :
    Calls Try.prog 84 #[.string s] w fun e w' => e = .returned (.tuple #[.string (En.text s), .bool true]) ∧ Below w.heap.size w w' := by
  unfold En.text
  have c1 := fun (xs : List Int) (W : World) => conv_new xs xs.length W
  have c2 := strOfNums_num
  have ha := add_num s.size s (by omega)
  go_enter Try.func84, Try.ntmps84
  go_wp2_with (go_at_call 83; refine (numBytes_any _ _ (by omega) (by omega)).mono ?_; rintro e w' ⟨rfl, rfl⟩)
  go_ret2
  exact ⟨rfl, (Below.refl _ _).alloc (Nat.le_refl _) _⟩

set_option maxHeartbeats 400000 in
theorem implEncodeText_no (s : ByteArray) (w : World) (hs : 4000 < (s.size : Int)) :
    Calls Try.prog 84 #[.string s] w fun e w' => e = .returned (.tuple #[.string ⟨#[]⟩, .bool false]) ∧ Below w.heap.size w w' := by
  go_enter Try.func84, Try.ntmps84
  go_wp2
  go_ret2
  exact ⟨rfl, Below.refl _ _⟩

/-! ### Reading a string: the program. -/
def TkT (B : Nat) (s : ByteArray) (w w' : World) : Prop := ∃ r, Tk B w w' r ∧ r.size ≤ s.size ∧ ∀ x, En.decT s = some x → x.2 = r
def En.decTV (s : ByteArray) : Value := match En.decT s with
  | none => .tuple #[.string ⟨#[]⟩, .bool false]
  | some x => .tuple #[.string x.1, .bool true]
theorem En.decTV_none {s : ByteArray} (h : En.decT s = none) : En.decTV s = .tuple #[.string ⟨#[]⟩, .bool false] := by unfold En.decTV; rw [h]
theorem En.decTV_some {s : ByteArray} {x : ByteArray × ByteArray} (h : En.decT s = some x) : En.decTV s = .tuple #[.string x.1, .bool true] := by unfold En.decTV; rw [h]

/-- The answer of DecodeText. -/
def En.decTA (s : ByteArray) : Value := match En.decT s with
  | none => .tuple #[.string ⟨#[]⟩, .string ⟨#[]⟩, .bool false]
  | some x => .tuple #[.string x.1, .string x.2, .bool true]
theorem En.decTA_none {s : ByteArray} (h : En.decT s = none) : En.decTA s = .tuple #[.string ⟨#[]⟩, .string ⟨#[]⟩, .bool false] := by unfold En.decTA; rw [h]
theorem En.decTA_some {s : ByteArray} {x : ByteArray × ByteArray} (h : En.decT s = some x) : En.decTA s = .tuple #[.string x.1, .string x.2, .bool true] := by unfold En.decTA; rw [h]

end Go.Proofs.Ytcbpdibkindnfaa
