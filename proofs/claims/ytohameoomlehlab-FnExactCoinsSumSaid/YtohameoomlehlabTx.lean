import Derived.Test.YtohameoomlehlabChecked
import Derived.Test.YtohameoomlehlabEn
import Derived.Test.YtohameoomlehlabBa
import Derived.WalkKit
import Derived.WalkSpells
import Derived.Below
import Derived.Outline
import Derived.Laws.Concat
import Derived.Lib.Hide
import Derived.RangeFuncBox
import Derived.LoopTactic
import Derived.Deep.QuietTactic
import Derived.BigQuiet
import Derived.WalkSmall
/-
  Contracts: numBytes, EncodeNum of the program and l6In, l1Num, EncodeNum of the model.
-/
namespace Go.Proofs.Ytohameoomlehlab
open Go.RowKit

set_option maxHeartbeats 400000 in
theorem l1Num_any (n : Int) (w : World) (h0 : 0 ≤ n) (h : n ≤ 4294967295) :
    Calls Try.prog 69 #[.int .i64 n] w fun e w' => e = .returned (.string (En.num n)) ∧ Below w.heap.size w w' := by
  have c1 := fun (a : Int) (W : World) => conv_new [a] 1 W
  have c3 := fun (a b c : Int) (W : World) => conv_new [a, b, c] 3 W
  have c5 := fun (a b c d e : Int) (W : World) => conv_new [a, b, c, d, e] 5 W
  simp only [List.map, List.length] at c1 c3 c5
  unfold En.num
  by_cases h1 : n < 253
  · rw [En.bytes_small h1]
    go_enter Try.func69, Try.ntmps69
    go_wp2
    go_ret
    exact ⟨rfl, (Below.refl _ _).alloc (Nat.le_refl _) _⟩
  by_cases h2 : n < 65536
  · rw [En.bytes_mid (by omega) h2]
    go_enter Try.func69, Try.ntmps69
    go_wp2
    go_ret
    exact ⟨rfl, (Below.refl _ _).alloc (Nat.le_refl _) _⟩
  · rw [En.bytes_big (by omega)]
    go_enter Try.func69, Try.ntmps69
    go_wp2
    go_ret
    exact ⟨rfl, (Below.refl _ _).alloc (Nat.le_refl _) _⟩
set_option maxHeartbeats 400000 in
theorem numBytes_any (n : Int) (w : World) (h0 : 0 ≤ n) (h : n ≤ 4294967295) :
    Calls Try.prog 72 #[.int .i64 n] w fun e w' => e = .returned (.slice (some ⟨w.heap.size, 0, none⟩) (En.bytes n).length (En.bytes n).length) ∧
      w' = w.alloc (.cells ((En.bytes n).map (Value.int .u8)).toArray 5) := by
  by_cases h1 : n < 253
  · rw [En.bytes_small h1]
    go_enter Try.func72, Try.ntmps72
    go_wp2
    go_ret
    exact ⟨rfl, rfl⟩
  by_cases h2 : n < 65536
  · rw [En.bytes_mid (by omega) h2]
    go_enter Try.func72, Try.ntmps72
    go_wp2
    go_ret
    exact ⟨rfl, rfl⟩
  · rw [En.bytes_big (by omega)]
    go_enter Try.func72, Try.ntmps72
    go_wp2
    go_ret
    exact ⟨rfl, rfl⟩
theorem En.size_num (n : Int) : (En.num n).size ≤ 5 := by
  unfold En.num
  rw [show (strOfNums (En.bytes n)).size = (En.bytes n).length by simp [strOfNums, ByteArray.size]]
  unfold En.bytes
  split
  · simp
  · split
    · simp
    · simp
theorem add_num (n : Int) (s : ByteArray) (hs : (s.size : Int) ≤ 4294967295) (W : World) : (Op.stringOp .add (En.num n) s).run Try.prog W = .ok (.string (En.num n ++ s)) W := by
  have := En.size_num n
  exact run_string_add_sum (P := Try.prog) W _ _ (by omega)
end Go.Proofs.Ytohameoomlehlab

/-
  Contracts of reading a number: the program's closures (bytesOf, takeNum, takeLong, DecodeNum) and the model's reader (le, num, DecodeNum).
-/
namespace Go.Proofs.Ytohameoomlehlab
open Go.RowKit

/-! ### The program's taker: a block with one string. -/
/-- From w to w' nothing but block B was written, and it holds the string r. -/
structure Tk (B : Nat) (w w' : World) (r : ByteArray) : Prop where
  held : w'.heap[B]? = some (.cells #[.string r] 9 (0, 0))
  kept : w.grownBy w' (some B)
theorem Tk.set {B : Nat} {w : World} {s : ByteArray} (h : w.heap[B]? = some (.cells #[.string s] 9 (0, 0))) (r : ByteArray) : Tk B w (w.setCell ⟨B, 0, none⟩ (.string r)) r :=
  ⟨one_setCell h, grownBy_setCell' w B _⟩
theorem grownBy_trans' {w a b : World} {row : Option Nat} (h : w.grownBy a row) (k : a.grownBy b row) : w.grownBy b row :=
  ⟨k.os.trans h.os, k.tape.trans h.tape, k.output.trans h.output, Nat.le_trans h.size k.size, fun j hj hr => (k.block j (Nat.lt_of_lt_of_le hj h.size) hr).trans (h.block j hj hr)⟩
theorem Tk.trans {B : Nat} {w a b : World} {s r : ByteArray} (h : Tk B w a s) (k : Tk B a b r) : Tk B w b r := ⟨k.held, grownBy_trans' h.kept k.kept⟩

theorem makeFunc_run : ∀ (fn : Fn) (first cap : Array Value) (w : World), (Instr.makeFunc fn first cap).run Try.prog w = .ok (.func fn first cap) w := fun _ _ _ _ => rfl

set_option maxHeartbeats 400000 in
theorem bytesOf_any (s : ByteArray) (w : World) :
    Calls Try.prog 80 #[.string s] w fun e w' => e = .returned (.tuple #[.func (.func 98) #[] #[.pointer (some ⟨w.heap.size, 0, none⟩)], .func (.func 99) #[] #[.pointer (some ⟨w.heap.size, 0, none⟩)]]) ∧
      w' = w.alloc (.cells #[.string s] 9 (0, 0)) := by
  have hmf := makeFunc_run
  go_enter Try.func80, Try.ntmps80
  go_wp2
  go_ret2
  exact ⟨rfl, rfl⟩

set_option maxHeartbeats 400000 in
theorem take_no (B : Nat) (s : ByteArray) (n : Int) (w : World) (hn : (s.size : Int) < n)
    (hb : w.heap[B]? = some (.cells #[.string s] 9 (0, 0))) :
    Calls Try.prog 98 #[.int .i64 n, .pointer (some ⟨B, 0, none⟩)] w fun e w' => e = .returned (.tuple #[.string ⟨#[]⟩, .bool false]) ∧ w = w' := by
  have hc := cell_of_one hb
  have hz := free_of_one hb
  clear hb
  go_enter Try.func98, Try.ntmps98
  go_wp2
  go_ret2
  exact ⟨rfl, rfl⟩

set_option maxHeartbeats 400000 in
theorem take_yes (B : Nat) (s : ByteArray) (n : Int) (w : World) (h0 : 0 ≤ n) (hn : n ≤ (s.size : Int))
    (hb : w.heap[B]? = some (.cells #[.string s] 9 (0, 0))) :
    Calls Try.prog 98 #[.int .i64 n, .pointer (some ⟨B, 0, none⟩)] w fun e w' => e = .returned (.tuple #[.string (En.front s n), .bool true]) ∧ Tk B w w' (En.rest s n) := by
  have hT := Tk.set hb (En.rest s n)
  have hc := cell_of_one hb
  have hz := free_of_one hb
  clear hb
  unfold En.front
  unfold En.rest at hT ⊢
  go_enter Try.func98, Try.ntmps98
  go_wp2
  go_ret2
  exact ⟨rfl, hT⟩

set_option maxHeartbeats 400000 in
theorem rest_any (B : Nat) (s : ByteArray) (w : World)
    (hb : w.heap[B]? = some (.cells #[.string s] 9 (0, 0))) :
    Calls Try.prog 99 #[.pointer (some ⟨B, 0, none⟩)] w fun e w' => e = .returned (.string s) ∧ w = w' := by
  have hc := cell_of_one hb
  clear hb
  go_enter Try.func99, Try.ntmps99
  go_wp2
  go_ret
  exact ⟨rfl, rfl⟩

/-- What the reading of a number leaves: the block holds a string; the rest, if there was a number. -/
def TkDec (B : Nat) (s : ByteArray) (w w' : World) : Prop := ∃ r, Tk B w w' r ∧ r.size ≤ s.size ∧ ∀ x, En.dec s = some x → x.2 = r
abbrev takerAt (B : Nat) : Value := .func (.func 98) #[] #[.pointer (some ⟨B, 0, none⟩)]

set_option maxHeartbeats 400000 in
theorem takeLong_short (B : Nat) (s : ByteArray) (m least : Int) (w : World) (hn : (s.size : Int) < m)
    (hb : w.heap[B]? = some (.cells #[.string s] 9 (0, 0))) :
    Calls Try.prog 125 #[takerAt B, .int .i64 m, .int .i64 least] w fun e w' => e = .returned (.tuple #[.int .i64 0, .bool false]) ∧ w = w' := by
  go_enter Try.func125, Try.ntmps125
  go_wp2_with (go_at_call 98; refine (take_no B s m _ hn hb).mono ?_; rintro e w' ⟨rfl, rfl⟩)
  go_ret2
  exact ⟨rfl, rfl⟩

set_option maxHeartbeats 400000 in
theorem takeLong_any (B : Nat) (s : ByteArray) (m least : Int) (w : World) (h1 : 1 ≤ m) (h4 : m ≤ 4) (hn : m ≤ (s.size : Int))
    (hb : w.heap[B]? = some (.cells #[.string s] 9 (0, 0))) :
    Calls Try.prog 125 #[takerAt B, .int .i64 m, .int .i64 least] w fun e w' =>
      e = .returned (if En.lev s 0 m.toNat < least then .tuple #[.int .i64 0, .bool false] else .tuple #[.int .i64 (En.lev s 0 m.toNat), .bool true]) ∧ Tk B w w' (En.rest s m) := by
  have hsz := En.size_front s m hn
  have hz1 : ((En.front s m).size : Int) ≤ m := by omega
  have hz2 : m ≤ ((En.front s m).size : Int) := by omega
  clear hsz
  have HF := Lib.hid (En.lev_front s m)
  go_enter Try.func125, Try.ntmps125
  go_wp2_with (go_at_call 98; refine (take_yes B s m _ (by omega) hn hb).mono ?_; rintro e w' ⟨rfl, hT⟩)
  go_loop [10, 11] (fun n i => ∃ j : Nat, (j : Int) ≤ m ∧ i = .int .i64 ((j : Int) - 1) ∧ n = .int .i64 (En.lev (En.front s m) j (m.toNat - j))) (fun _ i => (intOf i + 1).toNat)
  case atStart => exact ⟨m.toNat, by omega, by rw [show ((m.toNat : Nat) : Int) = m by omega], by simp [En.lev]⟩
  case round =>
    obtain ⟨j, hj, rfl, rfl⟩ := hrel
    cases j with
    | zero =>
      rw [Nat.sub_zero, HF.out m.toNat 0 (by omega)]
      clear HF
      by_cases hl : En.lev s 0 m.toNat < least
      · go_wp2
        go_ret2
        exact ⟨rfl, hT⟩
      · go_wp2
        go_ret2
        exact ⟨rfl, hT⟩
    | succ k =>
      rw [show (((k + 1 : Nat) : Int) - 1) = (k : Int) by omega]
      have hbd := En.lev_le3 (En.front s m) (k + 1) (m.toNat - (k + 1)) (by omega)
      have hby := En.byt_bd (En.front s m) k
      have hor := En.or_byte _ _ hbd.1 hbd.2 hby.1 hby.2
      have hix : ∀ h : k < (En.front s m).size, (((En.front s m)[k]'h).toNat : Int) = En.byt (En.front s m) k := fun h => En.byt_eq _ k h
      have hst : En.lev (En.front s m) k (m.toNat - k) = En.lev (En.front s m) (k + 1) (m.toNat - (k + 1)) * 256 + En.byt (En.front s m) k := by
        rw [show m.toNat - k = (m.toNat - (k + 1)) + 1 by omega]; rfl
      have HS := Lib.hid hst
      clear hst
      go_wp2
      go_round
      case rel => exact ⟨k, by omega, rfl, by rw [HS.out]⟩
      case measure => simp [intOf]

theorem takeLong_low (B : Nat) (s : ByteArray) (m least : Int) (w : World) (h1 : 1 ≤ m) (h4 : m ≤ 4) (hn : m ≤ (s.size : Int)) (hl : En.lev s 0 m.toNat < least)
    (hb : w.heap[B]? = some (.cells #[.string s] 9 (0, 0))) :
    Calls Try.prog 125 #[takerAt B, .int .i64 m, .int .i64 least] w fun e w' => e = .returned (.tuple #[.int .i64 0, .bool false]) ∧ Tk B w w' (En.rest s m) :=
  (takeLong_any B s m least w h1 h4 hn hb).mono fun e w' ⟨he, hT⟩ => ⟨by rw [he, if_pos hl], hT⟩
theorem takeLong_ok (B : Nat) (s : ByteArray) (m least : Int) (w : World) (h1 : 1 ≤ m) (h4 : m ≤ 4) (hn : m ≤ (s.size : Int)) (hl : least ≤ En.lev s 0 m.toNat)
    (hb : w.heap[B]? = some (.cells #[.string s] 9 (0, 0))) :
    Calls Try.prog 125 #[takerAt B, .int .i64 m, .int .i64 least] w fun e w' => e = .returned (.tuple #[.int .i64 (En.lev s 0 m.toNat), .bool true]) ∧ Tk B w w' (En.rest s m) :=
  (takeLong_any B s m least w h1 h4 hn hb).mono fun e w' ⟨he, hT⟩ => ⟨by rw [he, if_neg (Int.not_lt.2 hl)], hT⟩
theorem Tk.rfl' {B : Nat} {w : World} {s : ByteArray} (h : w.heap[B]? = some (.cells #[.string s] 9 (0, 0))) : Tk B w w s := ⟨h, World.grownBy.refl _ _⟩
theorem ne_bool {a b : Int} (h : a ≠ b) : (a == b) = false := by simpa using h
theorem eq_bool {a b : Int} (h : a = b) : (a == b) = true := by simpa using h

set_option maxHeartbeats 800000 in
theorem takeNum_any (B : Nat) (s : ByteArray) (w : World)
    (hb : w.heap[B]? = some (.cells #[.string s] 9 (0, 0))) :
    Calls Try.prog 111 #[takerAt B] w fun e w' => e = .returned (En.decV s) ∧ TkDec B s w w' := by
  have hz := En.size_rest_le s 1
  by_cases h0 : (s.size : Int) < 1
  · have hd := Lib.hid (En.dec_short h0)
    go_enter Try.func111, Try.ntmps111
    go_wp2_with (go_at_call 98; refine (take_no B s 1 _ h0 hb).mono ?_; rintro e w' ⟨rfl, rfl⟩)
    go_ret2
    exact ⟨congrArg Ending.returned (En.decV_none hd.out).symm, _, Tk.rfl' hb, Nat.le_refl _, fun x hx => by rw [hd.out] at hx; cases hx⟩
  have h1 : 1 ≤ (s.size : Int) := by omega
  have hfs : 0 < (En.front s 1).size := by rw [En.size_front s 1 h1]; decide
  have hix := En.front_zero s
  have hbd := En.byt_bd s 0
  by_cases h253 : En.byt s 0 = 253
  · have hd := Lib.hid (En.dec_two h1 h253)
    have H253 := eq_bool h253
    clear h253
    by_cases hs2 : ((En.rest s 1).size : Int) < 2
    · have hl := Lib.hid (En.long_short (l := 253) hs2)
      go_enter Try.func111, Try.ntmps111
      go_wp2_with (go_at_call 98; refine (take_yes B s 1 _ (by omega) h1 hb).mono ?_; rintro e w1 ⟨rfl, hT⟩)
      refine (takeLong_short B (En.rest s 1) 2 253 _ (by omega) hT.held).mono ?_
      rintro e w2 ⟨rfl, rfl⟩
      go_wp2
      go_ret2
      exact ⟨congrArg Ending.returned (En.decV_none (hd.out.trans hl.out)).symm, _, hT, hz, fun x hx => by rw [hd.out, hl.out] at hx; cases hx⟩
    by_cases hlow : En.lev (En.rest s 1) 0 (Int.toNat 2) < 253
    · have hl := Lib.hid (En.long_low (s := En.rest s 1) (m := 2) (l := 253) (by omega) hlow)
      have HL := Lib.hid hlow
      clear hlow
      go_enter Try.func111, Try.ntmps111
      go_wp2_with (first
        | (go_at_call 98; refine (take_yes B s 1 _ (by omega) h1 hb).mono ?_; rintro e w1 ⟨rfl, hT⟩)
        | (go_at_call 125; refine (takeLong_low B (En.rest s 1) 2 253 _ (by omega) (by omega) (by omega) HL.out hT.held).mono ?_; rintro e w2 ⟨rfl, hT2⟩))
      go_ret2
      exact ⟨congrArg Ending.returned (En.decV_none (hd.out.trans hl.out)).symm, _, hT.trans hT2, Nat.le_trans (En.size_rest_le _ _) hz, fun x hx => by rw [hd.out, hl.out] at hx; cases hx⟩
    · have hl := Lib.hid (En.long_ok (s := En.rest s 1) (m := 2) (l := 253) (by omega) hlow)
      have HL := Lib.hid (Int.not_lt.1 hlow)
      clear hlow
      go_enter Try.func111, Try.ntmps111
      go_wp2_with (first
        | (go_at_call 98; refine (take_yes B s 1 _ (by omega) h1 hb).mono ?_; rintro e w1 ⟨rfl, hT⟩)
        | (go_at_call 125; refine (takeLong_ok B (En.rest s 1) 2 253 _ (by omega) (by omega) (by omega) HL.out hT.held).mono ?_; rintro e w2 ⟨rfl, hT2⟩))
      go_ret2
      exact ⟨congrArg Ending.returned (En.decV_some (hd.out.trans hl.out)).symm, _, hT.trans hT2, Nat.le_trans (En.size_rest_le _ _) hz, fun x hx => by rw [hd.out, hl.out] at hx; cases hx; rfl⟩
  by_cases h254 : En.byt s 0 = 254
  · have hd := Lib.hid (En.dec_four h1 h254)
    have H254 := eq_bool h254
    have H253 := ne_bool h253
    clear h253
    clear h254
    by_cases hs2 : ((En.rest s 1).size : Int) < 4
    · have hl := Lib.hid (En.long_short (l := 65536) hs2)
      go_enter Try.func111, Try.ntmps111
      go_wp2_with (go_at_call 98; refine (take_yes B s 1 _ (by omega) h1 hb).mono ?_; rintro e w1 ⟨rfl, hT⟩)
      refine (takeLong_short B (En.rest s 1) 4 65536 _ (by omega) hT.held).mono ?_
      rintro e w2 ⟨rfl, rfl⟩
      go_wp2
      go_ret2
      exact ⟨congrArg Ending.returned (En.decV_none (hd.out.trans hl.out)).symm, _, hT, hz, fun x hx => by rw [hd.out, hl.out] at hx; cases hx⟩
    by_cases hlow : En.lev (En.rest s 1) 0 (Int.toNat 4) < 65536
    · have hl := Lib.hid (En.long_low (s := En.rest s 1) (m := 4) (l := 65536) (by omega) hlow)
      have HL := Lib.hid hlow
      clear hlow
      go_enter Try.func111, Try.ntmps111
      go_wp2_with (first
        | (go_at_call 98; refine (take_yes B s 1 _ (by omega) h1 hb).mono ?_; rintro e w1 ⟨rfl, hT⟩)
        | (go_at_call 125; refine (takeLong_low B (En.rest s 1) 4 65536 _ (by omega) (by omega) (by omega) HL.out hT.held).mono ?_; rintro e w2 ⟨rfl, hT2⟩))
      go_ret2
      exact ⟨congrArg Ending.returned (En.decV_none (hd.out.trans hl.out)).symm, _, hT.trans hT2, Nat.le_trans (En.size_rest_le _ _) hz, fun x hx => by rw [hd.out, hl.out] at hx; cases hx⟩
    · have hl := Lib.hid (En.long_ok (s := En.rest s 1) (m := 4) (l := 65536) (by omega) hlow)
      have HL := Lib.hid (Int.not_lt.1 hlow)
      clear hlow
      go_enter Try.func111, Try.ntmps111
      go_wp2_with (first
        | (go_at_call 98; refine (take_yes B s 1 _ (by omega) h1 hb).mono ?_; rintro e w1 ⟨rfl, hT⟩)
        | (go_at_call 125; refine (takeLong_ok B (En.rest s 1) 4 65536 _ (by omega) (by omega) (by omega) HL.out hT.held).mono ?_; rintro e w2 ⟨rfl, hT2⟩))
      go_ret2
      exact ⟨congrArg Ending.returned (En.decV_some (hd.out.trans hl.out)).symm, _, hT.trans hT2, Nat.le_trans (En.size_rest_le _ _) hz, fun x hx => by rw [hd.out, hl.out] at hx; cases hx; rfl⟩
  by_cases h255 : En.byt s 0 = 255
  · have hd := Lib.hid (En.dec_bad h1 h255)
    have H253 := ne_bool h253
    have H254 := ne_bool h254
    have H255 := eq_bool h255
    clear h253 h254 h255
    go_enter Try.func111, Try.ntmps111
    go_wp2_with (go_at_call 98; refine (take_yes B s 1 _ (by omega) h1 hb).mono ?_; rintro e w1 ⟨rfl, hT⟩)
    go_ret2
    exact ⟨congrArg Ending.returned (En.decV_none hd.out).symm, _, hT, hz, fun x hx => by rw [hd.out] at hx; cases hx⟩
  · have hd := Lib.hid (En.dec_one h1 (by omega))
    have H253 := ne_bool h253
    have H254 := ne_bool h254
    have H255 := ne_bool h255
    clear h253 h254 h255
    go_enter Try.func111, Try.ntmps111
    go_wp2_with (go_at_call 98; refine (take_yes B s 1 _ (by omega) h1 hb).mono ?_; rintro e w1 ⟨rfl, hT⟩)
    go_ret2
    exact ⟨congrArg Ending.returned (En.decV_some hd.out).symm, _, hT, hz, fun x hx => by rw [hd.out] at hx; cases hx; rfl⟩

/-- The answer of DecodeNum. -/
def En.decA (s : ByteArray) : Value := match En.dec s with
  | none => .tuple #[.int .i64 0, .string ⟨#[]⟩, .bool false]
  | some x => .tuple #[.int .i64 x.1, .string x.2, .bool true]
theorem En.decA_none {s : ByteArray} (h : En.dec s = none) : En.decA s = .tuple #[.int .i64 0, .string ⟨#[]⟩, .bool false] := by unfold En.decA; rw [h]
theorem En.decA_some {s : ByteArray} {x : Int × ByteArray} (h : En.dec s = some x) : En.decA s = .tuple #[.int .i64 x.1, .string x.2, .bool true] := by unfold En.decA; rw [h]
theorem Tk.below {B : Nat} {w w' : World} {r : ByteArray} (h : Tk B w w' r) {k : Nat} (hk : k ≤ B) (hw : k ≤ w.heap.size) : Below k w w' :=
  Below.grown (Below.refl _ _) h.kept hw (fun j hj => by cases hj; exact hk)
theorem heap_new (w : World) (o : Obj) : (w.alloc o).heap[w.heap.size]? = some o := by
  show (w.heap.push o)[w.heap.size]? = _
  simp

end Go.Proofs.Ytohameoomlehlab

/-
  Contracts of the model's reader: le, num, DecodeNum.
-/
namespace Go.Proofs.Ytohameoomlehlab
open Go.RowKit
theorem grownBy_set (w : World) (B i : Nat) (v : Value) : w.grownBy (w.setCell ⟨B, i, none⟩ v) (some B) :=
  ⟨rfl, rfl, rfl, by simp [World.setCell], fun j _ hr => Below.heap_setCell _ _ _ _ (fun e => hr (by simp [e]))⟩

/-- From w to w' nothing but block B was written, and it holds the reader (s, b). -/
structure Rs (B : Nat) (w w' : World) (s : ByteArray) (b : Bool) : Prop where
  held : w'.heap[B]? = some (.cells #[.string s, .bool b] 78 (0, 0))
  kept : w.grownBy w' (some B)
theorem Rs.trans {B : Nat} {w a c : World} {s r : ByteArray} {b d : Bool} (h : Rs B w a s b) (k : Rs B a c r d) : Rs B w c r d := ⟨k.held, grownBy_trans' h.kept k.kept⟩
theorem Rs.rfl' {B : Nat} {w : World} {s : ByteArray} {b : Bool} (h : w.heap[B]? = some (.cells #[.string s, .bool b] 78 (0, 0))) : Rs B w w s b := ⟨h, World.grownBy.refl _ _⟩
theorem Rs.below {B : Nat} {w w' : World} {r : ByteArray} {b : Bool} (h : Rs B w w' r b) {k : Nat} (hk : k ≤ B) (hw : k ≤ w.heap.size) : Below k w w' :=
  Below.grown (Below.refl _ _) h.kept hw (fun j hj => by cases hj; exact hk)
section
variable {B : Nat} {w : World} {s : ByteArray} {b : Bool} (h : w.heap[B]? = some (.cells #[.string s, .bool b] 78 (0, 0)))
include h
theorem rs_str : w.cell? ⟨B, 0, none⟩ = some (.string s) := by simp [World.cell?, h]
theorem rs_bad : w.cell? ⟨B, 1, none⟩ = some (.bool b) := by simp [World.cell?, h]
theorem rs_f0 : w.frozen? ⟨B, 0, none⟩ = false := by simp [World.frozen?, h]
theorem rs_f1 : w.frozen? ⟨B, 1, none⟩ = false := by simp [World.frozen?, h]
theorem Rs.setS (r : ByteArray) : Rs B w (w.setCell ⟨B, 0, none⟩ (.string r)) r b := ⟨block_setCell h 0 _, grownBy_set w B 0 _⟩
theorem Rs.setB (d : Bool) : Rs B w (w.setCell ⟨B, 1, none⟩ (.bool d)) s d := ⟨block_setCell h 1 _, grownBy_set w B 1 _⟩
end

set_option maxHeartbeats 400000 in
theorem le_short (B : Nat) (s : ByteArray) (n : Int) (w : World) (hn : (s.size : Int) < n)
    (hb : w.heap[B]? = some (.cells #[.string s, .bool false] 78 (0, 0))) :
    Calls Try.prog 79 #[.pointer (some ⟨B, 0, none⟩), .int .i64 n] w fun e w' => e = .returned (.int .i64 0) ∧ Rs B w w' s true := by
  have hT := Rs.setB hb true
  have h0 := rs_str hb
  have h1 := rs_bad hb
  have h3 := rs_f1 hb
  clear hb
  go_enter Try.func79, Try.ntmps79
  go_wp2
  go_ret
  exact ⟨rfl, hT⟩

set_option maxHeartbeats 400000 in
theorem le_ok (B : Nat) (s : ByteArray) (m : Int) (w : World) (h1 : 1 ≤ m) (h4 : m ≤ 4) (hn : m ≤ (s.size : Int))
    (hb : w.heap[B]? = some (.cells #[.string s, .bool false] 78 (0, 0))) :
    Calls Try.prog 79 #[.pointer (some ⟨B, 0, none⟩), .int .i64 m] w fun e w' => e = .returned (.int .i64 (En.lev s 0 m.toNat)) ∧ Rs B w w' (En.rest s m) false := by
  have hT := Rs.setS hb (En.rest s m)
  unfold En.rest at hT ⊢
  have c0 := rs_str hb
  have c1 := rs_bad hb
  have f0 := rs_f0 hb
  clear hb
  go_enter Try.func79, Try.ntmps79
  go_wp2
  go_loop [5, 6] (fun n i => ∃ j : Nat, (j : Int) ≤ m ∧ i = .int .i64 ((j : Int) - 1) ∧ n = .int .i64 (En.lev s j (m.toNat - j))) (fun _ i => (intOf i + 1).toNat)
  case atStart => exact ⟨m.toNat, by omega, by rw [show ((m.toNat : Nat) : Int) = m by omega], by simp [En.lev]⟩
  case round =>
    obtain ⟨j, hj, rfl, rfl⟩ := hrel
    cases j with
    | zero =>
      rw [Nat.sub_zero]
      go_wp2
      go_ret
      exact ⟨rfl, hT⟩
    | succ k =>
      rw [show (((k + 1 : Nat) : Int) - 1) = (k : Int) by omega]
      have hbd := En.lev_le3 s (k + 1) (m.toNat - (k + 1)) (by omega)
      have hby := En.byt_bd s k
      have hix : ∀ h : k < s.size, ((s[k]'h).toNat : Int) = En.byt s k := fun h => En.byt_eq _ k h
      have hst : En.lev s k (m.toNat - k) = En.lev s (k + 1) (m.toNat - (k + 1)) * 256 + En.byt s k := by
        rw [show m.toNat - k = (m.toNat - (k + 1)) + 1 by omega]; rfl
      have HS := Lib.hid hst
      clear hst hT
      go_wp2
      go_round
      case rel => exact ⟨k, by omega, rfl, by rw [HS.out]⟩
      case measure => simp [intOf]

/-- What the reading of a number leaves in the reader. -/
def RsDec (B : Nat) (s : ByteArray) (w w' : World) : Prop := match En.dec s with
  | none => ∃ r, Rs B w w' r true
  | some x => Rs B w w' x.2 false
def En.decN (s : ByteArray) : Int := match En.dec s with
  | none => 0
  | some x => x.1
theorem RsDec.none_ {B : Nat} {s : ByteArray} {w w' : World} (h : En.dec s = none) : RsDec B s w w' = ∃ r, Rs B w w' r true := by unfold RsDec; rw [h]
theorem RsDec.some_ {B : Nat} {s : ByteArray} {w w' : World} {x : Int × ByteArray} (h : En.dec s = some x) : RsDec B s w w' = Rs B w w' x.2 false := by unfold RsDec; rw [h]
theorem En.decN_none {s : ByteArray} (h : En.dec s = none) : En.decN s = 0 := by unfold En.decN; rw [h]
theorem En.decN_some {s : ByteArray} {x : Int × ByteArray} (h : En.dec s = some x) : En.decN s = x.1 := by unfold En.decN; rw [h]

set_option maxRecDepth 100000 in
set_option maxHeartbeats 800000 in
theorem num_any (B : Nat) (s : ByteArray) (w : World)
    (hb : w.heap[B]? = some (.cells #[.string s, .bool false] 78 (0, 0))) :
    Calls Try.prog 76 #[.pointer (some ⟨B, 0, none⟩)] w fun e w' => e = .returned (.int .i64 (En.decN s)) ∧ RsDec B s w w' := by
  by_cases h0 : (s.size : Int) < 1
  · rw [En.decN_none (En.dec_short h0)]
    simp only [RsDec.none_ (En.dec_short h0)]
    go_enter Try.func76, Try.ntmps76
    go_wp2_with (go_at_call 79; refine (le_short B s 1 _ h0 hb).mono ?_; rintro e w1 ⟨rfl, hT⟩; have c1 := rs_bad hT.held)
    go_ret
    exact ⟨rfl, _, hT⟩
  have h1 : 1 ≤ (s.size : Int) := by omega
  have hle := En.lev_one s 0
  have hbd := En.byt_bd s 0
  by_cases h253 : En.byt s 0 = 253
  · have hd := En.dec_two h1 h253
    have H253 := eq_bool h253
    clear h253
    by_cases hs2 : ((En.rest s 1).size : Int) < 2
    · have hl := hd.trans (En.long_short (l := 253) hs2)
      rw [En.decN_none hl]
      simp only [RsDec.none_ hl]
      clear hl hd
      go_enter Try.func76, Try.ntmps76
      go_wp2_with fail
      refine (le_ok B s 1 _ (by omega) (by omega) h1 hb).mono ?_
      rintro e w1 ⟨rfl, hT⟩
      have c1 := rs_bad hT.held
      go_wp2_with fail
      refine (le_short B (En.rest s 1) 2 _ (by omega) hT.held).mono ?_
      rintro e w2 ⟨rfl, hT2⟩
      clear c1
      have d1 := rs_bad hT2.held
      have f1 := rs_f1 hT2.held
      have hT3 := (hT.trans hT2).trans (Rs.setB hT2.held true)
      clear hT hT2 hb
      go_wp2
      go_ret
      exact ⟨rfl, _, hT3⟩
    by_cases hlow : En.lev (En.rest s 1) 0 2 < 253
    · have hl := hd.trans (En.long_low (s := En.rest s 1) (m := 2) (l := 253) (by omega) hlow)
      rw [En.decN_none hl]
      simp only [RsDec.none_ hl]
      clear hl hd
      go_enter Try.func76, Try.ntmps76
      go_wp2_with fail
      refine (le_ok B s 1 _ (by omega) (by omega) h1 hb).mono ?_
      rintro e w1 ⟨rfl, hT⟩
      have c1 := rs_bad hT.held
      go_wp2_with fail
      refine (le_ok B (En.rest s 1) 2 _ (by omega) (by omega) (by omega) hT.held).mono ?_
      rintro e w2 ⟨rfl, hT2⟩
      clear c1
      have d1 := rs_bad hT2.held
      have f1 := rs_f1 hT2.held
      have hT3 := (hT.trans hT2).trans (Rs.setB hT2.held true)
      clear hT hT2 hb
      go_wp2
      go_ret
      exact ⟨rfl, _, hT3⟩
    · have hl := hd.trans (En.long_ok (s := En.rest s 1) (m := 2) (l := 253) (by omega) hlow)
      have hdc : decide (En.lev (En.rest s 1) 0 2 < 253) = false := decide_eq_false hlow
      clear hlow
      rw [En.decN_some hl]
      simp only [RsDec.some_ hl]
      clear hl hd
      go_enter Try.func76, Try.ntmps76
      go_wp2_with fail
      refine (le_ok B s 1 _ (by omega) (by omega) h1 hb).mono ?_
      rintro e w1 ⟨rfl, hT⟩
      have c1 := rs_bad hT.held
      go_wp2_with fail
      refine (le_ok B (En.rest s 1) 2 _ (by omega) (by omega) (by omega) hT.held).mono ?_
      rintro e w2 ⟨rfl, hT2⟩
      clear c1
      have d1 := rs_bad hT2.held
      have f1 := rs_f1 hT2.held
      have hT3 := (hT.trans hT2).trans (Rs.setB hT2.held false)
      clear hT hT2 hb
      go_wp2
      go_ret
      exact ⟨rfl, hT3⟩
  by_cases h254 : En.byt s 0 = 254
  · have hd := En.dec_four h1 h254
    have H254 := eq_bool h254
    have H253 := ne_bool h253
    clear h253
    clear h254
    by_cases hs2 : ((En.rest s 1).size : Int) < 4
    · have hl := hd.trans (En.long_short (l := 65536) hs2)
      rw [En.decN_none hl]
      simp only [RsDec.none_ hl]
      clear hl hd
      go_enter Try.func76, Try.ntmps76
      go_wp2_with fail
      refine (le_ok B s 1 _ (by omega) (by omega) h1 hb).mono ?_
      rintro e w1 ⟨rfl, hT⟩
      have c1 := rs_bad hT.held
      go_wp2_with fail
      refine (le_short B (En.rest s 1) 4 _ (by omega) hT.held).mono ?_
      rintro e w2 ⟨rfl, hT2⟩
      clear c1
      have d1 := rs_bad hT2.held
      have f1 := rs_f1 hT2.held
      have hT3 := (hT.trans hT2).trans (Rs.setB hT2.held true)
      clear hT hT2 hb
      go_wp2
      go_ret
      exact ⟨rfl, _, hT3⟩
    by_cases hlow : En.lev (En.rest s 1) 0 4 < 65536
    · have hl := hd.trans (En.long_low (s := En.rest s 1) (m := 4) (l := 65536) (by omega) hlow)
      rw [En.decN_none hl]
      simp only [RsDec.none_ hl]
      clear hl hd
      go_enter Try.func76, Try.ntmps76
      go_wp2_with fail
      refine (le_ok B s 1 _ (by omega) (by omega) h1 hb).mono ?_
      rintro e w1 ⟨rfl, hT⟩
      have c1 := rs_bad hT.held
      go_wp2_with fail
      refine (le_ok B (En.rest s 1) 4 _ (by omega) (by omega) (by omega) hT.held).mono ?_
      rintro e w2 ⟨rfl, hT2⟩
      clear c1
      have d1 := rs_bad hT2.held
      have f1 := rs_f1 hT2.held
      have hT3 := (hT.trans hT2).trans (Rs.setB hT2.held true)
      clear hT hT2 hb
      go_wp2
      go_ret
      exact ⟨rfl, _, hT3⟩
    · have hl := hd.trans (En.long_ok (s := En.rest s 1) (m := 4) (l := 65536) (by omega) hlow)
      have hdc : decide (En.lev (En.rest s 1) 0 4 < 65536) = false := decide_eq_false hlow
      clear hlow
      rw [En.decN_some hl]
      simp only [RsDec.some_ hl]
      clear hl hd
      go_enter Try.func76, Try.ntmps76
      go_wp2_with fail
      refine (le_ok B s 1 _ (by omega) (by omega) h1 hb).mono ?_
      rintro e w1 ⟨rfl, hT⟩
      have c1 := rs_bad hT.held
      go_wp2_with fail
      refine (le_ok B (En.rest s 1) 4 _ (by omega) (by omega) (by omega) hT.held).mono ?_
      rintro e w2 ⟨rfl, hT2⟩
      clear c1
      have d1 := rs_bad hT2.held
      have f1 := rs_f1 hT2.held
      have hT3 := (hT.trans hT2).trans (Rs.setB hT2.held false)
      clear hT hT2 hb
      go_wp2
      go_ret
      exact ⟨rfl, hT3⟩
  by_cases h255 : En.byt s 0 = 255
  · have hd := En.dec_bad h1 h255
    have H253 := ne_bool h253
    have H254 := ne_bool h254
    have H255 := eq_bool h255
    clear h253 h254 h255
    rw [En.decN_none hd]
    simp only [RsDec.none_ hd]
    clear hd
    go_enter Try.func76, Try.ntmps76
    go_wp2_with (go_at_call 79; refine (le_ok B s 1 _ (by omega) (by omega) h1 hb).mono ?_; rintro e w1 ⟨rfl, hT⟩; have c1 := rs_bad hT.held; have f1 := rs_f1 hT.held; have hT3 := hT.trans (Rs.setB hT.held true))
    go_ret
    exact ⟨rfl, _, hT3⟩
  · have hd := En.dec_one h1 (by omega)
    have H253 := ne_bool h253
    have H254 := ne_bool h254
    have H255 := ne_bool h255
    clear h253 h254 h255
    rw [En.decN_some hd]
    simp only [RsDec.some_ hd]
    clear hd
    go_enter Try.func76, Try.ntmps76
    go_wp2_with (go_at_call 79; refine (le_ok B s 1 _ (by omega) (by omega) h1 hb).mono ?_; rintro e w1 ⟨rfl, hT⟩; have c1 := rs_bad hT.held)
    go_ret
    exact ⟨rfl, hT⟩

end Go.Proofs.Ytohameoomlehlab

/-
  Contracts of EncodeText, DecodeText (program and model), and what they call.
-/
namespace Go.Proofs.Ytohameoomlehlab
open Go.RowKit

/-- The encoding of a string. -/
def En.text (s : ByteArray) : ByteArray := En.num s.size ++ s
/-- Reading a number of at most top. -/
def En.bel (s : ByteArray) (top : Int) : Option (Int × ByteArray) := match En.dec s with
  | none => none
  | some x => if top < x.1 then none else some x
/-- Reading a string. -/
def En.decT (s : ByteArray) : Option (ByteArray × ByteArray) := match En.bel s 4000 with
  | none => none
  | some x => if (x.2.size : Int) < x.1 then none else some (En.front x.2 x.1, En.rest x.2 x.1)
theorem En.bel_none {s : ByteArray} {top : Int} (h : En.dec s = none) : En.bel s top = none := by unfold En.bel; rw [h]
theorem En.bel_big {s : ByteArray} {top : Int} {x : Int × ByteArray} (h : En.dec s = some x) (h1 : top < x.1) : En.bel s top = none := by unfold En.bel; rw [h]; exact if_pos h1
theorem En.bel_ok {s : ByteArray} {top : Int} {x : Int × ByteArray} (h : En.dec s = some x) (h1 : ¬ top < x.1) : En.bel s top = some x := by unfold En.bel; rw [h]; exact if_neg h1
theorem En.bel_inv {s : ByteArray} {top : Int} {x : Int × ByteArray} (h : En.bel s top = some x) : En.dec s = some x ∧ x.1 ≤ top := by
  unfold En.bel at h
  split at h
  · cases h
  · rename_i y hy
    split at h
    · cases h
    · cases h; exact ⟨hy, by omega⟩
theorem En.decT_none {s : ByteArray} (h : En.bel s 4000 = none) : En.decT s = none := by unfold En.decT; rw [h]
theorem En.decT_short {s : ByteArray} {x : Int × ByteArray} (h : En.bel s 4000 = some x) (h1 : (x.2.size : Int) < x.1) : En.decT s = none := by unfold En.decT; rw [h]; exact if_pos h1
theorem En.decT_ok {s : ByteArray} {x : Int × ByteArray} (h : En.bel s 4000 = some x) (h1 : ¬ (x.2.size : Int) < x.1) : En.decT s = some (En.front x.2 x.1, En.rest x.2 x.1) := by unfold En.decT; rw [h]; exact if_neg h1

set_option maxHeartbeats 400000 in
theorem l1Text_any (s : ByteArray) (w : World) (hs : (s.size : Int) ≤ 4294967295) :
    Calls Try.prog 92 #[.string s] w fun e w' => e = .returned (.string (En.text s)) ∧ Below w.heap.size w w' := by
  unfold En.text
  have ha := add_num s.size s hs
  go_enter Try.func92, Try.ntmps92
  go_wp2_with (go_at_call 69; refine (l1Num_any _ _ (by omega) (by omega)).mono ?_; rintro e w' ⟨rfl, hb⟩)
  go_ret
  exact ⟨rfl, hb⟩

theorem En.len_toList (s : ByteArray) : s.data.toList.length = s.size := by rw [Array.length_toList]; rfl
theorem En.front_append (s t : ByteArray) : En.front (s ++ t) s.size = s := by
  unfold En.front
  rw [Int.toNat_natCast]
  apply ByteArray.ext
  apply Array.toList_inj.1
  rw [ByteArray.data_extract, Array.toList_extract, List.extract_eq_take_drop, ByteArray.data_append, Array.toList_append]
  simp only [List.drop_zero, Nat.sub_zero]
  exact List.take_left' (En.len_toList s)
theorem En.rest_append (s t : ByteArray) : En.rest (s ++ t) s.size = t := by
  unfold En.rest
  rw [Int.toNat_natCast]
  apply ByteArray.ext
  apply Array.toList_inj.1
  rw [ByteArray.data_extract, Array.toList_extract, List.extract_eq_take_drop, ByteArray.data_append, Array.toList_append]
  rw [List.drop_left' (En.len_toList s)]
  exact List.take_of_length_le (by rw [En.len_toList, ByteArray.size_append]; omega)
theorem En.front_rest (s : ByteArray) (n : Int) (h0 : 0 ≤ n) (h : n ≤ s.size) : En.front s n ++ En.rest s n = s := by
  unfold En.front En.rest
  rw [ByteArray.extract_append_extract]
  rw [show min 0 n.toNat = 0 by omega, show max n.toNat s.size = s.size by omega]
  simp
/-- What is encoded is decoded. -/
theorem En.decT_text (s t : ByteArray) (h : s.size ≤ 4000) : En.decT (En.text s ++ t) = some (s, t) := by
  have hd : En.dec (En.text s ++ t) = some ((s.size : Int), s ++ t) := by
    unfold En.text
    rw [ByteArray.append_assoc]
    exact En.dec_num _ _ (by omega) (by omega)
  have hb : En.bel (En.text s ++ t) 4000 = some ((s.size : Int), s ++ t) := En.bel_ok hd (by simp only []; omega)
  rw [En.decT_ok hb (by simp only []; rw [ByteArray.size_append]; omega)]
  simp only [En.front_append, En.rest_append]
/-- What is decoded has one encoding. -/
theorem En.text_decT {s t r : ByteArray} (h : En.decT s = some (t, r)) : En.text t ++ r = s ∧ t.size ≤ 4000 := by
  unfold En.decT at h
  split at h
  · cases h
  · rename_i x hx
    obtain ⟨n, r0⟩ := x
    obtain ⟨hd, ht⟩ := En.bel_inv hx
    have hbd := En.dec_bd hd
    simp only [] at ht h
    split at h
    · cases h
    · simp only [Option.some.injEq, Prod.mk.injEq] at h
      obtain ⟨rfl, rfl⟩ := h
      have hsz : ((En.front r0 n).size : Int) = n := by rw [En.size_front _ _ (by omega)]; omega
      refine ⟨?_, by omega⟩
      unfold En.text
      rw [hsz, ByteArray.append_assoc, En.front_rest _ _ (by omega) (by omega)]
      exact En.num_dec hd

theorem strOfNums_num (n : Int) : strOfNums (En.bytes n) = En.num n := rfl

set_option maxHeartbeats 400000 in
theorem implEncodeText_ok (s : ByteArray) (w : World) (hs : (s.size : Int) ≤ 4000) :
    Calls Try.prog 96 #[.string s] w fun e w' => e = .returned (.tuple #[.string (En.text s), .bool true]) ∧ Below w.heap.size w w' := by
  unfold En.text
  have c1 := fun (xs : List Int) (W : World) => conv_new xs xs.length W
  have c2 := strOfNums_num
  have ha := add_num s.size s (by omega)
  go_enter Try.func96, Try.ntmps96
  go_wp2_with (go_at_call 72; refine (numBytes_any _ _ (by omega) (by omega)).mono ?_; rintro e w' ⟨rfl, rfl⟩)
  go_ret2
  exact ⟨rfl, (Below.refl _ _).alloc (Nat.le_refl _) _⟩

set_option maxHeartbeats 400000 in
theorem implEncodeText_no (s : ByteArray) (w : World) (hs : 4000 < (s.size : Int)) :
    Calls Try.prog 96 #[.string s] w fun e w' => e = .returned (.tuple #[.string ⟨#[]⟩, .bool false]) ∧ Below w.heap.size w w' := by
  go_enter Try.func96, Try.ntmps96
  go_wp2
  go_ret2
  exact ⟨rfl, Below.refl _ _⟩

/-! ### Reading a string: the program. -/
def TkT (B : Nat) (s : ByteArray) (w w' : World) : Prop := ∃ r, Tk B w w' r ∧ r.size ≤ s.size ∧ ∀ x, En.decT s = some x → x.2 = r
def En.decTV (s : ByteArray) : Value := match En.decT s with
  | none => .tuple #[.string ⟨#[]⟩, .bool false]
  | some x => .tuple #[.string x.1, .bool true]
theorem En.decTV_none {s : ByteArray} (h : En.decT s = none) : En.decTV s = .tuple #[.string ⟨#[]⟩, .bool false] := by unfold En.decTV; rw [h]
theorem En.decTV_some {s : ByteArray} {x : ByteArray × ByteArray} (h : En.decT s = some x) : En.decTV s = .tuple #[.string x.1, .bool true] := by unfold En.decTV; rw [h]

set_option maxRecDepth 100000 in
set_option maxHeartbeats 800000 in
theorem takeText_any (B : Nat) (s : ByteArray) (w : World)
    (hb : w.heap[B]? = some (.cells #[.string s] 9 (0, 0))) :
    Calls Try.prog 113 #[takerAt B] w fun e w' => e = .returned (En.decTV s) ∧ TkT B s w w' := by
  cases hd : En.dec s with
  | none =>
    have HD := Lib.hid hd
    have HT := Lib.hid (En.decT_none (En.bel_none hd))
    clear hd
    go_enter Try.func113, Try.ntmps113
    go_wp2_with fail
    refine (takeNum_any B s _ hb).mono ?_
    rw [En.decV_none HD.out]
    rintro e w1 ⟨rfl, r, hT, hle, hr⟩
    go_wp2
    go_ret2
    exact ⟨congrArg Ending.returned (En.decTV_none HT.out).symm, r, hT, hle, fun x hx => by rw [HT.out] at hx; cases hx⟩
  | some x =>
    obtain ⟨n, r0⟩ := x
    have hbd := En.dec_bd hd
    have HD := Lib.hid hd
    by_cases h1 : 4000 < n
    · have HT := Lib.hid (En.decT_none (En.bel_big hd h1))
      clear hd
      go_enter Try.func113, Try.ntmps113
      go_wp2_with fail
      refine (takeNum_any B s _ hb).mono ?_
      rw [En.decV_some HD.out]
      rintro e w1 ⟨rfl, r, hT, hle, hr⟩
      clear hr
      go_wp2
      go_ret2
      exact ⟨congrArg Ending.returned (En.decTV_none HT.out).symm, r, hT, hle, fun x hx => by rw [HT.out] at hx; cases hx⟩
    have HB := Lib.hid (En.bel_ok (top := 4000) hd h1)
    by_cases h2 : (r0.size : Int) < n
    · have HT := Lib.hid (En.decT_short HB.out h2)
      clear hd
      go_enter Try.func113, Try.ntmps113
      go_wp2_with fail
      refine (takeNum_any B s _ hb).mono ?_
      rw [En.decV_some HD.out]
      rintro e w1 ⟨rfl, r, hT, hle, hr⟩
      obtain rfl := hr _ HD.out
      clear hr
      go_wp2_with fail
      refine (take_no B _ n _ h2 hT.held).mono ?_
      rintro e w2 ⟨rfl, rfl⟩
      go_wp2
      go_ret2
      exact ⟨congrArg Ending.returned (En.decTV_none HT.out).symm, _, hT, hle, fun x hx => by rw [HT.out] at hx; cases hx⟩
    · have HT := Lib.hid (En.decT_ok HB.out h2)
      clear hd
      go_enter Try.func113, Try.ntmps113
      go_wp2_with fail
      refine (takeNum_any B s _ hb).mono ?_
      rw [En.decV_some HD.out]
      rintro e w1 ⟨rfl, r, hT, hle, hr⟩
      obtain rfl := hr _ HD.out
      clear hr
      go_wp2_with fail
      refine (take_yes B _ n _ (by omega) (by omega) hT.held).mono ?_
      rintro e w2 ⟨rfl, hT2⟩
      go_wp2
      go_ret2
      exact ⟨congrArg Ending.returned (En.decTV_some HT.out).symm, _, hT.trans hT2, Nat.le_trans (En.size_rest_le _ _) hle, fun x hx => by rw [HT.out] at hx; cases hx; rfl⟩

/-- The answer of DecodeText. -/
def En.decTA (s : ByteArray) : Value := match En.decT s with
  | none => .tuple #[.string ⟨#[]⟩, .string ⟨#[]⟩, .bool false]
  | some x => .tuple #[.string x.1, .string x.2, .bool true]
theorem En.decTA_none {s : ByteArray} (h : En.decT s = none) : En.decTA s = .tuple #[.string ⟨#[]⟩, .string ⟨#[]⟩, .bool false] := by unfold En.decTA; rw [h]
theorem En.decTA_some {s : ByteArray} {x : ByteArray × ByteArray} (h : En.decT s = some x) : En.decTA s = .tuple #[.string x.1, .string x.2, .bool true] := by unfold En.decTA; rw [h]

/-! ### Reading a string: the model. -/
def RsOpt {α : Type} (B : Nat) (o : Option (α × ByteArray)) (w w' : World) : Prop := match o with
  | none => ∃ r, Rs B w w' r true
  | some x => Rs B w w' x.2 false
def En.belN (s : ByteArray) (top : Int) : Int := match En.bel s top with
  | none => 0
  | some x => x.1
theorem En.belN_none {s : ByteArray} {top : Int} (h : En.bel s top = none) : En.belN s top = 0 := by unfold En.belN; rw [h]
theorem En.belN_some {s : ByteArray} {top : Int} {x : Int × ByteArray} (h : En.bel s top = some x) : En.belN s top = x.1 := by unfold En.belN; rw [h]

set_option maxHeartbeats 800000 in
theorem below_any (B : Nat) (s : ByteArray) (top : Int) (w : World) (h0 : 0 ≤ top)
    (hb : w.heap[B]? = some (.cells #[.string s, .bool false] 78 (0, 0))) :
    Calls Try.prog 53 #[.pointer (some ⟨B, 0, none⟩), .int .i64 top] w fun e w' => e = .returned (.int .i64 (En.belN s top)) ∧ RsOpt B (En.bel s top) w w' := by
  cases hd : En.dec s with
  | none =>
    have HD := Lib.hid hd
    rw [En.belN_none (En.bel_none hd), En.bel_none hd]
    clear hd
    go_enter Try.func53, Try.ntmps53
    go_wp2_with fail
    refine (num_any B s _ hb).mono ?_
    rw [En.decN_none HD.out]
    simp only [RsDec.none_ HD.out]
    rintro e w1 ⟨rfl, r, hT⟩
    go_wp2
    go_ret
    exact ⟨rfl, r, hT⟩
  | some x =>
    have HD := Lib.hid hd
    by_cases h1 : top < x.1
    · rw [En.belN_none (En.bel_big hd h1), En.bel_big hd h1]
      clear hd
      go_enter Try.func53, Try.ntmps53
      go_wp2_with fail
      refine (num_any B s _ hb).mono ?_
      rw [En.decN_some HD.out]
      simp only [RsDec.some_ HD.out]
      rintro e w1 ⟨rfl, hT⟩
      have c1 := rs_bad hT.held
      have f1 := rs_f1 hT.held
      have hT3 := hT.trans (Rs.setB hT.held true)
      clear hT hb
      go_wp2
      go_ret
      exact ⟨rfl, _, hT3⟩
    · rw [En.belN_some (En.bel_ok hd h1), En.bel_ok hd h1]
      clear hd
      go_enter Try.func53, Try.ntmps53
      go_wp2_with fail
      refine (num_any B s _ hb).mono ?_
      rw [En.decN_some HD.out]
      simp only [RsDec.some_ HD.out]
      rintro e w1 ⟨rfl, hT⟩
      go_wp2
      go_ret
      exact ⟨rfl, hT⟩

def En.decTS (s : ByteArray) : ByteArray := match En.decT s with
  | none => ⟨#[]⟩
  | some x => x.1
theorem En.decTS_none {s : ByteArray} (h : En.decT s = none) : En.decTS s = ⟨#[]⟩ := by unfold En.decTS; rw [h]
theorem En.decTS_some {s : ByteArray} {x : ByteArray × ByteArray} (h : En.decT s = some x) : En.decTS s = x.1 := by unfold En.decTS; rw [h]

set_option maxRecDepth 100000 in
set_option maxHeartbeats 800000 in
theorem text_any (B : Nat) (s : ByteArray) (w : World)
    (hb : w.heap[B]? = some (.cells #[.string s, .bool false] 78 (0, 0))) :
    Calls Try.prog 78 #[.pointer (some ⟨B, 0, none⟩)] w fun e w' => e = .returned (.string (En.decTS s)) ∧ RsOpt B (En.decT s) w w' := by
  cases hd : En.bel s 4000 with
  | none =>
    have HD := Lib.hid hd
    rw [En.decTS_none (En.decT_none hd), En.decT_none hd]
    clear hd
    go_enter Try.func78, Try.ntmps78
    go_wp2_with fail
    refine (below_any B s 4000 _ (by omega) hb).mono ?_
    rw [En.belN_none HD.out, HD.out]
    rintro e w1 ⟨rfl, r, hT⟩
    have c1 := rs_bad hT.held
    have f1 := rs_f1 hT.held
    have hT3 := hT.trans (Rs.setB hT.held true)
    clear hT hb
    go_wp2
    go_ret
    exact ⟨rfl, _, hT3⟩
  | some x =>
    obtain ⟨n, r0⟩ := x
    have HD := Lib.hid hd
    have hbd := En.dec_bd (En.bel_inv hd).1
    have htop := (En.bel_inv hd).2
    by_cases h2 : (r0.size : Int) < n
    · rw [En.decTS_none (En.decT_short hd h2), En.decT_short hd h2]
      clear hd
      go_enter Try.func78, Try.ntmps78
      go_wp2_with fail
      refine (below_any B s 4000 _ (by omega) hb).mono ?_
      rw [En.belN_some HD.out, HD.out]
      rintro e w1 ⟨rfl, hT⟩
      have c0 := rs_str hT.held
      have c1 := rs_bad hT.held
      have f1 := rs_f1 hT.held
      have hT3 := hT.trans (Rs.setB hT.held true)
      clear hT hb
      go_wp2
      go_ret
      exact ⟨rfl, _, hT3⟩
    · rw [En.decTS_some (En.decT_ok hd h2), En.decT_ok hd h2]
      clear hd
      go_enter Try.func78, Try.ntmps78
      go_wp2_with fail
      refine (below_any B s 4000 _ (by omega) hb).mono ?_
      rw [En.belN_some HD.out, HD.out]
      rintro e w1 ⟨rfl, hT⟩
      have c0 := rs_str hT.held
      have c1 := rs_bad hT.held
      have f0 := rs_f0 hT.held
      have hT3 := hT.trans (Rs.setS hT.held (En.rest r0 n))
      unfold En.rest at hT3
      clear hT hb
      go_wp2
      go_ret
      exact ⟨rfl, hT3⟩

end Go.Proofs.Ytohameoomlehlab
