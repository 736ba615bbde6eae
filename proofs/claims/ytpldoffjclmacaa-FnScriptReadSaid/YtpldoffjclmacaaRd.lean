/-
  Contracts of reading a number: the program's closures (bytesOf, takeNum, takeLong, DecodeNum) and the model's reader (le, num, DecodeNum).
-/
import Derived.Test.YtpldoffjclmacaaNum
import Derived.Lib.Hide
import Derived.RangeFuncBox
import Derived.LoopTactic
namespace Go.Proofs.Ytpldoffjclmacaa
open Go.RowKit

/-! ### The program's taker: a block with one string. -/
/-- From w to w' nothing but block B was written, and it holds the string r. -/
structure Tk (B : Nat) (w w' : World) (r : ByteArray) : Prop where
  held : w'.heap[B]? = some (.cells #[.string r] 9 (0, 0))
  kept : w.grownBy w' (some B)
theorem Tk.set {B : Nat} {w : World} {s : ByteArray} (h : w.heap[B]? = some (.cells #[.string s] 9 (0, 0))) (r : ByteArray) : Tk B w (w.setCell ⟨B, 0, none⟩ (.string r)) r :=
  ⟨one_setCell h, grownBy_setCell' w B _⟩
theorem grownBy_trans' {w a b : World} {row : Option Nat} (h : w.grownBy a row) (k : a.grownBy b row) : w.grownBy b row :=
  ⟨k.os.trans h.os, k.tape.trans h.tape, k.output.trans h.output, Nat.le_trans h.size k.size, fun j hj hr => (k.block j (Nat.lt_of_lt_of_le hj h.size) hr).trans (h.block j hj hr)⟩
theorem Tk.trans {B : Nat} {w a b : World} {s r : ByteArray} (h : Tk B w a s) (k : Tk B a b r) : Tk B w b r := ⟨k.held, grownBy_trans' h.kept k.kept⟩

theorem makeFunc_run : ∀ (fn : Fn) (first cap : Array Value) (w : World), (Instr.makeFunc fn first cap).run Try.prog w = .ok (.func fn first cap) w := fun _ _ _ _ => rfl

set_option maxHeartbeats 400000 in
theorem bytesOf_any (s : ByteArray) (w : World) :
    Calls Try.prog 32 #[.string s] w fun e w' => e = .returned (.tuple #[.func (.func 48) #[] #[.pointer (some ⟨w.heap.size, 0, none⟩)], .func (.func 49) #[] #[.pointer (some ⟨w.heap.size, 0, none⟩)]]) ∧
      w' = w.alloc (.cells #[.string s] 9 (0, 0)) := by
  have hmf := makeFunc_run
  go_enter Try.func32, Try.ntmps32
  go_wp2
  go_ret2
  exact ⟨rfl, rfl⟩

set_option maxHeartbeats 400000 in
theorem take_no (B : Nat) (s : ByteArray) (n : Int) (w : World) (hn : (s.size : Int) < n)
    (hb : w.heap[B]? = some (.cells #[.string s] 9 (0, 0))) :
    Calls Try.prog 48 #[.int .i64 n, .pointer (some ⟨B, 0, none⟩)] w fun e w' => e = .returned (.tuple #[.string ⟨#[]⟩, .bool false]) ∧ w = w' := by
  have hc := cell_of_one hb
  have hz := free_of_one hb
  clear hb
  go_enter Try.func48, Try.ntmps48
  go_wp2
  go_ret2
  exact ⟨rfl, rfl⟩

set_option maxHeartbeats 400000 in
theorem take_yes (B : Nat) (s : ByteArray) (n : Int) (w : World) (h0 : 0 ≤ n) (hn : n ≤ (s.size : Int))
    (hb : w.heap[B]? = some (.cells #[.string s] 9 (0, 0))) :
    Calls Try.prog 48 #[.int .i64 n, .pointer (some ⟨B, 0, none⟩)] w fun e w' => e = .returned (.tuple #[.string (En.front s n), .bool true]) ∧ Tk B w w' (En.rest s n) := by
  have hT := Tk.set hb (En.rest s n)
  have hc := cell_of_one hb
  have hz := free_of_one hb
  clear hb
  unfold En.front
  unfold En.rest at hT ⊢
  go_enter Try.func48, Try.ntmps48
  go_wp2
  go_ret2
  exact ⟨rfl, hT⟩

set_option maxHeartbeats 400000 in
theorem rest_any (B : Nat) (s : ByteArray) (w : World)
    (hb : w.heap[B]? = some (.cells #[.string s] 9 (0, 0))) :
    Calls Try.prog 49 #[.pointer (some ⟨B, 0, none⟩)] w fun e w' => e = .returned (.string s) ∧ w = w' := by
  have hc := cell_of_one hb
  clear hb
  go_enter Try.func49, Try.ntmps49
  go_wp2
  go_ret
  exact ⟨rfl, rfl⟩

/-- What the reading of a number leaves: the block holds a string; the rest, if there was a number. -/
def TkDec (B : Nat) (s : ByteArray) (w w' : World) : Prop := ∃ r, Tk B w w' r ∧ r.size ≤ s.size ∧ ∀ x, En.dec s = some x → x.2 = r
abbrev takerAt (B : Nat) : Value := .func (.func 48) #[] #[.pointer (some ⟨B, 0, none⟩)]

set_option maxHeartbeats 400000 in
theorem takeLong_short (B : Nat) (s : ByteArray) (m least : Int) (w : World) (hn : (s.size : Int) < m)
    (hb : w.heap[B]? = some (.cells #[.string s] 9 (0, 0))) :
    Calls Try.prog 62 #[takerAt B, .int .i64 m, .int .i64 least] w fun e w' => e = .returned (.tuple #[.int .i64 0, .bool false]) ∧ w = w' := by
  go_enter Try.func62, Try.ntmps62
  go_wp2_with (go_at_call 48; refine (take_no B s m _ hn hb).mono ?_; rintro e w' ⟨rfl, rfl⟩)
  go_ret2
  exact ⟨rfl, rfl⟩

set_option maxHeartbeats 400000 in
theorem takeLong_any (B : Nat) (s : ByteArray) (m least : Int) (w : World) (h1 : 1 ≤ m) (h4 : m ≤ 4) (hn : m ≤ (s.size : Int))
    (hb : w.heap[B]? = some (.cells #[.string s] 9 (0, 0))) :
    Calls Try.prog 62 #[takerAt B, .int .i64 m, .int .i64 least] w fun e w' =>
      e = .returned (if En.lev s 0 m.toNat < least then .tuple #[.int .i64 0, .bool false] else .tuple #[.int .i64 (En.lev s 0 m.toNat), .bool true]) ∧ Tk B w w' (En.rest s m) := by
  have hsz := En.size_front s m hn
  have hz1 : ((En.front s m).size : Int) ≤ m := by omega
  have hz2 : m ≤ ((En.front s m).size : Int) := by omega
  clear hsz
  have HF := Lib.hid (En.lev_front s m)
  go_enter Try.func62, Try.ntmps62
  go_wp2_with (go_at_call 48; refine (take_yes B s m _ (by omega) hn hb).mono ?_; rintro e w' ⟨rfl, hT⟩)
  go_loop [10, 11] (fun n i => ∃ j : Nat, (j : Int) ≤ m ∧ i = .int .i64 ((j : Int) - 1) ∧ n = .int .i64 (En.lev (En.front s m) j (m.toNat - j))) (fun _ i => (intOf i + 1).toNat)
  case atStart => exact ⟨m.toNat, by omega, by rw [show ((m.toNat : Nat) : Int) = m by omega], by simp [En.lev]⟩
  case round =>
    obtain ⟨j, hj, rfl, rfl⟩ := hrel
    cases j with
    | zero =>
      rw [Nat.sub_zero, HF.out m.toNat 0 (by omega)]
      clear HF
      by_cases hl : En.lev s 0 m.toNat < least
      · go_wp2
        go_ret2
        exact ⟨rfl, hT⟩
      · go_wp2
        go_ret2
        exact ⟨rfl, hT⟩
    | succ k =>
      rw [show (((k + 1 : Nat) : Int) - 1) = (k : Int) by omega]
      have hbd := En.lev_le3 (En.front s m) (k + 1) (m.toNat - (k + 1)) (by omega)
      have hby := En.byt_bd (En.front s m) k
      have hor := En.or_byte _ _ hbd.1 hbd.2 hby.1 hby.2
      have hix : ∀ h : k < (En.front s m).size, (((En.front s m)[k]'h).toNat : Int) = En.byt (En.front s m) k := fun h => En.byt_eq _ k h
      have hst : En.lev (En.front s m) k (m.toNat - k) = En.lev (En.front s m) (k + 1) (m.toNat - (k + 1)) * 256 + En.byt (En.front s m) k := by
        rw [show m.toNat - k = (m.toNat - (k + 1)) + 1 by omega]; rfl
      have HS := Lib.hid hst
      clear hst
      go_wp2
      go_round
      case rel => exact ⟨k, by omega, rfl, by rw [HS.out]⟩
      case measure => simp [intOf]

theorem takeLong_low (B : Nat) (s : ByteArray) (m least : Int) (w : World) (h1 : 1 ≤ m) (h4 : m ≤ 4) (hn : m ≤ (s.size : Int)) (hl : En.lev s 0 m.toNat < least)
    (hb : w.heap[B]? = some (.cells #[.string s] 9 (0, 0))) :
    Calls Try.prog 62 #[takerAt B, .int .i64 m, .int .i64 least] w fun e w' => e = .returned (.tuple #[.int .i64 0, .bool false]) ∧ Tk B w w' (En.rest s m) :=
  (takeLong_any B s m least w h1 h4 hn hb).mono fun e w' ⟨he, hT⟩ => ⟨by rw [he, if_pos hl], hT⟩
theorem takeLong_ok (B : Nat) (s : ByteArray) (m least : Int) (w : World) (h1 : 1 ≤ m) (h4 : m ≤ 4) (hn : m ≤ (s.size : Int)) (hl : least ≤ En.lev s 0 m.toNat)
    (hb : w.heap[B]? = some (.cells #[.string s] 9 (0, 0))) :
    Calls Try.prog 62 #[takerAt B, .int .i64 m, .int .i64 least] w fun e w' => e = .returned (.tuple #[.int .i64 (En.lev s 0 m.toNat), .bool true]) ∧ Tk B w w' (En.rest s m) :=
  (takeLong_any B s m least w h1 h4 hn hb).mono fun e w' ⟨he, hT⟩ => ⟨by rw [he, if_neg (Int.not_lt.2 hl)], hT⟩
theorem Tk.rfl' {B : Nat} {w : World} {s : ByteArray} (h : w.heap[B]? = some (.cells #[.string s] 9 (0, 0))) : Tk B w w s := ⟨h, World.grownBy.refl _ _⟩
theorem ne_bool {a b : Int} (h : a ≠ b) : (a == b) = false := by simpa using h
theorem eq_bool {a b : Int} (h : a = b) : (a == b) = true := by simpa using h

set_option maxHeartbeats 800000 in
theorem takeNum_any (B : Nat) (s : ByteArray) (w : World)
    (hb : w.heap[B]? = some (.cells #[.string s] 9 (0, 0))) :
    Calls Try.prog 51 #[takerAt B] w fun e w' => e = .returned (En.decV s) ∧ TkDec B s w w' := by
  have hz := En.size_rest_le s 1
  by_cases h0 : (s.size : Int) < 1
  · have hd := Lib.hid (En.dec_short h0)
    go_enter Try.func51, Try.ntmps51
    go_wp2_with (go_at_call 48; refine (take_no B s 1 _ h0 hb).mono ?_; rintro e w' ⟨rfl, rfl⟩)
    go_ret2
    exact ⟨congrArg Ending.returned (En.decV_none hd.out).symm, _, Tk.rfl' hb, Nat.le_refl _, fun x hx => by rw [hd.out] at hx; cases hx⟩
  have h1 : 1 ≤ (s.size : Int) := by omega
  have hfs : 0 < (En.front s 1).size := by rw [En.size_front s 1 h1]; decide
  have hix := En.front_zero s
  have hbd := En.byt_bd s 0
  by_cases h253 : En.byt s 0 = 253
  · have hd := Lib.hid (En.dec_two h1 h253)
    have H253 := eq_bool h253
    clear h253
    by_cases hs2 : ((En.rest s 1).size : Int) < 2
    · have hl := Lib.hid (En.long_short (l := 253) hs2)
      go_enter Try.func51, Try.ntmps51
      go_wp2_with (go_at_call 48; refine (take_yes B s 1 _ (by omega) h1 hb).mono ?_; rintro e w1 ⟨rfl, hT⟩)
      refine (takeLong_short B (En.rest s 1) 2 253 _ (by omega) hT.held).mono ?_
      rintro e w2 ⟨rfl, rfl⟩
      go_wp2
      go_ret2
      exact ⟨congrArg Ending.returned (En.decV_none (hd.out.trans hl.out)).symm, _, hT, hz, fun x hx => by rw [hd.out, hl.out] at hx; cases hx⟩
    by_cases hlow : En.lev (En.rest s 1) 0 (Int.toNat 2) < 253
    · have hl := Lib.hid (En.long_low (s := En.rest s 1) (m := 2) (l := 253) (by omega) hlow)
      have HL := Lib.hid hlow
      clear hlow
      go_enter Try.func51, Try.ntmps51
      go_wp2_with (first
        | (go_at_call 48; refine (take_yes B s 1 _ (by omega) h1 hb).mono ?_; rintro e w1 ⟨rfl, hT⟩)
        | (go_at_call 62; refine (takeLong_low B (En.rest s 1) 2 253 _ (by omega) (by omega) (by omega) HL.out hT.held).mono ?_; rintro e w2 ⟨rfl, hT2⟩))
      go_ret2
      exact ⟨congrArg Ending.returned (En.decV_none (hd.out.trans hl.out)).symm, _, hT.trans hT2, Nat.le_trans (En.size_rest_le _ _) hz, fun x hx => by rw [hd.out, hl.out] at hx; cases hx⟩
    · have hl := Lib.hid (En.long_ok (s := En.rest s 1) (m := 2) (l := 253) (by omega) hlow)
      have HL := Lib.hid (Int.not_lt.1 hlow)
      clear hlow
      go_enter Try.func51, Try.ntmps51
      go_wp2_with (first
        | (go_at_call 48; refine (take_yes B s 1 _ (by omega) h1 hb).mono ?_; rintro e w1 ⟨rfl, hT⟩)
        | (go_at_call 62; refine (takeLong_ok B (En.rest s 1) 2 253 _ (by omega) (by omega) (by omega) HL.out hT.held).mono ?_; rintro e w2 ⟨rfl, hT2⟩))
      go_ret2
      exact ⟨congrArg Ending.returned (En.decV_some (hd.out.trans hl.out)).symm, _, hT.trans hT2, Nat.le_trans (En.size_rest_le _ _) hz, fun x hx => by rw [hd.out, hl.out] at hx; cases hx; rfl⟩
  by_cases h254 : En.byt s 0 = 254
  · have hd := Lib.hid (En.dec_four h1 h254)
    have H254 := eq_bool h254
    have H253 := ne_bool h253
    clear h253
    clear h254
    by_cases hs2 : ((En.rest s 1).size : Int) < 4
    · have hl := Lib.hid (En.long_short (l := 65536) hs2)
      go_enter Try.func51, Try.ntmps51
      go_wp2_with (go_at_call 48; refine (take_yes B s 1 _ (by omega) h1 hb).mono ?_; rintro e w1 ⟨rfl, hT⟩)
      refine (takeLong_short B (En.rest s 1) 4 65536 _ (by omega) hT.held).mono ?_
      rintro e w2 ⟨rfl, rfl⟩
      go_wp2
      go_ret2
      exact ⟨congrArg Ending.returned (En.decV_none (hd.out.trans hl.out)).symm, _, hT, hz, fun x hx => by rw [hd.out, hl.out] at hx; cases hx⟩
    by_cases hlow : En.lev (En.rest s 1) 0 (Int.toNat 4) < 65536
    · have hl := Lib.hid (En.long_low (s := En.rest s 1) (m := 4) (l := 65536) (by omega) hlow)
      have HL := Lib.hid hlow
      clear hlow
      go_enter Try.func51, Try.ntmps51
      go_wp2_with (first
        | (go_at_call 48; refine (take_yes B s 1 _ (by omega) h1 hb).mono ?_; rintro e w1 ⟨rfl, hT⟩)
        | (go_at_call 62; refine (takeLong_low B (En.rest s 1) 4 65536 _ (by omega) (by omega) (by omega) HL.out hT.held).mono ?_; rintro e w2 ⟨rfl, hT2⟩))
      go_ret2
      exact ⟨congrArg Ending.returned (En.decV_none (hd.out.trans hl.out)).symm, _, hT.trans hT2, Nat.le_trans (En.size_rest_le _ _) hz, fun x hx => by rw [hd.out, hl.out] at hx; cases hx⟩
    · have hl := Lib.hid (En.long_ok (s := En.rest s 1) (m := 4) (l := 65536) (by omega) hlow)
      have HL := Lib.hid (Int.not_lt.1 hlow)
      clear hlow
      go_enter Try.func51, Try.ntmps51
      go_wp2_with (first
        | (go_at_call 48; refine (take_yes B s 1 _ (by omega) h1 hb).mono ?_; rintro e w1 ⟨rfl, hT⟩)
        | (go_at_call 62; refine (takeLong_ok B (En.rest s 1) 4 65536 _ (by omega) (by omega) (by omega) HL.out hT.held).mono ?_; rintro e w2 ⟨rfl, hT2⟩))
      go_ret2
      exact ⟨congrArg Ending.returned (En.decV_some (hd.out.trans hl.out)).symm, _, hT.trans hT2, Nat.le_trans (En.size_rest_le _ _) hz, fun x hx => by rw [hd.out, hl.out] at hx; cases hx; rfl⟩
  by_cases h255 : En.byt s 0 = 255
  · have hd := Lib.hid (En.dec_bad h1 h255)
    have H253 := ne_bool h253
    have H254 := ne_bool h254
    have H255 := eq_bool h255
    clear h253 h254 h255
    go_enter Try.func51, Try.ntmps51
    go_wp2_with (go_at_call 48; refine (take_yes B s 1 _ (by omega) h1 hb).mono ?_; rintro e w1 ⟨rfl, hT⟩)
    go_ret2
    exact ⟨congrArg Ending.returned (En.decV_none hd.out).symm, _, hT, hz, fun x hx => by rw [hd.out] at hx; cases hx⟩
  · have hd := Lib.hid (En.dec_one h1 (by omega))
    have H253 := ne_bool h253
    have H254 := ne_bool h254
    have H255 := ne_bool h255
    clear h253 h254 h255
    go_enter Try.func51, Try.ntmps51
    go_wp2_with (go_at_call 48; refine (take_yes B s 1 _ (by omega) h1 hb).mono ?_; rintro e w1 ⟨rfl, hT⟩)
    go_ret2
    exact ⟨congrArg Ending.returned (En.decV_some hd.out).symm, _, hT, hz, fun x hx => by rw [hd.out] at hx; cases hx; rfl⟩

/-- The answer of DecodeNum. -/
def En.decA (s : ByteArray) : Value := match En.dec s with
  | none => .tuple #[.int .i64 0, .string ⟨#[]⟩, .bool false]
  | some x => .tuple #[.int .i64 x.1, .string x.2, .bool true]
theorem En.decA_none {s : ByteArray} (h : En.dec s = none) : En.decA s = .tuple #[.int .i64 0, .string ⟨#[]⟩, .bool false] := by unfold En.decA; rw [h]
theorem En.decA_some {s : ByteArray} {x : Int × ByteArray} (h : En.dec s = some x) : En.decA s = .tuple #[.int .i64 x.1, .string x.2, .bool true] := by unfold En.decA; rw [h]
theorem Tk.below {B : Nat} {w w' : World} {r : ByteArray} (h : Tk B w w' r) {k : Nat} (hk : k ≤ B) (hw : k ≤ w.heap.size) : Below k w w' :=
  Below.grown (Below.refl _ _) h.kept hw (fun j hj => by cases hj; exact hk)
theorem heap_new (w : World) (o : Obj) : (w.alloc o).heap[w.heap.size]? = some o := by
  show (w.heap.push o)[w.heap.size]? = _
  simp

end Go.Proofs.Ytpldoffjclmacaa
