/-
  Contracts of the model's reader: le, num, DecodeNum.
-/
import Derived.Test.YtpldoffjclmacaaRd
import Derived.Deep.QuietTactic
import Derived.BigQuiet
import Derived.WalkSmall
namespace Go.Proofs.Ytpldoffjclmacaa
open Go.RowKit

/-- From w to w' nothing but block B was written, and it holds the reader (s, b). -/
structure Rs (B : Nat) (w w' : World) (s : ByteArray) (b : Bool) : Prop where
  held : w'.heap[B]? = some (.cells #[.string s, .bool b] 69 (0, 0))
  kept : w.grownBy w' (some B)
theorem Rs.trans {B : Nat} {w a c : World} {s r : ByteArray} {b d : Bool} (h : Rs B w a s b) (k : Rs B a c r d) : Rs B w c r d := ⟨k.held, grownBy_trans' h.kept k.kept⟩
theorem Rs.rfl' {B : Nat} {w : World} {s : ByteArray} {b : Bool} (h : w.heap[B]? = some (.cells #[.string s, .bool b] 69 (0, 0))) : Rs B w w s b := ⟨h, World.grownBy.refl _ _⟩
theorem Rs.below {B : Nat} {w w' : World} {r : ByteArray} {b : Bool} (h : Rs B w w' r b) {k : Nat} (hk : k ≤ B) (hw : k ≤ w.heap.size) : Below k w w' :=
  Below.grown (Below.refl _ _) h.kept hw (fun j hj => by cases hj; exact hk)
theorem grownBy_set (w : World) (B i : Nat) (v : Value) : w.grownBy (w.setCell ⟨B, i, none⟩ v) (some B) :=
  ⟨rfl, rfl, rfl, by simp [World.setCell], fun j _ hr => Below.heap_setCell _ _ _ _ (fun e => hr (by simp [e]))⟩
section
variable {B : Nat} {w : World} {s : ByteArray} {b : Bool} (h : w.heap[B]? = some (.cells #[.string s, .bool b] 69 (0, 0)))
include h
theorem rs_str : w.cell? ⟨B, 0, none⟩ = some (.string s) := by simp [World.cell?, h]
theorem rs_bad : w.cell? ⟨B, 1, none⟩ = some (.bool b) := by simp [World.cell?, h]
theorem rs_f0 : w.frozen? ⟨B, 0, none⟩ = false := by simp [World.frozen?, h]
theorem rs_f1 : w.frozen? ⟨B, 1, none⟩ = false := by simp [World.frozen?, h]
theorem Rs.setS (r : ByteArray) : Rs B w (w.setCell ⟨B, 0, none⟩ (.string r)) r b := ⟨block_setCell h 0 _, grownBy_set w B 0 _⟩
theorem Rs.setB (d : Bool) : Rs B w (w.setCell ⟨B, 1, none⟩ (.bool d)) s d := ⟨block_setCell h 1 _, grownBy_set w B 1 _⟩
end

set_option maxHeartbeats 400000 in
theorem le_short (B : Nat) (s : ByteArray) (n : Int) (w : World) (hn : (s.size : Int) < n)
    (hb : w.heap[B]? = some (.cells #[.string s, .bool false] 69 (0, 0))) :
    Calls Try.prog 35 #[.pointer (some ⟨B, 0, none⟩), .int .i64 n] w fun e w' => e = .returned (.int .i64 0) ∧ Rs B w w' s true := by
  have hT := Rs.setB hb true
  have h0 := rs_str hb
  have h1 := rs_bad hb
  have h3 := rs_f1 hb
  clear hb
  go_enter Try.func35, Try.ntmps35
  go_wp2
  go_ret
  exact ⟨rfl, hT⟩

set_option maxHeartbeats 400000 in
theorem le_ok (B : Nat) (s : ByteArray) (m : Int) (w : World) (h1 : 1 ≤ m) (h4 : m ≤ 4) (hn : m ≤ (s.size : Int))
    (hb : w.heap[B]? = some (.cells #[.string s, .bool false] 69 (0, 0))) :
    Calls Try.prog 35 #[.pointer (some ⟨B, 0, none⟩), .int .i64 m] w fun e w' => e = .returned (.int .i64 (En.lev s 0 m.toNat)) ∧ Rs B w w' (En.rest s m) false := by
  have hT := Rs.setS hb (En.rest s m)
  unfold En.rest at hT ⊢
  have c0 := rs_str hb
  have c1 := rs_bad hb
  have f0 := rs_f0 hb
  clear hb
  go_enter Try.func35, Try.ntmps35
  go_wp2
  go_loop [5, 6] (fun n i => ∃ j : Nat, (j : Int) ≤ m ∧ i = .int .i64 ((j : Int) - 1) ∧ n = .int .i64 (En.lev s j (m.toNat - j))) (fun _ i => (intOf i + 1).toNat)
  case atStart => exact ⟨m.toNat, by omega, by rw [show ((m.toNat : Nat) : Int) = m by omega], by simp [En.lev]⟩
  case round =>
    obtain ⟨j, hj, rfl, rfl⟩ := hrel
    cases j with
    | zero =>
      rw [Nat.sub_zero]
      go_wp2
      go_ret
      exact ⟨rfl, hT⟩
    | succ k =>
      rw [show (((k + 1 : Nat) : Int) - 1) = (k : Int) by omega]
      have hbd := En.lev_le3 s (k + 1) (m.toNat - (k + 1)) (by omega)
      have hby := En.byt_bd s k
      have hix : ∀ h : k < s.size, ((s[k]'h).toNat : Int) = En.byt s k := fun h => En.byt_eq _ k h
      have hst : En.lev s k (m.toNat - k) = En.lev s (k + 1) (m.toNat - (k + 1)) * 256 + En.byt s k := by
        rw [show m.toNat - k = (m.toNat - (k + 1)) + 1 by omega]; rfl
      have HS := Lib.hid hst
      clear hst hT
      go_wp2
      go_round
      case rel => exact ⟨k, by omega, rfl, by rw [HS.out]⟩
      case measure => simp [intOf]

/-- What the reading of a number leaves in the reader. -/
def RsDec (B : Nat) (s : ByteArray) (w w' : World) : Prop := match En.dec s with
  | none => ∃ r, Rs B w w' r true
  | some x => Rs B w w' x.2 false
def En.decN (s : ByteArray) : Int := match En.dec s with
  | none => 0
  | some x => x.1
theorem RsDec.none_ {B : Nat} {s : ByteArray} {w w' : World} (h : En.dec s = none) : RsDec B s w w' = ∃ r, Rs B w w' r true := by unfold RsDec; rw [h]
theorem RsDec.some_ {B : Nat} {s : ByteArray} {w w' : World} {x : Int × ByteArray} (h : En.dec s = some x) : RsDec B s w w' = Rs B w w' x.2 false := by unfold RsDec; rw [h]
theorem En.decN_none {s : ByteArray} (h : En.dec s = none) : En.decN s = 0 := by unfold En.decN; rw [h]
theorem En.decN_some {s : ByteArray} {x : Int × ByteArray} (h : En.dec s = some x) : En.decN s = x.1 := by unfold En.decN; rw [h]

set_option maxRecDepth 100000 in
set_option maxHeartbeats 800000 in
theorem num_any (B : Nat) (s : ByteArray) (w : World)
    (hb : w.heap[B]? = some (.cells #[.string s, .bool false] 69 (0, 0))) :
    Calls Try.prog 37 #[.pointer (some ⟨B, 0, none⟩)] w fun e w' => e = .returned (.int .i64 (En.decN s)) ∧ RsDec B s w w' := by
  by_cases h0 : (s.size : Int) < 1
  · rw [En.decN_none (En.dec_short h0)]
    simp only [RsDec.none_ (En.dec_short h0)]
    go_enter Try.func37, Try.ntmps37
    go_wp2_with (go_at_call 35; refine (le_short B s 1 _ h0 hb).mono ?_; rintro e w1 ⟨rfl, hT⟩; have c1 := rs_bad hT.held)
    go_ret
    exact ⟨rfl, _, hT⟩
  have h1 : 1 ≤ (s.size : Int) := by omega
  have hle := En.lev_one s 0
  have hbd := En.byt_bd s 0
  by_cases h253 : En.byt s 0 = 253
  · have hd := En.dec_two h1 h253
    have H253 := eq_bool h253
    clear h253
    by_cases hs2 : ((En.rest s 1).size : Int) < 2
    · have hl := hd.trans (En.long_short (l := 253) hs2)
      rw [En.decN_none hl]
      simp only [RsDec.none_ hl]
      clear hl hd
      go_enter Try.func37, Try.ntmps37
      go_wp2_with fail
      refine (le_ok B s 1 _ (by omega) (by omega) h1 hb).mono ?_
      rintro e w1 ⟨rfl, hT⟩
      have c1 := rs_bad hT.held
      go_wp2_with fail
      refine (le_short B (En.rest s 1) 2 _ (by omega) hT.held).mono ?_
      rintro e w2 ⟨rfl, hT2⟩
      clear c1
      have d1 := rs_bad hT2.held
      have f1 := rs_f1 hT2.held
      have hT3 := (hT.trans hT2).trans (Rs.setB hT2.held true)
      clear hT hT2 hb
      go_wp2
      go_ret
      exact ⟨rfl, _, hT3⟩
    by_cases hlow : En.lev (En.rest s 1) 0 2 < 253
    · have hl := hd.trans (En.long_low (s := En.rest s 1) (m := 2) (l := 253) (by omega) hlow)
      rw [En.decN_none hl]
      simp only [RsDec.none_ hl]
      clear hl hd
      go_enter Try.func37, Try.ntmps37
      go_wp2_with fail
      refine (le_ok B s 1 _ (by omega) (by omega) h1 hb).mono ?_
      rintro e w1 ⟨rfl, hT⟩
      have c1 := rs_bad hT.held
      go_wp2_with fail
      refine (le_ok B (En.rest s 1) 2 _ (by omega) (by omega) (by omega) hT.held).mono ?_
      rintro e w2 ⟨rfl, hT2⟩
      clear c1
      have d1 := rs_bad hT2.held
      have f1 := rs_f1 hT2.held
      have hT3 := (hT.trans hT2).trans (Rs.setB hT2.held true)
      clear hT hT2 hb
      go_wp2
      go_ret
      exact ⟨rfl, _, hT3⟩
    · have hl := hd.trans (En.long_ok (s := En.rest s 1) (m := 2) (l := 253) (by omega) hlow)
      have hdc : decide (En.lev (En.rest s 1) 0 2 < 253) = false := decide_eq_false hlow
      clear hlow
      rw [En.decN_some hl]
      simp only [RsDec.some_ hl]
      clear hl hd
      go_enter Try.func37, Try.ntmps37
      go_wp2_with fail
      refine (le_ok B s 1 _ (by omega) (by omega) h1 hb).mono ?_
      rintro e w1 ⟨rfl, hT⟩
      have c1 := rs_bad hT.held
      go_wp2_with fail
      refine (le_ok B (En.rest s 1) 2 _ (by omega) (by omega) (by omega) hT.held).mono ?_
      rintro e w2 ⟨rfl, hT2⟩
      clear c1
      have d1 := rs_bad hT2.held
      have f1 := rs_f1 hT2.held
      have hT3 := (hT.trans hT2).trans (Rs.setB hT2.held false)
      clear hT hT2 hb
      go_wp2
      go_ret
      exact ⟨rfl, hT3⟩
  by_cases h254 : En.byt s 0 = 254
  · have hd := En.dec_four h1 h254
    have H254 := eq_bool h254
    have H253 := ne_bool h253
    clear h253
    clear h254
    by_cases hs2 : ((En.rest s 1).size : Int) < 4
    · have hl := hd.trans (En.long_short (l := 65536) hs2)
      rw [En.decN_none hl]
      simp only [RsDec.none_ hl]
      clear hl hd
      go_enter Try.func37, Try.ntmps37
      go_wp2_with fail
      refine (le_ok B s 1 _ (by omega) (by omega) h1 hb).mono ?_
      rintro e w1 ⟨rfl, hT⟩
      have c1 := rs_bad hT.held
      go_wp2_with fail
      refine (le_short B (En.rest s 1) 4 _ (by omega) hT.held).mono ?_
      rintro e w2 ⟨rfl, hT2⟩
      clear c1
      have d1 := rs_bad hT2.held
      have f1 := rs_f1 hT2.held
      have hT3 := (hT.trans hT2).trans (Rs.setB hT2.held true)
      clear hT hT2 hb
      go_wp2
      go_ret
      exact ⟨rfl, _, hT3⟩
    by_cases hlow : En.lev (En.rest s 1) 0 4 < 65536
    · have hl := hd.trans (En.long_low (s := En.rest s 1) (m := 4) (l := 65536) (by omega) hlow)
      rw [En.decN_none hl]
      simp only [RsDec.none_ hl]
      clear hl hd
      go_enter Try.func37, Try.ntmps37
      go_wp2_with fail
      refine (le_ok B s 1 _ (by omega) (by omega) h1 hb).mono ?_
      rintro e w1 ⟨rfl, hT⟩
      have c1 := rs_bad hT.held
      go_wp2_with fail
      refine (le_ok B (En.rest s 1) 4 _ (by omega) (by omega) (by omega) hT.held).mono ?_
      rintro e w2 ⟨rfl, hT2⟩
      clear c1
      have d1 := rs_bad hT2.held
      have f1 := rs_f1 hT2.held
      have hT3 := (hT.trans hT2).trans (Rs.setB hT2.held true)
      clear hT hT2 hb
      go_wp2
      go_ret
      exact ⟨rfl, _, hT3⟩
    · have hl := hd.trans (En.long_ok (s := En.rest s 1) (m := 4) (l := 65536) (by omega) hlow)
      have hdc : decide (En.lev (En.rest s 1) 0 4 < 65536) = false := decide_eq_false hlow
      clear hlow
      rw [En.decN_some hl]
      simp only [RsDec.some_ hl]
      clear hl hd
      go_enter Try.func37, Try.ntmps37
      go_wp2_with fail
      refine (le_ok B s 1 _ (by omega) (by omega) h1 hb).mono ?_
      rintro e w1 ⟨rfl, hT⟩
      have c1 := rs_bad hT.held
      go_wp2_with fail
      refine (le_ok B (En.rest s 1) 4 _ (by omega) (by omega) (by omega) hT.held).mono ?_
      rintro e w2 ⟨rfl, hT2⟩
      clear c1
      have d1 := rs_bad hT2.held
      have f1 := rs_f1 hT2.held
      have hT3 := (hT.trans hT2).trans (Rs.setB hT2.held false)
      clear hT hT2 hb
      go_wp2
      go_ret
      exact ⟨rfl, hT3⟩
  by_cases h255 : En.byt s 0 = 255
  · have hd := En.dec_bad h1 h255
    have H253 := ne_bool h253
    have H254 := ne_bool h254
    have H255 := eq_bool h255
    clear h253 h254 h255
    rw [En.decN_none hd]
    simp only [RsDec.none_ hd]
    clear hd
    go_enter Try.func37, Try.ntmps37
    go_wp2_with (go_at_call 35; refine (le_ok B s 1 _ (by omega) (by omega) h1 hb).mono ?_; rintro e w1 ⟨rfl, hT⟩; have c1 := rs_bad hT.held; have f1 := rs_f1 hT.held; have hT3 := hT.trans (Rs.setB hT.held true))
    go_ret
    exact ⟨rfl, _, hT3⟩
  · have hd := En.dec_one h1 (by omega)
    have H253 := ne_bool h253
    have H254 := ne_bool h254
    have H255 := ne_bool h255
    clear h253 h254 h255
    rw [En.decN_some hd]
    simp only [RsDec.some_ hd]
    clear hd
    go_enter Try.func37, Try.ntmps37
    go_wp2_with (go_at_call 35; refine (le_ok B s 1 _ (by omega) (by omega) h1 hb).mono ?_; rintro e w1 ⟨rfl, hT⟩; have c1 := rs_bad hT.held)
    go_ret
    exact ⟨rfl, hT⟩

end Go.Proofs.Ytpldoffjclmacaa
