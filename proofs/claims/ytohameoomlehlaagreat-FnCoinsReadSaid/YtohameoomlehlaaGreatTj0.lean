/-
  Contracts of the model: the reader's parts that read no lists, from a good reader or a bad one.
-/
import Derived.Test.YtohameoomlehlaaGreatT0
import Derived.Test.YtohameoomlehlaaGreatTx
import Derived.Test.YtohameoomlehlaaGreatDg
namespace Go.Proofs.YtohameoomlehlaaGreat
open Go.RowKit

theorem Rs.low13 {B : Nat} {w w' : World} {s : ByteArray} {b : Bool} (h : Rs B w w' s b) {k : Nat} (hk : k ≤ B) (hw : k ≤ w.heap.size) : Below k w w' := h.below hk hw
/-- What a part of the reader leaves, from a good reader or a bad one. -/
def Gen13 {α : Type} (B : Nat) (b : Bool) (p : Option (α × ByteArray)) (v : α) (w w' : World) : Prop :=
  ∃ r2 b2, Rs B w w' r2 b2 ∧ Hid ((b2 = true → b = true ∨ p = none) ∧ (b2 = false → b = false ∧ p = some (v, r2)))

set_option maxRecDepth 100000 in
set_option maxHeartbeats 1600000 in
theorem le13_bad (B : Nat) (s : ByteArray) (n : Int) (w : World) (hb : w.heap[B]? = some (.cells #[.string s, .bool true] 45 (0, 0))) :
    Calls Tryz.prog 33 #[.pointer (some ⟨B, 0, none⟩), .int .i64 n] w fun e w' => e = .returned (.int .i64 0) ∧ Rs B w w' s true := by
  have hT := Rs.setB hb true
  have h0 := rs_str hb
  have h1 := rs_bad hb
  have h3 := rs_f1 hb
  clear hb
  go_enter Tryz.func33, Tryz.ntmps33
  go_wp2
  go_ret
  exact ⟨rfl, hT⟩

set_option maxRecDepth 100000 in
set_option maxHeartbeats 1600000 in
theorem num13_bad (B : Nat) (s : ByteArray) (w : World) (hb : w.heap[B]? = some (.cells #[.string s, .bool true] 45 (0, 0))) :
    Calls Tryz.prog 30 #[.pointer (some ⟨B, 0, none⟩)] w fun e w' => e = .returned (.int .i64 0) ∧ Rs B w w' s true := by
  go_enter Tryz.func30, Tryz.ntmps30
  go_wp2_with (go_at_call 33; refine (le13_bad B s 1 _ hb).mono ?_; rintro e w1 ⟨rfl, hT⟩; have c1 := rs_bad hT.held)
  go_ret
  exact ⟨rfl, hT⟩

set_option maxRecDepth 100000 in
set_option maxHeartbeats 1600000 in
theorem below13_bad (B : Nat) (s : ByteArray) (top : Int) (w : World) (h0 : 0 ≤ top) (hb : w.heap[B]? = some (.cells #[.string s, .bool true] 45 (0, 0))) :
    Calls Tryz.prog 15 #[.pointer (some ⟨B, 0, none⟩), .int .i64 top] w fun e w' => e = .returned (.int .i64 0) ∧ Rs B w w' s true := by
  have hd : decide (top < 0) = false := decide_eq_false (by omega)
  go_enter Tryz.func15, Tryz.ntmps15
  go_wp2_with fail
  refine (num13_bad B s _ hb).mono ?_
  rintro e w1 ⟨rfl, hT⟩
  go_wp2
  go_ret
  exact ⟨rfl, hT⟩

set_option maxRecDepth 100000 in
set_option maxHeartbeats 1600000 in
theorem text13_bad (B : Nat) (s : ByteArray) (w : World) (hb : w.heap[B]? = some (.cells #[.string s, .bool true] 45 (0, 0))) :
    Calls Tryz.prog 32 #[.pointer (some ⟨B, 0, none⟩)] w fun e w' => e = .returned (.string ⟨#[]⟩) ∧ Rs B w w' s true := by
  go_enter Tryz.func32, Tryz.ntmps32
  go_wp2_with fail
  refine (below13_bad B s 4000 _ (by omega) hb).mono ?_
  rintro e w1 ⟨rfl, hT⟩
  have c1 := rs_bad hT.held
  have f1 := rs_f1 hT.held
  have hT3 := hT.trans (Rs.setB hT.held true)
  clear hT hb
  go_wp2
  go_ret
  exact ⟨rfl, hT3⟩

set_option maxRecDepth 100000 in
set_option maxHeartbeats 1600000 in
theorem digest13 (B : Nat) (s : ByteArray) (b : Bool) (w : World) (hb : w.heap[B]? = some (.cells #[.string s, .bool b] 45 (0, 0))) :
    Calls Tryz.prog 31 #[.pointer (some ⟨B, 0, none⟩)] w fun e w' => ∃ v, e = .returned (.int .i64 v) ∧ Gen13 B b (Tr.dig s) v w w' := by
  have hT := Rs.setB hb true
  have c0 := rs_str hb
  have c1 := rs_bad hb
  have f0 := rs_f0 hb
  have f1 := rs_f1 hb
  cases b
  case true =>
    clear hb
    go_enter Tryz.func31, Tryz.ntmps31
    go_wp2
    go_ret
    exact ⟨0, rfl, s, true, hT, Lib.hid ⟨fun _ => .inl rfl, fun h => by cases h⟩⟩
  by_cases h4 : s.size < 4
  · have hd : decide ((s.size : Int) < 4) = true := decide_eq_true (by omega)
    have HN : Hid (Tr.dig s = none) := Lib.hid (by unfold Tr.dig; rw [if_pos h4])
    clear hb h4
    go_enter Tryz.func31, Tryz.ntmps31
    go_wp2
    go_ret
    exact ⟨0, rfl, s, true, hT, Lib.hid ⟨fun _ => .inr HN.out, fun h => by cases h⟩⟩
  have hd : decide ((s.size : Int) < 4) = false := decide_eq_false (by omega)
  have HN : Hid (Tr.dig s = some (Dg.num (En.front s 4), En.rest s 4)) := Lib.hid (by unfold Tr.dig; rw [if_neg h4])
  have h44 : (4 : Int) ≤ (s.size : Int) := by omega
  have hz : (En.front s 4).size = 4 := En.size_front s 4 h44
  have hcB := fun W => specBytesDigest_ok (En.front s 4) W hz
  have HB := Lib.hid hb
  unfold En.front at hcB
  clear hT hb h4
  go_enter Tryz.func31, Tryz.ntmps31
  go_wp2_with fail
  refine (hcB _).mono ?_
  rintro e w1 ⟨rfl, hx⟩
  have hB1 : w1.heap[B]? = some (.cells #[.string s, .bool false] 45 (0, 0)) := (hx.block B (lt_of_block HB.out)).trans HB.out
  have hT := Rs.setS hB1 (En.rest s 4)
  have k0 := rs_str hB1
  have k1 := rs_f0 hB1
  have hg : w.grownBy w1 (some B) := ⟨hx.os, hx.tape, hx.output, hx.size, fun k hk _ => hx.block k hk⟩
  have hT2 : Rs B w _ (En.rest s 4) false := ⟨hT.held, grownBy_trans' hg hT.kept⟩
  unfold En.rest at hT2
  clear hT hcB c0 c1 f0 f1 hx hg hB1
  go_wp2
  go_ret
  exact ⟨Dg.num (En.front s 4), rfl, _, false, hT2, Lib.hid ⟨(fun h => by cases h), fun _ => ⟨rfl, HN.out⟩⟩⟩

theorem num13 (B : Nat) (s : ByteArray) (b : Bool) (w : World) (hb : w.heap[B]? = some (.cells #[.string s, .bool b] 45 (0, 0))) :
    Calls Tryz.prog 30 #[.pointer (some ⟨B, 0, none⟩)] w fun e w' => ∃ v, e = .returned (.int .i64 v) ∧ Gen13 B b (En.dec s) v w w' := by
  cases b with
  | true =>
    refine (num13_bad B s w hb).mono ?_
    rintro e w' ⟨he, hT⟩
    exact ⟨0, he, s, true, hT, Lib.hid ⟨fun _ => .inl rfl, fun h => by cases h⟩⟩
  | false =>
    refine (num_any B s w hb).mono ?_
    rintro e w' ⟨he, hT⟩
    cases hd : En.dec s with
    | none =>
      rw [RsDec.none_ hd] at hT
      obtain ⟨r, hT⟩ := hT
      exact ⟨_, he, r, true, hT, Lib.hid ⟨fun _ => .inr rfl, fun h => by cases h⟩⟩
    | some x =>
      rw [RsDec.some_ hd] at hT
      rw [En.decN_some hd] at he
      exact ⟨x.1, he, x.2, false, hT, Lib.hid ⟨(fun h => by cases h), fun _ => ⟨rfl, rfl⟩⟩⟩
theorem below13 (B : Nat) (s : ByteArray) (b : Bool) (top : Int) (w : World) (h0 : 0 ≤ top) (hb : w.heap[B]? = some (.cells #[.string s, .bool b] 45 (0, 0))) :
    Calls Tryz.prog 15 #[.pointer (some ⟨B, 0, none⟩), .int .i64 top] w fun e w' => ∃ v, e = .returned (.int .i64 v) ∧ Gen13 B b (En.bel s top) v w w' ∧ Hid (b = true → v = 0) := by
  cases b with
  | true =>
    refine (below13_bad B s top w h0 hb).mono ?_
    rintro e w' ⟨he, hT⟩
    exact ⟨0, he, ⟨s, true, hT, Lib.hid ⟨fun _ => .inl rfl, fun h => by cases h⟩⟩, Lib.hid fun _ => rfl⟩
  | false =>
    refine (below_any B s top w h0 hb).mono ?_
    rintro e w' ⟨he, hT⟩
    cases hd : En.bel s top with
    | none =>
      rw [hd] at hT
      obtain ⟨r, hT⟩ := hT
      exact ⟨_, he, ⟨r, true, hT, Lib.hid ⟨fun _ => .inr rfl, fun h => by cases h⟩⟩, Lib.hid fun h => by cases h⟩
    | some x =>
      rw [hd] at hT
      rw [En.belN_some hd] at he
      exact ⟨x.1, he, ⟨x.2, false, hT, Lib.hid ⟨(fun h => by cases h), fun _ => ⟨rfl, rfl⟩⟩⟩, Lib.hid fun h => by cases h⟩
theorem text13 (B : Nat) (s : ByteArray) (b : Bool) (w : World) (hb : w.heap[B]? = some (.cells #[.string s, .bool b] 45 (0, 0))) :
    Calls Tryz.prog 32 #[.pointer (some ⟨B, 0, none⟩)] w fun e w' => ∃ v, e = .returned (.string v) ∧ Gen13 B b (En.decT s) v w w' := by
  cases b with
  | true =>
    refine (text13_bad B s w hb).mono ?_
    rintro e w' ⟨he, hT⟩
    exact ⟨_, he, s, true, hT, Lib.hid ⟨fun _ => .inl rfl, fun h => by cases h⟩⟩
  | false =>
    refine (text_any B s w hb).mono ?_
    rintro e w' ⟨he, hT⟩
    cases hd : En.decT s with
    | none =>
      rw [hd] at hT
      obtain ⟨r, hT⟩ := hT
      exact ⟨_, he, r, true, hT, Lib.hid ⟨fun _ => .inr rfl, fun h => by cases h⟩⟩
    | some x =>
      rw [hd] at hT
      rw [En.decTS_some hd] at he
      exact ⟨x.1, he, x.2, false, hT, Lib.hid ⟨(fun h => by cases h), fun _ => ⟨rfl, rfl⟩⟩⟩
end Go.Proofs.YtohameoomlehlaaGreat
