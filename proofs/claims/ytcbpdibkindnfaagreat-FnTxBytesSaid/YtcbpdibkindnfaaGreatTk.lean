import Derived.Test.YtcbpdibkindnfaaGreatTh
import Derived.Test.YtcbpdibkindnfaaGreatTd
import Derived.Test.YtcbpdibkindnfaaGreatTx
import Derived.Laws.OwnMore
import Derived.OwnWalk
/-
  Contracts of the model: the reader's parts, from a good reader or a bad one.
-/
namespace Go.Proofs.YtcbpdibkindnfaaGreat
open Go.RowKit

theorem Tr.rep_decL (s : ByteArray) (k : Nat) : Tr.rep En.decT s k = En.decL s k := by
  induction k with
  | zero => rfl
  | succ k ih =>
    cases h : En.decL s k with
    | none =>
      rw [h] at ih
      simp only [Tr.rep, En.decL, ih, h]
    | some x =>
      rw [h] at ih
      cases h2 : En.decT x.2 with
      | none => rw [Tr.rep_bad ih h2]; simp only [En.decL, h, h2]
      | some y => rw [Tr.rep_ok ih h2]; simp only [En.decL, h, h2]
theorem Tr.wits_decLt (top : Int) (s : ByteArray) : Tr.wits top s = En.decLt s top := by
  unfold Tr.wits En.decLt
  cases En.bel s top with
  | none => rfl
  | some x => exact Tr.rep_decL _ _
theorem Rs.low13 {B : Nat} {w w' : World} {s : ByteArray} {b : Bool} (h : Rs B w w' s b) {k : Nat} (hk : k ≤ B) (hw : k ≤ w.heap.size) : Below k w w' := h.below hk hw
/-- What a part of the reader leaves, from a good reader or a bad one. -/
def Gen13 {α : Type} (B : Nat) (b : Bool) (p : Option (α × ByteArray)) (v : α) (w w' : World) : Prop :=
  ∃ r2 b2, Rs B w w' r2 b2 ∧ Hid ((b2 = true → b = true ∨ p = none) ∧ (b2 = false → b = false ∧ p = some (v, r2)))

set_option maxRecDepth 100000 in
set_option maxHeartbeats 1600000 in
theorem le13_bad (B : Nat) (s : ByteArray) (n : Int) (w : World) (hb : w.heap[B]? = some (.cells #[.string s, .bool true] 55 (0, 0))) :
    Calls Tryz.prog 81 #[.pointer (some ⟨B, 0, none⟩), .int .i64 n] w fun e w' => e = .returned (.int .i64 0) ∧ Rs B w w' s true := by
  have hT := Rs.setB hb true
  have h0 := rs_str hb
  have h1 := rs_bad hb
  have h3 := rs_f1 hb
  clear hb
  go_enter Tryz.func81, Tryz.ntmps81
  go_wp2
  go_ret
  exact ⟨rfl, hT⟩

set_option maxRecDepth 100000 in
set_option maxHeartbeats 1600000 in
theorem num13_bad (B : Nat) (s : ByteArray) (w : World) (hb : w.heap[B]? = some (.cells #[.string s, .bool true] 55 (0, 0))) :
    Calls Tryz.prog 56 #[.pointer (some ⟨B, 0, none⟩)] w fun e w' => e = .returned (.int .i64 0) ∧ Rs B w w' s true := by
  go_enter Tryz.func56, Tryz.ntmps56
  go_wp2_with (go_at_call 81; refine (le13_bad B s 1 _ hb).mono ?_; rintro e w1 ⟨rfl, hT⟩; have c1 := rs_bad hT.held)
  go_ret
  exact ⟨rfl, hT⟩

set_option maxRecDepth 100000 in
set_option maxHeartbeats 1600000 in
theorem below13_bad (B : Nat) (s : ByteArray) (top : Int) (w : World) (h0 : 0 ≤ top) (hb : w.heap[B]? = some (.cells #[.string s, .bool true] 55 (0, 0))) :
    Calls Tryz.prog 54 #[.pointer (some ⟨B, 0, none⟩), .int .i64 top] w fun e w' => e = .returned (.int .i64 0) ∧ Rs B w w' s true := by
  have hd : decide (top < 0) = false := decide_eq_false (by omega)
  go_enter Tryz.func54, Tryz.ntmps54
  go_wp2_with fail
  refine (num13_bad B s _ hb).mono ?_
  rintro e w1 ⟨rfl, hT⟩
  go_wp2
  go_ret
  exact ⟨rfl, hT⟩

set_option maxRecDepth 100000 in
set_option maxHeartbeats 1600000 in
theorem text13_bad (B : Nat) (s : ByteArray) (w : World) (hb : w.heap[B]? = some (.cells #[.string s, .bool true] 55 (0, 0))) :
    Calls Tryz.prog 58 #[.pointer (some ⟨B, 0, none⟩)] w fun e w' => e = .returned (.string ⟨#[]⟩) ∧ Rs B w w' s true := by
  go_enter Tryz.func58, Tryz.ntmps58
  go_wp2_with fail
  refine (below13_bad B s 4000 _ (by omega) hb).mono ?_
  rintro e w1 ⟨rfl, hT⟩
  have c1 := rs_bad hT.held
  have f1 := rs_f1 hT.held
  have hT3 := hT.trans (Rs.setB hT.held true)
  clear hT hb
  go_wp2
  go_ret
  exact ⟨rfl, hT3⟩

set_option maxRecDepth 100000 in
set_option maxHeartbeats 1600000 in
theorem texts13_bad (B : Nat) (s : ByteArray) (top : Int) (w : World) (h0 : 0 ≤ top) (hb : w.heap[B]? = some (.cells #[.string s, .bool true] 55 (0, 0))) :
    Calls Tryz.prog 57 #[.pointer (some ⟨B, 0, none⟩), .int .i64 top] w fun e w' => (∃ a n c, e = .returned (.slice a n c)) ∧ Rs B w w' s true := by
  go_enter Tryz.func57, Tryz.ntmps57
  go_wp2_with fail
  refine (below13_bad B s top _ h0 hb).mono ?_
  rintro e w1 ⟨rfl, hT⟩
  have hTk : Rs B w (w1.alloc (.cells #[] 9)) s true := ⟨(Below.heap_alloc _ _ _ (lt_of_block hT.held)).trans hT.held, grownBy_trans' hT.kept (World.grownBy_alloc _ _ _)⟩
  clear hT
  go_wp2
  go_loopw [6, 7] (fun v i wr => i = .int .i64 0 ∧ (∃ a n cap, v = .slice a n cap) ∧ Rs B w wr s true) (fun _ _ _ => 0)
  case atStart => exact ⟨rfl, ⟨_, _, _, rfl⟩, hTk⟩
  case round =>
    obtain ⟨rfl, ⟨a, m, cap, rfl⟩, hR⟩ := hrel
    go_wp2
    go_ret
    exact ⟨⟨a, m, cap, rfl⟩, hR⟩

set_option maxRecDepth 100000 in
set_option maxHeartbeats 1600000 in
theorem digest13 (B : Nat) (s : ByteArray) (b : Bool) (w : World) (hb : w.heap[B]? = some (.cells #[.string s, .bool b] 55 (0, 0))) :
    Calls Tryz.prog 55 #[.pointer (some ⟨B, 0, none⟩)] w fun e w' => ∃ v, e = .returned (.int .i64 v) ∧ Gen13 B b (Tr.dig s) v w w' := by
  have hT := Rs.setB hb true
  have c0 := rs_str hb
  have c1 := rs_bad hb
  have f0 := rs_f0 hb
  have f1 := rs_f1 hb
  cases b
  case true =>
    clear hb
    go_enter Tryz.func55, Tryz.ntmps55
    go_wp2
    go_ret
    exact ⟨0, rfl, s, true, hT, Lib.hid ⟨fun _ => .inl rfl, fun h => by cases h⟩⟩
  by_cases h4 : s.size < 4
  · have hd : decide ((s.size : Int) < 4) = true := decide_eq_true (by omega)
    have HN : Hid (Tr.dig s = none) := Lib.hid (by unfold Tr.dig; rw [if_pos h4])
    clear hb h4
    go_enter Tryz.func55, Tryz.ntmps55
    go_wp2
    go_ret
    exact ⟨0, rfl, s, true, hT, Lib.hid ⟨fun _ => .inr HN.out, fun h => by cases h⟩⟩
  have hd : decide ((s.size : Int) < 4) = false := decide_eq_false (by omega)
  have HN : Hid (Tr.dig s = some (Dg.num (En.front s 4), En.rest s 4)) := Lib.hid (by unfold Tr.dig; rw [if_neg h4])
  have h44 : (4 : Int) ≤ (s.size : Int) := by omega
  have hz : (En.front s 4).size = 4 := En.size_front s 4 h44
  have hcB := fun W => specBytesDigest_ok (En.front s 4) W hz
  have HB := Lib.hid hb
  unfold En.front at hcB
  clear hT hb h4
  go_enter Tryz.func55, Tryz.ntmps55
  go_wp2_with fail
  refine (hcB _).mono ?_
  rintro e w1 ⟨rfl, hx⟩
  have hB1 : w1.heap[B]? = some (.cells #[.string s, .bool false] 55 (0, 0)) := (hx.block B (lt_of_block HB.out)).trans HB.out
  have hT := Rs.setS hB1 (En.rest s 4)
  have k0 := rs_str hB1
  have k1 := rs_f0 hB1
  have hg : w.grownBy w1 (some B) := ⟨hx.os, hx.tape, hx.output, hx.size, fun k hk _ => hx.block k hk⟩
  have hT2 : Rs B w _ (En.rest s 4) false := ⟨hT.held, grownBy_trans' hg hT.kept⟩
  unfold En.rest at hT2
  clear hT hcB c0 c1 f0 f1 hx hg hB1
  go_wp2
  go_ret
  exact ⟨Dg.num (En.front s 4), rfl, _, false, hT2, Lib.hid ⟨(fun h => by cases h), fun _ => ⟨rfl, HN.out⟩⟩⟩

theorem num13 (B : Nat) (s : ByteArray) (b : Bool) (w : World) (hb : w.heap[B]? = some (.cells #[.string s, .bool b] 55 (0, 0))) :
    Calls Tryz.prog 56 #[.pointer (some ⟨B, 0, none⟩)] w fun e w' => ∃ v, e = .returned (.int .i64 v) ∧ Gen13 B b (En.dec s) v w w' := by
  cases b with
  | true =>
    refine (num13_bad B s w hb).mono ?_
    rintro e w' ⟨he, hT⟩
    exact ⟨0, he, s, true, hT, Lib.hid ⟨fun _ => .inl rfl, fun h => by cases h⟩⟩
  | false =>
    refine (num_any B s w hb).mono ?_
    rintro e w' ⟨he, hT⟩
    cases hd : En.dec s with
    | none =>
      rw [RsDec.none_ hd] at hT
      obtain ⟨r, hT⟩ := hT
      exact ⟨_, he, r, true, hT, Lib.hid ⟨fun _ => .inr rfl, fun h => by cases h⟩⟩
    | some x =>
      rw [RsDec.some_ hd] at hT
      rw [En.decN_some hd] at he
      exact ⟨x.1, he, x.2, false, hT, Lib.hid ⟨(fun h => by cases h), fun _ => ⟨rfl, rfl⟩⟩⟩
theorem below13 (B : Nat) (s : ByteArray) (b : Bool) (top : Int) (w : World) (h0 : 0 ≤ top) (hb : w.heap[B]? = some (.cells #[.string s, .bool b] 55 (0, 0))) :
    Calls Tryz.prog 54 #[.pointer (some ⟨B, 0, none⟩), .int .i64 top] w fun e w' => ∃ v, e = .returned (.int .i64 v) ∧ Gen13 B b (En.bel s top) v w w' ∧ Hid (b = true → v = 0) := by
  cases b with
  | true =>
    refine (below13_bad B s top w h0 hb).mono ?_
    rintro e w' ⟨he, hT⟩
    exact ⟨0, he, ⟨s, true, hT, Lib.hid ⟨fun _ => .inl rfl, fun h => by cases h⟩⟩, Lib.hid fun _ => rfl⟩
  | false =>
    refine (below_any B s top w h0 hb).mono ?_
    rintro e w' ⟨he, hT⟩
    cases hd : En.bel s top with
    | none =>
      rw [hd] at hT
      obtain ⟨r, hT⟩ := hT
      exact ⟨_, he, ⟨r, true, hT, Lib.hid ⟨fun _ => .inr rfl, fun h => by cases h⟩⟩, Lib.hid fun h => by cases h⟩
    | some x =>
      rw [hd] at hT
      rw [En.belN_some hd] at he
      exact ⟨x.1, he, ⟨x.2, false, hT, Lib.hid ⟨(fun h => by cases h), fun _ => ⟨rfl, rfl⟩⟩⟩, Lib.hid fun h => by cases h⟩
theorem text13 (B : Nat) (s : ByteArray) (b : Bool) (w : World) (hb : w.heap[B]? = some (.cells #[.string s, .bool b] 55 (0, 0))) :
    Calls Tryz.prog 58 #[.pointer (some ⟨B, 0, none⟩)] w fun e w' => ∃ v, e = .returned (.string v) ∧ Gen13 B b (En.decT s) v w w' := by
  cases b with
  | true =>
    refine (text13_bad B s w hb).mono ?_
    rintro e w' ⟨he, hT⟩
    exact ⟨_, he, s, true, hT, Lib.hid ⟨fun _ => .inl rfl, fun h => by cases h⟩⟩
  | false =>
    refine (text_any B s w hb).mono ?_
    rintro e w' ⟨he, hT⟩
    cases hd : En.decT s with
    | none =>
      rw [hd] at hT
      obtain ⟨r, hT⟩ := hT
      exact ⟨_, he, r, true, hT, Lib.hid ⟨fun _ => .inr rfl, fun h => by cases h⟩⟩
    | some x =>
      rw [hd] at hT
      rw [En.decTS_some hd] at he
      exact ⟨x.1, he, x.2, false, hT, Lib.hid ⟨(fun h => by cases h), fun _ => ⟨rfl, rfl⟩⟩⟩
/-- A list of strings, from a good reader or a bad one. -/
theorem texts13 (B : Nat) (s : ByteArray) (b : Bool) (top : Int) (w : World) (h0 : 0 ≤ top) (h1 : top ≤ 1000000) (hb : w.heap[B]? = some (.cells #[.string s, .bool b] 55 (0, 0))) :
    Calls Tryz.prog 57 #[.pointer (some ⟨B, 0, none⟩), .int .i64 top] w fun e w' => ∃ a n c r2 b2, e = .returned (.slice a n c) ∧ Rs B w w' r2 b2 ∧ Hid (b2 = true → b = true ∨ Tr.wits top s = none) ∧
      (b2 = false → b = false ∧ ∃ l, Tr.wits top s = some (l, r2) ∧ n = l.length ∧ w'.ownsRow w.heap.size 9 1 (.slice a n c) l.length (l.map Value.string)) := by
  rw [Tr.wits_decLt]
  cases b with
  | true =>
    refine (texts13_bad B s top w h0 hb).mono ?_
    rintro e w' ⟨⟨a, n, c, he⟩, hT⟩
    exact ⟨a, n, c, s, true, he, hT, Lib.hid (fun _ => .inl rfl), fun h => by cases h⟩
  | false =>
    refine (texts_any B s top w h0 h1 hb).mono ?_
    rintro e w' ⟨a, n, c, he, ⟨hN, r, hT⟩ | ⟨l, r, hL, hT, hn, hown⟩⟩
    · exact ⟨a, n, c, r, true, he, hT, Lib.hid (fun _ => .inr hN), fun h => by cases h⟩
    · exact ⟨a, n, c, r, false, he, hT, Lib.hid (fun h => by cases h), fun _ => ⟨rfl, l, hL, hn, hown⟩⟩
end Go.Proofs.YtcbpdibkindnfaaGreat

/-
  Inputs and outputs that a call owns: rows of cells, the witnesses rows of their own.
-/
namespace Go.Proofs.YtcbpdibkindnfaaGreat
open Go.RowKit

/-- Two rows of different elements lie in different blocks. -/
theorem own_types13 {w : World} {B B' n n' k k' : Nat} {v v' : Value} {xs xs' : List Value} {e e' : TypeId} (h : w.ownsRow B e k v n xs) (h' : w.ownsRow B' e' k' v' n' xs') (he : e ≠ e') : v.ownBlock = none ∨ v.ownBlock ≠ v'.ownBlock := by
  rcases h.2 with ⟨hv, _⟩ | ⟨g, cap, cur, hv, _, hh, _⟩
  · rw [hv]; exact .inl rfl
  · rcases h'.2 with ⟨hv', _⟩ | ⟨g', cap', cur', hv', _, hh', _⟩
    · rw [hv, hv']; exact .inr (by simp [Value.ownBlock])
    · rw [hv, hv']
      refine .inr fun h => ?_
      have hg : g = g' := by simpa [Value.ownBlock] using h
      subst hg
      rw [hh] at hh'
      cases hh'
      exact he rfl
theorem info_in13 : (Tryz.prog.info? 64).map (fun i => (i.zero, i.size, i.bytes)) = some (some (.agg #[.int .i64 0, .int .i64 0, .slice none 0 0]), 3, 40) := by kernel_rfl
theorem info_out13 : (Tryz.prog.info? 66).map (fun i => (i.zero, i.size, i.bytes)) = some (some (.agg #[.int .i64 0, .string ⟨#[]⟩]), 2, 24) := by kernel_rfl
/-! ### inputs -/
def Tr.ics : List (Tr.In × Value) → List Value
  | [] => []
  | x :: l => .int .i64 x.1.tx :: .int .i64 x.1.out :: x.2 :: Tr.ics l
theorem Tr.ics_append (l m : List (Tr.In × Value)) : Tr.ics (l ++ m) = Tr.ics l ++ Tr.ics m := by
  induction l with
  | nil => rfl
  | cons x l ih => simp [Tr.ics, ih]
theorem Tr.ics_length (l : List (Tr.In × Value)) : (Tr.ics l).length = l.length * 3 := by
  induction l with
  | nil => rfl
  | cons x l ih => simp [Tr.ics, ih]; omega
theorem Tr.ics_get (l : List (Tr.In × Value)) : ∀ j (h : j < l.length), (Tr.ics l)[j * 3]? = some (.int .i64 l[j].1.tx) ∧ (Tr.ics l)[j * 3 + 1]? = some (.int .i64 l[j].1.out) ∧ (Tr.ics l)[j * 3 + 2]? = some l[j].2 := by
  induction l with
  | nil => intro j hj; simp at hj
  | cons x l ih =>
    intro j hj
    cases j with
    | zero => simp [Tr.ics]
    | succ j =>
      have g : ∀ i, (Tr.ics (x :: l))[i + 3]? = (Tr.ics l)[i]? := fun i => by
        show ([.int .i64 x.1.tx, .int .i64 x.1.out, x.2] ++ Tr.ics l)[i + 3]? = _
        rw [List.getElem?_append_right (by simp)]
        rfl
      have := ih j (by simpa using hj)
      rw [show (j + 1) * 3 = j * 3 + 3 by omega, show j * 3 + 3 + 1 = j * 3 + 1 + 3 by omega, show j * 3 + 3 + 2 = j * 3 + 2 + 3 by omega, g, g, g]
      exact this
/-- A witness that a call owns. -/
def OwnW (base : Nat) (w : World) (x : Tr.In × Value) : Prop := (∃ a c, x.2 = .slice a x.1.wit.length c) ∧ w.ownsRow base 9 1 x.2 x.1.wit.length (x.1.wit.map Value.string)
/-- Inputs that a call owns. -/
def OwnI (base : Nat) (w : World) (v : Value) (l : List (Tr.In × Value)) : Prop := w.ownsRow base 64 3 v l.length (Tr.ics l) ∧ ∀ x ∈ l, OwnW base w x
theorem OwnW.kept {base B : Nat} {w w' : World} {x : Tr.In × Value} (h : OwnW base w x) (hg : w.grownBy w' (some B)) (hB : B < base) : OwnW base w' x := ⟨h.1, h.2.kept hg (own_ne h.2 hB)⟩
theorem OwnI.kept {base B : Nat} {w w' : World} {v : Value} {l : List (Tr.In × Value)} (h : OwnI base w v l) (hg : w.grownBy w' (some B)) (hB : B < base) : OwnI base w' v l :=
  ⟨h.1.kept hg (own_ne h.1 hB), fun x hx => (h.2 x hx).kept hg hB⟩
theorem OwnI.alloc {base : Nat} {w : World} {v : Value} {l : List (Tr.In × Value)} (h : OwnI base w v l) (o : Obj) : OwnI base (w.alloc o) v l :=
  ⟨h.1.alloc o, fun x hx => ⟨(h.2 x hx).1, (h.2 x hx).2.alloc o⟩⟩
/-- One input more. -/
theorem OwnI.push {base : Nat} {w w' : World} {v v' u : Value} {l : List (Tr.In × Value)} {x : Tr.In} (h : OwnI base w v l) (hu : OwnW base w (x, u)) (h5 : w'.ownsRow base 64 3 v' (l.length + 1) (Tr.ics l ++ [.int .i64 x.tx, .int .i64 x.out, u])) (hg : w.grownBy w' v.ownBlock) : OwnI base w' v' (l ++ [(x, u)]) := by
  have hk : ∀ y : Tr.In × Value, OwnW base w y → OwnW base w' y := fun y hy => ⟨hy.1, hy.2.kept hg (own_types13 hy.2 h.1 (by decide))⟩
  refine ⟨?_, fun y hy => ?_⟩
  · rw [Tr.ics_append, List.length_append]
    exact h5
  · rcases List.mem_append.1 hy with hy | hy
    · exact hk y (h.2 y hy)
    · rw [List.mem_singleton] at hy
      subst hy
      exact hk _ hu
theorem OwnW.sr {base : Nat} {w : World} {x : Tr.In × Value} (h : OwnW base w x) : ∃ a c, x.2 = .slice a x.1.wit.length c ∧ SR w a x.1.wit.length x.1.wit ∧ (0 < x.1.wit.length → ∀ g off, a = some ⟨g, off, none⟩ → base ≤ g) := by
  obtain ⟨⟨a, c, he⟩, ho⟩ := h
  rw [he] at ho
  refine ⟨a, c, he, (SR.own ho).2, fun h0 g off hg => ?_⟩
  subst hg
  exact (ho.lt g rfl).1
theorem OwnI.inL {base : Nat} {w : World} {v : Value} {l : List (Tr.In × Value)} (h : OwnI base w v l) : ∃ a c, v = .slice a l.length c ∧ InL base w a l.length (l.map Prod.fst) := by
  have h1 := h.1
  rcases h.1.2 with ⟨he, h0⟩ | ⟨g, cap, cur, he, hg, hh, hn, _, _, _⟩
  · exact ⟨none, 0, by rw [he, h0], by simp, fun h => absurd h (by omega)⟩
  · refine ⟨some ⟨g, 0, none⟩, cap, he, by simp, fun h0 => ⟨g, 0, rfl, hg, lt_of_block hh, fun j hj => ?_⟩⟩
    obtain ⟨e0, e1, e2⟩ := Tr.ics_get l j hj
    have hadr : ∀ i, (⟨g, 0, none⟩ : Addr).add i = ⟨g, 0 + i, none⟩ := fun i => by unfold Addr.add; split <;> simp_all
    rw [he] at h1
    have f0 := h1.cells (g := g) rfl _ _ e0
    have f1 := h1.cells (g := g) rfl _ _ e1
    have f2 := h1.cells (g := g) rfl _ _ e2
    rw [hadr] at f0 f1 f2
    obtain ⟨a, c, hv, hs, hlo⟩ := (h.2 l[j] (List.getElem_mem hj)).sr
    have hx : Tr.inAt (l.map Prod.fst) j = l[j].1 := by
      unfold Tr.inAt
      rw [List.getD_eq_getElem?_getD, List.getElem?_map, List.getElem?_eq_getElem hj]
      rfl
    rw [hx]
    rw [hv] at f2
    exact ⟨a, c, ⟨f0, f1, f2, hs, hlo⟩⟩
/-! ### outputs -/
def Tr.ocs : List Tr.Out → List Value
  | [] => []
  | x :: l => .int .i64 x.amt :: .string x.lock :: Tr.ocs l
theorem Tr.ocs_append (l m : List Tr.Out) : Tr.ocs (l ++ m) = Tr.ocs l ++ Tr.ocs m := by
  induction l with
  | nil => rfl
  | cons x l ih => simp [Tr.ocs, ih]
theorem Tr.ocs_length (l : List Tr.Out) : (Tr.ocs l).length = l.length * 2 := by
  induction l with
  | nil => rfl
  | cons x l ih => simp [Tr.ocs, ih]; omega
theorem Tr.ocs_get (l : List Tr.Out) : ∀ j, j < l.length → (Tr.ocs l)[j * 2]? = some (.int .i64 (Tr.outAt l j).amt) ∧ (Tr.ocs l)[j * 2 + 1]? = some (.string (Tr.outAt l j).lock) := by
  induction l with
  | nil => intro j hj; simp at hj
  | cons x l ih =>
    intro j hj
    cases j with
    | zero => simp [Tr.ocs, Tr.outAt]
    | succ j =>
      have g : ∀ i, (Tr.ocs (x :: l))[i + 2]? = (Tr.ocs l)[i]? := fun i => by
        show ([.int .i64 x.amt, .string x.lock] ++ Tr.ocs l)[i + 2]? = _
        rw [List.getElem?_append_right (by simp)]
        rfl
      have := ih j (by simpa using hj)
      rw [show (j + 1) * 2 = j * 2 + 2 by omega, show j * 2 + 2 + 1 = j * 2 + 1 + 2 by omega, g, g]
      exact this
/-- Outputs that a call owns. -/
def OwnO (base : Nat) (w : World) (v : Value) (l : List Tr.Out) : Prop := w.ownsRow base 66 2 v l.length (Tr.ocs l)
theorem OwnO.kept {base B : Nat} {w w' : World} {v : Value} {l : List Tr.Out} (h : OwnO base w v l) (hg : w.grownBy w' (some B)) (hB : B < base) : OwnO base w' v l := World.ownsRow.kept h hg (own_ne h hB)
theorem OwnO.push {base : Nat} {w' : World} {v' : Value} {l : List Tr.Out} {x : Tr.Out} (h5 : w'.ownsRow base 66 2 v' (l.length + 1) (Tr.ocs l ++ [.int .i64 x.amt, .string x.lock])) : OwnO base w' v' (l ++ [x]) := by
  unfold OwnO
  rw [Tr.ocs_append, List.length_append]
  exact h5
theorem OwnO.ouL {base : Nat} {w : World} {v : Value} {l : List Tr.Out} (h : OwnO base w v l) : ∃ a c, v = .slice a l.length c ∧ OuL base w a l.length l := by
  have h1 : w.ownsRow base 66 2 v l.length (Tr.ocs l) := h
  rcases h1.2 with ⟨he, h0⟩ | ⟨g, cap, cur, he, hg, hh, hn, _, _, _⟩
  · exact ⟨none, 0, by rw [he, h0], rfl, fun h => absurd h (by omega)⟩
  · refine ⟨some ⟨g, 0, none⟩, cap, he, rfl, fun h0 => ⟨g, 0, rfl, hg, lt_of_block hh, fun j hj => ?_⟩⟩
    obtain ⟨e0, e1⟩ := Tr.ocs_get l j hj
    have hadr : ∀ i, (⟨g, 0, none⟩ : Addr).add i = ⟨g, 0 + i, none⟩ := fun i => by unfold Addr.add; split <;> simp_all
    rw [he] at h1
    have f0 := h1.cells (g := g) rfl _ _ e0
    have f1 := h1.cells (g := g) rfl _ _ e1
    rw [hadr] at f0 f1
    exact ⟨f0, f1⟩
end Go.Proofs.YtcbpdibkindnfaaGreat

/-
  Contracts of the model: TxRead, over what the reader's tx answers.
-/
namespace Go.Proofs.YtcbpdibkindnfaaGreat
open Go.RowKit

theorem results_ct13 {P : Program} {fn : Func} {u p : Tmp} {ty : TypeId} (h : fn.results = #[.cell p ty, .tmp u]) (tmps : Array Value) (w : World) (g : Nat) (ty' : TypeId) (cs : Array Value) (fr : Nat × Nat) (d : TypeDesc)
    (hp : tmps.getD p undef = .pointer (some ⟨g, 0, none⟩)) (hg : w.heap[g]? = some (.cells cs ty' fr))
    (hu : P.underlying ty = some d) (hd : (match d with | .struct _ | .array _ _ => true | _ => false) = true) (hi : (P.info? ty).map (·.size) = some cs.size) :
    (results fn tmps).run P w = .ok (.tuple #[.agg cs, tmps.getD u undef]) w := by
  have hp' : tmps[p]?.getD undef = .pointer (some ⟨g, 0, none⟩) := by simpa using hp
  simp [results, h, Result.andThen, hp', asAddr, run_loadVar_row w g ty' ty cs fr d hg hu hd hi]
theorem Bk.gb13 {D : Nat} {t : TypeId} {cs : Array Value} {w w' : World} (h : Bk D t cs w) {row : Option Nat} (hg : w.grownBy w' row) (hne : some D ≠ row) : Bk D t cs w' := ⟨(hg.block D h.lt hne).trans h.held⟩
theorem Tr.fit.small {t : Tr} (h : t.fit) : t.small := by
  refine ⟨by have := h.nin; omega, by have := h.nout; omega, fun x hx => ?_, fun x hx => ?_, fun x hx => ?_, by have := h.note; omega⟩
  · obtain ⟨_, _, h3, h4⟩ := h.ins x hx
    exact ⟨by omega, fun s hs => by have := h4 s hs; omega⟩
  · obtain ⟨h1, h2, _, _⟩ := h.ins x hx
    exact ⟨by omega, by omega⟩
  · have := (h.outs x hx).2
    omega
/-- What the reader's tx answers. -/
def TxQ (B : Nat) (s : ByteArray) (w : World) (e : Ending) (w' : World) : Prop :=
  ∃ a n c b m d af nt r2 b2, e = .returned (.agg #[.slice a n c, .slice b m d, .int .i64 af, .string nt]) ∧ Rs B w w' r2 b2 ∧ Hid (b2 = true → Tr.rdA Tr.inR s = none) ∧
    (b2 = false → ∃ l outs, Hid (Tr.rdA Tr.inR s = some (⟨l.map Prod.fst, outs, af, nt⟩, r2)) ∧ OwnI w.heap.size w' (.slice a n c) l ∧ OwnO w.heap.size w' (.slice b m d) outs)
/-- What TxRead answers. -/
def TxRdQ (s : ByteArray) (w : World) (e : Ending) (w' : World) : Prop :=
  ∃ a n c b m d af nt ok, e = .returned (.tuple #[.agg #[.slice a n c, .slice b m d, .int .i64 af, .string nt], .bool ok]) ∧ Below w.heap.size w w' ∧
    ((Hid (Tr.read s = none) ∧ ok = false ∧ a = none ∧ n = 0 ∧ c = 0 ∧ b = none ∧ m = 0 ∧ d = 0 ∧ af = 0 ∧ nt = ⟨#[]⟩) ∨
     ∃ l outs, Hid (Tr.read s = some ⟨l.map Prod.fst, outs, af, nt⟩) ∧ ok = true ∧ OwnI w.heap.size w' (.slice a n c) l ∧ OwnO w.heap.size w' (.slice b m d) outs)
theorem Tr.read_no {s : ByteArray} (h : Tr.rdA Tr.inR s = none) : Tr.read s = none := by
  unfold Tr.read Tr.rd
  rw [h]
theorem Tr.read_rest {s r : ByteArray} {t : Tr} (h : Tr.rdA Tr.inR s = some (t, r)) (hz : r.size ≠ 0) : Tr.read s = none := by
  unfold Tr.read Tr.rd
  rw [h]
  simp only
  rw [if_neg hz]
theorem Tr.read_all {s r : ByteArray} {t : Tr} (h : Tr.rdA Tr.inR s = some (t, r)) (hz : r.size = 0) : Tr.read s = if t.ok = true then some t else none := by
  unfold Tr.read Tr.rd
  rw [h]
  simp only
  rw [if_pos hz]
theorem OwnI.base13 {base base' : Nat} {w : World} {v : Value} {l : List (Tr.In × Value)} (h : OwnI base w v l) (hb : base' ≤ base) : OwnI base' w v l := ⟨ownsRow_base h.1 hb, fun x hx => ⟨(h.2 x hx).1, ownsRow_base (h.2 x hx).2 hb⟩⟩
theorem OwnI.below13 {base : Nat} {w w' : World} {v : Value} {l : List (Tr.In × Value)} (h : OwnI base w v l) (hb : Below w.heap.size w w') : OwnI base w' v l :=
  have hg : w.grownBy w' none := ⟨hb.os, hb.tape, hb.output, hb.size, fun k hk _ => hb.block k hk⟩
  ⟨h.1.kept hg (by cases v.ownBlock <;> simp), fun x hx => ⟨(h.2 x hx).1, (h.2 x hx).2.kept hg (by cases x.2.ownBlock <;> simp)⟩⟩
theorem OwnO.below13 {base : Nat} {w w' : World} {v : Value} {l : List Tr.Out} (h : OwnO base w v l) (hb : Below w.heap.size w w') : OwnO base w' v l :=
  have hg : w.grownBy w' none := ⟨hb.os, hb.tape, hb.output, hb.size, fun k hk _ => hb.block k hk⟩
  World.ownsRow.kept h hg (by cases v.ownBlock <;> simp)
theorem OwnI.set13 {base X i : Nat} {w : World} {v u : Value} {l : List (Tr.In × Value)} {cs : Array Value} (h : OwnI base w v l) (hX : Bk X 26 cs w) : OwnI base (w.setCell ⟨X, i, none⟩ u) v l := by
  have hg : w.grownBy (w.setCell ⟨X, i, none⟩ u) (some X) := grownBy_set w X i u
  have key : ∀ {e k n : Nat} {v : Value} {xs : List Value}, w.ownsRow base e k v n xs → 26 ≠ e → v.ownBlock = none ∨ v.ownBlock ≠ some X := fun {e k n v xs} h he => by
    rcases h.2 with ⟨hv, _⟩ | ⟨g, cap, cur, hv, _, hh, _⟩
    · rw [hv]; exact .inl rfl
    · rw [hv]
      refine .inr fun h => ?_
      have hgX : g = X := by simpa [Value.ownBlock] using h
      subst hgX
      rw [hX.held] at hh
      cases hh
      exact he rfl
  exact ⟨h.1.kept hg (key h.1 (by decide)), fun x hx => ⟨(h.2 x hx).1, (h.2 x hx).2.kept hg (key (h.2 x hx).2 (by decide))⟩⟩
theorem OwnO.set13 {base X i : Nat} {w : World} {v u : Value} {l : List Tr.Out} {cs : Array Value} (h : OwnO base w v l) (hX : Bk X 26 cs w) : OwnO base (w.setCell ⟨X, i, none⟩ u) v l := by
  have hg : w.grownBy (w.setCell ⟨X, i, none⟩ u) (some X) := grownBy_set w X i u
  have h' : w.ownsRow base 66 2 v l.length (Tr.ocs l) := h
  refine World.ownsRow.kept h hg ?_
  rcases h'.2 with ⟨hv, _⟩ | ⟨g, cap, cur, hv, _, hh, _⟩
  · rw [hv]; exact .inl rfl
  · rw [hv]
    refine .inr fun h => ?_
    have hgX : g = X := by simpa [Value.ownBlock] using h
    subst hgX
    rw [hX.held] at hh
    cases hh
end Go.Proofs.YtcbpdibkindnfaaGreat
