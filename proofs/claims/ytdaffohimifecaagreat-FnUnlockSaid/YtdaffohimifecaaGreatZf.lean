/-
  Witnesses of the model: how long they are, for secrets that are valid.
-/
import Derived.Test.YtdaffohimifecaaGreatZd
import Derived.Test.YtdaffohimifecaaGreatSm
import Derived.Test.YtdaffohimifecaaGreatWl
namespace Go.Proofs.YtdaffohimifecaaGreat
open Go.RowKit

theorem own_newS (W : World) (base : Nat) (hb : base ≤ W.heap.size) (ss : List ByteArray) (cs : Array Value) (hc : cs.toList = ss.map Value.string) (hm : ss.length ≤ 100) :
    (W.alloc (.cells cs 9 (0, 0))).ownsRow base 9 1 (.slice (some ⟨W.heap.size, 0, none⟩) ss.length ss.length) ss.length (ss.map Value.string) :=
  ⟨by simp, .inr ⟨W.heap.size, ss.length, cs, rfl, hb, heap_alloc_new W _, Nat.le_refl _, by unfold maxLen; omega, by
    have := congrArg List.length hc
    simpa using this, by
    rw [hc, Nat.mul_one, List.take_of_length_le (by simp)]⟩⟩
theorem own_low {w : World} {base b2 n : Nat} {g cp : Nat} {xs : List Value} {e : TypeId} (h : w.ownsRow base e 1 (.slice (some ⟨g, 0, none⟩) n cp) n xs) (hb : b2 ≤ base) : w.ownsRow b2 e 1 (.slice (some ⟨g, 0, none⟩) n cp) n xs := by
  refine ⟨h.1, ?_⟩
  rcases h.2 with ⟨h1, _⟩ | ⟨g', cap', cur, h1, h2, h3⟩
  · cases h1
  · exact .inr ⟨g', cap', cur, h1, Nat.le_trans hb h2, h3⟩
/-- A witness: at most m strings of at most 81 bytes. -/
def WitR (m : Nat) (w : World) (e : Ending) (w' : World) : Prop :=
  ∃ (ss : List ByteArray) (g cp : Nat), e = .returned (.tuple #[.slice (some ⟨g, 0, none⟩) ss.length cp, .bool true]) ∧ ss.length ≤ m ∧ (∀ s ∈ ss, s.size ≤ 81) ∧ Below w.heap.size w w' ∧
    w'.ownsRow w.heap.size 9 1 (.slice (some ⟨g, 0, none⟩) ss.length cp) ss.length (ss.map Value.string)
theorem tr_size (b : Bool) : (Vm.tr b).size ≤ 1 := by cases b <;> decide
theorem l12Secret_any (x : Int) (w : World) (x0 : 1 ≤ x) (x1 : x ≤ 1073741788) :
    Calls Tryz.prog 149 #[.int .i64 x] w fun e w' => e = .returned (.bool true) ∧ w' = w := by
  have hq : (decide (1 ≤ x) && decide (x ≤ 1073741788)) = true := by simp [x0, x1]
  have hcon := fun W => l6In_any x 1 1073741788 W
  rw [hq] at hcon
  clear hq x0 x1
  go_enter Tryz.func149, Tryz.ntmps149
  go_wp2_with fail
  refine (hcon _).mono ?_
  rintro e w1 ⟨rfl, rfl⟩
  go_wp2
  go_ret
  exact ⟨rfl, rfl⟩
set_option maxRecDepth 100000 in
set_option maxHeartbeats 1600000 in
theorem OpenKey_any (x : Int) (t : ByteArray) (w : World) (x0 : 1 ≤ x) (x1 : x ≤ 1073741788) (ht : t.size ≤ 1048576) :
    Calls Tryz.prog 125 #[.int .i64 x, .string t] w (WitR 5 w) := by
  go_enter Tryz.func125, Tryz.ntmps125
  go_wp2_with fail
  refine (l12Secret_any x _ x0 x1).mono ?_
  rintro e w1 ⟨rfl, hw1⟩
  rw [hw1]
  clear hw1
  go_wp2_with fail
  refine (l12Sig_any x t _ x0 x1 ht).mono ?_
  rintro e w2 ⟨s, rfl, hs, hb2⟩
  have hown := own_newS w2 w.heap.size hb2.size ([s] : List ByteArray) #[.string s] rfl (by simp)
  have hbz := below_alloc hb2 (.cells #[.string s] 9 (0, 0))
  go_wp2
  go_ret2
  exact ⟨[s], w2.heap.size, 1, rfl, by simp, fun u hu => by simp at hu; rcases hu with rfl <;> first | omega | decide, hbz, hown⟩
set_option maxRecDepth 100000 in
set_option maxHeartbeats 1600000 in
theorem OpenPayee_any (x : Int) (p : ByteArray) (t : ByteArray) (w : World) (x0 : 1 ≤ x) (x1 : x ≤ 1073741788) (ht : t.size ≤ 1048576) (hp : p.size ≤ 80) :
    Calls Tryz.prog 127 #[.int .i64 x, .string p, .string t] w (WitR 5 w) := by
  go_enter Tryz.func127, Tryz.ntmps127
  go_wp2_with fail
  refine (l12Secret_any x _ x0 x1).mono ?_
  rintro e w1 ⟨rfl, hw1⟩
  rw [hw1]
  clear hw1
  go_wp2_with fail
  refine (l12Sig_any x t _ x0 x1 ht).mono ?_
  rintro e w2 ⟨s, rfl, hs, hb2⟩
  have hbt := tr_size true
  obtain ⟨b1, HB⟩ : ∃ b, Hid (Vm.tr true = b) := ⟨_, Lib.hid rfl⟩
  have hcon := fun W => l11Bool_any true W
  rw [HB.out] at hcon hbt
  clear HB
  go_wp2_with fail
  refine (hcon _).mono ?_
  rintro e w3 ⟨rfl, hw3⟩
  rw [hw3]
  clear hw3
  have hown := own_newS w2 w.heap.size hb2.size ([s, p, b1] : List ByteArray) #[.string s, .string p, .string b1] rfl (by simp)
  have hbz := below_alloc hb2 (.cells #[.string s, .string p, .string b1] 9 (0, 0))
  go_wp2
  go_ret2
  exact ⟨[s, p, b1], w2.heap.size, 3, rfl, by simp, fun u hu => by simp at hu; rcases hu with rfl | rfl | rfl <;> first | omega | decide, hbz, hown⟩
set_option maxRecDepth 100000 in
set_option maxHeartbeats 1600000 in
theorem OpenLast_any (x : Int) (t : ByteArray) (w : World) (x0 : 1 ≤ x) (x1 : x ≤ 1073741788) (ht : t.size ≤ 1048576) :
    Calls Tryz.prog 128 #[.int .i64 x, .string t] w (WitR 5 w) := by
  go_enter Tryz.func128, Tryz.ntmps128
  go_wp2_with fail
  refine (l12Secret_any x _ x0 x1).mono ?_
  rintro e w1 ⟨rfl, hw1⟩
  rw [hw1]
  clear hw1
  go_wp2_with fail
  refine (l12Sig_any x t _ x0 x1 ht).mono ?_
  rintro e w2 ⟨s, rfl, hs, hb2⟩
  have hown := own_newS w2 w.heap.size hb2.size ([s, ⟨#[]⟩] : List ByteArray) #[.string s, .string ⟨#[]⟩] rfl (by simp)
  have hbz := below_alloc hb2 (.cells #[.string s, .string ⟨#[]⟩] 9 (0, 0))
  go_wp2
  go_ret2
  exact ⟨[s, ⟨#[]⟩], w2.heap.size, 2, rfl, by simp, fun u hu => by simp at hu; rcases hu with rfl | rfl <;> first | omega | decide, hbz, hown⟩
set_option maxRecDepth 100000 in
set_option maxHeartbeats 1600000 in
theorem OpenRevoked_any (x : Int) (t : ByteArray) (w : World) (x0 : 1 ≤ x) (x1 : x ≤ 1073741788) (ht : t.size ≤ 1048576) :
    Calls Tryz.prog 129 #[.int .i64 x, .string t] w (WitR 5 w) := by
  go_enter Tryz.func129, Tryz.ntmps129
  go_wp2_with fail
  refine (l12Secret_any x _ x0 x1).mono ?_
  rintro e w1 ⟨rfl, hw1⟩
  rw [hw1]
  clear hw1
  go_wp2_with fail
  refine (l12Sig_any x t _ x0 x1 ht).mono ?_
  rintro e w2 ⟨s, rfl, hs, hb2⟩
  have hbt := tr_size true
  obtain ⟨b1, HB⟩ : ∃ b, Hid (Vm.tr true = b) := ⟨_, Lib.hid rfl⟩
  have hcon := fun W => l11Bool_any true W
  rw [HB.out] at hcon hbt
  clear HB
  go_wp2_with fail
  refine (hcon _).mono ?_
  rintro e w3 ⟨rfl, hw3⟩
  rw [hw3]
  clear hw3
  have hown := own_newS w2 w.heap.size hb2.size ([s, b1] : List ByteArray) #[.string s, .string b1] rfl (by simp)
  have hbz := below_alloc hb2 (.cells #[.string s, .string b1] 9 (0, 0))
  go_wp2
  go_ret2
  exact ⟨[s, b1], w2.heap.size, 2, rfl, by simp, fun u hu => by simp at hu; rcases hu with rfl | rfl <;> first | omega | decide, hbz, hown⟩
set_option maxRecDepth 100000 in
set_option maxHeartbeats 1600000 in
theorem OpenMany_any (a : Option Addr) (len cap : Nat) (zs : List Int) (t : ByteArray) (w : World) (hz : IR w a len zs) (hr : ∀ j, j < len → 1 ≤ zs.getD j 0 ∧ zs.getD j 0 ≤ 1073741788) (h1 : 1 ≤ len) (h5 : len ≤ 5) (ht : t.size ≤ 1048576) :
    Calls Tryz.prog 126 #[.slice a len cap, .string t] w (WitR 5 w) := by
  obtain ⟨i0, hi, hz0, hz1, hz2⟩ := info_parts info_str
  have HZ := Lib.hid hz
  have HR := Lib.hid hr
  have hown0 : (w.alloc (.cells #[] 9 (0, 0))).ownsRow w.heap.size 9 1 (.slice (some ⟨w.heap.size, 0, none⟩) 0 0) 0 [] := World.ownsRow_made (e := 9) (size := 1) w #[] 0 (Nat.le_refl _) (by decide) rfl
  have hb0 : Below w.heap.size w (w.alloc (.cells #[] 9 (0, 0))) := below_alloc (Below.refl _ _) _
  have HO0 := Lib.hid hown0
  clear hz hr hown0
  go_enter Tryz.func126, Tryz.ntmps126
  go_wp2
  go_loopw [6, 7] (fun v i wr => ∃ (k : Nat) (ss : List ByteArray) (g cp : Nat), k ≤ len ∧ i = .int .i64 (k : Int) ∧ v = .slice (some ⟨g, 0, none⟩) k cp ∧ Hid (ss.length = k) ∧ Hid (∀ s ∈ ss, s.size ≤ 81) ∧ Below w.heap.size w wr ∧ Hid (wr.ownsRow w.heap.size 9 1 (.slice (some ⟨g, 0, none⟩) k cp) k (ss.map Value.string)))
    (fun _ i _ => len - (intOf i).toNat)
  case atStart => exact ⟨0, [], w.heap.size, 0, by omega, rfl, rfl, Lib.hid rfl, Lib.hid (fun s hs => absurd hs (by simp)), hb0, HO0⟩
  case round =>
    obtain ⟨k, ss, g, cp, hk, rfl, rfl, HL, HSZ, hbel, HOWN⟩ := hrel
    clear hb0 HO0
    by_cases hlt : k < len
    · obtain ⟨b, off, rfl, _, hc⟩ := (HZ.out.below hbel).2 (by omega)
      have hck := hc k hlt
      obtain ⟨r0, r1⟩ := HR.out k hlt
      obtain ⟨x, HX⟩ : ∃ x, Hid (zs.getD k 0 = x) := ⟨_, Lib.hid rfl⟩
      rw [HX.out] at hck r0 r1
      clear HX hc
      go_wp2_with fail
      refine (l12Secret_any x _ r0 r1).mono ?_
      rintro e w1 ⟨rfl, hw1⟩
      rw [hw1]
      clear hw1
      go_wp2_with fail
      refine (l12Sig_any x t _ r0 r1 ht).mono ?_
      rintro e w2 ⟨s, rfl, hs, hb2⟩
      have hown2 := HOWN.out.kept (row := none) ⟨hb2.os, hb2.tape, hb2.output, hb2.size, fun k hk _ => hb2.block k hk⟩ (.inr (by simp [Value.ownBlock]))
      have hb3 := hbel.trans (hb2.mono hbel.size)
      have hsz3 := hb3.size
      clear HOWN hck hb2
      go_wp2_with (at_builtin; refine wpList_append_own _ rfl _ _ 24 rfl w.heap.size 9 i0 (.string ByteArray.empty) 1 16 Tryz.underlying24 hi hz0 hz1 hz2 rfl (by decide) _ _ _ rfl (hown2.alloc _) ⟨w2.heap.size, 0, none⟩ 1 1 [.string s] rfl rfl ?c1 ?c2 ?c3 ?c4 ?c5 ?_)
      case c1 => exact one_new _ _ _
      case c2 => intro u hu; simp at hu; subst hu; rfl
      case c3 => unfold maxLen; omega
      case c4 => omega
      case c5 => simp; omega
      intro v' w8 hown8 hgrow _
      have hb8 := Below.grown (below_alloc hb3 (.cells #[.string s] 9 (0, 0))) hgrow (below_alloc hb3 (.cells #[.string s] 9 (0, 0))).size (fun j he => (hown2.lt j he).1)
      obtain ⟨g8, cp8, rfl⟩ : ∃ g cp, v' = .slice (some ⟨g, 0, none⟩) (k + 1) cp := by
        rcases hown8.2 with ⟨h, h0⟩ | ⟨g, cap, cur, h, _⟩
        · omega
        · exact ⟨_, _, h⟩
      have hown9 : Hid (w8.ownsRow w.heap.size 9 1 (.slice (some ⟨g8, 0, none⟩) (k + 1) cp8) (k + 1) ((ss ++ [s]).map Value.string)) := Lib.hid (by
        rw [List.map_append]
        exact hown8)
      have HL2 : Hid ((ss ++ [s]).length = k + 1) := Lib.hid (by rw [List.length_append, HL.out]; rfl)
      have HSZ2 : Hid (∀ u ∈ ss ++ [s], u.size ≤ 81) := Lib.hid fun u hu => by
        rcases List.mem_append.1 hu with h | h
        · exact HSZ.out u h
        · simp at h; subst h; omega
      clear hown2 hgrow hown8 hb3
      go_wp2
      go_roundw
      case rel => exact ⟨k + 1, ss ++ [s], g8, cp8, by omega, by simp, by simp, HL2, HSZ2, hb8, hown9⟩
      case measure => simp [intOf]; omega
    · obtain rfl : k = len := by omega
      have hq : (decide ((1 : Int) ≤ (k : Int)) && decide ((k : Int) ≤ 5)) = true := by simp; omega
      have hcon := fun W => l6In_any (k : Int) 1 5 W
      rw [hq] at hcon
      clear hq
      go_wp2_with fail
      refine (hcon _).mono ?_
      rintro e w1 ⟨rfl, rfl⟩
      have hl := HL.out
      go_wp2
      go_ret2
      refine ⟨ss, g, cp, ?_, by omega, HSZ.out, hbel, ?_⟩
      · rw [hl]; rfl
      · rw [hl]; exact HOWN.out
end Go.Proofs.YtdaffohimifecaaGreat
