/-
  Contracts of the program: witnesses.
-/
import Derived.Test.YtoocibabceeagacZi
namespace Go.Proofs.Ytoocibabceeagac
open Go.RowKit

/-- A list of at most two strings as the source of an append. -/
theorem above_src {w : World} {a : Option Addr} {n c : Nat} {ss : List ByteArray} (h : SR w a n ss) (ha : n = 0 → a = none ∧ c = 0) :
    (a = none ∧ n = 0 ∧ c = 0) ∨ ∃ ad', a = some ad' ∧ ∀ j u, (ss.map Value.string)[j]? = some u → w.cell? (ad'.add j) = some u := by
  rcases Nat.eq_zero_or_pos n with h0 | h0
  · obtain ⟨h1, h2⟩ := ha h0
    exact .inl ⟨h1, h0, h2⟩
  · obtain ⟨b, off, rfl, _, _⟩ := h.2 h0
    exact .inr ⟨_, rfl, h.newsU⟩
set_option maxRecDepth 100000 in
set_option maxHeartbeats 3200000 in
theorem witnessOf_no (x : Int) (t : ByteArray) (v : Value) (w : World) (hx : Wt.sec x = false) :
    Calls Try.prog 12 #[.int .i64 x, .string t, v] w (WtR [] false w) := by
  have hcon := fun W => implSign_no x t W hx
  clear hx
  go_enter Try.func12, Try.ntmps12
  go_wp2_with fail
  refine (hcon _).mono ?_
  rintro e w1 ⟨rfl, hb1⟩
  have hb2 := below_alloc hb1 (.cells #[.int .i64 0, .int .i64 0] 36 (0, 0))
  go_wp2
  go_ret2
  exact WtR.no hb2
set_option maxRecDepth 100000 in
set_option maxHeartbeats 3200000 in
theorem witnessOf_yes (x : Int) (t : ByteArray) (a : Option Addr) (n c : Nat) (ss : List ByteArray) (w : World) (hx : Wt.sec x = true) (ht : t.size ≤ 1048576) (hs : SR w a n ss) (hn : n ≤ 2) (ha : n = 0 → a = none ∧ c = 0) :
    Calls Try.prog 12 #[.int .i64 x, .string t, .slice a n c] w (WtR (Wt.sig x t :: ss) true w) := by
  obtain ⟨i0, hi, hz0, hz1, hz2⟩ := info_parts info_str
  have hcon := fun W => implSign_yes x t W hx ht
  have hl := hs.1
  unfold WtR Wt.sig
  obtain ⟨R, HR⟩ : ∃ y, Hid (Sg.sr x t = y) := ⟨_, Lib.hid rfl⟩
  obtain ⟨S, HSS⟩ : ∃ y, Hid (Sg.ss x t = y) := ⟨_, Lib.hid rfl⟩
  rw [HR.out, HSS.out] at hcon ⊢
  have hitem := fun W => implSigItem_any R S W
  obtain ⟨g, HG⟩ : ∃ y, Hid (Jo.item R S = y) := ⟨_, Lib.hid rfl⟩
  rw [HG.out] at hitem ⊢
  have HS := Lib.hid hs
  have hzl : (ss.map Value.string).length = n * 1 := by simp [hl]
  have HLN : Hid ((g :: ss).length = n + 1) := Lib.hid (by simp [hl])
  have HL2 : Hid (ss.length + 1 = 1 + n) := Lib.hid (by rw [hl]; omega)
  have HSRC := Lib.hid (fun W (h : SR W a n ss) => above_src (c := c) h ha)
  clear hx ht HR HSS HG hs hl
  go_enter Try.func12, Try.ntmps12
  go_wp2_with fail
  refine (hcon _).mono ?_
  rintro e w1 ⟨rfl, hb1⟩
  have HX : Bk w1.heap.size 36 #[.int .i64 R, .int .i64 S] (w1.alloc (.cells #[.int .i64 R, .int .i64 S] 36 (0, 0))) := Bk.new _ _ _
  have hb2 := below_alloc hb1 (.cells #[.int .i64 R, .int .i64 S] 36 (0, 0))
  obtain ⟨c0, c1⟩ := Bk.c2 HX
  go_wp2_with fail
  refine (hitem _).mono ?_
  rintro e w3 ⟨rfl, hx⟩
  have hb3 := hb2.trans (hx.mono hb2.size)
  have hbz := below_alloc hb3 (.cells #[.string g] 9 (0, 0))
  have HOWN := Lib.hid (own_newS w3 w.heap.size hb3.size [g] #[.string g] rfl (by simp))
  have HSR := Lib.hid ((HS.out.below hb3).alloc (.cells #[.string g] 9 (0, 0)))
  have hsz := hb3.size
  clear hcon hitem hx HX c0 c1 hb1 hb2 HS
  go_wp2_with (at_builtin; refine wpList_append_anyU rfl _ _ 22 rfl w.heap.size 9 i0 (.string ByteArray.empty) 1 16 Try.underlying22 hi hz0 hz1 hz2 rfl (by decide) _ _ _ rfl HOWN.out a n c (ss.map Value.string) rfl ?_ hzl (one_cellsU ss) ?_ ?_ ?_ ?_)
  any_goals first | exact HSRC.out _ HSR.out | (unfold maxLen; simp; omega) | (simp; omega) | exact Nat.le_trans hsz (by simp)
  intro v' w5 hown5 hgrow5
  have hb5 := Below.grown hbz hgrow5 hbz.size (fun j he => (HOWN.out.lt j he).1)
  obtain ⟨a5, c5, rfl, _⟩ := own_sliceU hown5
  have HO5 : Hid (w5.ownsRow w.heap.size 9 1 (.slice a5 (g :: ss).length c5) (g :: ss).length ((g :: ss).map Value.string)) := Lib.hid (by
    rw [HLN.out, Nat.add_comm n 1]
    exact hown5)
  clear hown5 hgrow5 HOWN HSR
  go_wp2
  go_ret2
  exact ⟨a5, c5, by first | (rw [HLN.out, Nat.add_comm n 1]; rfl) | (rw [HL2.out]; rfl), hb5, HO5.out⟩
theorem own_low1 {w : World} {base b2 c n : Nat} {a : Option Addr} {xs : List Value} {e : TypeId} (h : w.ownsRow base e 1 (.slice a n c) n xs) (hb : b2 ≤ base) : w.ownsRow b2 e 1 (.slice a n c) n xs := by
  refine ⟨h.1, ?_⟩
  rcases h.2 with h1 | ⟨g', cap', cur, h1, h2, h3⟩
  · exact .inl h1
  · exact .inr ⟨g', cap', cur, h1, Nat.le_trans hb h2, h3⟩
set_option maxRecDepth 100000 in
set_option maxHeartbeats 3200000 in
theorem implOpenRevoked_any (x : Int) (t : ByteArray) (w : World) (ht : t.size ≤ 1048576) :
    Calls Try.prog 5 #[.int .i64 x, .string t] w fun e w' => (Wt.sec x = true → WtR ([Wt.sig x t, Wt.tr true]) true w e w') ∧ (Wt.sec x = false → WtR [] false w e w') := by
  have hb0 : Below w.heap.size w (w.alloc (.cells #[.string (Wt.tr true)] 9 (0, 0))) := below_alloc (Below.refl _ _) _
  cases hx : Wt.sec x
  · have hcon := fun W v => witnessOf_no x t v W hx
    clear hx
    unfold WtR at hcon
    go_enter Try.func5, Try.ntmps5
    go_wp2_with fail
    refine (hcon _ _).mono ?_
    rintro e w1 ⟨a1, c1, rfl, hb1, hown⟩
    have hb2 := below_aft9 hb0 hb1
    have hown2 := own_low1 hown (b2 := w.heap.size) (by simp)
    go_wp2
    go_ret2
    exact ⟨(fun h => by cases h), fun _ => ⟨a1, c1, rfl, hb2, hown2⟩⟩
  · have hsr : SR (w.alloc (.cells #[.string (Wt.tr true)] 9 (0, 0))) (some ⟨w.heap.size, 0, none⟩) 1 ([Wt.tr true]) := (SR.own (own_newS w 0 (Nat.zero_le _) ([Wt.tr true]) #[.string (Wt.tr true)] rfl (by simp))).2
    have hcon := fun W h => witnessOf_yes x t (some ⟨w.heap.size, 0, none⟩) 1 1 ([Wt.tr true]) W hx ht h (by omega) (fun h => by omega)
    have HSR := Lib.hid hsr
    clear hx hsr
    obtain ⟨g, HG⟩ : ∃ y, Hid (Wt.sig x t = y) := ⟨_, Lib.hid rfl⟩
    simp only [HG.out] at hcon ⊢
    unfold WtR at hcon
    go_enter Try.func5, Try.ntmps5
    go_wp2_with fail
    refine (hcon _ HSR.out).mono ?_
    rintro e w1 ⟨a1, c1, rfl, hb1, hown⟩
    have hb2 := below_aft9 hb0 hb1
    have hown2 := own_low1 hown (b2 := w.heap.size) (by simp)
    go_wp2
    go_ret2
    exact ⟨fun _ => ⟨a1, c1, rfl, hb2, hown2⟩, (fun h => by cases h)⟩
end Go.Proofs.Ytoocibabceeagac
