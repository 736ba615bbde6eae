/-
  Contracts of the program: witnesses.
-/
import Derived.Test.YtoocibabceeagabGreatZi
namespace Go.Proofs.YtoocibabceeagabGreat
open Go.RowKit

/-- A list of at most two strings as the source of an append. -/
theorem above_src {w : World} {a : Option Addr} {n c : Nat} {ss : List ByteArray} (h : SR w a n ss) (ha : n = 0 → a = none ∧ c = 0) :
    (a = none ∧ n = 0 ∧ c = 0) ∨ ∃ ad', a = some ad' ∧ ∀ j u, (ss.map Value.string)[j]? = some u → w.cell? (ad'.add j) = some u := by
  rcases Nat.eq_zero_or_pos n with h0 | h0
  · obtain ⟨h1, h2⟩ := ha h0
    exact .inl ⟨h1, h0, h2⟩
  · obtain ⟨b, off, rfl, _, _⟩ := h.2 h0
    exact .inr ⟨_, rfl, h.newsU⟩
set_option maxRecDepth 100000 in
set_option maxHeartbeats 3200000 in
theorem witnessOf_no (x : Int) (t : ByteArray) (v : Value) (w : World) (hx : Wt.sec x = false) :
    Calls Tryz.prog 53 #[.int .i64 x, .string t, v] w (WtR [] false w) := by
  have hcon := fun W => implSign_no x t W hx
  clear hx
  go_enter Tryz.func53, Tryz.ntmps53
  go_wp2_with fail
  refine (hcon _).mono ?_
  rintro e w1 ⟨rfl, hb1⟩
  have hb2 := below_alloc hb1 (.cells #[.int .i64 0, .int .i64 0] 38 (0, 0))
  go_wp2
  go_ret2
  exact WtR.no hb2
set_option maxRecDepth 100000 in
set_option maxHeartbeats 3200000 in
theorem witnessOf_yes (x : Int) (t : ByteArray) (a : Option Addr) (n c : Nat) (ss : List ByteArray) (w : World) (hx : Wt.sec x = true) (ht : t.size ≤ 1048576) (hs : SR w a n ss) (hn : n ≤ 2) (ha : n = 0 → a = none ∧ c = 0) :
    Calls Tryz.prog 53 #[.int .i64 x, .string t, .slice a n c] w (WtR (Wt.sig x t :: ss) true w) := by
  obtain ⟨i0, hi, hz0, hz1, hz2⟩ := info_parts info_str
  have hcon := fun W => implSign_yes x t W hx ht
  have hl := hs.1
  unfold WtR Wt.sig
  obtain ⟨R, HR⟩ : ∃ y, Hid (Sg.sr x t = y) := ⟨_, Lib.hid rfl⟩
  obtain ⟨S, HSS⟩ : ∃ y, Hid (Sg.ss x t = y) := ⟨_, Lib.hid rfl⟩
  rw [HR.out, HSS.out] at hcon ⊢
  have hitem := fun W => implSigItem_any R S W
  obtain ⟨g, HG⟩ : ∃ y, Hid (Jo.item R S = y) := ⟨_, Lib.hid rfl⟩
  rw [HG.out] at hitem ⊢
  have HS := Lib.hid hs
  have hzl : (ss.map Value.string).length = n * 1 := by simp [hl]
  have HLN : Hid ((g :: ss).length = n + 1) := Lib.hid (by simp [hl])
  have HL2 : Hid (ss.length + 1 = 1 + n) := Lib.hid (by rw [hl]; omega)
  have HSRC := Lib.hid (fun W (h : SR W a n ss) => above_src (c := c) h ha)
  clear hx ht HR HSS HG hs hl
  go_enter Tryz.func53, Tryz.ntmps53
  go_wp2_with fail
  refine (hcon _).mono ?_
  rintro e w1 ⟨rfl, hb1⟩
  have HX : Bk w1.heap.size 38 #[.int .i64 R, .int .i64 S] (w1.alloc (.cells #[.int .i64 R, .int .i64 S] 38 (0, 0))) := Bk.new _ _ _
  have hb2 := below_alloc hb1 (.cells #[.int .i64 R, .int .i64 S] 38 (0, 0))
  obtain ⟨c0, c1⟩ := Bk.c2 HX
  go_wp2_with fail
  refine (hitem _).mono ?_
  rintro e w3 ⟨rfl, hx⟩
  have hb3 := hb2.trans (hx.mono hb2.size)
  have hbz := below_alloc hb3 (.cells #[.string g] 9 (0, 0))
  have HOWN := Lib.hid (own_newS w3 w.heap.size hb3.size [g] #[.string g] rfl (by simp))
  have HSR := Lib.hid ((HS.out.below hb3).alloc (.cells #[.string g] 9 (0, 0)))
  have hsz := hb3.size
  clear hcon hitem hx HX c0 c1 hb1 hb2 HS
  go_wp2_with (at_builtin; refine wpList_append_anyU rfl _ _ 25 rfl w.heap.size 9 i0 (.string ByteArray.empty) 1 16 Tryz.underlying25 hi hz0 hz1 hz2 rfl (by decide) _ _ _ rfl HOWN.out a n c (ss.map Value.string) rfl ?_ hzl (one_cellsU ss) ?_ ?_ ?_ ?_)
  any_goals first | exact HSRC.out _ HSR.out | (unfold maxLen; simp; omega) | (simp; omega) | exact Nat.le_trans hsz (by simp)
  intro v' w5 hown5 hgrow5
  have hb5 := Below.grown hbz hgrow5 hbz.size (fun j he => (HOWN.out.lt j he).1)
  obtain ⟨a5, c5, rfl, _⟩ := own_sliceU hown5
  have HO5 : Hid (w5.ownsRow w.heap.size 9 1 (.slice a5 (g :: ss).length c5) (g :: ss).length ((g :: ss).map Value.string)) := Lib.hid (by
    rw [HLN.out, Nat.add_comm n 1]
    exact hown5)
  clear hown5 hgrow5 HOWN HSR
  go_wp2
  go_ret2
  exact ⟨a5, c5, by first | (rw [HLN.out, Nat.add_comm n 1]; rfl) | (rw [HL2.out]; rfl), hb5, HO5.out⟩
theorem own_low1 {w : World} {base b2 c n : Nat} {a : Option Addr} {xs : List Value} {e : TypeId} (h : w.ownsRow base e 1 (.slice a n c) n xs) (hb : b2 ≤ base) : w.ownsRow b2 e 1 (.slice a n c) n xs := by
  refine ⟨h.1, ?_⟩
  rcases h.2 with h1 | ⟨g', cap', cur, h1, h2, h3⟩
  · exact .inl h1
  · exact .inr ⟨g', cap', cur, h1, Nat.le_trans hb h2, h3⟩
set_option maxRecDepth 100000 in
set_option maxHeartbeats 3200000 in
theorem implOpenKey_any (x : Int) (t : ByteArray) (w : World) (ht : t.size ≤ 1048576) :
    Calls Tryz.prog 12 #[.int .i64 x, .string t] w fun e w' => (Wt.sec x = true → WtR ([Wt.sig x t]) true w e w') ∧ (Wt.sec x = false → WtR [] false w e w') := by
  cases hx : Wt.sec x
  · have hcon := fun W v => witnessOf_no x t v W hx
    clear hx
    unfold WtR at hcon
    go_enter Tryz.func12, Tryz.ntmps12
    go_wp2_with fail
    refine (hcon _ _).mono ?_
    rintro e w1 ⟨a1, c1, rfl, hb1, hown⟩
    go_wp2
    go_ret2
    exact ⟨(fun h => by cases h), fun _ => ⟨a1, c1, rfl, hb1, hown⟩⟩
  · have hcon := fun W => witnessOf_yes x t none 0 0 [] W hx ht ⟨rfl, fun h => absurd h (by omega)⟩ (by omega) (fun _ => ⟨rfl, rfl⟩)
    clear hx
    obtain ⟨g, HG⟩ : ∃ y, Hid (Wt.sig x t = y) := ⟨_, Lib.hid rfl⟩
    rw [HG.out] at hcon ⊢
    unfold WtR at hcon
    go_enter Tryz.func12, Tryz.ntmps12
    go_wp2_with fail
    refine (hcon _).mono ?_
    rintro e w1 ⟨a1, c1, rfl, hb1, hown⟩
    go_wp2
    go_ret2
    exact ⟨fun _ => ⟨a1, c1, rfl, hb1, hown⟩, (fun h => by cases h)⟩
set_option maxRecDepth 100000 in
set_option maxHeartbeats 3200000 in
theorem implOpenLast_any (x : Int) (t : ByteArray) (w : World) (ht : t.size ≤ 1048576) :
    Calls Tryz.prog 31 #[.int .i64 x, .string t] w fun e w' => (Wt.sec x = true → WtR ([Wt.sig x t, ⟨#[]⟩]) true w e w') ∧ (Wt.sec x = false → WtR [] false w e w') := by
  have hb0 : Below w.heap.size w (w.alloc (.cells #[.string ⟨#[]⟩] 9 (0, 0))) := below_alloc (Below.refl _ _) _
  cases hx : Wt.sec x
  · have hcon := fun W v => witnessOf_no x t v W hx
    clear hx
    unfold WtR at hcon
    go_enter Tryz.func31, Tryz.ntmps31
    go_wp2_with fail
    refine (hcon _ _).mono ?_
    rintro e w1 ⟨a1, c1, rfl, hb1, hown⟩
    have hb2 := below_aft9 hb0 hb1
    have hown2 := own_low1 hown (b2 := w.heap.size) (by simp)
    go_wp2
    go_ret2
    exact ⟨(fun h => by cases h), fun _ => ⟨a1, c1, rfl, hb2, hown2⟩⟩
  · have hsr : SR (w.alloc (.cells #[.string ⟨#[]⟩] 9 (0, 0))) (some ⟨w.heap.size, 0, none⟩) 1 ([⟨#[]⟩]) := (SR.own (own_newS w 0 (Nat.zero_le _) ([⟨#[]⟩]) #[.string ⟨#[]⟩] rfl (by simp))).2
    have hcon := fun W h => witnessOf_yes x t (some ⟨w.heap.size, 0, none⟩) 1 1 ([⟨#[]⟩]) W hx ht h (by omega) (fun h => by omega)
    have HSR := Lib.hid hsr
    clear hx hsr
    obtain ⟨g, HG⟩ : ∃ y, Hid (Wt.sig x t = y) := ⟨_, Lib.hid rfl⟩
    simp only [HG.out] at hcon ⊢
    unfold WtR at hcon
    go_enter Tryz.func31, Tryz.ntmps31
    go_wp2_with fail
    refine (hcon _ HSR.out).mono ?_
    rintro e w1 ⟨a1, c1, rfl, hb1, hown⟩
    have hb2 := below_aft9 hb0 hb1
    have hown2 := own_low1 hown (b2 := w.heap.size) (by simp)
    go_wp2
    go_ret2
    exact ⟨fun _ => ⟨a1, c1, rfl, hb2, hown2⟩, (fun h => by cases h)⟩
set_option maxRecDepth 100000 in
set_option maxHeartbeats 3200000 in
theorem implOpenRevoked_any (x : Int) (t : ByteArray) (w : World) (ht : t.size ≤ 1048576) :
    Calls Tryz.prog 35 #[.int .i64 x, .string t] w fun e w' => (Wt.sec x = true → WtR ([Wt.sig x t, Wt.tr true]) true w e w') ∧ (Wt.sec x = false → WtR [] false w e w') := by
  have hb0 : Below w.heap.size w (w.alloc (.cells #[.string (Wt.tr true)] 9 (0, 0))) := below_alloc (Below.refl _ _) _
  cases hx : Wt.sec x
  · have hcon := fun W v => witnessOf_no x t v W hx
    clear hx
    unfold WtR at hcon
    go_enter Tryz.func35, Tryz.ntmps35
    go_wp2_with fail
    refine (hcon _ _).mono ?_
    rintro e w1 ⟨a1, c1, rfl, hb1, hown⟩
    have hb2 := below_aft9 hb0 hb1
    have hown2 := own_low1 hown (b2 := w.heap.size) (by simp)
    go_wp2
    go_ret2
    exact ⟨(fun h => by cases h), fun _ => ⟨a1, c1, rfl, hb2, hown2⟩⟩
  · have hsr : SR (w.alloc (.cells #[.string (Wt.tr true)] 9 (0, 0))) (some ⟨w.heap.size, 0, none⟩) 1 ([Wt.tr true]) := (SR.own (own_newS w 0 (Nat.zero_le _) ([Wt.tr true]) #[.string (Wt.tr true)] rfl (by simp))).2
    have hcon := fun W h => witnessOf_yes x t (some ⟨w.heap.size, 0, none⟩) 1 1 ([Wt.tr true]) W hx ht h (by omega) (fun h => by omega)
    have HSR := Lib.hid hsr
    clear hx hsr
    obtain ⟨g, HG⟩ : ∃ y, Hid (Wt.sig x t = y) := ⟨_, Lib.hid rfl⟩
    simp only [HG.out] at hcon ⊢
    unfold WtR at hcon
    go_enter Tryz.func35, Tryz.ntmps35
    go_wp2_with fail
    refine (hcon _ HSR.out).mono ?_
    rintro e w1 ⟨a1, c1, rfl, hb1, hown⟩
    have hb2 := below_aft9 hb0 hb1
    have hown2 := own_low1 hown (b2 := w.heap.size) (by simp)
    go_wp2
    go_ret2
    exact ⟨fun _ => ⟨a1, c1, rfl, hb2, hown2⟩, (fun h => by cases h)⟩
set_option maxRecDepth 100000 in
set_option maxHeartbeats 3200000 in
theorem implOpenPayee_any (x : Int) (p : ByteArray) (t : ByteArray) (w : World) (hp : p.size ≤ 9223372036854775807) (ht : t.size ≤ 1048576) :
    Calls Tryz.prog 25 #[.int .i64 x, .string p, .string t] w fun e w' => (Wt.sec x = true ∧ p.size ≤ 80 → WtR ([Wt.sig x t, p, Wt.tr true]) true w e w') ∧ (¬ (Wt.sec x = true ∧ p.size ≤ 80) → WtR [] false w e w') := by
  by_cases hp80 : p.size ≤ 80
  case neg =>
    have hg : decide ((80 : Int) < (p.size : Int)) = true := by simp; omega
    have HNO := Lib.hid (fun h : Wt.sec x = true ∧ p.size ≤ 80 => hp80 h.2)
    clear hp80
    go_enter Tryz.func25, Tryz.ntmps25
    go_wp2
    go_ret2
    exact ⟨fun h => absurd h HNO.out, fun _ => WtR.no (Below.refl _ _)⟩
  have hg : decide ((80 : Int) < (p.size : Int)) = false := by simp; omega
  have hb0 : Below w.heap.size w (w.alloc (.cells #[.string p, .string (Wt.tr true)] 9 (0, 0))) := below_alloc (Below.refl _ _) _
  cases hx : Wt.sec x
  · have hcon := fun W v => witnessOf_no x t v W hx
    have HNO : Hid (¬ (false = true ∧ p.size ≤ 80)) := Lib.hid (fun h => by cases h.1)
    clear hx hp80
    unfold WtR at hcon
    go_enter Tryz.func25, Tryz.ntmps25
    go_wp2_with fail
    refine (hcon _ _).mono ?_
    rintro e w1 ⟨a1, c1, rfl, hb1, hown⟩
    have hb2 := below_aft9 hb0 hb1
    have hown2 := own_low1 hown (b2 := w.heap.size) (by simp)
    go_wp2
    go_ret2
    exact ⟨fun h => absurd h HNO.out, fun _ => ⟨a1, c1, rfl, hb2, hown2⟩⟩
  · have hsr : SR (w.alloc (.cells #[.string p, .string (Wt.tr true)] 9 (0, 0))) (some ⟨w.heap.size, 0, none⟩) 2 [p, Wt.tr true] := (SR.own (own_newS w 0 (Nat.zero_le _) ([p, Wt.tr true]) #[.string p, .string (Wt.tr true)] rfl (by simp))).2
    have hcon := fun W h => witnessOf_yes x t (some ⟨w.heap.size, 0, none⟩) 2 2 ([p, Wt.tr true]) W hx ht h (by omega) (fun h => by omega)
    have HSR := Lib.hid hsr
    have HYES : Hid (true = true ∧ p.size ≤ 80) := Lib.hid ⟨rfl, hp80⟩
    clear hx hsr hp80
    obtain ⟨g, HG⟩ : ∃ y, Hid (Wt.sig x t = y) := ⟨_, Lib.hid rfl⟩
    simp only [HG.out] at hcon ⊢
    unfold WtR at hcon
    go_enter Tryz.func25, Tryz.ntmps25
    go_wp2_with fail
    refine (hcon _ HSR.out).mono ?_
    rintro e w1 ⟨a1, c1, rfl, hb1, hown⟩
    have hb2 := below_aft9 hb0 hb1
    have hown2 := own_low1 hown (b2 := w.heap.size) (by simp)
    go_wp2
    go_ret2
    exact ⟨fun _ => ⟨a1, c1, rfl, hb2, hown2⟩, fun h => absurd HYES.out h⟩
set_option maxRecDepth 100000 in
set_option maxHeartbeats 3200000 in
theorem implOpenMany_any (a : Option Addr) (len cap : Nat) (zs : List Int) (t : ByteArray) (w : World) (hz : IR w a len zs) (hlen : len ≤ 9223372036854775807) (ht : t.size ≤ 1048576) :
    Calls Tryz.prog 21 #[.slice a len cap, .string t] w fun e w' => (Wt.manyOk zs = true → WtR (zs.map fun x => Wt.sig x t) true w e w') ∧ (Wt.manyOk zs = false → WtR [] false w e w') := by
  obtain ⟨i0, hi, hz0, hz1, hz2⟩ := info_parts info_str
  have hzl := hz.1
  have HZ := Lib.hid hz
  have HL := Lib.hid hzl
  obtain ⟨ok, HOK⟩ : ∃ x, Hid (Wt.manyOk zs = x) := ⟨_, Lib.hid rfl⟩
  rw [HOK.out]
  by_cases hr : 1 ≤ len ∧ len ≤ 5
  case neg =>
    have hno : ok = false := by
      rw [← HOK.out]
      unfold Wt.manyOk
      rw [hzl]
      have : (decide (1 ≤ len) && decide (len ≤ 5)) = false := by simp; omega
      rw [this, Bool.and_false]
    subst hno
    by_cases h1 : 1 ≤ len
    · have hg1 : decide ((len : Int) < 1) = false := by simp; omega
      have hg : decide ((5 : Int) < (len : Int)) = true := by simp; omega
      clear hz hzl hi hz0 hz1 hz2 hr h1
      go_enter Tryz.func21, Tryz.ntmps21
      go_wp2
      go_ret2
      first | exact WtR.no (Below.refl _ _) | exact ⟨(fun h => by cases h), fun _ => WtR.no (Below.refl _ _)⟩
    · have hg1 : decide ((len : Int) < 1) = true := by simp; omega
      clear hz hzl hi hz0 hz1 hz2 hr h1
      go_enter Tryz.func21, Tryz.ntmps21
      go_wp2
      go_ret2
      first | exact WtR.no (Below.refl _ _) | exact ⟨(fun h => by cases h), fun _ => WtR.no (Below.refl _ _)⟩
  obtain ⟨h1, h5⟩ := hr
  have hg1 : decide ((len : Int) < 1) = false := by simp; omega
  have hg : decide ((5 : Int) < (len : Int)) = false := by simp; omega
  have HALL : Hid ((∀ j, j < zs.length → Wt.sec (zs.getD j 0) = true) → ok = true) := Lib.hid fun h => by
    rw [← HOK.out, Wt.many_all h, hzl]
    simp
    omega
  have HNO : Hid (∀ k, k < len → Wt.sec (zs.getD k 0) = false → ok = false) := Lib.hid fun k hk h => by
    rw [← HOK.out]
    exact Wt.many_no (k := k) (by rw [hzl]; exact hk) h
  clear hz hzl HOK
  go_enter Tryz.func21, Tryz.ntmps21
  go_wp2
  go_loopw [6, 21] (fun v i wr => ∃ (k : Nat), k ≤ len ∧ i = .int .i64 (k : Int) ∧ Hid (∀ j, j < k → Wt.sec (zs.getD j 0) = true) ∧ Below w.heap.size w wr ∧ Hid (wr.ownsRow w.heap.size 9 1 v k ((Wt.items zs t k).map Value.string)))
    (fun _ i _ => len - (intOf i).toNat)
  case atStart => exact ⟨0, by omega, rfl, Lib.hid (fun j hj => absurd hj (by omega)), Below.refl _ _, Lib.hid (World.ownsRow_nil _ _ _ _)⟩
  case round =>
    obtain ⟨k, hk, rfl, HV, hbel, HOWN⟩ := hrel
    obtain ⟨va, vc, rfl⟩ : ∃ va vc, u6 = .slice va k vc := by
      rcases HOWN.out.2 with ⟨h1, h2⟩ | ⟨g, cap', cur, h1, _⟩
      · exact ⟨none, 0, by rw [h1, h2]⟩
      · exact ⟨_, _, h1⟩
    by_cases hlt : k < len
    · obtain ⟨b, off, rfl, _, hc⟩ := (HZ.out.below hbel).2 (by omega)
      have hck := hc k hlt
      obtain ⟨x, HX⟩ : ∃ x, Hid (zs.getD k 0 = x) := ⟨_, Lib.hid rfl⟩
      rw [HX.out] at hck
      clear hc
      cases hx : Wt.sec x
      · have hok : ok = false := HNO.out k hlt (by rw [HX.out]; exact hx)
        subst hok
        have hcon := fun W v => witnessOf_no x t v W hx
        clear hx
        unfold WtR at hcon
        go_wp2_with fail
        refine (hcon _ _).mono ?_
        rintro e w1 ⟨a1, c1, rfl, hb1, _⟩
        have hb2 := hbel.trans (hb1.mono hbel.size)
        clear hb1
        go_wp2
        go_ret2
        first | exact WtR.no hb2 | exact ⟨(fun h => by cases h), fun _ => WtR.no hb2⟩
      · have hcon := fun W => witnessOf_yes x t none 0 0 [] W hx ht ⟨rfl, fun h => absurd h (by omega)⟩ (by omega) (fun _ => ⟨rfl, rfl⟩)
        have HV2 : Hid (∀ j, j < k + 1 → Wt.sec (zs.getD j 0) = true) := Lib.hid fun j hj => by
          by_cases hjk : j = k
          · rw [hjk, HX.out]; exact hx
          · exact HV.out j (by omega)
        obtain ⟨s, HS⟩ : ∃ y, Hid (Wt.sig x t = y) := ⟨_, Lib.hid rfl⟩
        rw [HS.out] at hcon
        unfold WtR at hcon
        clear hx
        go_wp2_with fail
        refine (hcon _).mono ?_
        rintro e w2 ⟨a1, c1, rfl, hb2, hown1⟩
        have hown2 := HOWN.out.kept (row := none) ⟨hb2.os, hb2.tape, hb2.output, hb2.size, fun k hk _ => hb2.block k hk⟩ (Classical.em _)
        have hb3 := hbel.trans (hb2.mono hbel.size)
        have hsz3 := hb3.size
        obtain ⟨g1, rfl, _, _⟩ := own_someU hown1 (by simp)
        have hsr1 := Lib.hid (SR.own hown1).2
        clear HOWN hck hb2 hown1
        go_wp2_with (at_builtin; refine wpList_append_own _ rfl _ _ 25 rfl w.heap.size 9 i0 (.string ByteArray.empty) 1 16 Tryz.underlying25 hi hz0 hz1 hz2 rfl (by decide) _ _ _ rfl hown2 ⟨g1, 0, none⟩ 1 c1 [.string s] rfl rfl ?_ ?_ ?_ ?_ ?_ ?_)
        any_goals first | exact hsr1.out.newsU | (intro u hu; simp at hu; subst hu; rfl) | (unfold maxLen; omega) | omega | exact hsz3
        intro v' w8 hown8 hgrow _
        have hb8 := Below.grown hb3 hgrow hb3.size (fun j he => (hown2.lt j he).1)
        have hown9 : Hid (w8.ownsRow w.heap.size 9 1 v' (k + 1) ((Wt.items zs t (k + 1)).map Value.string)) := Lib.hid (by
          rw [Wt.items_snoc zs t k (by rw [HL.out]; exact hlt), List.map_append, HX.out, HS.out]
          exact hown8)
        clear hown2 hgrow hown8 hb3
        go_wp2
        go_roundw
        case rel => exact ⟨k + 1, by omega, by simp, HV2, hb8, hown9⟩
        case measure => simp [intOf]; omega
    · obtain rfl : k = len := by omega
      have hok : ok = true := HALL.out (fun j hj => HV.out j (by rw [← HL.out]; exact hj))
      subst hok
      have HTK : Hid (Wt.items zs t k = zs.map fun x => Wt.sig x t) := Lib.hid (by unfold Wt.items; rw [List.take_of_length_le (by rw [HL.out]; exact Nat.le_refl _)])
      have hown := HOWN.out
      rw [HTK.out] at hown
      have hml : (zs.map fun x => Wt.sig x t).length = k := by rw [List.length_map]; exact HL.out
      have HML := Lib.hid hml
      have HOWN2 := Lib.hid hown
      clear hml hown
      go_wp2
      go_ret2
      first
        | refine ⟨va, vc, ?_, hbel, ?_⟩
        | refine ⟨fun _ => ⟨va, vc, ?_, hbel, ?_⟩, (fun h => by cases h)⟩
      · rw [HML.out]; rfl
      · rw [HML.out]; exact HOWN2.out
end Go.Proofs.YtoocibabceeagabGreat
