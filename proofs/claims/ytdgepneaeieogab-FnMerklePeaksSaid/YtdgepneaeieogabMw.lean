/-
  Contracts of the model's chapter 3: collisions.
-/
import Derived.Test.YtdgepneaeieogabMu
namespace Go.Proofs.Ytdgepneaeieogab
open Go.RowKit

/-- Both strings of the first node that differs. -/
def Me.clash (l : List ByteArray) (i : Nat) (s : ByteArray) (p : List Int) : ByteArray × ByteArray :=
  if _h : l.length ≤ 1 ∨ Me.told l.length i s p ≠ Me.str l then (Me.told l.length i s p, Me.str l)
  else if i < Me.half l.length then Me.clash (l.take (Me.half l.length)) i s (p.take (p.length - 1))
  else Me.clash (l.drop (Me.half l.length)) (i - Me.half l.length) s (p.take (p.length - 1))
termination_by l.length
decreasing_by
  · have := Me.half_lt l.length (by omega); rw [List.length_take]; omega
  · have := Me.half_pos l.length; rw [List.length_drop]; omega
theorem Me.clash_end {l : List ByteArray} {i : Nat} {s : ByteArray} {p : List Int} (h : l.length ≤ 1 ∨ Me.told l.length i s p ≠ Me.str l) : Me.clash l i s p = (Me.told l.length i s p, Me.str l) := by rw [Me.clash, dif_pos h]
theorem Me.clash_left {l : List ByteArray} {i : Nat} {s : ByteArray} {p : List Int} (h : 2 ≤ l.length) (he : Me.told l.length i s p = Me.str l) (hi : i < Me.half l.length) : Me.clash l i s p = Me.clash (l.take (Me.half l.length)) i s (p.take (p.length - 1)) := by
  rw [Me.clash, dif_neg (by
    intro hh
    rcases hh with hh | hh
    · omega
    · exact hh he), if_pos hi]
theorem Me.clash_right {l : List ByteArray} {i : Nat} {s : ByteArray} {p : List Int} (h : 2 ≤ l.length) (he : Me.told l.length i s p = Me.str l) (hi : ¬ i < Me.half l.length) : Me.clash l i s p = Me.clash (l.drop (Me.half l.length)) (i - Me.half l.length) s (p.take (p.length - 1)) := by
  rw [Me.clash, dif_neg (by
    intro hh
    rcases hh with hh | hh
    · omega
    · exact hh he), if_neg hi]
theorem Dg.pair_inj {a b c d : Int} (ha : 0 ≤ a ∧ a ≤ 4294967295) (hb : 0 ≤ b ∧ b ≤ 4294967295) (hc : 0 ≤ c ∧ c ≤ 4294967295) (hd : 0 ≤ d ∧ d ≤ 4294967295) (h : Dg.pair a b = Dg.pair c d) : a = c ∧ b = d := by
  unfold Dg.pair at h
  have h' := congrArg (fun s : ByteArray => s.data.toList) h
  simp only [ByteArray.data_append, Array.toList_append, List.append_assoc] at h'
  have h2 := List.append_cancel_left h'
  have l1 : (Dg.bytes a).data.toList.length = 4 := by have := Dg.bytes_size a; rw [Array.length_toList]; exact this
  have l2 : (Dg.bytes c).data.toList.length = 4 := by have := Dg.bytes_size c; rw [Array.length_toList]; exact this
  obtain ⟨h3, h4⟩ := List.append_inj h2 (by rw [l1, l2])
  have e1 : Dg.bytes a = Dg.bytes c := ByteArray.ext (Array.toList_inj.1 h3)
  have e2 : Dg.bytes b = Dg.bytes d := ByteArray.ext (Array.toList_inj.1 h4)
  have f1 := congrArg Dg.num e1
  have f2 := congrArg Dg.num e2
  rw [Dg.num_bytes _ ha.1 ha.2, Dg.num_bytes _ hc.1 hc.2] at f1
  rw [Dg.num_bytes _ hb.1 hb.2, Dg.num_bytes _ hd.1 hd.2] at f2
  exact ⟨f1, f2⟩
theorem Me.leaf_inj {s t : ByteArray} (h : Me.leaf s = Me.leaf t) : s = t := by
  unfold Me.leaf at h
  have h' := congrArg (fun s : ByteArray => s.data.toList) h
  simp only [ByteArray.data_append, Array.toList_append] at h'
  exact ByteArray.ext (Array.toList_inj.1 (List.append_cancel_left h'))
/-- A wrong proof is a collision. -/
theorem Me.clash_meets : ∀ (n : Nat) (l : List ByteArray) (i : Nat) (s : ByteArray) (p : List Int), l.length = n → 1 ≤ n → i < n → p.length = Me.steps n i → Me.digests p → Dg.of (Me.told n i s p) = Dg.of (Me.str l) → s ≠ l.getD i ByteArray.empty →
    (Me.clash l i s p).1 ≠ (Me.clash l i s p).2 ∧ Dg.of (Me.clash l i s p).1 = Dg.of (Me.clash l i s p).2 := by
  intro n
  induction n using Nat.strongRecOn with
  | ind n ih =>
    intro l i s p hl h1 hi hp hdg he hs
    subst hl
    by_cases h : l.length ≤ 1
    · rw [Me.clash_end (.inl h)]
      refine ⟨fun hh => hs ?_, he⟩
      simp only [] at hh
      rw [Me.told_one h, Me.str_one h] at hh
      have : i = 0 := by omega
      rw [this]
      exact Me.leaf_inj hh
    · by_cases hne : Me.told l.length i s p = Me.str l
      · have h2 : 2 ≤ l.length := by omega
        have hh1 := Me.half_lt l.length h2
        have hh0 := Me.half_pos l.length
        by_cases hik : i < Me.half l.length
        · rw [Me.clash_left h2 hne hik]
          rw [Me.steps_left h2 hik] at hp
          rw [Me.told_left h2 hik, Me.str_two h2] at hne
          have hlast := hdg _ (getD_memI (zs := p) (i := p.length - 1) (by omega))
          obtain ⟨e1, _⟩ := Dg.pair_inj (Dg.of_bd _) hlast (Me.root_bd _) (Me.root_bd _) hne
          exact ih _ hh1 _ i s _ (Me.take_len h2) hh0 hik (by rw [List.length_take]; omega) (Me.digests_take hdg _) e1 (by rw [Me.getD_take' hik]; exact hs)
        · rw [Me.clash_right h2 hne hik]
          rw [Me.steps_right h2 hik] at hp
          rw [Me.told_right h2 hik, Me.str_two h2] at hne
          have hlast := hdg _ (getD_memI (zs := p) (i := p.length - 1) (by omega))
          obtain ⟨_, e1⟩ := Dg.pair_inj hlast (Dg.of_bd _) (Me.root_bd _) (Me.root_bd _) hne
          exact ih (l.length - Me.half l.length) (by omega) _ (i - Me.half l.length) s _ List.length_drop (by omega) (by omega) (by rw [List.length_take]; omega) (Me.digests_take hdg _) e1 (by rw [Me.getD_drop', show Me.half l.length + (i - Me.half l.length) = i by omega]; exact hs)
      · rw [Me.clash_end (.inr hne)]
        exact ⟨hne, he⟩

set_option maxRecDepth 100000 in
set_option maxHeartbeats 1600000 in
theorem l3True_any (n b off cap : Nat) (ss : List ByteArray) (w : World) (hs : SR w (some ⟨b, off, none⟩) n ss) (h1 : 1 ≤ n) (h64 : n ≤ 64) (hcap : n ≤ cap) (hcap2 : cap ≤ 9223372036854775807) (hz : ∀ s ∈ ss, s.size ≤ 4611686018427387904) :
    Calls Try.prog 67 #[.slice (some ⟨b, off, none⟩) n cap] w fun e w' => e = .returned (.string (Me.str ss)) ∧ Below w.heap.size w w' := by
  have hl := hs.1
  by_cases hone : n = 1
  · subst hone
    obtain ⟨b', off', he, hb, hc⟩ := hs.2 (by omega)
    cases he
    have hc0 := hc 0 (by omega)
    rw [Nat.add_zero] at hc0
    have hz0 := hz _ (getD_mem (ss := ss) (i := 0) (by omega))
    have HR : Hid (Me.str ss = Me.leaf (ss.getD 0 ByteArray.empty)) := Lib.hid (Me.str_one (by omega))
    rw [HR.out]
    obtain ⟨t, HT⟩ : ∃ t, Hid (ss.getD 0 ByteArray.empty = t) := ⟨_, Lib.hid rfl⟩
    rw [HT.out] at hc0 hz0 ⊢
    clear hc hz hs
    go_enter Try.func67, Try.ntmps67
    go_wp2_with fail
    refine (l3Leaf_any t _ hz0).mono ?_
    rintro e w1 ⟨rfl, hb1⟩
    go_wp2
    go_ret
    exact ⟨rfl, hb1⟩
  · have hh1 := Me.half_lt n (by omega)
    have hh0 := Me.half_pos n
    have hne : ((n : Int) == 1) = false := by simp; omega
    obtain ⟨k, HK⟩ : ∃ k, Hid (Me.half n = k) := ⟨_, Lib.hid rfl⟩
    rw [HK.out] at hh0 hh1
    have HF := Lib.hid (hs.front k (by omega))
    have HB := Lib.hid (hs.back k (by omega) hcap)
    obtain ⟨b2, off2, hcut⟩ : ∃ b2 off2, cutAt b off k cap = ⟨b2, off2, none⟩ := by
      unfold cutAt
      split
      · exact ⟨_, _, rfl⟩
      · exact ⟨_, _, rfl⟩
    have HC1 : Hid (∀ W, SR W (some ⟨b, off, none⟩) k (ss.take k) → Calls Try.prog 40 #[.slice (some ⟨b, off, none⟩) k cap] W fun e w' => e = .returned (.int .i64 (Me.root (ss.take k))) ∧ Below W.heap.size W w') :=
      Lib.hid fun W h => l3Root_any k b off cap _ W h hh0 (by omega) (by omega) hcap2 fun s h => hz s (List.mem_of_mem_take h)
    have HC2 : Hid (∀ W, SR W (some ⟨b2, off2, none⟩) (n - k) (ss.drop k) → Calls Try.prog 40 #[.slice (some ⟨b2, off2, none⟩) (n - k) (cap - k)] W fun e w' => e = .returned (.int .i64 (Me.root (ss.drop k))) ∧ Below W.heap.size W w') :=
      Lib.hid fun W h => l3Root_any (n - k) b2 off2 (cap - k) _ W h (by omega) (by omega) (by omega) (by omega) fun s h => hz s (List.mem_of_mem_drop h)
    have HSTR : Hid (Me.str ss = Dg.pair (Me.root (ss.take k)) (Me.root (ss.drop k))) := Lib.hid (by rw [Me.str_two (by omega), hl, HK.out])
    rw [HSTR.out]
    have hr1 := Me.root_bd (ss.take k)
    have hr2 := Me.root_bd (ss.drop k)
    obtain ⟨r1, HR1⟩ : ∃ r, Hid (Me.root (ss.take k) = r) := ⟨_, Lib.hid rfl⟩
    obtain ⟨r2, HR2⟩ : ∃ r, Hid (Me.root (ss.drop k) = r) := ⟨_, Lib.hid rfl⟩
    rw [HR1.out] at hr1 HC1 ⊢
    rw [HR2.out] at hr2 HC2 ⊢
    have hsl1 := slice_front b off n cap k (by omega)
    have hsl2 := slice_back b off n cap k (by omega)
    rw [hcut] at hsl2 HB
    clear hs hz HSTR hcut hl
    go_enter Try.func67, Try.ntmps67
    go_wp2_with fail
    refine (l3Half_any n _ h64).mono ?_
    rw [HK.out]
    rintro e w1 ⟨rfl, rfl⟩
    go_wp2
    go_region_with (first
      | (go_at_call_of 40 (Value.slice (some ⟨b, off, none⟩) k cap); refine (HC1.out _ (by exact HF.out)).mono ?_; rintro e w2 ⟨rfl, hb2⟩
         have HB2 := Lib.hid (HB.out.below ((Below.refl w1.heap.size w1).drew.trans hb2)))
      | (go_at_call_of 40 (Value.slice (some ⟨b2, off2, none⟩) (n - k) (cap - k)); refine (HC2.out _ HB2.out).mono ?_; rintro e w3 ⟨rfl, hb3⟩)
      | (go_at_call 33; refine (l2Pair_any r1 r2 _ hr1.1 hr1.2 hr2.1 hr2.2).mono ?_; rintro e w4 ⟨rfl, hb4⟩))
    all_goals
      have hbel := (Below.refl w1.heap.size w1).drew.trans (hb2.trans ((hb3.trans (hb4.mono hb3.size)).mono hb2.size))
      clear hb2 hb3 hb4
      go_wp2
      go_ret
      exact ⟨rfl, hbel⟩

def Me.clashV (l : List ByteArray) (i : Nat) (s : ByteArray) (p : List Int) : Value := .tuple #[.string (Me.clash l i s p).1, .string (Me.clash l i s p).2]
set_option maxRecDepth 100000 in
set_option maxHeartbeats 1600000 in
theorem l3Clash_any : ∀ (n b off cap i : Nat) (ss : List ByteArray) (s : ByteArray) (a : Option Addr) (m cap' : Nat) (p : List Int) (w : World), SR w (some ⟨b, off, none⟩) n ss → 1 ≤ n → n ≤ 64 → n ≤ cap → cap ≤ 9223372036854775807 → (∀ s ∈ ss, s.size ≤ 4611686018427387904) →
    i < n → s.size ≤ 4611686018427387000 → IR w a m p → m = Me.steps n i → m ≤ cap' → cap' ≤ 9223372036854775807 → Me.digests p →
    Calls Try.prog 52 #[.slice (some ⟨b, off, none⟩) n cap, .int .i64 (i : Int), .string s, .slice a m cap'] w fun e w' => e = .returned (Me.clashV ss i s p) ∧ Below w.heap.size w w' := by
  intro n
  induction n using Nat.strongRecOn with
  | ind n ih =>
    intro b off cap i ss s a m cap' p w hs h1 h64 hcap hcap2 hz hin hsz hp hm hc1 hc2 hdg
    have hl := hs.1
    have hpl := hp.1
    obtain ⟨t, HT⟩ : ∃ t, Hid (Me.told n i s p = t) := ⟨_, Lib.hid rfl⟩
    obtain ⟨u, HU⟩ : ∃ u, Hid (Me.str ss = u) := ⟨_, Lib.hid rfl⟩
    have HC1 : Hid (∀ W, Below w.heap.size w W → Calls Try.prog 49 #[.int .i64 (n : Int), .int .i64 (i : Int), .string s, .slice a m cap'] W fun e w' => e = .returned (.string t) ∧ Below W.heap.size W w') := Lib.hid fun W h => by
      have := l3Told_any n i s a m cap' p W h1 h64 hin hsz (hp.below h) hm hc1 hc2 hdg
      rw [HT.out] at this; exact this
    have HC2 : Hid (∀ W, Below w.heap.size w W → Calls Try.prog 67 #[.slice (some ⟨b, off, none⟩) n cap] W fun e w' => e = .returned (.string u) ∧ Below W.heap.size W w') := Lib.hid fun W h => by
      have := l3True_any n b off cap ss W (hs.below h) h1 h64 hcap hcap2 hz
      rw [HU.out] at this; exact this
    by_cases hend : n = 1 ∨ t ≠ u
    · have HV : Hid (Me.clashV ss i s p = .tuple #[.string t, .string u]) := Lib.hid (by
        unfold Me.clashV
        rw [Me.clash_end (by rw [hl, HT.out, HU.out]; exact hend.imp (fun h => by omega) id), hl, HT.out, HU.out])
      rw [HV.out]
      by_cases htu : t = u
      · have hn1 : n = 1 := hend.resolve_right (fun h => h htu)
        have hq : (t.toList == u.toList) = true := by simp [htu]
        have hnn : ((n : Int) == 1) = true := by simp [hn1]
        clear hs hz hp hdg ih hend hm htu hn1 hin
        go_enter Try.func52, Try.ntmps52
        go_wp2_with fail
        refine (HC1.out _ (Below.refl _ _)).mono ?_
        rintro e w1 ⟨rfl, hb1⟩
        go_wp2_with fail
        refine (HC2.out _ hb1).mono ?_
        rintro e w2 ⟨rfl, hb2⟩
        go_wp2
        go_ret2
        exact ⟨rfl, hb1.trans (hb2.mono hb1.size)⟩
      · have hq : (t.toList == u.toList) = false := by
          rw [Bool.eq_false_iff]
          intro h
          have h' : t.toList = u.toList := by simpa using h
          rw [ByteArray.toList_eq, ByteArray.toList_eq] at h'
          exact htu (ByteArray.ext (Array.toList_inj.1 h'))
        clear hs hz hp hdg ih hend hm htu hin
        go_enter Try.func52, Try.ntmps52
        go_wp2_with fail
        refine (HC1.out _ (Below.refl _ _)).mono ?_
        rintro e w1 ⟨rfl, hb1⟩
        go_wp2_with fail
        refine (HC2.out _ hb1).mono ?_
        rintro e w2 ⟨rfl, hb2⟩
        go_wp2
        go_ret2
        exact ⟨rfl, hb1.trans (hb2.mono hb1.size)⟩
    · have hn1 : n ≠ 1 := fun h => hend (.inl h)
      have htu : t = u := by
        by_cases h : t = u
        · exact h
        · exact absurd (.inr h) hend
      subst htu
      have hq : (t.toList == t.toList) = true := by simp
      have hnn : ((n : Int) == 1) = false := by simp; omega
      have heq : Me.told ss.length i s p = Me.str ss := by rw [hl, HT.out, HU.out]
      have hh1 := Me.half_lt n (by omega)
      have hh0 := Me.half_pos n
      obtain ⟨k, HK⟩ : ∃ k, Hid (Me.half n = k) := ⟨_, Lib.hid rfl⟩
      rw [HK.out] at hh0 hh1
      have HF := Lib.hid (hs.front k (by omega))
      have HB := Lib.hid (hs.back k (by omega) hcap)
      obtain ⟨b2, off2, hcut⟩ : ∃ b2 off2, cutAt b off k cap = ⟨b2, off2, none⟩ := by
        unfold cutAt
        split
        · exact ⟨_, _, rfl⟩
        · exact ⟨_, _, rfl⟩
      have hsl1 := slice_front b off n cap k (by omega)
      have hsl2 := slice_back b off n cap k (by omega)
      rw [hcut] at hsl2 HB
      by_cases hik : i < k
      · rw [Me.steps_left (by omega) (by rw [HK.out]; exact hik), HK.out] at hm
        obtain ⟨q, HQ⟩ : ∃ q, Hid (Me.steps k i = q) := ⟨_, Lib.hid rfl⟩
        rw [HQ.out] at hm
        have hq1 : (m : Int) - 1 = (q : Int) := by omega
        obtain ⟨pb, poff, rfl, _, _⟩ := hp.2 (by omega)
        have HPF := Lib.hid (hp.front q (by omega))
        have HV : Hid (Me.clashV ss i s p = Me.clashV (ss.take k) i s (p.take q)) := Lib.hid (by
          unfold Me.clashV
          rw [Me.clash_left (by omega) heq (by rw [hl, HK.out]; exact hik), hl, HK.out, hpl, show m - 1 = q by omega])
        rw [HV.out]
        have HC3 : Hid (∀ W, Below w.heap.size w W → Calls Try.prog 52 #[.slice (some ⟨b, off, none⟩) k cap, .int .i64 (i : Int), .string s, .slice (some ⟨pb, poff, none⟩) q cap'] W fun e w' => e = .returned (Me.clashV (ss.take k) i s (p.take q)) ∧ Below W.heap.size W w') :=
          Lib.hid fun W h => ih k hh1 b off cap i _ s _ q cap' _ W (HF.out.below h) hh0 (by omega) (by omega) hcap2 (fun s h => hz s (List.mem_of_mem_take h)) hik hsz (HPF.out.below h) HQ.out.symm (by omega) hc2 (Me.digests_take hdg q)
        have hsl3 := slice_frontI pb poff m cap' q (by omega)
        obtain ⟨V1, V2, HVV⟩ : ∃ V1 V2, Hid (Me.clashV (ss.take k) i s (p.take q) = .tuple #[.string V1, .string V2]) := ⟨_, _, Lib.hid rfl⟩
        rw [HVV.out] at HC3 ⊢
        clear hs hz hp hdg ih hend hm hin hcut hl hpl heq
        go_enter Try.func52, Try.ntmps52
        go_wp2_with fail
        refine (HC1.out _ (Below.refl _ _)).mono ?_
        rintro e w1 ⟨rfl, hb1⟩
        go_wp2_with fail
        refine (HC2.out _ hb1).mono ?_
        rintro e w2 ⟨rfl, hb2⟩
        have hb12 := hb1.trans (hb2.mono hb1.size)
        clear hb1 hb2
        go_wp2_with fail
        refine (l3Half_any n _ h64).mono ?_
        rw [HK.out]
        rintro e w3 ⟨rfl, rfl⟩
        go_wp2
        clear hnn hq h64 h1 hcap hcap2 hc1 hc2 hq1
        go_region_with (go_at_call 52; go_must (refine (HC3.out _ hb12.drew).mono ?_); go_must (rintro e w3 ⟨rfl, hb3⟩))
        all_goals
          have hbel := hb12.drew.trans (hb3.mono hb12.size)
          clear hb12 hb3
          go_wp2
          go_ret2
          exact ⟨rfl, hbel⟩
      · rw [Me.steps_right (by omega) (by rw [HK.out]; exact hik), HK.out] at hm
        obtain ⟨q, HQ⟩ : ∃ q, Hid (Me.steps (n - k) (i - k) = q) := ⟨_, Lib.hid rfl⟩
        rw [HQ.out] at hm
        have hq1 : (m : Int) - 1 = (q : Int) := by omega
        obtain ⟨pb, poff, rfl, _, _⟩ := hp.2 (by omega)
        have HPF := Lib.hid (hp.front q (by omega))
        have HV : Hid (Me.clashV ss i s p = Me.clashV (ss.drop k) (i - k) s (p.take q)) := Lib.hid (by
          unfold Me.clashV
          rw [Me.clash_right (by omega) heq (by rw [hl, HK.out]; exact hik), hl, HK.out, hpl, show m - 1 = q by omega])
        rw [HV.out]
        have HC3 : Hid (∀ W, Below w.heap.size w W → Calls Try.prog 52 #[.slice (some ⟨b2, off2, none⟩) (n - k) (cap - k), .int .i64 ((i : Int) - k), .string s, .slice (some ⟨pb, poff, none⟩) q cap'] W fun e w' => e = .returned (Me.clashV (ss.drop k) (i - k) s (p.take q)) ∧ Below W.heap.size W w') :=
          Lib.hid fun W h => by
            have := ih (n - k) (by omega) b2 off2 (cap - k) (i - k) _ s _ q cap' _ W (HB.out.below h) (by omega) (by omega) (by omega) (by omega) (fun s h => hz s (List.mem_of_mem_drop h)) (by omega) hsz (HPF.out.below h) HQ.out.symm (by omega) hc2 (Me.digests_take hdg q)
            rw [show ((i - k : Nat) : Int) = (i : Int) - k by omega] at this
            exact this
        have hsl3 := slice_frontI pb poff m cap' q (by omega)
        obtain ⟨V1, V2, HVV⟩ : ∃ V1 V2, Hid (Me.clashV (ss.drop k) (i - k) s (p.take q) = .tuple #[.string V1, .string V2]) := ⟨_, _, Lib.hid rfl⟩
        rw [HVV.out] at HC3 ⊢
        have hwr : IntKind.i64.wrap ((i : Int) - (k : Int)) = (i : Int) - (k : Int) := IntWalk.i64_in _ (by omega)
        clear hs hz hp hdg ih hend hm hin hcut hl hpl heq
        go_enter Try.func52, Try.ntmps52
        go_wp2_with fail
        refine (HC1.out _ (Below.refl _ _)).mono ?_
        rintro e w1 ⟨rfl, hb1⟩
        go_wp2_with fail
        refine (HC2.out _ hb1).mono ?_
        rintro e w2 ⟨rfl, hb2⟩
        have hb12 := hb1.trans (hb2.mono hb1.size)
        clear hb1 hb2
        go_wp2_with fail
        refine (l3Half_any n _ h64).mono ?_
        rw [HK.out]
        rintro e w3 ⟨rfl, rfl⟩
        go_wp2
        clear hnn hq h64 h1 hcap hcap2 hc1 hc2 hq1
        go_region_with (go_at_call 52; go_must (refine (HC3.out _ hb12.drew).mono ?_); go_must (rintro e w3 ⟨rfl, hb3⟩))
        all_goals
          have hbel := hb12.drew.trans (hb3.mono hb12.size)
          clear hb12 hb3
          go_wp2
          go_ret2
          exact ⟨rfl, hbel⟩
end Go.Proofs.Ytdgepneaeieogab
