/-
  Contracts of the program's chapter 3: MerkleProof, checks.
-/
import Derived.Test.YtdgepneaeieogacMb
import Derived.Test.YtdgepneaeieogacMu
namespace Go.Proofs.Ytdgepneaeieogac
open Go.RowKit

set_option maxHeartbeats 800000 in
theorem halfOf_left (n k i : Nat) (w : World) (h2 : 2 ≤ n) (h : n ≤ 64) (hk : Me.half n = k) (hik : i < k) :
    Calls Try.prog 64 #[.int .i64 (n : Int), .int .i64 (i : Int)] w fun e w' => e = .returned (.tuple #[.int .i64 (k : Int), .int .i64 (i : Int), .bool true]) ∧ w' = w := by
  have hh1 := Me.half_lt n (by omega)
  have HK := Lib.hid hk
  rw [hk] at hh1
  have hn1 : (n : Int) - 1 = ((n - 1 : Nat) : Int) := by omega
  clear hk
  go_enter Try.func64, Try.ntmps64
  go_wp2_with fail
  try rw [hn1]
  refine (powerWithin_any (n - 1) _ (by omega) (by omega)).mono ?_
  rw [show n - 1 + 1 = n by omega, HK.out]
  rintro e w1 ⟨rfl, rfl⟩
  go_wp2
  go_ret3
  exact ⟨rfl, rfl⟩
set_option maxHeartbeats 800000 in
theorem halfOf_right (n k i : Nat) (w : World) (h2 : 2 ≤ n) (h : n ≤ 64) (hk : Me.half n = k) (hik : ¬ i < k) (hin : i < n) :
    Calls Try.prog 64 #[.int .i64 (n : Int), .int .i64 (i : Int)] w fun e w' => e = .returned (.tuple #[.int .i64 ((n - k : Nat) : Int), .int .i64 ((i - k : Nat) : Int), .bool false]) ∧ w' = w := by
  have hh1 := Me.half_lt n (by omega)
  have HK := Lib.hid hk
  rw [hk] at hh1
  have hn1 : (n : Int) - 1 = ((n - 1 : Nat) : Int) := by omega
  have hwr1 : IntKind.i64.wrap ((i : Int) - (k : Int)) = (i : Int) - (k : Int) := IntWalk.i64_in _ (by omega)
  have hwr2 : IntKind.i64.wrap ((n : Int) - (k : Int)) = (n : Int) - (k : Int) := IntWalk.i64_in _ (by omega)
  rw [show ((n - k : Nat) : Int) = (n : Int) - k by omega, show ((i - k : Nat) : Int) = (i : Int) - k by omega]
  clear hk
  go_enter Try.func64, Try.ntmps64
  go_wp2_with fail
  try rw [hn1]
  refine (powerWithin_any (n - 1) _ (by omega) (by omega)).mono ?_
  rw [show n - 1 + 1 = n by omega, HK.out]
  rintro e w1 ⟨rfl, rfl⟩
  clear hn1
  go_wp2
  go_ret3
  exact ⟨rfl, rfl⟩

set_option maxRecDepth 100000 in
set_option maxHeartbeats 800000 in
theorem siblingsOnPath_any : ∀ (n i : Nat) (w : World), 1 ≤ n → n ≤ 64 → i < n → Calls Try.prog 46 #[.int .i64 (n : Int), .int .i64 (i : Int)] w fun e w' => e = .returned (.int .i64 (Me.steps n i : Int)) ∧ w' = w := by
  intro n
  induction n using Nat.strongRecOn with
  | ind n ih =>
    intro i w h1 h64 hin
    by_cases hone : n = 1
    · subst hone
      have HS : Hid (Me.steps 1 i = 0) := Lib.hid (Me.steps_one (by omega))
      rw [HS.out]
      clear ih
      go_enter Try.func46, Try.ntmps46
      go_wp2
      go_ret
      exact ⟨rfl, rfl⟩
    · have hh1 := Me.half_lt n (by omega)
      have hh0 := Me.half_pos n
      have hne : ((n : Int) == 1) = false := by simp; omega
      obtain ⟨k, HK⟩ : ∃ k, Hid (Me.half n = k) := ⟨_, Lib.hid rfl⟩
      rw [HK.out] at hh0 hh1
      obtain ⟨n', i', bb, HH, m, HC, HS, hm⟩ : ∃ n' i' : Nat, ∃ b, Hid (∀ W, Calls Try.prog 64 #[.int .i64 (n : Int), .int .i64 (i : Int)] W fun e w' => e = .returned (.tuple #[.int .i64 (n' : Int), .int .i64 (i' : Int), .bool b]) ∧ w' = W) ∧
          ∃ m : Nat, Hid (∀ W, Calls Try.prog 46 #[.int .i64 (n' : Int), .int .i64 (i' : Int)] W fun e w' => e = .returned (.int .i64 (m : Int)) ∧ w' = W) ∧ Hid (Me.steps n i = 1 + m) ∧ m ≤ 64 := by
        by_cases hik : i < k
        · refine ⟨k, i, true, Lib.hid fun W => halfOf_left n k i W (by omega) h64 HK.out hik, Me.steps k i, Lib.hid fun W => ih k hh1 i W hh0 (by omega) hik, Lib.hid (by rw [Me.steps_left (by omega) (by rw [HK.out]; exact hik), HK.out]), ?_⟩
          have := Me.steps_le k i
          omega
        · refine ⟨n - k, i - k, false, Lib.hid fun W => halfOf_right n k i W (by omega) h64 HK.out hik hin, Me.steps (n - k) (i - k), Lib.hid fun W => ih (n - k) (by omega) (i - k) W (by omega) (by omega) (by omega), Lib.hid (by rw [Me.steps_right (by omega) (by rw [HK.out]; exact hik), HK.out]), ?_⟩
          have := Me.steps_le (n - k) (i - k)
          omega
      rw [HS.out]
      clear ih
      go_enter Try.func46, Try.ntmps46
      go_wp2_with fail
      refine (HH.out _).mono ?_
      rintro e w1 ⟨rfl, rfl⟩
      go_wp2_with fail
      refine (HC.out _).mono ?_
      rintro e w1 ⟨rfl, rfl⟩
      go_wp2
      go_ret
      exact ⟨by simp, rfl⟩

set_option maxRecDepth 100000 in
set_option maxHeartbeats 800000 in
theorem areDigests_any (a : Option Addr) (n cap : Nat) (zs : List Int) (w : World) (hs : IR w a n zs) (hlen : n ≤ 9223372036854775807) :
    Calls Try.prog 27 #[.slice a n cap] w fun e w' => ∃ b, e = .returned (.bool b) ∧ (b = true ↔ Me.digests zs) ∧ w' = w := by
  have h1 := hs.1
  have HD : Hid (Me.digests zs ↔ ∀ j, j < n → 0 ≤ zs.getD j 0 ∧ zs.getD j 0 ≤ 4294967295) := Lib.hid ⟨fun h j hj => h _ (getD_memI (by omega)), fun h d hd => by
    obtain ⟨j, hj, rfl⟩ := List.getElem_of_mem hd
    have := h j (by omega)
    rwa [List.getD_eq_getElem?_getD, List.getElem?_eq_getElem hj] at this⟩
  go_enter Try.func27, Try.ntmps27
  go_wp2
  go_loopw [4, 7] (fun _ i wr => ∃ k : Nat, k ≤ n ∧ i = .int .i64 (k : Int) ∧ (∀ j, j < k → 0 ≤ zs.getD j 0 ∧ zs.getD j 0 ≤ 4294967295) ∧ wr = w)
    (fun _ i _ => n - (intOf i).toNat)
  case atStart => exact ⟨0, by omega, rfl, fun j hj => absurd hj (by omega), rfl⟩
  case round =>
    obtain ⟨k, hk, rfl, hsm, hw⟩ := hrel
    subst hw
    have HM := Lib.hid hsm
    clear hsm
    by_cases hlt : k < n
    · obtain ⟨g, off, rfl, _, hc⟩ := hs.2 (by omega)
      have hck := hc k hlt
      clear hc hs
      obtain ⟨t, HT⟩ : ∃ t, Hid (zs.getD k 0 = t) := ⟨_, Lib.hid rfl⟩
      rw [HT.out] at hck
      by_cases hin : 0 ≤ t ∧ t ≤ 4294967295
      · have HI := Lib.hid (Dg.yes hin.1 hin.2)
        go_wp2_with fail
        refine (isDigest_any _ _).mono ?_
        rw [HI.out]
        rintro e w1 ⟨rfl, rfl⟩
        go_wp2
        go_roundw
        case rel =>
          refine ⟨k + 1, by omega, by simp, fun j hj => ?_, trivial⟩
          by_cases hjk : j < k
          · exact HM.out j hjk
          · have : j = k := by omega
            rw [this, HT.out]
            exact hin
        case measure => simp [intOf]; omega
      · have HI := Lib.hid (Dg.no (d := t) (by omega))
        have HNO : Hid (¬ Me.digests zs) := Lib.hid fun h => hin (by have := HD.out.1 h k hlt; rw [HT.out] at this; exact this)
        go_wp2_with fail
        refine (isDigest_any _ _).mono ?_
        rw [HI.out]
        rintro e w1 ⟨rfl, rfl⟩
        go_wp2
        go_ret
        exact ⟨_, rfl, ⟨fun h => (Bool.noConfusion h), fun h => absurd h HNO.out⟩, rfl⟩
    · have HY : Hid (Me.digests zs) := Lib.hid (HD.out.2 fun j hj => HM.out j (by omega))
      clear hs
      go_wp2
      go_ret
      exact ⟨_, rfl, ⟨fun _ => HY.out, fun _ => rfl⟩, rfl⟩

/-- The strings of the nodes from the leaf to the root. -/
def Me.path (n i : Nat) (s : ByteArray) (p : List Int) : List ByteArray :=
  if _h : n ≤ 1 then [Me.leaf s]
  else if i < Me.half n then Me.path (Me.half n) i s (p.take (p.length - 1)) ++ [Me.told n i s p]
  else Me.path (n - Me.half n) (i - Me.half n) s (p.take (p.length - 1)) ++ [Me.told n i s p]
termination_by n
decreasing_by
  · exact Me.half_lt n (by omega)
  · have := Me.half_pos n; omega
theorem Me.path_one {n i : Nat} {s : ByteArray} {p : List Int} (h : n ≤ 1) : Me.path n i s p = [Me.leaf s] := by rw [Me.path, dif_pos h]
theorem Me.path_left {n i : Nat} {s : ByteArray} {p : List Int} (h : 2 ≤ n) (hi : i < Me.half n) : Me.path n i s p = Me.path (Me.half n) i s (p.take (p.length - 1)) ++ [Me.told n i s p] := by rw [Me.path, dif_neg (by omega), if_pos hi]
theorem Me.path_right {n i : Nat} {s : ByteArray} {p : List Int} (h : 2 ≤ n) (hi : ¬ i < Me.half n) : Me.path n i s p = Me.path (n - Me.half n) (i - Me.half n) s (p.take (p.length - 1)) ++ [Me.told n i s p] := by rw [Me.path, dif_neg (by omega), if_neg hi]
theorem Me.path_last {l : List ByteArray} {x : ByteArray} {k : Nat} (h : l.length = k) : (l ++ [x]).getD k ByteArray.empty = x := by
  subst h
  simp [List.getD_eq_getElem?_getD]
theorem Me.path_len : ∀ (n i : Nat) (s : ByteArray) (p : List Int), (Me.path n i s p).length = Me.steps n i + 1 ∧ (Me.path n i s p).getD (Me.steps n i) ByteArray.empty = Me.told n i s p := by
  intro n
  induction n using Nat.strongRecOn with
  | ind n ih =>
    intro i s p
    by_cases h : n ≤ 1
    · rw [Me.path_one h, Me.steps_one h, Me.told_one h]; exact ⟨rfl, rfl⟩
    · have h1 := Me.half_lt n (by omega)
      have h0 := Me.half_pos n
      by_cases hi : i < Me.half n
      · have hl := (ih _ h1 i s (p.take (p.length - 1))).1
        rw [Me.path_left (by omega) hi, Me.steps_left (by omega) hi]
        refine ⟨by rw [List.length_append, hl]; simp; omega, Me.path_last (by omega)⟩
      · have hl := (ih (n - Me.half n) (by omega) (i - Me.half n) s (p.take (p.length - 1))).1
        rw [Me.path_right (by omega) hi, Me.steps_right (by omega) hi]
        refine ⟨by rw [List.length_append, hl]; simp; omega, Me.path_last (by omega)⟩
theorem Me.path_sizes : ∀ (n i : Nat) (s : ByteArray) (p : List Int), ∀ t ∈ Me.path n i s p, t.size ≤ s.size + 9 := by
  intro n
  induction n using Nat.strongRecOn with
  | ind n ih =>
    intro i s p t ht
    by_cases h : n ≤ 1
    · rw [Me.path_one h] at ht
      simp at ht
      subst ht
      rw [Me.leaf_size]; omega
    · have h1 := Me.half_lt n (by omega)
      have h0 := Me.half_pos n
      by_cases hi : i < Me.half n
      · rw [Me.path_left (by omega) hi] at ht
        rcases List.mem_append.1 ht with ht | ht
        · exact ih _ h1 _ _ _ t ht
        · simp at ht; subst ht; exact Me.told_size _ _ _ _
      · rw [Me.path_right (by omega) hi] at ht
        rcases List.mem_append.1 ht with ht | ht
        · exact ih _ (by omega) _ _ _ t ht
        · simp at ht; subst ht; exact Me.told_size _ _ _ _
theorem info_strM : (Try.prog.info? 9).map (fun i => (i.zero, i.size, i.bytes)) = some (some (.string ByteArray.empty), 1, 16) := by kernel_rfl
/-- A list of strings that the call owns. -/
def OwnS (base : Nat) (l : List ByteArray) (w : World) (e : Ending) (w' : World) : Prop :=
  ∃ g cp, e = .returned (.slice (some ⟨g, 0, none⟩) l.length cp) ∧ Below base w w' ∧ w'.ownsRow base 9 1 (.slice (some ⟨g, 0, none⟩) l.length cp) l.length (l.map Value.string)
theorem slice_front3I (b off n cap k : Nat) (hk : k ≤ cap) (W : World) :
    (Instr.slice 23 (.slice (some ⟨b, off, none⟩) n cap) none (some (.int .i64 (k : Int))) (some (.int .i64 (k : Int)))).run Try.prog W = .ok (.slice (some ⟨b, off, none⟩) k k) W := by
  have e1 : (0 : Int) ≤ (k : Int) := by omega
  simp [Instr.slice, Instr.sliceBounds, Instr.sliceBound, asIntOf, run_underlying Try.underlying23, e1, hk, Addr.add]

set_option maxRecDepth 100000 in
set_option maxHeartbeats 1600000 in
theorem pathStrings_any : ∀ (n i : Nat) (s : ByteArray) (a : Option Addr) (m cap : Nat) (p : List Int) (w : World), 1 ≤ n → n ≤ 64 → i < n → s.size ≤ 4611686018427387000 → IR w a m p → m = Me.steps n i → m ≤ cap → cap ≤ 9223372036854775807 → Me.digests p →
    Calls Try.prog 47 #[.int .i64 (n : Int), .int .i64 (i : Int), .string s, .slice a m cap] w (OwnS w.heap.size (Me.path n i s p) w) := by
  intro n
  induction n using Nat.strongRecOn with
  | ind n ih =>
    intro i s a m cap p w h1 h64 hin hs hp hm hcap hcap2 hdg
    have hpl := hp.1
    obtain ⟨i0, hi, hz0, hz1, hz2⟩ := info_parts info_strM
    by_cases hone : n = 1
    · subst hone
      have HP : Hid (Me.path 1 i s p = [Me.leaf s]) := Lib.hid (Me.path_one (by omega))
      rw [HP.out]
      obtain ⟨t, HT⟩ : ∃ t, Hid (Me.leaf s = t) := ⟨_, Lib.hid rfl⟩
      rw [HT.out]
      clear hp ih hdg hpl
      go_enter Try.func47, Try.ntmps47
      go_wp2_with fail
      refine (leafString_any s _ (by omega)).mono ?_
      rw [HT.out]
      rintro e w1 ⟨rfl, hb1⟩
      go_wp2
      go_ret
      have hrow := World.ownsRow_lit (e := 9) (size := 1) w1 #[.string t] 1 (Nat.le_refl _) (by decide) rfl
      exact ⟨w1.heap.size, 1, rfl, hb1.alloc hb1.size _, ownsRow_base hrow hb1.size⟩
    · have hh1 := Me.half_lt n (by omega)
      have hh0 := Me.half_pos n
      have hne : ((n : Int) == 1) = false := by simp; omega
      obtain ⟨k, HK⟩ : ∃ k, Hid (Me.half n = k) := ⟨_, Lib.hid rfl⟩
      rw [HK.out] at hh0 hh1
      by_cases hik : i < k
      · rw [Me.steps_left (by omega) (by rw [HK.out]; exact hik), HK.out] at hm
        have hsle := Me.steps_le k i
        obtain ⟨q, HQ⟩ : ∃ q, Hid (Me.steps k i = q) := ⟨_, Lib.hid rfl⟩
        rw [HQ.out] at hm hsle
        have hqm : m = q + 1 := by omega
        subst hqm
        obtain ⟨b, off, rfl, hbw, hc⟩ := hp.2 (by omega)
        have hcq := hc q (by omega)
        have hdq := hdg _ (getD_memI (zs := p) (i := q) (by omega))
        obtain ⟨x, HX⟩ : ∃ x, Hid (p.getD q 0 = x) := ⟨_, Lib.hid rfl⟩
        rw [HX.out] at hcq hdq
        have HF := Lib.hid (hp.front q (by omega))
        obtain ⟨T, HT⟩ : ∃ T, Hid (Me.path k i s (p.take q) = T) := ⟨_, Lib.hid rfl⟩
        obtain ⟨t, HTT⟩ : ∃ t, Hid (Me.told k i s (p.take q) = t) := ⟨_, Lib.hid rfl⟩
        have hts := Me.told_size k i s (p.take q)
        obtain ⟨hTl, hTq⟩ := Me.path_len k i s (p.take q)
        rw [HTT.out] at hts
        rw [HT.out, HQ.out] at hTl hTq
        rw [HTT.out] at hTq
        have HTQ := Lib.hid hTq
        have HTL := Lib.hid hTl
        have hqT : q < T.length := by omega
        have hq64 : T.length ≤ 65 := by omega
        have HC : Hid (∀ W, Below w.heap.size w W → Calls Try.prog 47 #[.int .i64 (k : Int), .int .i64 (i : Int), .string s, .slice (some ⟨b, off, none⟩) q q] W (OwnS W.heap.size T W)) :=
          Lib.hid fun W h => by have := ih k hh1 i s (some ⟨b, off, none⟩) q q (p.take q) W hh0 (by omega) hik hs (HF.out.below h) HQ.out.symm (Nat.le_refl _) (by omega) (Me.digests_take hdg q); rw [HT.out] at this; exact this
        obtain ⟨d, HD⟩ : ∃ d, Hid (Dg.of t = d) := ⟨_, Lib.hid rfl⟩
        have hd := Dg.of_bd t
        rw [HD.out] at hd
        have HP : Hid (Me.path n i s p = T ++ [Dg.pair d x]) := Lib.hid (by
          rw [Me.path_left (by omega) (by rw [HK.out]; exact hik), HK.out, hpl, Nat.add_sub_cancel, HT.out, Me.told_left (by omega) (by rw [HK.out]; exact hik), hpl, Nat.add_sub_cancel, HK.out, HTT.out, HD.out, HX.out])
        rw [HP.out]
        obtain ⟨u, HU⟩ : ∃ u, Hid (Dg.pair d x = u) := ⟨_, Lib.hid rfl⟩
        have HPS : Hid (∀ W, Calls Try.prog 55 #[.int .i64 d, .int .i64 x] W fun e w' => e = .returned (.string u) ∧ Below W.heap.size W w') := Lib.hid fun W => by
          have := pairString_any d x W hd.1 hd.2 hdq.1 hdq.2
          rw [HU.out] at this
          exact this
        rw [HU.out]
        have HH : Hid (∀ W, Calls Try.prog 64 #[.int .i64 (n : Int), .int .i64 (i : Int)] W fun e w' => e = .returned (.tuple #[.int .i64 (k : Int), .int .i64 (i : Int), .bool true]) ∧ w' = W) := Lib.hid fun W => halfOf_left n k i W (by omega) h64 HK.out hik
        have hsl := slice_front3I b off (q + 1) cap q (by omega)
        have hq1 : ((q + 1 : Nat) : Int) - 1 = (q : Int) := by omega
        clear hp ih hdg hc hm hTq hpl hTl
        go_enter Try.func47, Try.ntmps47
        go_wp2_with fail
        try rw [hq1]
        refine (HH.out _).mono ?_
        rintro e w1 ⟨rfl, rfl⟩
        clear hq1
        go_wp2_with fail
        refine (HC.out _ (Below.refl _ _)).mono ?_
        rintro e w2 ⟨g2, cp2, rfl, hb2, hown2⟩
        have hcq2 : w2.cell? ⟨b, off + q, none⟩ = some (.int .i64 x) := (World.cell?_of_block (w := w1) (a := ⟨b, off + q, none⟩) (hb2.block b hbw)).trans hcq
        have hct : w2.cell? ⟨g2, q, none⟩ = some (.string t) := by
          have := (SR.own hown2).2.2 (by have := HTL.out; omega)
          obtain ⟨b', off', he, _, hc⟩ := this
          cases he
          have := hc q (by have := HTL.out; omega)
          rw [Nat.zero_add, HTQ.out] at this
          exact this
        go_wp2_with fail
        refine (implDigest_any t _ (by omega)).mono ?_
        rw [HD.out]
        rintro e w3 ⟨rfl, hb3⟩
        have hcq3 : w3.cell? ⟨b, off + q, none⟩ = some (.int .i64 x) := (World.cell?_of_block (w := w2) (a := ⟨b, off + q, none⟩) (hb3.block b (Nat.lt_of_lt_of_le hbw hb2.size))).trans hcq2
        have hown3 := keptN hown2 hb3
        clear hcq2 hct hown2 hcq
        go_wp2_with fail
        refine (HPS.out _).mono ?_
        rintro e w4 ⟨rfl, hb4⟩
        have hown4 := keptN hown3 hb4
        have hbel4 := hb2.trans ((hb3.trans (hb4.mono hb3.size)).mono hb2.size)
        clear hb2 hb3 hb4 hown3 hcq3
        go_wp2_with (at_builtin; refine wpList_append_own _ rfl _ _ 33 rfl w1.heap.size 9 i0 (.string ByteArray.empty) 1 16 Try.underlying33 hi hz0 hz1 hz2 rfl (by decide) _ _ _ rfl (hown4.alloc _) ⟨w4.heap.size, 0, none⟩ 1 1 [.string u] rfl rfl ?c1 ?c2 ?c3 ?c4 ?c5 ?_)
        case c1 => exact one_new _ _ _
        case c2 => intro u hu; simp at hu; subst hu; rfl
        case c3 => unfold maxLen; omega
        case c4 => omega
        case c5 => simp; exact Nat.le_succ_of_le hbel4.size
        intro v' w5 hown5 hgrow5 _
        have hbel5 := (hbel4.alloc hbel4.size (.cells #[.string u] 9)).grown hgrow5 (by simp; exact Nat.le_succ_of_le hbel4.size) (fun j hj => (hown4.lt _ hj).1)
        have hTu : (T ++ [u]).length = T.length + 1 := by simp
        have hown6 : w5.ownsRow w1.heap.size 9 1 v' (T ++ [u]).length ((T ++ [u]).map Value.string) := by
          rw [hTu, List.map_append]
          exact hown5
        obtain ⟨g6, cp6, rfl⟩ : ∃ g cp, v' = .slice (some ⟨g, 0, none⟩) (T ++ [u]).length cp := by
          rcases hown6.2 with ⟨h, h0⟩ | ⟨g, cap, cur, h, _⟩
          · omega
          · exact ⟨_, _, h⟩
        clear hown4 hown5 hgrow5 hbel4 hTu
        go_wp2
        go_ret
        exact ⟨g6, cp6, rfl, hbel5, hown6⟩
      · rw [Me.steps_right (by omega) (by rw [HK.out]; exact hik), HK.out] at hm
        have hsle := Me.steps_le (n - k) (i - k)
        obtain ⟨q, HQ⟩ : ∃ q, Hid (Me.steps (n - k) (i - k) = q) := ⟨_, Lib.hid rfl⟩
        rw [HQ.out] at hm hsle
        have hqm : m = q + 1 := by omega
        subst hqm
        obtain ⟨b, off, rfl, hbw, hc⟩ := hp.2 (by omega)
        have hcq := hc q (by omega)
        have hdq := hdg _ (getD_memI (zs := p) (i := q) (by omega))
        obtain ⟨x, HX⟩ : ∃ x, Hid (p.getD q 0 = x) := ⟨_, Lib.hid rfl⟩
        rw [HX.out] at hcq hdq
        have HF := Lib.hid (hp.front q (by omega))
        obtain ⟨T, HT⟩ : ∃ T, Hid (Me.path (n - k) (i - k) s (p.take q) = T) := ⟨_, Lib.hid rfl⟩
        obtain ⟨t, HTT⟩ : ∃ t, Hid (Me.told (n - k) (i - k) s (p.take q) = t) := ⟨_, Lib.hid rfl⟩
        have hts := Me.told_size (n - k) (i - k) s (p.take q)
        obtain ⟨hTl, hTq⟩ := Me.path_len (n - k) (i - k) s (p.take q)
        rw [HTT.out] at hts
        rw [HT.out, HQ.out] at hTl hTq
        rw [HTT.out] at hTq
        have HTQ := Lib.hid hTq
        have HTL := Lib.hid hTl
        have hqT : q < T.length := by omega
        have hq64 : T.length ≤ 65 := by omega
        have HC : Hid (∀ W, Below w.heap.size w W → Calls Try.prog 47 #[.int .i64 ((n - k : Nat) : Int), .int .i64 ((i - k : Nat) : Int), .string s, .slice (some ⟨b, off, none⟩) q q] W (OwnS W.heap.size T W)) :=
          Lib.hid fun W h => by have := ih (n - k) (by omega) (i - k) s (some ⟨b, off, none⟩) q q (p.take q) W (by omega) (by omega) (by omega) hs (HF.out.below h) HQ.out.symm (Nat.le_refl _) (by omega) (Me.digests_take hdg q); rw [HT.out] at this; exact this
        obtain ⟨d, HD⟩ : ∃ d, Hid (Dg.of t = d) := ⟨_, Lib.hid rfl⟩
        have hd := Dg.of_bd t
        rw [HD.out] at hd
        have HP : Hid (Me.path n i s p = T ++ [Dg.pair x d]) := Lib.hid (by
          rw [Me.path_right (by omega) (by rw [HK.out]; exact hik), HK.out, hpl, Nat.add_sub_cancel, HT.out, Me.told_right (by omega) (by rw [HK.out]; exact hik), hpl, Nat.add_sub_cancel, HK.out, HTT.out, HD.out, HX.out])
        rw [HP.out]
        obtain ⟨u, HU⟩ : ∃ u, Hid (Dg.pair x d = u) := ⟨_, Lib.hid rfl⟩
        have HPS : Hid (∀ W, Calls Try.prog 55 #[.int .i64 x, .int .i64 d] W fun e w' => e = .returned (.string u) ∧ Below W.heap.size W w') := Lib.hid fun W => by
          have := pairString_any x d W hdq.1 hdq.2 hd.1 hd.2
          rw [HU.out] at this
          exact this
        rw [HU.out]
        have HH : Hid (∀ W, Calls Try.prog 64 #[.int .i64 (n : Int), .int .i64 (i : Int)] W fun e w' => e = .returned (.tuple #[.int .i64 ((n - k : Nat) : Int), .int .i64 ((i - k : Nat) : Int), .bool false]) ∧ w' = W) := Lib.hid fun W => halfOf_right n k i W (by omega) h64 HK.out hik hin
        have hsl := slice_front3I b off (q + 1) cap q (by omega)
        have hq1 : ((q + 1 : Nat) : Int) - 1 = (q : Int) := by omega
        clear hp ih hdg hc hm hTq hpl hTl
        go_enter Try.func47, Try.ntmps47
        go_wp2_with fail
        try rw [hq1]
        refine (HH.out _).mono ?_
        rintro e w1 ⟨rfl, rfl⟩
        clear hq1
        go_wp2_with fail
        refine (HC.out _ (Below.refl _ _)).mono ?_
        rintro e w2 ⟨g2, cp2, rfl, hb2, hown2⟩
        have hcq2 : w2.cell? ⟨b, off + q, none⟩ = some (.int .i64 x) := (World.cell?_of_block (w := w1) (a := ⟨b, off + q, none⟩) (hb2.block b hbw)).trans hcq
        have hct : w2.cell? ⟨g2, q, none⟩ = some (.string t) := by
          have := (SR.own hown2).2.2 (by have := HTL.out; omega)
          obtain ⟨b', off', he, _, hc⟩ := this
          cases he
          have := hc q (by have := HTL.out; omega)
          rw [Nat.zero_add, HTQ.out] at this
          exact this
        go_wp2_with fail
        refine (implDigest_any t _ (by omega)).mono ?_
        rw [HD.out]
        rintro e w3 ⟨rfl, hb3⟩
        have hcq3 : w3.cell? ⟨b, off + q, none⟩ = some (.int .i64 x) := (World.cell?_of_block (w := w2) (a := ⟨b, off + q, none⟩) (hb3.block b (Nat.lt_of_lt_of_le hbw hb2.size))).trans hcq2
        have hown3 := keptN hown2 hb3
        clear hcq2 hct hown2 hcq
        go_wp2_with fail
        refine (HPS.out _).mono ?_
        rintro e w4 ⟨rfl, hb4⟩
        have hown4 := keptN hown3 hb4
        have hbel4 := hb2.trans ((hb3.trans (hb4.mono hb3.size)).mono hb2.size)
        clear hb2 hb3 hb4 hown3 hcq3
        go_wp2_with (at_builtin; refine wpList_append_own _ rfl _ _ 33 rfl w1.heap.size 9 i0 (.string ByteArray.empty) 1 16 Try.underlying33 hi hz0 hz1 hz2 rfl (by decide) _ _ _ rfl (hown4.alloc _) ⟨w4.heap.size, 0, none⟩ 1 1 [.string u] rfl rfl ?c1 ?c2 ?c3 ?c4 ?c5 ?_)
        case c1 => exact one_new _ _ _
        case c2 => intro u hu; simp at hu; subst hu; rfl
        case c3 => unfold maxLen; omega
        case c4 => omega
        case c5 => simp; exact Nat.le_succ_of_le hbel4.size
        intro v' w5 hown5 hgrow5 _
        have hbel5 := (hbel4.alloc hbel4.size (.cells #[.string u] 9)).grown hgrow5 (by simp; exact Nat.le_succ_of_le hbel4.size) (fun j hj => (hown4.lt _ hj).1)
        have hTu : (T ++ [u]).length = T.length + 1 := by simp
        have hown6 : w5.ownsRow w1.heap.size 9 1 v' (T ++ [u]).length ((T ++ [u]).map Value.string) := by
          rw [hTu, List.map_append]
          exact hown5
        obtain ⟨g6, cp6, rfl⟩ : ∃ g cp, v' = .slice (some ⟨g, 0, none⟩) (T ++ [u]).length cp := by
          rcases hown6.2 with ⟨h, h0⟩ | ⟨g, cap, cur, h, _⟩
          · omega
          · exact ⟨_, _, h⟩
        clear hown4 hown5 hgrow5 hbel4 hTu
        go_wp2
        go_ret
        exact ⟨g6, cp6, rfl, hbel5, hown6⟩
end Go.Proofs.Ytdgepneaeieogac
