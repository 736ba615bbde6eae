/-
  Contracts of the program's chapter 3: MerkleCheck.
-/
import Derived.Test.YtdgepneaeieogacMc
namespace Go.Proofs.Ytdgepneaeieogac
open Go.RowKit

set_option maxRecDepth 100000 in
set_option maxHeartbeats 1600000 in
theorem implMerkleCheck_any (root n i : Int) (s : ByteArray) (a : Option Addr) (m cap : Nat) (p : List Int) (w : World) (hs : s.size ≤ 4611686018427387000) (hp : IR w a m p) (hcap : m ≤ cap) (hcap2 : cap ≤ 9223372036854775807) :
    Calls Try.prog 21 #[.int .i64 root, .int .i64 n, .int .i64 i, .string s, .slice a m cap] w fun e w' => ∃ b, e = .returned (.bool b) ∧ (b = true ↔ Me.good root n i s p) ∧ Below w.heap.size w w' := by
  have hpl := hp.1
  by_cases hn : 1 ≤ n ∧ n ≤ 32
  · have HN := Lib.hid (In.yes hn.1 hn.2)
    by_cases hi : 0 ≤ i ∧ i ≤ n - 1
    · have hi2 : i < n := by omega
      obtain ⟨n, rfl⟩ := Int.eq_ofNat_of_zero_le (show 0 ≤ n by omega)
      obtain ⟨i, rfl⟩ := Int.eq_ofNat_of_zero_le hi.1
      have HP := Lib.hid hp
      by_cases hst : m = Me.steps n i
      · have hsq : ((m : Int) != (Me.steps n i : Int)) = false := by simp [hst]
        by_cases hdg : Me.digests p
        · have HDG := Lib.hid hdg
          obtain ⟨t, HT⟩ : ∃ t, Hid (Me.told n i s p = t) := ⟨_, Lib.hid rfl⟩
          have hts := Me.told_size n i s p
          rw [HT.out] at hts
          obtain ⟨d, HD⟩ : ∃ d, Hid (Dg.of t = d) := ⟨_, Lib.hid rfl⟩
          have HG : Hid (Me.good root n i s p ↔ d = root) := Lib.hid ⟨fun h => by have := h.2.2.2.2; rw [Int.toNat_natCast, Int.toNat_natCast, HT.out, HD.out] at this; exact this,
            fun h => ⟨hn, hi, hdg, by rw [Int.toNat_natCast, Int.toNat_natCast]; omega, by rw [Int.toNat_natCast, Int.toNat_natCast, HT.out, HD.out]; exact h⟩⟩
          obtain ⟨T, HTT⟩ : ∃ T, Hid (Me.path n i s p = T) := ⟨_, Lib.hid rfl⟩
          obtain ⟨hTl, hTq⟩ := Me.path_len n i s p
          rw [HTT.out] at hTl hTq
          rw [HT.out] at hTq
          have hsle := Me.steps_le n i
          obtain ⟨q, HQ⟩ : ∃ q, Hid (Me.steps n i = q) := ⟨_, Lib.hid rfl⟩
          rw [HQ.out] at hTl hTq hst hsle
          have hq64 : q ≤ 64 := by omega
          clear hsle
          have HTQ := Lib.hid hTq
          have HC : Hid (∀ W, Below w.heap.size w W → Calls Try.prog 47 #[.int .i64 (n : Int), .int .i64 (i : Int), .string s, .slice a m cap] W (OwnS W.heap.size T W)) := Lib.hid fun W h => by
            have := pathStrings_any n i s a m cap p W (by omega) (by omega) (by omega) hs (hp.below h) (by rw [HQ.out]; exact hst) hcap hcap2 hdg
            rw [HTT.out] at this
            exact this
          have hqT : q < T.length := by omega
          have hSq := hsq
          have HSB : Hid (∀ W, Calls Try.prog 46 #[.int .i64 (n : Int), .int .i64 (i : Int)] W fun e w' => e = .returned (.int .i64 (q : Int)) ∧ w' = W) := Lib.hid fun W => by
            have := siblingsOnPath_any n i W (by omega) (by omega) (by omega)
            rw [HQ.out] at this
            exact this
          rw [HQ.out] at hsq
          clear hp hdg hst hTq hSq
          go_enter Try.func21, Try.ntmps21
          go_wp2_with fail
          refine (isTreeSize_any _ _).mono ?_
          rw [HN.out]
          rintro e w1 ⟨rfl, rfl⟩
          go_wp2_with fail
          refine (HSB.out _).mono ?_
          rintro e w1 ⟨rfl, rfl⟩
          go_wp2_with fail
          refine (areDigests_any a m cap p _ HP.out (by omega)).mono ?_
          rintro e w1 ⟨b1, rfl, hb1, rfl⟩
          obtain rfl : b1 = true := hb1.2 HDG.out
          clear hb1
          go_wp2_with fail
          refine (HC.out _ (Below.refl _ _)).mono ?_
          rintro e w2 ⟨g2, cp2, rfl, hb2, hown2⟩
          have hct : w2.cell? ⟨g2, q, none⟩ = some (.string t) := by
            have := (SR.own hown2).2.2 (by omega)
            obtain ⟨b', off', he, _, hc⟩ := this
            cases he
            have := hc q (by omega)
            rw [Nat.zero_add, HTQ.out] at this
            exact this
          clear hown2
          go_wp2_with fail
          refine (implDigest_any t _ (by omega)).mono ?_
          rw [HD.out]
          rintro e w3 ⟨rfl, hb3⟩
          have hbel := hb2.trans (hb3.mono hb2.size)
          clear hb2 hb3 hct
          go_wp2
          go_ret
          exact ⟨_, rfl, by rw [HG.out]; simp, hbel⟩
        · have HNO : Hid (¬ Me.good root n i s p) := Lib.hid fun h => hdg h.2.2.1
          have HDG := Lib.hid hdg
          clear hp hdg hst
          go_enter Try.func21, Try.ntmps21
          go_wp2_with fail
          refine (isTreeSize_any _ _).mono ?_
          rw [HN.out]
          rintro e w1 ⟨rfl, rfl⟩
          go_wp2_with fail
          refine (siblingsOnPath_any n i _ (by omega) (by omega) (by omega)).mono ?_
          rintro e w1 ⟨rfl, rfl⟩
          go_wp2_with fail
          refine (areDigests_any a m cap p _ HP.out (by omega)).mono ?_
          rintro e w1 ⟨b1, rfl, hb1, rfl⟩
          obtain rfl : b1 = false := by
            rw [Bool.eq_false_iff]
            exact fun h => HDG.out (hb1.1 h)
          clear hb1
          go_wp2
          go_ret
          exact ⟨_, rfl, ⟨fun h => (Bool.noConfusion h), fun h => absurd h HNO.out⟩, Below.refl _ _⟩
      · have hsq : ((m : Int) != (Me.steps n i : Int)) = true := by simp; omega
        have HNO : Hid (¬ Me.good root n i s p) := Lib.hid fun h => hst (by have := h.2.2.2.1; rw [Int.toNat_natCast, Int.toNat_natCast] at this; omega)
        clear hp hst
        go_enter Try.func21, Try.ntmps21
        go_wp2_with fail
        refine (isTreeSize_any _ _).mono ?_
        rw [HN.out]
        rintro e w1 ⟨rfl, rfl⟩
        go_wp2_with fail
        refine (siblingsOnPath_any n i _ (by omega) (by omega) (by omega)).mono ?_
        rintro e w1 ⟨rfl, rfl⟩
        go_wp2
        go_ret
        exact ⟨_, rfl, ⟨fun h => (Bool.noConfusion h), fun h => absurd h HNO.out⟩, Below.refl _ _⟩
    · have HNO : Hid (¬ Me.good root n i s p) := Lib.hid fun h => hi h.2.1
      clear hp
      by_cases h0 : i < 0
      · go_enter Try.func21, Try.ntmps21
        go_wp2_with fail
        refine (isTreeSize_any _ _).mono ?_
        rw [HN.out]
        rintro e w1 ⟨rfl, rfl⟩
        go_wp2
        go_ret
        exact ⟨_, rfl, ⟨fun h => (Bool.noConfusion h), fun h => absurd h HNO.out⟩, Below.refl _ _⟩
      · have h1 : n ≤ i := by omega
        clear hi
        go_enter Try.func21, Try.ntmps21
        go_wp2_with fail
        refine (isTreeSize_any _ _).mono ?_
        rw [HN.out]
        rintro e w1 ⟨rfl, rfl⟩
        go_wp2
        go_ret
        exact ⟨_, rfl, ⟨fun h => (Bool.noConfusion h), fun h => absurd h HNO.out⟩, Below.refl _ _⟩
  · have HNO : Hid (¬ Me.good root n i s p) := Lib.hid fun h => hn h.1
    have HN := Lib.hid (In.no (n := n) (a := 1) (b := 32) (by omega))
    clear hp hn
    go_enter Try.func21, Try.ntmps21
    go_wp2_with fail
    refine (isTreeSize_any _ _).mono ?_
    rw [HN.out]
    rintro e w1 ⟨rfl, rfl⟩
    go_wp2
    go_ret
    exact ⟨_, rfl, ⟨fun h => (Bool.noConfusion h), fun h => absurd h HNO.out⟩, Below.refl _ _⟩
end Go.Proofs.Ytdgepneaeieogac
