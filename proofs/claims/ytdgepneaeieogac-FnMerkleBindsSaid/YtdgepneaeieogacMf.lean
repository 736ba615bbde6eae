/-
  Contracts of the program's chapter 3: MerkleCollision.
-/
import Derived.Test.YtdgepneaeieogacMd
import Derived.Test.YtdgepneaeieogacMx
namespace Go.Proofs.Ytdgepneaeieogac
open Go.RowKit

theorem own_cap {w : World} {base n cap : Nat} {e : TypeId} {a : Option Addr} {xs : List Value} (h : w.ownsRow base e 1 (.slice a n cap) n xs) : n ≤ cap ∧ cap ≤ 9223372036854775807 := by
  rcases h.2 with ⟨h, h0⟩ | ⟨g', cap', cur, h, _, _, h3, h4, _⟩
  · cases h
    omega
  · cases h
    unfold maxLen at h4
    omega
theorem Me.path_getD {T : List ByteArray} {x : ByteArray} {j : Nat} (h : j < T.length) : (T ++ [x]).getD j ByteArray.empty = T.getD j ByteArray.empty := by
  rw [List.getD_eq_getElem?_getD, List.getD_eq_getElem?_getD, List.getElem?_append_left h]
/-- The first node from the root on that differs. -/
theorem Me.path_clash : ∀ (n : Nat) (l : List ByteArray) (i : Nat) (s : ByteArray) (p : List Int), l.length = n → 1 ≤ n → i < n → s ≠ l.getD i ByteArray.empty →
    ∃ j, j ≤ Me.steps n i ∧ (Me.path n i s p).getD j ByteArray.empty ≠ (Me.path n i (l.getD i ByteArray.empty) (Me.proof l i)).getD j ByteArray.empty ∧
      (∀ j', j < j' → j' ≤ Me.steps n i → (Me.path n i s p).getD j' ByteArray.empty = (Me.path n i (l.getD i ByteArray.empty) (Me.proof l i)).getD j' ByteArray.empty) ∧
      Me.clash l i s p = ((Me.path n i s p).getD j ByteArray.empty, (Me.path n i (l.getD i ByteArray.empty) (Me.proof l i)).getD j ByteArray.empty) := by
  intro n
  induction n using Nat.strongRecOn with
  | ind n ih =>
    intro l i s p hl h1 hi hs
    subst hl
    have htp := (Me.told_proof l.length l i rfl hi).1
    by_cases h : l.length ≤ 1
    · have : i = 0 := by omega
      subst this
      rw [Me.steps_one h, Me.path_one h, Me.path_one h, Me.clash_end (.inl h), Me.told_one h, Me.str_one h]
      refine ⟨0, Nat.le_refl _, ?_, fun j' h1 h2 => by omega, rfl⟩
      exact fun he => hs (Me.leaf_inj he)
    · have h2 : 2 ≤ l.length := by omega
      have hh1 := Me.half_lt l.length h2
      have hh0 := Me.half_pos l.length
      obtain ⟨hT1, hT2⟩ := Me.path_len l.length i s p
      obtain ⟨hU1, hU2⟩ := Me.path_len l.length i (l.getD i ByteArray.empty) (Me.proof l i)
      rw [htp] at hU2
      by_cases hne : Me.told l.length i s p = Me.str l
      · by_cases hik : i < Me.half l.length
        · obtain ⟨s1, s2⟩ := Me.snoc_last (Me.proof (l.take (Me.half l.length)) i) (Me.root (l.drop (Me.half l.length)))
          have hg : (l.take (Me.half l.length)).getD i ByteArray.empty = l.getD i ByteArray.empty := Me.getD_take' hik
          obtain ⟨j, hj, hd, hup, hcl⟩ := ih _ hh1 (l.take (Me.half l.length)) i s (p.take (p.length - 1)) (Me.take_len h2) hh0 hik (by rw [hg]; exact hs)
          rw [hg] at hd hup hcl
          have hTT : Me.path l.length i s p = Me.path (Me.half l.length) i s (p.take (p.length - 1)) ++ [Me.told l.length i s p] := Me.path_left h2 hik
          have hUU : Me.path l.length i (l.getD i ByteArray.empty) (Me.proof l i) = Me.path (Me.half l.length) i (l.getD i ByteArray.empty) (Me.proof (l.take (Me.half l.length)) i) ++ [Me.told l.length i (l.getD i ByteArray.empty) (Me.proof l i)] := by
            rw [Me.path_left h2 hik, show (Me.proof l i).take ((Me.proof l i).length - 1) = Me.proof (l.take (Me.half l.length)) i by rw [Me.proof_left h2 hik, s1]]
          have hlT := (Me.path_len (Me.half l.length) i s (p.take (p.length - 1))).1
          have hlU := (Me.path_len (Me.half l.length) i (l.getD i ByteArray.empty) (Me.proof (l.take (Me.half l.length)) i)).1
          have hst := Me.steps_left h2 hik
          refine ⟨j, by omega, ?_, fun j' g1 g2 => ?_, ?_⟩
          · rw [hTT, hUU, Me.path_getD (by omega), Me.path_getD (by omega)]
            exact hd
          · by_cases hjl : j' = Me.steps l.length i
            · rw [hjl, hT2, hU2]; exact hne
            · rw [hTT, hUU, Me.path_getD (by omega), Me.path_getD (by omega)]
              exact hup j' g1 (by omega)
          · rw [Me.clash_left h2 hne hik, hcl, hTT, hUU, Me.path_getD (by omega), Me.path_getD (by omega)]
        · obtain ⟨s1, s2⟩ := Me.snoc_last (Me.proof (l.drop (Me.half l.length)) (i - Me.half l.length)) (Me.root (l.take (Me.half l.length)))
          have hg : (l.drop (Me.half l.length)).getD (i - Me.half l.length) ByteArray.empty = l.getD i ByteArray.empty := by rw [Me.getD_drop', show Me.half l.length + (i - Me.half l.length) = i by omega]
          obtain ⟨j, hj, hd, hup, hcl⟩ := ih (l.length - Me.half l.length) (by omega) (l.drop (Me.half l.length)) (i - Me.half l.length) s (p.take (p.length - 1)) List.length_drop (by omega) (by omega) (by rw [hg]; exact hs)
          rw [hg] at hd hup hcl
          have hTT : Me.path l.length i s p = Me.path (l.length - Me.half l.length) (i - Me.half l.length) s (p.take (p.length - 1)) ++ [Me.told l.length i s p] := Me.path_right h2 hik
          have hUU : Me.path l.length i (l.getD i ByteArray.empty) (Me.proof l i) = Me.path (l.length - Me.half l.length) (i - Me.half l.length) (l.getD i ByteArray.empty) (Me.proof (l.drop (Me.half l.length)) (i - Me.half l.length)) ++ [Me.told l.length i (l.getD i ByteArray.empty) (Me.proof l i)] := by
            rw [Me.path_right h2 hik, show (Me.proof l i).take ((Me.proof l i).length - 1) = Me.proof (l.drop (Me.half l.length)) (i - Me.half l.length) by rw [Me.proof_right h2 hik, s1]]
          have hlT := (Me.path_len (l.length - Me.half l.length) (i - Me.half l.length) s (p.take (p.length - 1))).1
          have hlU := (Me.path_len (l.length - Me.half l.length) (i - Me.half l.length) (l.getD i ByteArray.empty) (Me.proof (l.drop (Me.half l.length)) (i - Me.half l.length))).1
          have hst := Me.steps_right h2 hik
          refine ⟨j, by omega, ?_, fun j' g1 g2 => ?_, ?_⟩
          · rw [hTT, hUU, Me.path_getD (by omega), Me.path_getD (by omega)]
            exact hd
          · by_cases hjl : j' = Me.steps l.length i
            · rw [hjl, hT2, hU2]; exact hne
            · rw [hTT, hUU, Me.path_getD (by omega), Me.path_getD (by omega)]
              exact hup j' g1 (by omega)
          · rw [Me.clash_right h2 hne hik, hcl, hTT, hUU, Me.path_getD (by omega), Me.path_getD (by omega)]
      · refine ⟨Me.steps l.length i, Nat.le_refl _, by rw [hT2, hU2]; exact hne, fun j' g1 g2 => by omega, ?_⟩
        rw [Me.clash_end (.inr hne), hT2, hU2]

set_option maxRecDepth 100000 in
set_option maxHeartbeats 1600000 in
theorem implMerkleCollision_any (a : Option Addr) (n cap : Nat) (ss : List ByteArray) (i : Int) (s : ByteArray) (a' : Option Addr) (m cap' : Nat) (p : List Int) (w : World) (hs : SR w a n ss) (hcap : n ≤ cap) (hcap2 : cap ≤ 9223372036854775807) (hz : ∀ s ∈ ss, s.size ≤ 4611686018427387000)
    (hsz : s.size ≤ 4611686018427387000) (hp : IR w a' m p) (hc1 : m ≤ cap') (hc2 : cap' ≤ 9223372036854775807) :
    Calls Try.prog 22 #[.slice a n cap, .int .i64 i, .string s, .slice a' m cap'] w fun e w' => e = .returned (Me.colA ss i s p) ∧ Below w.heap.size w w' := by
  have hl := hs.1
  have hpl := hp.1
  have hz' : ∀ s ∈ ss, s.size ≤ 4611686018427387904 := fun s h => by have := hz s h; omega
  by_cases hn : 1 ≤ n ∧ n ≤ 32
  · have HR : Hid (Me.rootA ss = .tuple #[.int .i64 (Me.root ss), .bool true]) := Lib.hid (if_pos (by omega))
    have HC0 : Hid (Calls Try.prog 19 #[.slice a n cap] w fun e w' => e = .returned (.tuple #[.int .i64 (Me.root ss), .bool true]) ∧ Below w.heap.size w w') := Lib.hid (by
      have := implMerkleRoot_any a n cap ss w hs hcap hcap2 hz'
      rw [HR.out] at this
      exact this)
    have HC1 : Hid (∀ W, Below w.heap.size w W → Calls Try.prog 21 #[.int .i64 (Me.root ss), .int .i64 (n : Int), .int .i64 i, .string s, .slice a' m cap'] W fun e w' => ∃ b, e = .returned (.bool b) ∧ (b = true ↔ Me.good (Me.root ss) n i s p) ∧ Below W.heap.size W w') :=
      Lib.hid fun W h => implMerkleCheck_any _ _ _ _ _ _ _ _ _ hsz (hp.below h) hc1 hc2
    obtain ⟨r, HRR⟩ : ∃ r, Hid (Me.root ss = r) := ⟨_, Lib.hid rfl⟩
    rw [HRR.out] at HC0 HC1
    by_cases hg : Me.good r n i s p
    · obtain ⟨b, off, rfl, hbw, hc⟩ := hs.2 (by omega)
      obtain ⟨j, rfl⟩ := Int.eq_ofNat_of_zero_le hg.2.1.1
      have hjn : j < n := by have := hg.2.1.2; omega
      have hcj := hc j hjn
      have hzj := hz _ (getD_mem (ss := ss) (i := j) (by omega))
      obtain ⟨t, HT⟩ : ∃ t, Hid (ss.getD j ByteArray.empty = t) := ⟨_, Lib.hid rfl⟩
      rw [HT.out] at hcj hzj
      have HG := Lib.hid hg
      by_cases hts : s = t
      · have HA : Hid (Me.colA ss (j : Int) s p = .tuple #[.string ⟨#[]⟩, .string ⟨#[]⟩, .bool false]) := Lib.hid (Me.colA_no fun h => h.2.2 (by rw [Int.toNat_natCast, HT.out]; exact hts.symm))
        rw [HA.out]
        have hq := ba_eq hts
        clear hs hz hz' hp hg hc hts
        go_enter Try.func22, Try.ntmps22
        go_wp2_with fail
        refine HC0.out.mono ?_
        rintro e w1 ⟨rfl, hb1⟩
        go_wp2_with fail
        refine (HC1.out _ hb1).mono ?_
        rintro e w2 ⟨b2, rfl, hg2, hb2⟩
        obtain rfl : b2 = true := hg2.2 HG.out
        have hbel := hb1.trans (hb2.mono hb1.size)
        have hcj2 : w2.cell? ⟨b, off + j, none⟩ = some (.string t) := (World.cell?_of_block (w := w) (a := ⟨b, off + j, none⟩) (hbel.block b hbw)).trans hcj
        clear hb1 hb2 hg2
        go_wp2
        go_ret3
        exact ⟨rfl, hbel⟩
      · have hok : Me.colOk ss (j : Int) s p := ⟨by omega, by rw [HRR.out, hl]; exact hg, by rw [Int.toNat_natCast, HT.out]; exact fun h => hts h.symm⟩
        have HA : Hid (Me.colA ss (j : Int) s p = .tuple #[.string (Me.clash ss j s p).1, .string (Me.clash ss j s p).2, .bool true]) := Lib.hid (by
          have := Me.colA_yes hok
          rw [Int.toNat_natCast] at this
          exact this)
        rw [HA.out]
        have hq := ba_ne hts
        have hst := hg.2.2.2.1
        rw [Int.toNat_natCast, Int.toNat_natCast] at hst
        obtain ⟨k, hk, hkd, hkup, hkc⟩ := Me.path_clash n ss j s p hl hn.1 hjn (by rw [HT.out]; exact hts)
        rw [hkc]
        rw [HT.out] at hkd hkup ⊢
        obtain ⟨hT1, _⟩ := Me.path_len n j s p
        obtain ⟨hU1, _⟩ := Me.path_len n j t (Me.proof ss j)
        have hpf := (Me.told_proof n ss j hl hjn).2
        have hpd := Me.proof_digests n ss j hl
        have hsle := Me.steps_le n j
        obtain ⟨T, HTT⟩ : ∃ T, Hid (Me.path n j s p = T) := ⟨_, Lib.hid rfl⟩
        obtain ⟨P, HPP⟩ : ∃ P, Hid (Me.proof ss j = P) := ⟨_, Lib.hid rfl⟩
        rw [HPP.out] at hkd hkup hU1 hpf hpd ⊢
        obtain ⟨U, HUU⟩ : ∃ U, Hid (Me.path n j t P = U) := ⟨_, Lib.hid rfl⟩
        rw [HTT.out] at hkd hkup hT1 ⊢
        rw [HUU.out] at hkd hkup hU1 ⊢
        obtain ⟨q, HQ⟩ : ∃ q, Hid (Me.steps n j = q) := ⟨_, Lib.hid rfl⟩
        rw [HQ.out] at hk hkup hT1 hU1 hpf hst hsle
        have HC2 : Hid (∀ W, Below w.heap.size w W → Calls Try.prog 47 #[.int .i64 (n : Int), .int .i64 (j : Int), .string s, .slice a' m cap'] W (OwnS W.heap.size T W)) := Lib.hid fun W h => by
          have := pathStrings_any n j s a' m cap' p W hn.1 (by omega) hjn hsz (hp.below h) (by rw [HQ.out]; omega) hc1 hc2 hg.2.2.1
          rw [HTT.out] at this
          exact this
        have HC3 : Hid (∀ W, Below w.heap.size w W → Calls Try.prog 48 #[.slice (some ⟨b, off, none⟩) n cap, .int .i64 (j : Int)] W (OwnN W.heap.size P W)) := Lib.hid fun W h => by
          have := proofOf_any n b off cap j ss W (hs.below h) hn.1 (by omega) hjn hcap hcap2 hz'
          rw [HPP.out] at this
          exact this
        have HC4 : Hid (∀ W a4 cp4, IR W a4 P.length P → P.length ≤ cp4 → cp4 ≤ 9223372036854775807 → Calls Try.prog 47 #[.int .i64 (n : Int), .int .i64 (j : Int), .string t, .slice a4 P.length cp4] W (OwnS W.heap.size U W)) := Lib.hid fun W a4 cp4 h h1 h2 => by
          have := pathStrings_any n j t a4 P.length cp4 P W hn.1 (by omega) hjn hzj h (by rw [HQ.out]; exact hpf) h1 h2 hpd
          rw [HUU.out] at this
          exact this
        have HKU := Lib.hid hkup
        have HKD := Lib.hid hkd
        have hq32 : q ≤ 32 := by omega
        have hUx : ∀ x, x ≤ q → x < U.length := fun x h => by omega
        clear hs hz hz' hp hg hc hts hok hst hkup hkd hkc hU1 hpf hpd hsle
        go_enter Try.func22, Try.ntmps22
        go_wp2_with fail
        refine HC0.out.mono ?_
        rintro e w1 ⟨rfl, hb1⟩
        go_wp2_with fail
        refine (HC1.out _ hb1).mono ?_
        rintro e w2 ⟨b2, rfl, hg2, hb2⟩
        obtain rfl : b2 = true := hg2.2 HG.out
        have hbel := hb1.trans (hb2.mono hb1.size)
        have hcj2 : w2.cell? ⟨b, off + j, none⟩ = some (.string t) := (World.cell?_of_block (w := w) (a := ⟨b, off + j, none⟩) (hbel.block b hbw)).trans hcj
        clear hb1 hb2 hg2
        go_wp2_with fail
        refine (HC2.out _ hbel).mono ?_
        rintro e w3 ⟨g3, cp3, rfl, hb3, hown3⟩
        have hbel3 := hbel.trans (hb3.mono hbel.size)
        have hcj3 : w3.cell? ⟨b, off + j, none⟩ = some (.string t) := (World.cell?_of_block (w := w) (a := ⟨b, off + j, none⟩) (hbel3.block b hbw)).trans hcj
        clear hbel hcj2
        go_wp2_with fail
        go_region_with (first
          | (go_at_call 48; refine (HC3.out _ hbel3.drew).mono ?_; rintro e w4 ⟨a4, cp4, rfl, hb4, hown4⟩
             have hbel4 := hbel3.drew.trans (hb4.mono hbel3.size)
             have hcj4 : w4.cell? ⟨b, off + j, none⟩ = some (.string t) := (World.cell?_of_block (w := w) (a := ⟨b, off + j, none⟩) (hbel4.block b hbw)).trans hcj
             have hown34 := keptN hown3 ((Below.refl w3.heap.size w3).drew.trans hb4))
          | (go_at_call 47; refine (HC4.out _ a4 cp4 (IR.own hown4).2 (own_cap hown4).1 (own_cap hown4).2).mono ?_; rintro e w5 ⟨g5, cp5, rfl, hb5, hown5⟩
             have hbel5 := hbel4.trans (hb5.mono hbel4.size)
             have hown35 := keptN hown34 hb5))
        all_goals
          have HST := Lib.hid (SR.own hown35).2
          have HSU := Lib.hid (SR.own hown5).2
          have hTx : ∀ x, x ≤ q → x < T.length := fun x h => by omega
          have HTX := Lib.hid hTx
          have HUX := Lib.hid hUx
          clear hb3 hb4 hb5 hown3 hown4 hown34 hown35 hown5 hbel3 hbel4 hcj3 hcj4 hTx hUx hcj hbw hq
          go_wp2
          go_loopw [15] (fun v wr => ∃ x : Nat, v = .int .i64 (x : Int) ∧ k ≤ x ∧ x ≤ q ∧ Below w5.heap.size w5 wr)
            (fun v _ => (intOf v).toNat)
          case atStart => exact ⟨q, rfl, hk, Nat.le_refl _, Below.refl _ _⟩
          case round =>
            obtain ⟨x, rfl, hkx, hxq, hbl⟩ := hrel
            have hcT : wr.cell? ⟨g3, x, none⟩ = some (.string (T.getD x ByteArray.empty)) := by
              obtain ⟨b', off', he, _, hc⟩ := (HST.out.below hbl).2 (by omega)
              cases he
              have := hc x (HTX.out x hxq)
              rw [Nat.zero_add] at this
              exact this
            have hcU : wr.cell? ⟨g5, x, none⟩ = some (.string (U.getD x ByteArray.empty)) := by
              obtain ⟨b', off', he, _, hc⟩ := (HSU.out.below hbl).2 (by have := HUX.out x hxq; omega)
              cases he
              have := hc x (HUX.out x hxq)
              rw [Nat.zero_add] at this
              exact this
            have hxT := HTX.out x hxq
            have hxU := HUX.out x hxq
            by_cases hx : x = k
            · subst hx
              obtain ⟨tT, HtT⟩ : ∃ t, Hid (T.getD x ByteArray.empty = t) := ⟨_, Lib.hid rfl⟩
              obtain ⟨tU, HtU⟩ : ∃ t, Hid (U.getD x ByteArray.empty = t) := ⟨_, Lib.hid rfl⟩
              have hkd := HKD.out
              rw [HtT.out] at hcT hkd
              rw [HtU.out] at hcU hkd
              have hq := ba_ne hkd
              have HV1 : Hid (tT = T.getD x ByteArray.empty) := Lib.hid HtT.out.symm
              have HV2 : Hid (tU = U.getD x ByteArray.empty) := Lib.hid HtU.out.symm
              clear hkd
              have hbl2 := hbel5.trans (hbl.mono hbel5.size)
              clear hbel5 hbl
              go_wp2
              go_quiet (fail)
              go_wp2
              go_quiet (fail)
              go_wp2
              go_ret3
              exact ⟨by rw [← HV1.out, ← HV2.out]; rfl, below_drewN (below_drewN hbl2 _) _⟩
            · have heq := HKU.out x (by omega) hxq
              obtain ⟨tT, HtT⟩ : ∃ t, Hid (T.getD x ByteArray.empty = t) := ⟨_, Lib.hid rfl⟩
              rw [← heq, HtT.out] at hcU
              rw [HtT.out] at hcT
              have hq : (tT.toList == tT.toList) = true := by simp
              clear heq
              have hx1 : (x : Int) - 1 = ((x - 1 : Nat) : Int) := by omega
              go_wp2
              go_quiet (fail)
              go_wp2
              go_roundw
              case rel => exact ⟨x - 1, by simp, by omega, by omega, below_drewN hbl _⟩
              case measure => simp [intOf]; omega
    · have HA : Hid (Me.colA ss i s p = .tuple #[.string ⟨#[]⟩, .string ⟨#[]⟩, .bool false]) := Lib.hid (Me.colA_no fun h => hg (by have := h.2.1; rw [HRR.out, hl] at this; exact this))
      rw [HA.out]
      have HG := Lib.hid hg
      clear hs hz hz' hp hg
      go_enter Try.func22, Try.ntmps22
      go_wp2_with fail
      refine HC0.out.mono ?_
      rintro e w1 ⟨rfl, hb1⟩
      go_wp2_with fail
      refine (HC1.out _ hb1).mono ?_
      rintro e w2 ⟨b2, rfl, hg2, hb2⟩
      obtain rfl : b2 = false := by
        rw [Bool.eq_false_iff]
        exact fun h => HG.out (hg2.1 h)
      have hbel := hb1.trans (hb2.mono hb1.size)
      clear hb1 hb2 hg2
      go_wp2
      go_ret3
      exact ⟨rfl, hbel⟩
  · have HR : Hid (Me.rootA ss = .tuple #[.int .i64 0, .bool false]) := Lib.hid (if_neg (by omega))
    have HC0 : Hid (Calls Try.prog 19 #[.slice a n cap] w fun e w' => e = .returned (.tuple #[.int .i64 0, .bool false]) ∧ Below w.heap.size w w') := Lib.hid (by
      have := implMerkleRoot_any a n cap ss w hs hcap hcap2 hz'
      rw [HR.out] at this
      exact this)
    have HA : Hid (Me.colA ss i s p = .tuple #[.string ⟨#[]⟩, .string ⟨#[]⟩, .bool false]) := Lib.hid (Me.colA_no fun h => hn (by have := h.1; omega))
    rw [HA.out]
    clear hs hz hz' hp
    go_enter Try.func22, Try.ntmps22
    go_wp2_with fail
    refine HC0.out.mono ?_
    rintro e w1 ⟨rfl, hb1⟩
    go_wp2
    go_ret3
    exact ⟨rfl, hb1⟩
end Go.Proofs.Ytdgepneaeieogac
