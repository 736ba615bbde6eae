/-
  Contracts of the model's chapter 3: proofs, checks.
-/
import Derived.Test.YtdgepneaeieogabMs
namespace Go.Proofs.Ytdgepneaeieogab
open Go.RowKit

/-- A list of numbers that the call owns, and whether there is one. -/
def OwnIB (base : Nat) (p : List Int) (ok : Bool) (w : World) (e : Ending) (w' : World) : Prop :=
  ∃ a cp, e = .returned (.tuple #[.slice a p.length cp, .bool ok]) ∧ Below base w w' ∧ w'.ownsRow base 3 1 (.slice a p.length cp) p.length (p.map (Value.int .i64))
def Me.proofOk (ss : List ByteArray) (i : Int) : Prop := (1 ≤ ss.length ∧ ss.length ≤ 32) ∧ 0 ≤ i ∧ i < ss.length
instance (ss : List ByteArray) (i : Int) : Decidable (Me.proofOk ss i) := by unfold Me.proofOk; infer_instance
def Me.proofL (ss : List ByteArray) (i : Int) : List Int := if Me.proofOk ss i then Me.proof ss i.toNat else []
def Me.proofB (ss : List ByteArray) (i : Int) : Bool := decide (Me.proofOk ss i)

set_option maxHeartbeats 800000 in
theorem specMerkleProof_any (a : Option Addr) (n cap : Nat) (ss : List ByteArray) (i : Int) (w : World) (hs : SR w a n ss) (hcap : n ≤ cap) (hcap2 : cap ≤ 9223372036854775807) (hz : ∀ s ∈ ss, s.size ≤ 4611686018427387904) :
    Calls Try.prog 19 #[.slice a n cap, .int .i64 i] w (OwnIB w.heap.size (Me.proofL ss i) (Me.proofB ss i) w) := by
  have hl := hs.1
  have HNIL : Hid (∀ W : World, OwnIB W.heap.size [] false W (.returned (.tuple #[.slice none 0 0, .bool false])) W) := Lib.hid fun W => ⟨none, 0, rfl, Below.refl _ _, ⟨rfl, .inl ⟨rfl, rfl⟩⟩⟩
  by_cases h : 1 ≤ n ∧ n ≤ 32
  · have HI := Lib.hid (In.yes (n := (n : Int)) (a := 1) (b := 32) (by omega) (by omega))
    by_cases hi : 0 ≤ i ∧ i < n
    · have hok : Me.proofOk ss i := ⟨by omega, by omega⟩
      have HP : Hid (Me.proofL ss i = Me.proof ss i.toNat) := Lib.hid (if_pos hok)
      have HB : Hid (Me.proofB ss i = true) := Lib.hid (decide_eq_true hok)
      have HJ := Lib.hid (In.yes (n := i) (a := 0) (b := (n : Int) - 1) (by omega) (by omega))
      rw [HP.out, HB.out]
      obtain ⟨j, rfl⟩ := Int.eq_ofNat_of_zero_le hi.1
      obtain ⟨p, HPP⟩ : ∃ p, Hid (Me.proof ss ((j : Int).toNat) = p) := ⟨_, Lib.hid rfl⟩
      rw [HPP.out]
      obtain ⟨b, off, rfl, _, _⟩ := hs.2 (by omega)
      have HC : Hid (Calls Try.prog 44 #[.slice (some ⟨b, off, none⟩) n cap, .int .i64 (j : Int)] w (OwnI w.heap.size p w)) := Lib.hid (by
        have := l3Proof_any n b off cap j ss w hs (by omega) (by omega) (by omega) hcap hcap2 hz
        rw [show j = (j : Int).toNat by omega, HPP.out] at this
        exact this)
      clear hs hz hok
      go_enter Try.func19, Try.ntmps19
      go_wp2_with fail
      refine (l6In_any _ _ _ _).mono ?_
      rw [HI.out]
      rintro e w1 ⟨rfl, rfl⟩
      go_wp2_with fail
      refine (l6In_any _ _ _ _).mono ?_
      rw [HJ.out]
      rintro e w1 ⟨rfl, rfl⟩
      go_wp2_with fail
      refine HC.out.mono ?_
      rintro e w2 ⟨g, cp, rfl, hb, hown⟩
      go_wp2
      go_ret2
      exact ⟨_, cp, rfl, hb, hown⟩
    · have hno : ¬ Me.proofOk ss i := fun h => hi (by have := h.2; omega)
      have HP : Hid (Me.proofL ss i = []) := Lib.hid (if_neg hno)
      have HB : Hid (Me.proofB ss i = false) := Lib.hid (decide_eq_false hno)
      have HJ := Lib.hid (In.no (n := i) (a := 0) (b := (n : Int) - 1) (by omega))
      rw [HP.out, HB.out]
      clear hs hz hno
      go_enter Try.func19, Try.ntmps19
      go_wp2_with fail
      refine (l6In_any _ _ _ _).mono ?_
      rw [HI.out]
      rintro e w1 ⟨rfl, rfl⟩
      go_wp2_with fail
      refine (l6In_any _ _ _ _).mono ?_
      rw [HJ.out]
      rintro e w1 ⟨rfl, rfl⟩
      go_wp2
      go_ret2
      exact HNIL.out _
  · have hno : ¬ Me.proofOk ss i := fun h' => h (by have := h'.1; omega)
    have HP : Hid (Me.proofL ss i = []) := Lib.hid (if_neg hno)
    have HB : Hid (Me.proofB ss i = false) := Lib.hid (decide_eq_false hno)
    have HI := Lib.hid (In.no (n := (n : Int)) (a := 1) (b := 32) (by omega))
    rw [HP.out, HB.out]
    clear hs hz hno
    go_enter Try.func19, Try.ntmps19
    go_wp2_with fail
    refine (l6In_any _ _ _ _).mono ?_
    rw [HI.out]
    rintro e w1 ⟨rfl, rfl⟩
    go_wp2
    go_ret2
    exact HNIL.out _

set_option maxRecDepth 100000 in
set_option maxHeartbeats 800000 in
theorem l3Steps_any : ∀ (n i : Nat) (w : World), 1 ≤ n → n ≤ 64 → i < n → Calls Try.prog 48 #[.int .i64 (n : Int), .int .i64 (i : Int)] w fun e w' => e = .returned (.int .i64 (Me.steps n i : Int)) ∧ w' = w := by
  intro n
  induction n using Nat.strongRecOn with
  | ind n ih =>
    intro i w h1 h64 hin
    by_cases hone : n = 1
    · subst hone
      have HS : Hid (Me.steps 1 i = 0) := Lib.hid (Me.steps_one (by omega))
      rw [HS.out]
      clear ih
      go_enter Try.func48, Try.ntmps48
      go_wp2
      go_ret
      exact ⟨rfl, rfl⟩
    · have hh1 := Me.half_lt n (by omega)
      have hh0 := Me.half_pos n
      have hne : ((n : Int) == 1) = false := by simp; omega
      obtain ⟨k, HK⟩ : ∃ k, Hid (Me.half n = k) := ⟨_, Lib.hid rfl⟩
      rw [HK.out] at hh0 hh1
      by_cases hik : i < k
      · have HS : Hid (Me.steps n i = 1 + Me.steps k i) := Lib.hid (by rw [Me.steps_left (by omega) (by rw [HK.out]; exact hik), HK.out])
        obtain ⟨m, HM⟩ : ∃ m, Hid (Me.steps k i = m) := ⟨_, Lib.hid rfl⟩
        have hm := Me.steps_le k i
        rw [HM.out] at hm
        have HC : Hid (∀ W, Calls Try.prog 48 #[.int .i64 (k : Int), .int .i64 (i : Int)] W fun e w' => e = .returned (.int .i64 (m : Int)) ∧ w' = W) := Lib.hid fun W => by have := ih k hh1 i W hh0 (by omega) hik; rw [HM.out] at this; exact this
        rw [HS.out, HM.out]
        clear ih
        go_enter Try.func48, Try.ntmps48
        go_wp2_with fail
        refine (l3Half_any n _ h64).mono ?_
        rw [HK.out]
        rintro e w1 ⟨rfl, rfl⟩
        go_wp2_with fail
        refine (HC.out _).mono ?_
        rintro e w2 ⟨rfl, rfl⟩
        go_wp2
        go_ret
        exact ⟨by simp, rfl⟩
      · have HS : Hid (Me.steps n i = 1 + Me.steps (n - k) (i - k)) := Lib.hid (by rw [Me.steps_right (by omega) (by rw [HK.out]; exact hik), HK.out])
        obtain ⟨m, HM⟩ : ∃ m, Hid (Me.steps (n - k) (i - k) = m) := ⟨_, Lib.hid rfl⟩
        have hm := Me.steps_le (n - k) (i - k)
        rw [HM.out] at hm
        have HC : Hid (∀ W, Calls Try.prog 48 #[.int .i64 ((n : Int) - k), .int .i64 ((i : Int) - k)] W fun e w' => e = .returned (.int .i64 (m : Int)) ∧ w' = W) := Lib.hid fun W => by
          have := ih (n - k) (by omega) (i - k) W (by omega) (by omega) (by omega)
          rw [HM.out, show ((n - k : Nat) : Int) = (n : Int) - k by omega, show ((i - k : Nat) : Int) = (i : Int) - k by omega] at this
          exact this
        rw [HS.out, HM.out]
        clear ih
        go_enter Try.func48, Try.ntmps48
        go_wp2_with fail
        refine (l3Half_any n _ h64).mono ?_
        rw [HK.out]
        rintro e w1 ⟨rfl, rfl⟩
        go_wp2_with fail
        refine (HC.out _).mono ?_
        rintro e w2 ⟨rfl, rfl⟩
        go_wp2
        go_ret
        exact ⟨by simp, rfl⟩

set_option maxRecDepth 100000 in
set_option maxHeartbeats 800000 in
theorem l3Digests_any (a : Option Addr) (n cap : Nat) (zs : List Int) (w : World) (hs : IR w a n zs) (hlen : n ≤ 9223372036854775807) :
    Calls Try.prog 31 #[.slice a n cap] w fun e w' => ∃ b, e = .returned (.bool b) ∧ (b = true ↔ Me.digests zs) ∧ w' = w := by
  have h1 := hs.1
  have HD : Hid (Me.digests zs ↔ ∀ j, j < n → 0 ≤ zs.getD j 0 ∧ zs.getD j 0 ≤ 4294967295) := Lib.hid ⟨fun h j hj => h _ (getD_memI (by omega)), fun h d hd => by
    obtain ⟨j, hj, rfl⟩ := List.getElem_of_mem hd
    have := h j (by omega)
    rwa [List.getD_eq_getElem?_getD, List.getElem?_eq_getElem hj] at this⟩
  go_enter Try.func31, Try.ntmps31
  go_wp2
  go_loopw [3] (fun i wr => ∃ k : Nat, k ≤ n ∧ i = .int .i64 (k : Int) ∧ (∀ j, j < k → 0 ≤ zs.getD j 0 ∧ zs.getD j 0 ≤ 4294967295) ∧ wr = w)
    (fun i _ => n - (intOf i).toNat)
  case atStart => exact ⟨0, by omega, rfl, fun j hj => absurd hj (by omega), rfl⟩
  case round =>
    obtain ⟨k, hk, rfl, hsm, hw⟩ := hrel
    subst hw
    have HM := Lib.hid hsm
    clear hsm
    by_cases hlt : k < n
    · obtain ⟨g, off, rfl, _, hc⟩ := hs.2 (by omega)
      have hck := hc k hlt
      clear hc hs
      obtain ⟨t, HT⟩ : ∃ t, Hid (zs.getD k 0 = t) := ⟨_, Lib.hid rfl⟩
      rw [HT.out] at hck
      by_cases hin : 0 ≤ t ∧ t ≤ 4294967295
      · have HI := Lib.hid (In.yes hin.1 hin.2)
        go_wp2_with fail
        refine (l6In_any _ _ _ _).mono ?_
        rw [HI.out]
        rintro e w1 ⟨rfl, rfl⟩
        go_wp2
        go_roundw
        case rel =>
          refine ⟨k + 1, by omega, by simp, fun j hj => ?_, trivial⟩
          by_cases hjk : j < k
          · exact HM.out j hjk
          · have : j = k := by omega
            rw [this, HT.out]
            exact hin
        case measure => simp [intOf]; omega
      · have HI := Lib.hid (In.no (n := t) (a := 0) (b := 4294967295) (by omega))
        have HNO : Hid (¬ Me.digests zs) := Lib.hid fun h => hin (by have := HD.out.1 h k hlt; rw [HT.out] at this; exact this)
        go_wp2_with fail
        refine (l6In_any _ _ _ _).mono ?_
        rw [HI.out]
        rintro e w1 ⟨rfl, rfl⟩
        go_wp2
        go_ret
        exact ⟨_, rfl, ⟨fun h => (Bool.noConfusion h), fun h => absurd h HNO.out⟩, rfl⟩
    · have HY : Hid (Me.digests zs) := Lib.hid (HD.out.2 fun j hj => HM.out j (by omega))
      clear hs
      go_wp2
      go_ret
      exact ⟨_, rfl, ⟨fun _ => HY.out, fun _ => rfl⟩, rfl⟩

theorem IR.front {w : World} {a : Option Addr} {n : Nat} {zs : List Int} (h : IR w a n zs) (k : Nat) (hk : k ≤ n) : IR w a k (zs.take k) := by
  refine ⟨by rw [List.length_take, h.1]; omega, fun h0 => ?_⟩
  obtain ⟨b, off, he, hb, hc⟩ := h.2 (by omega)
  exact ⟨b, off, he, hb, fun i hi => by rw [getD_takeI hi]; exact hc i (by omega)⟩
theorem slice_frontI (b off n cap k : Nat) (hk : k ≤ cap) (W : World) :
    (Instr.slice 22 (.slice (some ⟨b, off, none⟩) n cap) none (some (.int .i64 (k : Int))) none).run Try.prog W = .ok (.slice (some ⟨b, off, none⟩) k cap) W := by
  have e1 : (0 : Int) ≤ (k : Int) := by omega
  simp [Instr.slice, Instr.sliceBounds, Instr.sliceBound, asIntOf, run_underlying Try.underlying22, e1, hk, Addr.add]
theorem Me.told_size (n i : Nat) (s : ByteArray) (p : List Int) : (Me.told n i s p).size ≤ s.size + 9 := by
  by_cases h : n ≤ 1
  · rw [Me.told_one h, Me.leaf_size]; omega
  · by_cases hi : i < Me.half n
    · rw [Me.told_left (by omega) hi, Dg.pair_size]; omega
    · rw [Me.told_right (by omega) hi, Dg.pair_size]; omega
theorem Me.digests_take {p : List Int} (h : Me.digests p) (k : Nat) : Me.digests (p.take k) := fun d hd => h d (List.mem_of_mem_take hd)

set_option maxRecDepth 100000 in
set_option maxHeartbeats 1600000 in
theorem l3Told_stepR (n i k q m b off cap : Nat) (s t : ByteArray) (x d : Int) (w : World) (hne : ((n : Int) == 1) = false) (h64 : n ≤ 64) (hk : Me.half n = k) (hik : k ≤ i) (hin : i < n) (hq : (m : Int) - 1 = (q : Int)) (hqm : q < m) (hqc : m ≤ cap) (hcap : cap ≤ 9223372036854775807)
    (hcq : w.cell? ⟨b, off + q, none⟩ = some (.int .i64 x)) (hbw : b < w.heap.size) (hd : Dg.of t = d) (hdq : 0 ≤ x ∧ x ≤ 4294967295) (hts : t.size ≤ 9223372036854775807)
    (HC : Hid (∀ W, Below w.heap.size w W → Calls Try.prog 49 #[.int .i64 ((n : Int) - k), .int .i64 ((i : Int) - k), .string s, .slice (some ⟨b, off, none⟩) q cap] W fun e w' => e = .returned (.string t) ∧ Below W.heap.size W w')) :
    Calls Try.prog 49 #[.int .i64 (n : Int), .int .i64 (i : Int), .string s, .slice (some ⟨b, off, none⟩) m cap] w fun e w' => e = .returned (.string (Dg.pair x d)) ∧ Below w.heap.size w w' := by
  have hdb := Dg.of_bd t
  rw [hd] at hdb
  have HK := Lib.hid hk
  have HD := Lib.hid hd
  have hsl := slice_frontI b off m cap q (by omega)
  have hwr1 : IntKind.i64.wrap ((i : Int) - (k : Int)) = (i : Int) - (k : Int) := IntWalk.i64_in _ (by omega)
  have hwr2 : IntKind.i64.wrap ((n : Int) - (k : Int)) = (n : Int) - (k : Int) := IntWalk.i64_in _ (by omega)
  clear hk hd
  go_enter Try.func49, Try.ntmps49
  go_wp2_with fail
  refine (l3Half_any n _ h64).mono ?_
  rw [HK.out]
  rintro e w1 ⟨rfl, rfl⟩
  go_wp2
  try rw [hq]
  clear hin hik h64 hne hq hcap hqc
  go_region_with (first
    | (go_at_call 49; refine (HC.out _ ((Below.refl w1.heap.size w1).drew)).mono ?_; rintro e w2 ⟨rfl, hb2⟩
       have hb12 := (Below.refl w1.heap.size w1).drew.trans hb2
       have hcq2 : w2.cell? ⟨b, off + q, none⟩ = some (.int .i64 x) := (World.cell?_of_block (w := w1) (a := ⟨b, off + q, none⟩) (hb12.block b hbw)).trans hcq)
    | (go_at_call 32; refine (specDigest_any t _ hts).mono ?_; rw [HD.out]; rintro e w3 ⟨rfl, hb3⟩
       have hb13 := hb12.trans (hb3.mono hb12.size)
       have hcq3 : w3.cell? ⟨b, off + q, none⟩ = some (.int .i64 x) := (World.cell?_of_block (w := w1) (a := ⟨b, off + q, none⟩) (hb13.block b hbw)).trans hcq)
    | (go_at_call 33; refine (l2Pair_any x d _ hdq.1 hdq.2 hdb.1 hdb.2).mono ?_; rintro e w4 ⟨rfl, hb4⟩
       have hb14 := hb13.trans (hb4.mono hb13.size)))
  all_goals
    go_wp2
    go_ret
    exact ⟨rfl, hb14⟩

set_option maxRecDepth 100000 in
set_option maxHeartbeats 1600000 in
theorem l3Told_any : ∀ (n i : Nat) (s : ByteArray) (a : Option Addr) (m cap : Nat) (p : List Int) (w : World), 1 ≤ n → n ≤ 64 → i < n → s.size ≤ 4611686018427387000 → IR w a m p → m = Me.steps n i → m ≤ cap → cap ≤ 9223372036854775807 → Me.digests p →
    Calls Try.prog 49 #[.int .i64 (n : Int), .int .i64 (i : Int), .string s, .slice a m cap] w fun e w' => e = .returned (.string (Me.told n i s p)) ∧ Below w.heap.size w w' := by
  intro n
  induction n using Nat.strongRecOn with
  | ind n ih =>
    intro i s a m cap p w h1 h64 hin hs hp hm hcap hcap2 hdg
    by_cases hone : n = 1
    · subst hone
      have HS : Hid (Me.told 1 i s p = Me.leaf s) := Lib.hid (Me.told_one (by omega))
      rw [HS.out]
      clear ih hp hdg hm
      go_enter Try.func49, Try.ntmps49
      go_wp2_with fail
      refine (l3Leaf_any s _ (by omega)).mono ?_
      rintro e w1 ⟨rfl, hb⟩
      go_wp2
      go_ret
      exact ⟨rfl, hb⟩
    · have hh1 := Me.half_lt n (by omega)
      have hh0 := Me.half_pos n
      have hne : ((n : Int) == 1) = false := by simp; omega
      have hpl := hp.1
      obtain ⟨k, HK⟩ : ∃ k, Hid (Me.half n = k) := ⟨_, Lib.hid rfl⟩
      rw [HK.out] at hh0 hh1
      by_cases hik : i < k
      · rw [Me.steps_left (by omega) (by rw [HK.out]; exact hik), HK.out] at hm
        obtain ⟨q, HQ⟩ : ∃ q, Hid (Me.steps k i = q) := ⟨_, Lib.hid rfl⟩
        rw [HQ.out] at hm
        have hq : (m : Int) - 1 = (q : Int) := by omega
        obtain ⟨b, off, rfl, hbw, hc⟩ := hp.2 (by omega)
        have hcq := hc q (by omega)
        have hdq := hdg _ (getD_memI (zs := p) (i := q) (by omega))
        obtain ⟨x, HX⟩ : ∃ x, Hid (p.getD q 0 = x) := ⟨_, Lib.hid rfl⟩
        rw [HX.out] at hcq hdq
        have HF := Lib.hid (hp.front q (by omega))
        obtain ⟨t, HT⟩ : ∃ t, Hid (Me.told k i s (p.take q) = t) := ⟨_, Lib.hid rfl⟩
        have hts := Me.told_size k i s (p.take q)
        rw [HT.out] at hts
        have HC : Hid (∀ W, IR W (some ⟨b, off, none⟩) q (p.take q) → Calls Try.prog 49 #[.int .i64 (k : Int), .int .i64 (i : Int), .string s, .slice (some ⟨b, off, none⟩) q cap] W fun e w' => e = .returned (.string t) ∧ Below W.heap.size W w') :=
          Lib.hid fun W h => by have := ih k hh1 i s (some ⟨b, off, none⟩) q cap (p.take q) W hh0 (by omega) hik hs h HQ.out.symm (by omega) hcap2 (Me.digests_take hdg q); rw [HT.out] at this; exact this
        obtain ⟨d, HD⟩ : ∃ d, Hid (Dg.of t = d) := ⟨_, Lib.hid rfl⟩
        have hd := Dg.of_bd t
        rw [HD.out] at hd
        have HS : Hid (Me.told n i s p = Dg.pair d x) := Lib.hid (by
          rw [Me.told_left (by omega) (by rw [HK.out]; exact hik), hpl, show m - 1 = q by omega, HK.out, HT.out, HD.out, HX.out])
        rw [HS.out]
        have hsl := slice_frontI b off m cap q (by omega)
        clear ih hp hdg hc hpl
        go_enter Try.func49, Try.ntmps49
        go_wp2_with fail
        refine (l3Half_any n _ h64).mono ?_
        rw [HK.out]
        rintro e w1 ⟨rfl, rfl⟩
        go_wp2
        try rw [hq]
        go_region_with (first
          | (go_at_call 49; refine (HC.out _ (by exact HF.out)).mono ?_; rintro e w2 ⟨rfl, hb2⟩
             have hb12 := (Below.refl w1.heap.size w1).drew.trans hb2
             have hcq2 : w2.cell? ⟨b, off + q, none⟩ = some (.int .i64 x) := (World.cell?_of_block (w := w1) (a := ⟨b, off + q, none⟩) (hb12.block b hbw)).trans hcq)
          | (go_at_call 32; refine (specDigest_any t _ (by omega)).mono ?_; rw [HD.out]; rintro e w3 ⟨rfl, hb3⟩
             have hb13 := hb12.trans (hb3.mono hb12.size)
             have hcq3 : w3.cell? ⟨b, off + q, none⟩ = some (.int .i64 x) := (World.cell?_of_block (w := w1) (a := ⟨b, off + q, none⟩) (hb13.block b hbw)).trans hcq)
          | (go_at_call 33; refine (l2Pair_any d x _ hd.1 hd.2 hdq.1 hdq.2).mono ?_; rintro e w4 ⟨rfl, hb4⟩
             have hb14 := hb13.trans (hb4.mono hb13.size)))
        all_goals
          go_wp2
          go_ret
          exact ⟨rfl, hb14⟩
      · rw [Me.steps_right (by omega) (by rw [HK.out]; exact hik), HK.out] at hm
        obtain ⟨q, HQ⟩ : ∃ q, Hid (Me.steps (n - k) (i - k) = q) := ⟨_, Lib.hid rfl⟩
        rw [HQ.out] at hm
        have hq : (m : Int) - 1 = (q : Int) := by omega
        obtain ⟨b, off, rfl, hbw, hc⟩ := hp.2 (by omega)
        have hcq := hc q (by omega)
        have hdq := hdg _ (getD_memI (zs := p) (i := q) (by omega))
        obtain ⟨x, HX⟩ : ∃ x, Hid (p.getD q 0 = x) := ⟨_, Lib.hid rfl⟩
        rw [HX.out] at hcq hdq
        have HF := Lib.hid (hp.front q (by omega))
        obtain ⟨t, HT⟩ : ∃ t, Hid (Me.told (n - k) (i - k) s (p.take q) = t) := ⟨_, Lib.hid rfl⟩
        have hts := Me.told_size (n - k) (i - k) s (p.take q)
        rw [HT.out] at hts
        have HC : Hid (∀ W, Below w.heap.size w W → Calls Try.prog 49 #[.int .i64 ((n : Int) - k), .int .i64 ((i : Int) - k), .string s, .slice (some ⟨b, off, none⟩) q cap] W fun e w' => e = .returned (.string t) ∧ Below W.heap.size W w') :=
          Lib.hid fun W h => by have := ih (n - k) (by omega) (i - k) s (some ⟨b, off, none⟩) q cap (p.take q) W (by omega) (by omega) (by omega) hs (HF.out.below h) HQ.out.symm (by omega) hcap2 (Me.digests_take hdg q); rw [HT.out, show ((n - k : Nat) : Int) = (n : Int) - k by omega, show ((i - k : Nat) : Int) = (i : Int) - k by omega] at this; exact this
        obtain ⟨d, HD⟩ : ∃ d, Hid (Dg.of t = d) := ⟨_, Lib.hid rfl⟩
        have hd := Dg.of_bd t
        rw [HD.out] at hd
        rw [Me.told_right (by omega) (by rw [HK.out]; exact hik), hpl, show m - 1 = q by omega, HK.out, HT.out, HD.out, HX.out]
        exact l3Told_stepR n i k q m b off cap s t x d w hne h64 HK.out (by omega) hin hq (by omega) hcap hcap2 hcq hbw HD.out hdq (by omega) HC
end Go.Proofs.Ytdgepneaeieogab
