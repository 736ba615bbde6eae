/-
  Contracts of the model's chapter 3: nodes, roots.
-/
import Derived.Test.YtdgepneaeieogacMe
import Derived.Test.YtdgepneaeieogacIl
import Derived.Deep.RegionLaw
import Derived.Deep.RegionWith
import Derived.Laws.Closers25b
import Derived.Outline
namespace Go.Proofs.Ytdgepneaeieogac
open Go.RowKit

/-- A list's first k strings, and the others. -/
def cutAt (b off k cap : Nat) : Addr := if cap = k then ⟨b, off, none⟩ else ⟨b, off + k, none⟩
theorem SR.front {w : World} {a : Option Addr} {n : Nat} {ss : List ByteArray} (h : SR w a n ss) (k : Nat) (hk : k ≤ n) : SR w a k (ss.take k) := by
  refine ⟨by rw [List.length_take, h.1]; omega, fun h0 => ?_⟩
  obtain ⟨b, off, he, hb, hc⟩ := h.2 (by omega)
  exact ⟨b, off, he, hb, fun i hi => by rw [getD_take hi]; exact hc i (by omega)⟩
theorem SR.back {w : World} {b off n cap : Nat} {ss : List ByteArray} (h : SR w (some ⟨b, off, none⟩) n ss) (k : Nat) (hk : k ≤ n) (hcap : n ≤ cap) : SR w (some (cutAt b off k cap)) (n - k) (ss.drop k) := by
  refine ⟨by rw [List.length_drop, h.1], fun h0 => ?_⟩
  obtain ⟨b', off', he, hb, hc⟩ := h.2 (by omega)
  cases he
  unfold cutAt
  rw [if_neg (by omega)]
  refine ⟨b, off + k, rfl, hb, fun i hi => ?_⟩
  rw [Me.getD_drop', Nat.add_assoc]
  exact hc (k + i) (by omega)
theorem slice_front (b off n cap k : Nat) (hk : k ≤ cap) (W : World) :
    (Instr.slice 33 (.slice (some ⟨b, off, none⟩) n cap) none (some (.int .i64 (k : Int))) none).run Try.prog W = .ok (.slice (some ⟨b, off, none⟩) k cap) W := by
  have e1 : (0 : Int) ≤ (k : Int) := by omega
  simp [Instr.slice, Instr.sliceBounds, Instr.sliceBound, asIntOf, run_underlying Try.underlying33, e1, hk, Addr.add]
theorem slice_back (b off n cap k : Nat) (hk : k ≤ n) (W : World) :
    (Instr.slice 33 (.slice (some ⟨b, off, none⟩) n cap) (some (.int .i64 (k : Int))) none none).run Try.prog W = .ok (.slice (some (cutAt b off k cap)) (n - k) (cap - k)) W := by
  have e1 : (0 : Int) ≤ (k : Int) := by omega
  simp [Instr.slice, Instr.sliceBounds, Instr.sliceBound, asIntOf, run_underlying Try.underlying33, e1, hk]
  unfold cutAt
  by_cases hc : cap = k
  · simp [hc]
  · by_cases hk0 : k = 0 <;> simp [hc, Addr.add, hk0]

set_option maxHeartbeats 400000 in
theorem l3Leaf_any (s : ByteArray) (w : World) (hs : s.size ≤ 4611686018427387904) :
    Calls Try.prog 35 #[.string s] w fun e w' => e = .returned (.string (Me.leaf s)) ∧ Below w.heap.size w w' := by
  have hadd : ∀ W, (Op.stringOp .add (⟨#[0]⟩ : ByteArray) s).run Try.prog W = .ok (.string (Me.leaf s)) W :=
    fun W => run_string_add_sum (P := Try.prog) W _ _ (by have : (⟨#[0]⟩ : ByteArray).size = 1 := rfl; omega)
  go_enter Try.func35, Try.ntmps35
  go_wp2
  go_ret
  exact ⟨rfl, Below.refl _ _⟩
theorem Me.leaf_size (s : ByteArray) : (Me.leaf s).size = s.size + 1 := by
  unfold Me.leaf
  rw [ByteArray.size_append]
  have : (⟨#[0]⟩ : ByteArray).size = 1 := rfl
  omega

set_option maxHeartbeats 800000 in
theorem l3Half_any (n : Nat) (w : World) (h : n ≤ 64) :
    Calls Try.prog 41 #[.int .i64 (n : Int)] w fun e w' => e = .returned (.int .i64 (Me.half n : Int)) ∧ w' = w := by
  go_enter Try.func41, Try.ntmps41
  go_wp2
  go_loopw [3] (fun v wr => ∃ k : Nat, v = .int .i64 (k : Int) ∧ (k = 1 ∨ k = 2 ∨ k = 4 ∨ k = 8 ∨ k = 16 ∨ k = 32) ∧ (k = 1 ∨ k < n) ∧ wr = w)
    (fun v _ => n - (intOf v).toNat)
  case atStart => exact ⟨1, rfl, .inl rfl, .inl rfl, rfl⟩
  case round =>
    obtain ⟨k, rfl, hk, hkn, hw⟩ := hrel
    subst hw
    by_cases hlt : 2 * (k : Int) < (n : Int)
    · go_wp2
      go_roundw
      case rel => exact ⟨2 * k, by simp, by omega, .inr (by omega), trivial⟩
      case measure => simp [intOf]; omega
    · have HH : Hid (Me.half n = k) := by
        unfold Me.half
        have : (n ≤ 2 * k) := by omega
        show Me.half n = k
        unfold Me.half
        repeat' split
        all_goals omega
      go_wp2
      go_ret
      exact ⟨by rw [HH.out]; rfl, rfl⟩

set_option maxRecDepth 100000 in
set_option maxHeartbeats 1600000 in
theorem l3Root_any : ∀ (n : Nat) (b off cap : Nat) (ss : List ByteArray) (w : World), SR w (some ⟨b, off, none⟩) n ss → 1 ≤ n → n ≤ 64 → n ≤ cap → cap ≤ 9223372036854775807 → (∀ s ∈ ss, s.size ≤ 4611686018427387904) →
    Calls Try.prog 42 #[.slice (some ⟨b, off, none⟩) n cap] w fun e w' => e = .returned (.int .i64 (Me.root ss)) ∧ Below w.heap.size w w' := by
  intro n
  induction n using Nat.strongRecOn with
  | ind n ih =>
    intro b off cap ss w hs h1 h64 hcap hcap2 hz
    have hl := hs.1
    by_cases hone : n = 1
    · subst hone
      obtain ⟨b', off', he, hb, hc⟩ := hs.2 (by omega)
      cases he
      have hc0 := hc 0 (by omega)
      rw [Nat.add_zero] at hc0
      have hz0 := hz _ (getD_mem (ss := ss) (i := 0) (by omega))
      have HR : Hid (Me.root ss = Dg.of (Me.leaf (ss.getD 0 ByteArray.empty))) := by
        show Me.root ss = _
        unfold Me.root
        rw [Me.str_one (by omega)]
      rw [HR.out]
      obtain ⟨t, HT⟩ : ∃ t, Hid (ss.getD 0 ByteArray.empty = t) := ⟨_, Lib.hid rfl⟩
      rw [HT.out] at hc0 hz0 ⊢
      have hls := Me.leaf_size t
      clear hc hz hs ih
      go_enter Try.func42, Try.ntmps42
      go_wp2_with fail
      refine (l3Leaf_any t _ hz0).mono ?_
      rintro e w1 ⟨rfl, hb1⟩
      go_wp2_with fail
      refine (specDigest_any (Me.leaf t) _ (by omega)).mono ?_
      rintro e w2 ⟨rfl, hb2⟩
      go_wp2
      go_ret
      exact ⟨rfl, hb1.trans (hb2.mono hb1.size)⟩
    · have hh1 := Me.half_lt n (by omega)
      have hh0 := Me.half_pos n
      have hne : ((n : Int) == 1) = false := by simp; omega
      obtain ⟨k, HK⟩ : ∃ k, Hid (Me.half n = k) := ⟨_, Lib.hid rfl⟩
      rw [HK.out] at hh0 hh1
      have HF := Lib.hid (hs.front k (by omega))
      have HB := Lib.hid (hs.back k (by omega) hcap)
      have HZF : Hid (∀ s ∈ ss.take k, s.size ≤ 4611686018427387904) := Lib.hid fun s h => hz s (List.mem_of_mem_take h)
      have HZB : Hid (∀ s ∈ ss.drop k, s.size ≤ 4611686018427387904) := Lib.hid fun s h => hz s (List.mem_of_mem_drop h)
      obtain ⟨b2, off2, hcut⟩ : ∃ b2 off2, cutAt b off k cap = ⟨b2, off2, none⟩ := by
        unfold cutAt
        split
        · exact ⟨_, _, rfl⟩
        · exact ⟨_, _, rfl⟩
      have HC1 : Hid (∀ W, SR W (some ⟨b, off, none⟩) k (ss.take k) → Calls Try.prog 42 #[.slice (some ⟨b, off, none⟩) k cap] W fun e w' => e = .returned (.int .i64 (Me.root (ss.take k))) ∧ Below W.heap.size W w') :=
        Lib.hid fun W h => ih k hh1 b off cap _ W h hh0 (by omega) (by omega) hcap2 HZF.out
      have HC2 : Hid (∀ W, SR W (some ⟨b2, off2, none⟩) (n - k) (ss.drop k) → Calls Try.prog 42 #[.slice (some ⟨b2, off2, none⟩) (n - k) (cap - k)] W fun e w' => e = .returned (.int .i64 (Me.root (ss.drop k))) ∧ Below W.heap.size W w') :=
        Lib.hid fun W h => ih (n - k) (by omega) b2 off2 (cap - k) _ W h (by omega) (by omega) (by omega) (by omega) HZB.out
      have HSTR : Hid (Me.root ss = Dg.of (Dg.pair (Me.root (ss.take k)) (Me.root (ss.drop k)))) := by
        show Me.root ss = _
        unfold Me.root
        rw [Me.str_two (by omega), hl, HK.out]
        rfl
      rw [HSTR.out]
      have hr1 := Me.root_bd (ss.take k)
      have hr2 := Me.root_bd (ss.drop k)
      obtain ⟨r1, HR1⟩ : ∃ r, Hid (Me.root (ss.take k) = r) := ⟨_, Lib.hid rfl⟩
      obtain ⟨r2, HR2⟩ : ∃ r, Hid (Me.root (ss.drop k) = r) := ⟨_, Lib.hid rfl⟩
      rw [HR1.out] at hr1 HC1 ⊢
      rw [HR2.out] at hr2 HC2 ⊢
      have hsl1 := slice_front b off n cap k (by omega)
      have hsl2 := slice_back b off n cap k (by omega)
      rw [hcut] at hsl2 HB
      have HC1' := HC1
      clear hs hz ih HSTR hcut hl
      go_enter Try.func42, Try.ntmps42
      go_wp2_with fail
      refine (l3Half_any n _ h64).mono ?_
      rw [HK.out]
      rintro e w1 ⟨rfl, rfl⟩
      go_wp2
      go_region_with (first
        | (go_at_call_of 42 (Value.slice (some ⟨b, off, none⟩) k cap); refine (HC1.out _ (by exact HF.out)).mono ?_; rintro e w2 ⟨rfl, hb2⟩
           have HB2 := Lib.hid (HB.out.below ((Below.refl w1.heap.size w1).drew.trans hb2)))
        | (go_at_call_of 42 (Value.slice (some ⟨b2, off2, none⟩) (n - k) (cap - k)); refine (HC2.out _ HB2.out).mono ?_; rintro e w3 ⟨rfl, hb3⟩)
        | (go_at_call 36; refine (l2Pair_any r1 r2 _ hr1.1 hr1.2 hr2.1 hr2.2).mono ?_; rintro e w4 ⟨rfl, hb4⟩)
        | (go_at_call 34; refine (specDigest_any (Dg.pair r1 r2) _ (by rw [Dg.pair_size]; decide)).mono ?_; rintro e w5 ⟨rfl, hb5⟩))
      all_goals
        have hbel := (Below.refl w1.heap.size w1).drew.trans (hb2.trans ((hb3.trans ((hb4.trans (hb5.mono hb4.size)).mono hb3.size)).mono hb2.size))
        clear hb2 hb3 hb4 hb5
        go_wp2
        go_ret
        exact ⟨rfl, hbel⟩

/-- What MerkleRoot answers. -/
def Me.rootA (ss : List ByteArray) : Value := if 1 ≤ ss.length ∧ ss.length ≤ 32 then .tuple #[.int .i64 (Me.root ss), .bool true] else .tuple #[.int .i64 0, .bool false]
theorem In.yes {n a b : Int} (h0 : a ≤ n) (h1 : n ≤ b) : (decide (a ≤ n) && decide (n ≤ b)) = true := by simp; omega
theorem In.no {n a b : Int} (h : n < a ∨ b < n) : (decide (a ≤ n) && decide (n ≤ b)) = false := by simp; omega
set_option maxHeartbeats 800000 in
theorem specMerkleRoot_any (a : Option Addr) (n cap : Nat) (ss : List ByteArray) (w : World) (hs : SR w a n ss) (hcap : n ≤ cap) (hcap2 : cap ≤ 9223372036854775807) (hz : ∀ s ∈ ss, s.size ≤ 4611686018427387904) :
    Calls Try.prog 20 #[.slice a n cap] w fun e w' => e = .returned (Me.rootA ss) ∧ Below w.heap.size w w' := by
  have hl := hs.1
  by_cases h : 1 ≤ n ∧ n ≤ 32
  · have HR : Hid (Me.rootA ss = .tuple #[.int .i64 (Me.root ss), .bool true]) := by show Me.rootA ss = _; unfold Me.rootA; rw [if_pos (by omega)]
    rw [HR.out]
    have HI := Lib.hid (In.yes (n := (n : Int)) (a := 1) (b := 32) (by omega) (by omega))
    obtain ⟨b, off, rfl, _, _⟩ := hs.2 (by omega)
    have HS := Lib.hid hs
    have HZ := Lib.hid hz
    clear hs hz
    go_enter Try.func20, Try.ntmps20
    go_wp2_with fail
    refine (l6In_any _ _ _ _).mono ?_
    rw [HI.out]
    rintro e w1 ⟨rfl, rfl⟩
    go_wp2_with fail
    refine (l3Root_any n b off cap ss _ HS.out (by omega) (by omega) hcap hcap2 HZ.out).mono ?_
    rintro e w2 ⟨rfl, hb2⟩
    go_wp2
    go_ret2
    exact ⟨rfl, hb2⟩
  · have HR : Hid (Me.rootA ss = .tuple #[.int .i64 0, .bool false]) := by show Me.rootA ss = _; unfold Me.rootA; rw [if_neg (by omega)]
    rw [HR.out]
    have HI := Lib.hid (In.no (n := (n : Int)) (a := 1) (b := 32) (by omega))
    go_enter Try.func20, Try.ntmps20
    go_wp2_with fail
    refine (l6In_any _ _ _ _).mono ?_
    rw [HI.out]
    rintro e w1 ⟨rfl, rfl⟩
    go_wp2
    go_ret2
    exact ⟨rfl, Below.refl _ _⟩

theorem info_int : (Try.prog.info? 3).map (fun i => (i.zero, i.size, i.bytes)) = some (some (.int .i64 0), 1, 8) := by kernel_rfl
/-- A list of numbers that the call owns. -/
def OwnI (base : Nat) (p : List Int) (w : World) (e : Ending) (w' : World) : Prop :=
  ∃ g cp, e = .returned (.slice (some ⟨g, 0, none⟩) p.length cp) ∧ Below base w w' ∧ w'.ownsRow base 3 1 (.slice (some ⟨g, 0, none⟩) p.length cp) p.length (p.map (Value.int .i64))

set_option maxRecDepth 100000 in
set_option maxHeartbeats 1600000 in
theorem l3Proof_any : ∀ (n : Nat) (b off cap i : Nat) (ss : List ByteArray) (w : World), SR w (some ⟨b, off, none⟩) n ss → 1 ≤ n → n ≤ 64 → i < n → n ≤ cap → cap ≤ 9223372036854775807 → (∀ s ∈ ss, s.size ≤ 4611686018427387904) →
    Calls Try.prog 60 #[.slice (some ⟨b, off, none⟩) n cap, .int .i64 (i : Int)] w (OwnI w.heap.size (Me.proof ss i) w) := by
  intro n
  induction n using Nat.strongRecOn with
  | ind n ih =>
    intro b off cap i ss w hs h1 h64 hin hcap hcap2 hz
    have hl := hs.1
    obtain ⟨i0, hi, hz0, hz1, hz2⟩ := info_parts info_int
    by_cases hone : n = 1
    · subst hone
      have HP : Hid (Me.proof ss i = []) := Lib.hid (Me.proof_one (by omega))
      rw [HP.out]
      clear hs hz ih
      go_enter Try.func60, Try.ntmps60
      go_wp2
      go_ret
      exact ⟨w.heap.size, 0, rfl, (Below.refl _ _).alloc (Nat.le_refl _) _, World.ownsRow_made (e := 3) (size := 1) w #[] 0 (Nat.le_refl _) (by decide) rfl⟩
    · have hh1 := Me.half_lt n (by omega)
      have hh0 := Me.half_pos n
      have hne : ((n : Int) == 1) = false := by simp; omega
      obtain ⟨k, HK⟩ : ∃ k, Hid (Me.half n = k) := ⟨_, Lib.hid rfl⟩
      rw [HK.out] at hh0 hh1
      have HF := Lib.hid (hs.front k (by omega))
      have HB := Lib.hid (hs.back k (by omega) hcap)
      have HZF : Hid (∀ s ∈ ss.take k, s.size ≤ 4611686018427387904) := Lib.hid fun s h => hz s (List.mem_of_mem_take h)
      have HZB : Hid (∀ s ∈ ss.drop k, s.size ≤ 4611686018427387904) := Lib.hid fun s h => hz s (List.mem_of_mem_drop h)
      obtain ⟨b2, off2, hcut⟩ : ∃ b2 off2, cutAt b off k cap = ⟨b2, off2, none⟩ := by
        unfold cutAt
        split
        · exact ⟨_, _, rfl⟩
        · exact ⟨_, _, rfl⟩
      have hsl1 := slice_front b off n cap k (by omega)
      have hsl2 := slice_back b off n cap k (by omega)
      rw [hcut] at hsl2 HB
      by_cases hik : i < k
      · have HP : Hid (Me.proof ss i = Me.proof (ss.take k) i ++ [Me.root (ss.drop k)]) := by
          show Me.proof ss i = _
          rw [Me.proof_left (by omega) (by rw [hl, HK.out]; exact hik), hl, HK.out]
        rw [HP.out]
        obtain ⟨p, HPP⟩ : ∃ p, Hid (Me.proof (ss.take k) i = p) := ⟨_, Lib.hid rfl⟩
        obtain ⟨r, HRR⟩ : ∃ r, Hid (Me.root (ss.drop k) = r) := ⟨_, Lib.hid rfl⟩
        have HC1 : Hid (∀ W, SR W (some ⟨b, off, none⟩) k (ss.take k) → Calls Try.prog 60 #[.slice (some ⟨b, off, none⟩) k cap, .int .i64 (i : Int)] W (OwnI W.heap.size p W)) :=
          Lib.hid fun W h => by have := ih k hh1 b off cap i _ W h hh0 (by omega) hik (by omega) hcap2 HZF.out; rw [HPP.out] at this; exact this
        have HC2 : Hid (∀ W, SR W (some ⟨b2, off2, none⟩) (n - k) (ss.drop k) → Calls Try.prog 42 #[.slice (some ⟨b2, off2, none⟩) (n - k) (cap - k)] W fun e w' => e = .returned (.int .i64 r) ∧ Below W.heap.size W w') :=
          Lib.hid fun W h => by have := l3Root_any (n - k) b2 off2 (cap - k) _ W h (by omega) (by omega) (by omega) (by omega) HZB.out; rw [HRR.out] at this; exact this
        rw [HPP.out, HRR.out]
        obtain ⟨pr, HPR⟩ : ∃ x, Hid (p ++ [r] = x) := ⟨_, Lib.hid rfl⟩
        have hprl : pr.length = p.length + 1 := by rw [← HPR.out]; simp
        rw [HPR.out]
        have hplen : p.length ≤ 64 := by
          have := Me.steps_le k i
          have h2 := (Me.told_proof k (ss.take k) i (by rw [List.length_take]; omega) hik).2
          rw [HPP.out] at h2
          omega
        clear hs hz ih hcut hl
        go_enter Try.func60, Try.ntmps60
        go_wp2_with fail
        refine (l3Half_any n _ h64).mono ?_
        rw [HK.out]
        rintro e w1 ⟨rfl, rfl⟩
        go_wp2
        go_region_law (first
          | (rw [if_pos (by simp [Region.wanted])]; go_simp; go_at_call 60; refine (HC1.out _ (by exact HF.out)).mono ?_; rintro e w2 ⟨g2, cp2, rfl, hb2, hown2⟩
             have HB2 := Lib.hid (HB.out.below ((Below.refl w1.heap.size w1).drew.trans hb2)))
          | (rw [if_pos (by simp [Region.wanted])]; go_simp; go_at_call 42; refine (HC2.out _ HB2.out).mono ?_; rintro e w3 ⟨rfl, hb3⟩
             have hown3 := hown2.kept (row := none) ⟨hb3.os, hb3.tape, hb3.output, hb3.size, fun q hq _ => hb3.block q hq⟩ (.inr (by simp [Value.ownBlock]))
             have hle3 : w1.heap.size ≤ w3.heap.size := Nat.le_trans hb2.size hb3.size)
          | (refine step_append_own rfl _ _ 23 rfl w1.heap.size 3 i0 (.int .i64 0) 1 8 Try.underlying23 hi hz0 hz1 hz2 rfl (by decide) _ _ _ rfl (by exact hown3.alloc _) ⟨w3.heap.size, 0, none⟩ 1 1 [.int .i64 r] rfl rfl (by exact one_new w3 _ _) (by intro u hu; simp at hu; subst hu; rfl) (by unfold maxLen; omega) (by omega) (by simp; omega) (fun v' w5 hown5 hgrow5 => ?_)))
        all_goals
          have hbel := ((((Below.refl w1.heap.size w1).drew.trans hb2).trans (hb3.mono hb2.size)).alloc hle3 (.cells #[.int .i64 r] 3)).grown hgrow5 (by simp; omega) (fun q hq => (hown3.lt _ hq).1)
          have hown6 : w5.ownsRow w1.heap.size 3 1 v' pr.length (pr.map (Value.int .i64)) := by
            rw [hprl, ← HPR.out, List.map_append]
            exact hown5
          obtain ⟨g6, cp6, rfl⟩ : ∃ g cp, v' = .slice (some ⟨g, 0, none⟩) pr.length cp := by
            rcases hown6.2 with ⟨h, h0⟩ | ⟨g, cap, cur, h, _⟩
            · omega
            · exact ⟨_, _, h⟩
          clear hown2 hown3 hown5 hgrow5 hb2 hb3 hprl
          go_wp2
          go_ret
          exact ⟨g6, cp6, rfl, hbel, hown6⟩
      · have HP : Hid (Me.proof ss i = Me.proof (ss.drop k) (i - k) ++ [Me.root (ss.take k)]) := by
          show Me.proof ss i = _
          rw [Me.proof_right (by omega) (by rw [hl, HK.out]; exact hik), hl, HK.out]
        rw [HP.out]
        obtain ⟨p, HPP⟩ : ∃ p, Hid (Me.proof (ss.drop k) (i - k) = p) := ⟨_, Lib.hid rfl⟩
        obtain ⟨r, HRR⟩ : ∃ r, Hid (Me.root (ss.take k) = r) := ⟨_, Lib.hid rfl⟩
        have HC1 : Hid (∀ W, SR W (some ⟨b2, off2, none⟩) (n - k) (ss.drop k) → Calls Try.prog 60 #[.slice (some ⟨b2, off2, none⟩) (n - k) (cap - k), .int .i64 ((i : Int) - k)] W (OwnI W.heap.size p W)) :=
          Lib.hid fun W h => by have := ih (n - k) (by omega) b2 off2 (cap - k) (i - k) _ W h (by omega) (by omega) (by omega) (by omega) (by omega) HZB.out; rw [HPP.out, show ((i - k : Nat) : Int) = (i : Int) - k by omega] at this; exact this
        have HC2 : Hid (∀ W, SR W (some ⟨b, off, none⟩) k (ss.take k) → Calls Try.prog 42 #[.slice (some ⟨b, off, none⟩) k cap] W fun e w' => e = .returned (.int .i64 r) ∧ Below W.heap.size W w') :=
          Lib.hid fun W h => by have := l3Root_any k b off cap _ W h (by omega) (by omega) (by omega) hcap2 HZF.out; rw [HRR.out] at this; exact this
        rw [HPP.out, HRR.out]
        obtain ⟨pr, HPR⟩ : ∃ x, Hid (p ++ [r] = x) := ⟨_, Lib.hid rfl⟩
        have hprl : pr.length = p.length + 1 := by rw [← HPR.out]; simp
        rw [HPR.out]
        have hplen : p.length ≤ 64 := by
          have := Me.steps_le (n - k) (i - k)
          have h2 := (Me.told_proof (n - k) (ss.drop k) (i - k) (by rw [List.length_drop]; omega) (by omega)).2
          rw [HPP.out] at h2
          omega
        have hwr : IntKind.i64.wrap ((i : Int) - (k : Int)) = (i : Int) - (k : Int) := IntWalk.i64_in _ (by omega)
        clear hs hz ih hcut hl
        go_enter Try.func60, Try.ntmps60
        go_wp2_with fail
        refine (l3Half_any n _ h64).mono ?_
        rw [HK.out]
        rintro e w1 ⟨rfl, rfl⟩
        go_wp2
        go_region_law (first
          | (rw [if_pos (by simp [Region.wanted])]; go_simp; go_at_call 60; refine (HC1.out _ (by exact HB.out)).mono ?_; rintro e w2 ⟨g2, cp2, rfl, hb2, hown2⟩
             have HB2 := Lib.hid (HF.out.below ((Below.refl w1.heap.size w1).drew.trans hb2)))
          | (rw [if_pos (by simp [Region.wanted])]; go_simp; go_at_call 42; refine (HC2.out _ HB2.out).mono ?_; rintro e w3 ⟨rfl, hb3⟩
             have hown3 := hown2.kept (row := none) ⟨hb3.os, hb3.tape, hb3.output, hb3.size, fun q hq _ => hb3.block q hq⟩ (.inr (by simp [Value.ownBlock]))
             have hle3 : w1.heap.size ≤ w3.heap.size := Nat.le_trans hb2.size hb3.size)
          | (refine step_append_own rfl _ _ 23 rfl w1.heap.size 3 i0 (.int .i64 0) 1 8 Try.underlying23 hi hz0 hz1 hz2 rfl (by decide) _ _ _ rfl (by exact hown3.alloc _) ⟨w3.heap.size, 0, none⟩ 1 1 [.int .i64 r] rfl rfl (by exact one_new w3 _ _) (by intro u hu; simp at hu; subst hu; rfl) (by unfold maxLen; omega) (by omega) (by simp; omega) (fun v' w5 hown5 hgrow5 => ?_)))
        all_goals
          have hbel := ((((Below.refl w1.heap.size w1).drew.trans hb2).trans (hb3.mono hb2.size)).alloc hle3 (.cells #[.int .i64 r] 3)).grown hgrow5 (by simp; omega) (fun q hq => (hown3.lt _ hq).1)
          have hown6 : w5.ownsRow w1.heap.size 3 1 v' pr.length (pr.map (Value.int .i64)) := by
            rw [hprl, ← HPR.out, List.map_append]
            exact hown5
          obtain ⟨g6, cp6, rfl⟩ : ∃ g cp, v' = .slice (some ⟨g, 0, none⟩) pr.length cp := by
            rcases hown6.2 with ⟨h, h0⟩ | ⟨g, cap, cur, h, _⟩
            · omega
            · exact ⟨_, _, h⟩
          clear hown2 hown3 hown5 hgrow5 hb2 hb3 hprl
          go_wp2
          go_ret
          exact ⟨g6, cp6, rfl, hbel, hown6⟩
end Go.Proofs.Ytdgepneaeieogac
