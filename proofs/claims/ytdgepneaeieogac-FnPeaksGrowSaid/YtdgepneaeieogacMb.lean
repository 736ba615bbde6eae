/-
  Contracts of the program's chapter 3: roots, proofs.
-/
import Derived.Test.YtdgepneaeieogacMa
import Derived.Test.YtdgepneaeieogacMt
namespace Go.Proofs.Ytdgepneaeieogac
open Go.RowKit

theorem isTreeSize_any (n : Int) (w : World) :
    Calls Try.prog 44 #[.int .i64 n] w fun e w' => e = .returned (.bool (decide (1 ≤ n) && decide (n ≤ 32))) ∧ w = w' := by
  by_cases h : 1 ≤ n
  · go_enter Try.func44, Try.ntmps44
    go_wp2
    go_ret
    exact ⟨by simp [h], rfl⟩
  · go_enter Try.func44, Try.ntmps44
    go_wp2
    go_ret
    exact ⟨by simp; omega, rfl⟩

set_option maxHeartbeats 400000 in
theorem leafString_any (s : ByteArray) (w : World) (hs : s.size ≤ 4611686018427387904) :
    Calls Try.prog 28 #[.string s] w fun e w' => e = .returned (.string (Me.leaf s)) ∧ Below w.heap.size w w' := by
  have hadd : ∀ W, (Op.stringOp .add (⟨#[0]⟩ : ByteArray) s).run Try.prog W = .ok (.string (Me.leaf s)) W :=
    fun W => run_string_add_sum (P := Try.prog) W _ _ (by have : (⟨#[0]⟩ : ByteArray).size = 1 := rfl; omega)
  go_enter Try.func28, Try.ntmps28
  go_wp2
  go_ret
  exact ⟨rfl, Below.refl _ _⟩

theorem Dg.ofPair_yes {a b : Int} (ha : 0 ≤ a ∧ a ≤ 4294967295) (hb : 0 ≤ b ∧ b ≤ 4294967295) : Dg.ofPair a b = Dg.of (Dg.pair a b) := if_pos ⟨ha, hb⟩

set_option maxRecDepth 100000 in
set_option maxHeartbeats 1600000 in
theorem rootOf_any : ∀ (n : Nat) (b off cap : Nat) (ss : List ByteArray) (w : World), SR w (some ⟨b, off, none⟩) n ss → 1 ≤ n → n ≤ 64 → n ≤ cap → cap ≤ 9223372036854775807 → (∀ s ∈ ss, s.size ≤ 4611686018427387904) →
    Calls Try.prog 45 #[.slice (some ⟨b, off, none⟩) n cap] w fun e w' => e = .returned (.int .i64 (Me.root ss)) ∧ Below w.heap.size w w' := by
  intro n
  induction n using Nat.strongRecOn with
  | ind n ih =>
    intro b off cap ss w hs h1 h64 hcap hcap2 hz
    have hl := hs.1
    by_cases hone : n = 1
    · subst hone
      obtain ⟨b', off', he, hb, hc⟩ := hs.2 (by omega)
      cases he
      have hc0 := hc 0 (by omega)
      rw [Nat.add_zero] at hc0
      have hz0 := hz _ (getD_mem (ss := ss) (i := 0) (by omega))
      have HR : Hid (Me.root ss = Dg.of (Me.leaf (ss.getD 0 ByteArray.empty))) := by
        show Me.root ss = _
        unfold Me.root
        rw [Me.str_one (by omega)]
      rw [HR.out]
      obtain ⟨t, HT⟩ : ∃ t, Hid (ss.getD 0 ByteArray.empty = t) := ⟨_, Lib.hid rfl⟩
      rw [HT.out] at hc0 hz0 ⊢
      have hls := Me.leaf_size t
      clear hc hz hs ih
      go_enter Try.func45, Try.ntmps45
      go_wp2_with fail
      refine (leafString_any t _ hz0).mono ?_
      rintro e w1 ⟨rfl, hb1⟩
      go_wp2_with fail
      refine (implDigest_any (Me.leaf t) _ (by omega)).mono ?_
      rintro e w2 ⟨rfl, hb2⟩
      go_wp2
      go_ret
      exact ⟨rfl, hb1.trans (hb2.mono hb1.size)⟩
    · have hh1 := Me.half_lt n (by omega)
      have hh0 := Me.half_pos n
      have hne : ((n : Int) == 1) = false := by simp; omega
      obtain ⟨k, HK⟩ : ∃ k, Hid (Me.half n = k) := ⟨_, Lib.hid rfl⟩
      rw [HK.out] at hh0 hh1
      have HF := Lib.hid (hs.front k (by omega))
      have HB := Lib.hid (hs.back3 k (by omega))
      have HZF : Hid (∀ s ∈ ss.take k, s.size ≤ 4611686018427387904) := Lib.hid fun s h => hz s (List.mem_of_mem_take h)
      have HZB : Hid (∀ s ∈ ss.drop k, s.size ≤ 4611686018427387904) := Lib.hid fun s h => hz s (List.mem_of_mem_drop h)
      obtain ⟨off2, hoff⟩ : ∃ off2, off + k = off2 := ⟨_, rfl⟩
      have HC1 : Hid (∀ W, SR W (some ⟨b, off, none⟩) k (ss.take k) → Calls Try.prog 45 #[.slice (some ⟨b, off, none⟩) k k] W fun e w' => e = .returned (.int .i64 (Me.root (ss.take k))) ∧ Below W.heap.size W w') :=
        Lib.hid fun W h => ih k hh1 b off k _ W h hh0 (by omega) (by omega) (by omega) HZF.out
      rw [hoff] at HB
      have HC2 : Hid (∀ W, SR W (some ⟨b, off2, none⟩) (n - k) (ss.drop k) → Calls Try.prog 45 #[.slice (some ⟨b, off2, none⟩) (n - k) (n - k)] W fun e w' => e = .returned (.int .i64 (Me.root (ss.drop k))) ∧ Below W.heap.size W w') :=
        Lib.hid fun W h => ih (n - k) (by omega) b off2 (n - k) _ W h (by omega) (by omega) (by omega) (by omega) HZB.out
      have HSTR : Hid (Me.root ss = Dg.of (Dg.pair (Me.root (ss.take k)) (Me.root (ss.drop k)))) := by
        show Me.root ss = _
        unfold Me.root
        rw [Me.str_two (by omega), hl, HK.out]
        rfl
      rw [HSTR.out]
      have hr1 := Me.root_bd (ss.take k)
      have hr2 := Me.root_bd (ss.drop k)
      obtain ⟨r1, HR1⟩ : ∃ r, Hid (Me.root (ss.take k) = r) := ⟨_, Lib.hid rfl⟩
      obtain ⟨r2, HR2⟩ : ∃ r, Hid (Me.root (ss.drop k) = r) := ⟨_, Lib.hid rfl⟩
      rw [HR1.out] at hr1 HC1 ⊢
      rw [HR2.out] at hr2 HC2 ⊢
      rw [← Dg.ofPair_yes hr1 hr2]
      obtain ⟨D, HD⟩ : ∃ d, Hid (Dg.ofPair r1 r2 = d) := ⟨_, Lib.hid rfl⟩
      rw [HD.out]
      have HH : Hid (∀ W, Calls Try.prog 63 #[.slice (some ⟨b, off, none⟩) n cap] W fun e w' => e = .returned (.tuple #[.slice (some ⟨b, off, none⟩) k k, .slice (some ⟨b, off2, none⟩) (n - k) (n - k)]) ∧ Below W.heap.size W w') := Lib.hid fun W => by
        have := halves_any b off n cap W (by omega) h64 hcap
        rw [HK.out, hoff] at this
        exact this
      clear hs hz ih HSTR hl hoff
      go_enter Try.func45, Try.ntmps45
      go_wp2_with fail
      refine (HH.out _).mono ?_
      rintro e w1 ⟨rfl, hb1⟩
      have HF1 := Lib.hid (HF.out.below hb1)
      have HB1 := Lib.hid (HB.out.below hb1)
      go_wp2_with fail
      refine (HC1.out _ (by exact HF1.out)).mono ?_
      rintro e w2 ⟨rfl, hb2⟩
      have HB2 := Lib.hid (HB1.out.below hb2)
      go_wp2_with fail
      refine (HC2.out _ HB2.out).mono ?_
      rintro e w3 ⟨rfl, hb3⟩
      go_wp2_with fail
      refine (implDigestPair_any r1 r2 _).mono ?_
      rw [HD.out]
      rintro e w4 ⟨rfl, hb4⟩
      have hbel := hb1.trans ((hb2.trans ((hb3.trans (hb4.mono hb3.size)).mono hb2.size)).mono hb1.size)
      clear hb1 hb2 hb3 hb4
      go_wp2
      go_ret
      exact ⟨rfl, hbel⟩

set_option maxHeartbeats 800000 in
theorem implMerkleRoot_any (a : Option Addr) (n cap : Nat) (ss : List ByteArray) (w : World) (hs : SR w a n ss) (hcap : n ≤ cap) (hcap2 : cap ≤ 9223372036854775807) (hz : ∀ s ∈ ss, s.size ≤ 4611686018427387904) :
    Calls Try.prog 19 #[.slice a n cap] w fun e w' => e = .returned (Me.rootA ss) ∧ Below w.heap.size w w' := by
  have hl := hs.1
  by_cases h : 1 ≤ n ∧ n ≤ 32
  · have HR : Hid (Me.rootA ss = .tuple #[.int .i64 (Me.root ss), .bool true]) := by show Me.rootA ss = _; unfold Me.rootA; rw [if_pos (by omega)]
    rw [HR.out]
    have HI := Lib.hid (In.yes (n := (n : Int)) (a := 1) (b := 32) (by omega) (by omega))
    obtain ⟨b, off, rfl, _, _⟩ := hs.2 (by omega)
    have HS := Lib.hid hs
    have HZ := Lib.hid hz
    clear hs hz
    go_enter Try.func19, Try.ntmps19
    go_wp2_with fail
    refine (isTreeSize_any _ _).mono ?_
    rw [HI.out]
    rintro e w1 ⟨rfl, rfl⟩
    go_wp2_with fail
    refine (rootOf_any n b off cap ss _ HS.out (by omega) (by omega) hcap hcap2 HZ.out).mono ?_
    rintro e w2 ⟨rfl, hb2⟩
    go_wp2
    go_ret2
    exact ⟨rfl, hb2⟩
  · have HR : Hid (Me.rootA ss = .tuple #[.int .i64 0, .bool false]) := by show Me.rootA ss = _; unfold Me.rootA; rw [if_neg (by omega)]
    rw [HR.out]
    have HI := Lib.hid (In.no (n := (n : Int)) (a := 1) (b := 32) (by omega))
    go_enter Try.func19, Try.ntmps19
    go_wp2_with fail
    refine (isTreeSize_any _ _).mono ?_
    rw [HI.out]
    rintro e w1 ⟨rfl, rfl⟩
    go_wp2
    go_ret2
    exact ⟨rfl, Below.refl _ _⟩

/-- A list of numbers that the call owns (nil too). -/
def OwnN (base : Nat) (p : List Int) (w : World) (e : Ending) (w' : World) : Prop :=
  ∃ a cp, e = .returned (.slice a p.length cp) ∧ Below base w w' ∧ w'.ownsRow base 3 1 (.slice a p.length cp) p.length (p.map (Value.int .i64))
theorem own_none {a : Option Addr} {n cp : Nat} {B : Nat} (h : ∀ g, (Value.slice a n cp).ownBlock = some g → g ≠ B) : (Value.slice a n cp).ownBlock = none ∨ (Value.slice a n cp).ownBlock ≠ some B := by
  cases hv : (Value.slice a n cp).ownBlock with
  | none => exact .inl rfl
  | some g => exact .inr (fun e => h g hv (by cases e; rfl))
theorem keptN {w w' : World} {base n : Nat} {e : TypeId} {v : Value} {xs : List Value} (h : w.ownsRow base e 1 v n xs) (hb : Below w.heap.size w w') : w'.ownsRow base e 1 v n xs :=
  h.kept (row := none) ⟨hb.os, hb.tape, hb.output, hb.size, fun q hq _ => hb.block q hq⟩ (by cases v.ownBlock with | none => exact .inl rfl | some k => exact .inr (by simp))

set_option maxRecDepth 100000 in
set_option maxHeartbeats 1600000 in
theorem proofOf_any : ∀ (n : Nat) (b off cap i : Nat) (ss : List ByteArray) (w : World), SR w (some ⟨b, off, none⟩) n ss → 1 ≤ n → n ≤ 64 → i < n → n ≤ cap → cap ≤ 9223372036854775807 → (∀ s ∈ ss, s.size ≤ 4611686018427387904) →
    Calls Try.prog 48 #[.slice (some ⟨b, off, none⟩) n cap, .int .i64 (i : Int)] w (OwnN w.heap.size (Me.proof ss i) w) := by
  intro n
  induction n using Nat.strongRecOn with
  | ind n ih =>
    intro b off cap i ss w hs h1 h64 hin hcap hcap2 hz
    have hl := hs.1
    obtain ⟨i0, hi, hz0, hz1, hz2⟩ := info_parts info_int
    by_cases hone : n = 1
    · subst hone
      have HP : Hid (Me.proof ss i = []) := Lib.hid (Me.proof_one (by omega))
      rw [HP.out]
      clear hs hz ih
      go_enter Try.func48, Try.ntmps48
      go_wp2
      go_ret
      exact ⟨none, 0, rfl, Below.refl _ _, ⟨rfl, .inl ⟨rfl, rfl⟩⟩⟩
    · have hh1 := Me.half_lt n (by omega)
      have hh0 := Me.half_pos n
      have hne : ((n : Int) == 1) = false := by simp; omega
      obtain ⟨k, HK⟩ : ∃ k, Hid (Me.half n = k) := ⟨_, Lib.hid rfl⟩
      rw [HK.out] at hh0 hh1
      have HF := Lib.hid (hs.front k (by omega))
      have HB := Lib.hid (hs.back3 k (by omega))
      have HZF : Hid (∀ s ∈ ss.take k, s.size ≤ 4611686018427387904) := Lib.hid fun s h => hz s (List.mem_of_mem_take h)
      have HZB : Hid (∀ s ∈ ss.drop k, s.size ≤ 4611686018427387904) := Lib.hid fun s h => hz s (List.mem_of_mem_drop h)
      obtain ⟨off2, hoff⟩ : ∃ off2, off + k = off2 := ⟨_, rfl⟩
      rw [hoff] at HB
      have HH : Hid (∀ W, Calls Try.prog 63 #[.slice (some ⟨b, off, none⟩) n cap] W fun e w' => e = .returned (.tuple #[.slice (some ⟨b, off, none⟩) k k, .slice (some ⟨b, off2, none⟩) (n - k) (n - k)]) ∧ Below W.heap.size W w') := Lib.hid fun W => by
        have := halves_any b off n cap W (by omega) h64 hcap
        rw [HK.out, hoff] at this
        exact this
      by_cases hik : i < k
      · have HP : Hid (Me.proof ss i = Me.proof (ss.take k) i ++ [Me.root (ss.drop k)]) := by
          show Me.proof ss i = _
          rw [Me.proof_left (by omega) (by rw [hl, HK.out]; exact hik), hl, HK.out]
        rw [HP.out]
        obtain ⟨p, HPP⟩ : ∃ p, Hid (Me.proof (ss.take k) i = p) := ⟨_, Lib.hid rfl⟩
        obtain ⟨r, HRR⟩ : ∃ r, Hid (Me.root (ss.drop k) = r) := ⟨_, Lib.hid rfl⟩
        have HC1 : Hid (∀ W, SR W (some ⟨b, off, none⟩) k (ss.take k) → Calls Try.prog 48 #[.slice (some ⟨b, off, none⟩) k k, .int .i64 (i : Int)] W (OwnN W.heap.size p W)) :=
          Lib.hid fun W h => by have := ih k hh1 b off k i _ W h hh0 (by omega) hik (by omega) (by omega) HZF.out; rw [HPP.out] at this; exact this
        have HC2 : Hid (∀ W, SR W (some ⟨b, off2, none⟩) (n - k) (ss.drop k) → Calls Try.prog 45 #[.slice (some ⟨b, off2, none⟩) (n - k) (n - k)] W fun e w' => e = .returned (.int .i64 r) ∧ Below W.heap.size W w') :=
          Lib.hid fun W h => by have := rootOf_any (n - k) b off2 (n - k) _ W h (by omega) (by omega) (by omega) (by omega) HZB.out; rw [HRR.out] at this; exact this
        rw [HPP.out, HRR.out]
        obtain ⟨pr, HPR⟩ : ∃ x, Hid (p ++ [r] = x) := ⟨_, Lib.hid rfl⟩
        have hprl : pr.length = p.length + 1 := by rw [← HPR.out]; simp
        rw [HPR.out]
        have hplen : p.length ≤ 64 := by
          have := Me.steps_le k i
          have h2 := (Me.told_proof k (ss.take k) i (by rw [List.length_take]; omega) hik).2
          rw [HPP.out] at h2
          omega
        clear hs hz ih hl hoff
        go_enter Try.func48, Try.ntmps48
        go_wp2_with fail
        refine (HH.out _).mono ?_
        rintro e w1 ⟨rfl, hb1⟩
        have HF1 := Lib.hid (HF.out.below hb1)
        have HB1 := Lib.hid (HB.out.below hb1)
        go_wp2_with fail
        refine (HC1.out _ (by exact HF1.out)).mono ?_
        rintro e w2 ⟨a2, cp2, rfl, hb2, hown2⟩
        have HB2 := Lib.hid (HB1.out.below hb2)
        go_wp2_with fail
        refine (HC2.out _ HB2.out).mono ?_
        rintro e w3 ⟨rfl, hb3⟩
        have hown3 := keptN hown2 hb3
        have hle3 : w1.heap.size ≤ w3.heap.size := Nat.le_trans hb2.size hb3.size
        go_wp2_with (at_builtin; refine wpList_append_own _ rfl _ _ 23 rfl w1.heap.size 3 i0 (.int .i64 0) 1 8 Try.underlying23 hi hz0 hz1 hz2 rfl (by decide) _ _ _ rfl (hown3.alloc _) ⟨w3.heap.size, 0, none⟩ 1 1 [.int .i64 r] rfl rfl ?c1 ?c2 ?c3 ?c4 ?c5 ?_)
        case c1 => exact one_new _ _ _
        case c2 => intro u hu; simp at hu; subst hu; rfl
        case c3 => unfold maxLen; omega
        case c4 => omega
        case c5 => simp; omega
        intro v' w5 hown5 hgrow5 _
        have hbel := hb1.trans ((((hb2.trans (hb3.mono hb2.size)).alloc hle3 (.cells #[.int .i64 r] 3)).grown hgrow5 (by simp; omega) (fun q hq => (hown3.lt _ hq).1)).mono hb1.size)
        have hown6 : w5.ownsRow w.heap.size 3 1 v' pr.length (pr.map (Value.int .i64)) := by
          rw [hprl, ← HPR.out, List.map_append]
          exact ownsRow_base hown5 hb1.size
        obtain ⟨g6, cp6, rfl⟩ : ∃ g cp, v' = .slice (some ⟨g, 0, none⟩) pr.length cp := by
          rcases hown6.2 with ⟨h, h0⟩ | ⟨g, cap, cur, h, _⟩
          · omega
          · exact ⟨_, _, h⟩
        clear hown2 hown3 hown5 hgrow5 hb1 hb2 hb3 hprl
        go_wp2
        go_ret
        exact ⟨_, cp6, rfl, hbel, hown6⟩
      · have HP : Hid (Me.proof ss i = Me.proof (ss.drop k) (i - k) ++ [Me.root (ss.take k)]) := by
          show Me.proof ss i = _
          rw [Me.proof_right (by omega) (by rw [hl, HK.out]; exact hik), hl, HK.out]
        rw [HP.out]
        obtain ⟨p, HPP⟩ : ∃ p, Hid (Me.proof (ss.drop k) (i - k) = p) := ⟨_, Lib.hid rfl⟩
        obtain ⟨r, HRR⟩ : ∃ r, Hid (Me.root (ss.take k) = r) := ⟨_, Lib.hid rfl⟩
        have HC1 : Hid (∀ W, SR W (some ⟨b, off2, none⟩) (n - k) (ss.drop k) → Calls Try.prog 48 #[.slice (some ⟨b, off2, none⟩) (n - k) (n - k), .int .i64 ((i : Int) - k)] W (OwnN W.heap.size p W)) :=
          Lib.hid fun W h => by have := ih (n - k) (by omega) b off2 (n - k) (i - k) _ W h (by omega) (by omega) (by omega) (by omega) (by omega) HZB.out; rw [HPP.out, show ((i - k : Nat) : Int) = (i : Int) - k by omega] at this; exact this
        have HC2 : Hid (∀ W, SR W (some ⟨b, off, none⟩) k (ss.take k) → Calls Try.prog 45 #[.slice (some ⟨b, off, none⟩) k k] W fun e w' => e = .returned (.int .i64 r) ∧ Below W.heap.size W w') :=
          Lib.hid fun W h => by have := rootOf_any k b off k _ W h (by omega) (by omega) (by omega) (by omega) HZF.out; rw [HRR.out] at this; exact this
        rw [HPP.out, HRR.out]
        obtain ⟨pr, HPR⟩ : ∃ x, Hid (p ++ [r] = x) := ⟨_, Lib.hid rfl⟩
        have hprl : pr.length = p.length + 1 := by rw [← HPR.out]; simp
        rw [HPR.out]
        have hplen : p.length ≤ 64 := by
          have := Me.steps_le (n - k) (i - k)
          have h2 := (Me.told_proof (n - k) (ss.drop k) (i - k) (by rw [List.length_drop]; omega) (by omega)).2
          rw [HPP.out] at h2
          omega
        have hwr : IntKind.i64.wrap ((i : Int) - (k : Int)) = (i : Int) - (k : Int) := IntWalk.i64_in _ (by omega)
        clear hs hz ih hl hoff
        go_enter Try.func48, Try.ntmps48
        go_wp2_with fail
        refine (HH.out _).mono ?_
        rintro e w1 ⟨rfl, hb1⟩
        have HF1 := Lib.hid (HF.out.below hb1)
        have HB1 := Lib.hid (HB.out.below hb1)
        go_wp2_with fail
        refine (HC1.out _ (by exact HB1.out)).mono ?_
        rintro e w2 ⟨a2, cp2, rfl, hb2, hown2⟩
        have HB2 := Lib.hid (HF1.out.below hb2)
        go_wp2_with fail
        refine (HC2.out _ HB2.out).mono ?_
        rintro e w3 ⟨rfl, hb3⟩
        have hown3 := keptN hown2 hb3
        have hle3 : w1.heap.size ≤ w3.heap.size := Nat.le_trans hb2.size hb3.size
        go_wp2_with (at_builtin; refine wpList_append_own _ rfl _ _ 23 rfl w1.heap.size 3 i0 (.int .i64 0) 1 8 Try.underlying23 hi hz0 hz1 hz2 rfl (by decide) _ _ _ rfl (hown3.alloc _) ⟨w3.heap.size, 0, none⟩ 1 1 [.int .i64 r] rfl rfl ?c1 ?c2 ?c3 ?c4 ?c5 ?_)
        case c1 => exact one_new _ _ _
        case c2 => intro u hu; simp at hu; subst hu; rfl
        case c3 => unfold maxLen; omega
        case c4 => omega
        case c5 => simp; omega
        intro v' w5 hown5 hgrow5 _
        have hbel := hb1.trans ((((hb2.trans (hb3.mono hb2.size)).alloc hle3 (.cells #[.int .i64 r] 3)).grown hgrow5 (by simp; omega) (fun q hq => (hown3.lt _ hq).1)).mono hb1.size)
        have hown6 : w5.ownsRow w.heap.size 3 1 v' pr.length (pr.map (Value.int .i64)) := by
          rw [hprl, ← HPR.out, List.map_append]
          exact ownsRow_base hown5 hb1.size
        obtain ⟨g6, cp6, rfl⟩ : ∃ g cp, v' = .slice (some ⟨g, 0, none⟩) pr.length cp := by
          rcases hown6.2 with ⟨h, h0⟩ | ⟨g, cap, cur, h, _⟩
          · omega
          · exact ⟨_, _, h⟩
        clear hown2 hown3 hown5 hgrow5 hb1 hb2 hb3 hprl
        go_wp2
        go_ret
        exact ⟨_, cp6, rfl, hbel, hown6⟩
end Go.Proofs.Ytdgepneaeieogac
