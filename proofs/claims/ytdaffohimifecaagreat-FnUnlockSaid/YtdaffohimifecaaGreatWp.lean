/-
  Contracts of the model: Unlock.
-/
import Derived.Test.YtdaffohimifecaaGreatWo
import Derived.Test.YtdaffohimifecaaGreatWj
namespace Go.Proofs.YtdaffohimifecaaGreat
open Go.RowKit

set_option maxRecDepth 100000 in
set_option maxHeartbeats 3200000 in
theorem specUnlock_any (lock : ByteArray) (b : Option Addr) (n c : Nat) (ss : List ByteArray) (E : Vm) (w : World) (hlk : lock.size ≤ 1048576) (hs : SR w b n ss) (hn : n ≤ 9223372036854775807) (hz : ∀ s ∈ ss, s.size ≤ 9223372036854775807) (ht : E.t.size ≤ 1048576) :
    Calls Tryz.prog 15 #[.string lock, .slice b n c, .agg #[.string E.t, .int .i64 E.h, .int .i64 E.a]] w (UnP E lock ss w) := by
  have hE : Bk w.heap.size 26 #[.string E.t, .int .i64 E.h, .int .i64 E.a] (w.alloc (.cells #[.string E.t, .int .i64 E.h, .int .i64 E.a] 26 (0, 0))) := Bk.new _ _ _
  have hb0 : Below w.heap.size w (w.alloc (.cells #[.string E.t, .int .i64 E.h, .int .i64 E.a] 26 (0, 0))) := (Below.refl _ _).alloc (Nat.le_refl _) _
  have s0 := hs.alloc (.cells #[.string E.t, .int .i64 E.h, .int .i64 E.a] 26 (0, 0))
  have hrd := specScriptRead_any lock (w.alloc (.cells #[.string E.t, .int .i64 E.h, .int .i64 E.a] 26 (0, 0))) hlk
  clear hs hlk
  cases hr : Jo.read lock with
  | none =>
    have HQ : Hid (Vm.opens E (Jo.read lock) ss = false) := Lib.hid (by rw [hr]; rfl)
    unfold UnP
    rw [HQ.out]
    have hrd2 : Calls Tryz.prog 45 #[.string lock] (w.alloc (.cells #[.string E.t, .int .i64 E.h, .int .i64 E.a] 26 (0, 0))) fun e w' => e = .returned (.tuple #[.slice none 0 0, .bool false]) ∧ Below (w.alloc (.cells #[.string E.t, .int .i64 E.h, .int .i64 E.a] 26 (0, 0))).heap.size (w.alloc (.cells #[.string E.t, .int .i64 E.h, .int .i64 E.a] 26 (0, 0))) w' :=
      hrd.mono fun e w' h => by
        rcases h with ⟨_, h1, h2⟩ | ⟨l, _, _, h1, _⟩
        · exact ⟨h1, h2⟩
        · rw [hr] at h1; cases h1
    clear hrd hr HQ s0 hE  hz
    go_enter Tryz.func15, Tryz.ntmps15
    go_wp2_with fail
    refine hrd2.mono ?_
    rintro e w1 ⟨rfl, hb1⟩
    go_wp2
    go_ret
    exact ⟨rfl, below_aft9 hb0 hb1⟩
  | some l =>
    have hrd2 : Calls Tryz.prog 45 #[.string lock] (w.alloc (.cells #[.string E.t, .int .i64 E.h, .int .i64 E.a] 26 (0, 0))) fun e w' => ∃ a cap, e = .returned (.tuple #[.slice a l.length cap, .bool true]) ∧ OL w' a l.length l ∧ Below (w.alloc (.cells #[.string E.t, .int .i64 E.h, .int .i64 E.a] 26 (0, 0))).heap.size (w.alloc (.cells #[.string E.t, .int .i64 E.h, .int .i64 E.a] 26 (0, 0))) w' :=
      hrd.mono fun e w' h => by
        rcases h with ⟨h1, _⟩ | ⟨l', a, cap, h1, h2, h3, h4⟩
        · rw [hr] at h1; cases h1
        · rw [hr] at h1; cases h1; exact ⟨a, cap, h2, (OL.own h3).2, h4⟩
    have hll : l.length ≤ 40 := by
      have := (Jo.ok_iff l).1 (Jo.read_ok hr)
      exact this.1
    obtain ⟨ll, HLL⟩ : ∃ k, Hid (l.length = k) := ⟨_, Lib.hid rfl⟩
    rw [HLL.out] at hrd2 hll
    have hrs := fun (W : World) (a : Option Addr) (cap : Nat) (hO : OL W a ll l) (hS : SR W b n ss) => specRunScript_any a b ll cap n c l ss E W hO (by omega) hS hn hz ht
    unfold RsP at hrs
    obtain ⟨R1, HR1⟩ : ∃ r, Hid ((Vm.run E l ss).1 = r) := ⟨_, Lib.hid rfl⟩
    obtain ⟨R2, HR2⟩ : ∃ r, Hid ((Vm.run E l ss).2 = r) := ⟨_, Lib.hid rfl⟩
    rw [HR1.out, HR2.out] at hrs
    unfold UnP
    rw [hr]
    clear hrd hr hz
    by_cases hc : R2 = 0
    · by_cases hl : R1.length = 1
      · obtain ⟨a, rfl⟩ : ∃ a, R1 = [a] := by
          rcases R1 with _ | ⟨a, _ | ⟨b, r⟩⟩
          · cases hl
          · exact ⟨a, rfl⟩
          · simp at hl
        subst hc
        have HQ := Lib.hid (Vm.opens_yes HR1.out HR2.out)
        rw [HQ.out]
        obtain ⟨q, HV⟩ : ∃ q, Hid (decide (a.size ≠ 0) = q) := ⟨_, Lib.hid rfl⟩
        rw [HV.out]
        have hqe : (!a.toList.isEmpty) = q := by rw [str_empty_iff, ← HV.out]; simp
        have hqd : (!decide (a = ByteArray.empty)) = q := by
          rw [← hqe]
          congr 1
          rw [str_empty_iff, decide_eq_decide]
          exact ⟨fun e => by rw [e]; rfl, fun e => ByteArray.ext (Array.eq_empty_of_size_eq_zero e)⟩
        simp only [List.length_singleton] at hrs
        clear HQ HV HR1 HR2 hl
        go_enter Tryz.func15, Tryz.ntmps15
        go_wp2_with fail
        refine hrd2.mono ?_
        rintro e w1 ⟨p, cap, rfl, hO, hb1⟩
        have s1 := s0.below hb1
        obtain ⟨m0, m1, m2⟩ := Bk.c3w (hE.below hb1)
        have bb1 := below_aft9 hb0 hb1
        clear s0 hb1 hb0 hrd2 hE
        go_wp2_with fail
        refine (hrs _ p cap hO s1).mono ?_
        rintro e w2 ⟨p2, c2, rfl, hown, hb2⟩
        obtain ⟨g, rfl, _, _, hcc⟩ := own_at hown (i := 0) (by omega)
        have hc0 := (hcc 0 (by omega)).trans rfl
        have bb2 := below_aft9 bb1 hb2
        clear hcc hown hrs hO s1 m0 m1 m2 bb1 hb2
        go_wp2
        go_ret
        exact ⟨rfl, bb2⟩
      · have HQ : Hid (Vm.opens E (some l) ss = false) := Lib.hid (Vm.opens_len (by rw [HR1.out]; exact hl))
        rw [HQ.out]
        subst hc
        obtain ⟨k1, HK1⟩ : ∃ k, Hid (R1.length = k) := ⟨_, Lib.hid rfl⟩
        rw [HK1.out] at hl hrs
        have hq : ((k1 : Int) == 1) = false := by simp; omega
        clear HQ HR1 HR2 hl
        go_enter Tryz.func15, Tryz.ntmps15
        go_wp2_with fail
        refine hrd2.mono ?_
        rintro e w1 ⟨p, cap, rfl, hO, hb1⟩
        have s1 := s0.below hb1
        obtain ⟨m0, m1, m2⟩ := Bk.c3w (hE.below hb1)
        have bb1 := below_aft9 hb0 hb1
        clear s0 hb1 hb0 hrd2 hE
        go_wp2_with fail
        refine (hrs _ p cap hO s1).mono ?_
        rintro e w2 ⟨p2, c2, rfl, hown, hb2⟩
        have bb2 := below_aft9 bb1 hb2
        clear hown hrs hO s1 m0 m1 m2 bb1 hb2
        go_wp2
        go_ret
        exact ⟨rfl, bb2⟩
    · have HQ : Hid (Vm.opens E (some l) ss = false) := Lib.hid (Vm.opens_code (by rw [HR2.out]; exact hc))
      rw [HQ.out]
      have hq : (R2 == 0) = false := by simpa using hc
      obtain ⟨k1, HK1⟩ : ∃ k, Hid (R1.length = k) := ⟨_, Lib.hid rfl⟩
      rw [HK1.out] at hrs
      clear HQ HR1 HR2 hc
      go_enter Tryz.func15, Tryz.ntmps15
      go_wp2_with fail
      refine hrd2.mono ?_
      rintro e w1 ⟨p, cap, rfl, hO, hb1⟩
      have s1 := s0.below hb1
      obtain ⟨m0, m1, m2⟩ := Bk.c3w (hE.below hb1)
      have bb1 := below_aft9 hb0 hb1
      clear s0 hb1 hb0 hrd2 hE
      go_wp2_with fail
      refine (hrs _ p cap hO s1).mono ?_
      rintro e w2 ⟨p2, c2, rfl, hown, hb2⟩
      have bb2 := below_aft9 bb1 hb2
      clear hown hrs hO s1 m0 m1 m2 bb1 hb2
      go_wp2
      go_ret
      exact ⟨rfl, bb2⟩
end Go.Proofs.YtdaffohimifecaaGreat
