import Derived.Test.YtoocibabceeagabGreatWh
import Derived.Test.YtoocibabceeagabGreatYf
/-
  Contracts of the program: isStack, RunScript, Unlock.
-/
namespace Go.Proofs.YtoocibabceeagabGreat
open Go.RowKit

theorem isLong_any (s : ByteArray) (w : World) (hs : s.size ≤ 9223372036854775807) : Calls Tryz.prog 143 #[.string s] w fun e w' => e = .returned (.bool (decide (80 < s.size))) ∧ w' = w := by
  have HQ : Hid (decide ((80 : Int) < s.size) = decide (80 < s.size)) := Lib.hid (by rw [decide_eq_decide]; omega)
  go_enter Tryz.func143, Tryz.ntmps143
  go_wp2
  go_ret
  exact ⟨by rw [← HQ.out]; rfl, rfl⟩
set_option maxRecDepth 100000 in
set_option maxHeartbeats 1600000 in
theorem indexLong_any (a : Option Addr) (n c : Nat) (ss : List ByteArray) (w : World) (h : SR w a n ss) (hm : n ≤ 9223372036854775807) (hz : ∀ s ∈ ss, s.size ≤ 9223372036854775807) :
    Calls Tryz.prog 171 #[.slice a n c, .func (Fn.func 143) #[] #[]] w fun e w' => ∃ i : Int, e = .returned (.int .i64 i) ∧ (0 ≤ i ↔ ∃ s ∈ ss, 80 < s.size) ∧ w' = w := by
  have he : ∀ args w, (callFunc 143 args).run Tryz.prog w = .ok (.enter 143 args) w := enters_of Tryz.func143 (by kernel_rfl) rfl
  have hl := h.1
  go_enter Tryz.func171, Tryz.ntmps171
  go_wp2
  go_loopw [5, 8] (fun _ i wr => wr = w ∧ ∃ k : Nat, k ≤ n ∧ i = .int .i64 (k : Int) ∧ ∀ j, j < k → ¬ 80 < (ss.getD j ByteArray.empty).size)
    (fun _ i _ => n - (intOf i).toNat)
  case atStart => exact ⟨rfl, 0, by omega, rfl, fun j hj => absurd hj (by omega)⟩
  case round =>
    obtain ⟨rfl, k, hk, rfl, hj⟩ := hrel
    by_cases hlt : k < n
    · obtain ⟨g, off, rfl, _, hc⟩ := h.2 (by omega)
      have hck := hc k hlt
      have HJ := Lib.hid hj
      have hmem : ss.getD k ByteArray.empty ∈ ss := getD_mem (by omega)
      have hzk := hz _ hmem
      clear hj hc h hz
      obtain ⟨t, HT⟩ : ∃ t, Hid (ss.getD k ByteArray.empty = t) := ⟨_, Lib.hid rfl⟩
      rw [HT.out] at hck hmem hzk
      have hlg := isLong_any t wr hzk
      by_cases hv : 80 < t.size
      · rw [decide_eq_true hv] at hlg
        have HV := Lib.hid hv
        clear hv
        go_wp2_with fail
        refine hlg.mono ?_
        rintro e w1 ⟨rfl, rfl⟩
        go_wp2
        go_ret
        exact ⟨_, rfl, ⟨fun _ => ⟨t, hmem, HV.out⟩, fun _ => by omega⟩, rfl⟩
      · rw [decide_eq_false hv] at hlg
        have HV := Lib.hid hv
        clear hv hmem
        go_wp2_with fail
        refine hlg.mono ?_
        rintro e w1 ⟨rfl, rfl⟩
        go_wp2
        go_roundw
        case rel =>
          refine ⟨trivial, k + 1, by omega, by simp, fun j hj => ?_⟩
          by_cases hjk : j < k
          · exact HJ.out j hjk
          · rw [show j = k by omega, HT.out]; exact HV.out
        case measure => simp [intOf]; omega
    · have hk2 : k = n := by omega
      have HJ := Lib.hid hj
      clear hj h hz
      go_wp2
      go_ret
      refine ⟨_, rfl, ⟨fun h => by omega, fun h => ?_⟩, rfl⟩
      obtain ⟨s, hs, h8⟩ := h
      obtain ⟨j, hjl, hje⟩ := List.getElem_of_mem hs
      have := HJ.out j (by omega)
      rw [List.getD_eq_getElem?_getD, List.getElem?_eq_getElem hjl] at this
      simp [hje] at this
      omega
theorem containsLong_any (a : Option Addr) (n c : Nat) (ss : List ByteArray) (w : World) (h : SR w a n ss) (hm : n ≤ 9223372036854775807) (hz : ∀ s ∈ ss, s.size ≤ 9223372036854775807) :
    Calls Tryz.prog 142 #[.slice a n c, .func (Fn.func 143) #[] #[]] w fun e w' => e = .returned (.bool (decide (∃ s ∈ ss, 80 < s.size))) ∧ w' = w := by
  go_enter Tryz.func142, Tryz.ntmps142
  go_wp2_with fail
  refine (indexLong_any a n c ss _ h hm hz).mono ?_
  rintro e w1 ⟨i, rfl, hi, rfl⟩
  have hq : decide (0 ≤ i) = decide (∃ s ∈ ss, 80 < s.size) := by rw [decide_eq_decide]; exact hi
  have HQ := Lib.hid hq
  clear h hi hq hz
  go_wp2
  go_ret
  exact ⟨by rw [← HQ.out]; rfl, rfl⟩
set_option maxRecDepth 100000 in
theorem isStack_any (a : Option Addr) (n c : Nat) (ss : List ByteArray) (w : World) (h : SR w a n ss) (hm : n ≤ 9223372036854775807) (hz : ∀ s ∈ ss, s.size ≤ 9223372036854775807) :
    Calls Tryz.prog 104 #[.slice a n c] w fun e w' => e = .returned (.bool (decide (Vm.fits ss))) ∧ w' = w := by
  have hl := h.1
  by_cases hn : 24 < n
  · have HQ : Hid (decide (Vm.fits ss) = false) := Lib.hid (decide_eq_false (fun g => by have := g.1; omega))
    have hi : (24 : Int) < n := by omega
    clear h hz hn
    go_enter Tryz.func104, Tryz.ntmps104
    go_wp2
    go_ret
    exact ⟨by rw [HQ.out]; rfl, rfl⟩
  · have hcon := containsLong_any a n c ss w h hm hz
    have HQ : Hid (decide (Vm.fits ss) = !decide (∃ s ∈ ss, 80 < s.size)) := Lib.hid (by
      rw [Bool.eq_iff_iff, decide_eq_true_eq, Bool.not_eq_true', decide_eq_false_iff_not]
      unfold Vm.fits
      constructor
      · rintro ⟨_, h2⟩ ⟨s, hs, h8⟩
        have := h2 s hs
        omega
      · intro h2
        refine ⟨by omega, fun s hs => ?_⟩
        rcases Nat.lt_or_ge 80 s.size with h8 | h8
        · exact absurd ⟨s, hs, h8⟩ h2
        · exact h8)
    rw [HQ.out]
    obtain ⟨q, HV⟩ : ∃ q, Hid (decide (∃ s ∈ ss, 80 < s.size) = q) := ⟨_, Lib.hid rfl⟩
    rw [HV.out] at hcon ⊢
    clear HQ HV h hz
    go_enter Tryz.func104, Tryz.ntmps104
    go_wp2_with fail
    refine hcon.mono ?_
    rintro e w1 ⟨rfl, rfl⟩
    go_wp2
    go_ret
    exact ⟨rfl, rfl⟩
/-- What RunScript hands back. -/
def RsP (E : Vm) (l : List Jo) (ss : List ByteArray) (w : World) (e : Ending) (w' : World) : Prop :=
  ∃ a c, e = .returned (.tuple #[.slice a (Vm.run E l ss).1.length c, .int .i64 (Vm.run E l ss).2]) ∧ w'.ownsRow w.heap.size 9 1 (.slice a (Vm.run E l ss).1.length c) (Vm.run E l ss).1.length ((Vm.run E l ss).1.map Value.string) ∧ Below w.heap.size w w'
theorem RsP.nil0 {E : Vm} {l : List Jo} {ss : List ByteArray} {w w' : World} {c : Int} (h : Vm.run E l ss = ([], c)) (hb : Below w.heap.size w w') : RsP E l ss w (.returned (.tuple #[.slice none 0 0, .int .i64 c])) w' := by
  refine ⟨none, 0, ?_, ?_, hb⟩
  · rw [h]; rfl
  · rw [h]; exact World.ownsRow_nil _ _ _ _
theorem Vm.run_bad {E : Vm} {l : List Jo} {ss : List ByteArray} (h : ¬ (Jo.ok l = true ∧ Vm.fits ss)) : Vm.run E l ss = ([], 1) := by
  unfold Vm.run
  rw [if_neg h]
theorem Vm.run_err {E : Vm} {l : List Jo} {ss : List ByteArray} {c : Int} (h : Jo.ok l = true ∧ Vm.fits ss) (hg : Vm.go E l ss.reverse [] = .error c) : Vm.run E l ss = ([], c) := by
  unfold Vm.run
  rw [if_pos h, hg]
theorem Vm.run_fine {E : Vm} {l : List Jo} {ss : List ByteArray} {m} (h : Jo.ok l = true ∧ Vm.fits ss) (hg : Vm.go E l ss.reverse [] = .ok m) : Vm.run E l ss = (m.1.reverse, 0) := by
  unfold Vm.run
  rw [if_pos h, hg]
set_option maxRecDepth 100000 in
set_option maxHeartbeats 6400000 in
theorem implRunScript_any (a b : Option Addr) (len cap n c : Nat) (l : List Jo) (ss : List ByteArray) (E : Vm) (w : World) (h : OL w a len l) (hm : len ≤ 9223372036854775807) (hs : SR w b n ss) (hn : n ≤ 9223372036854775807) (hz : ∀ s ∈ ss, s.size ≤ 9223372036854775807) (hbn : b = none → c = 0) (ht : E.t.size ≤ 1048576) :
    Calls Tryz.prog 62 #[.slice a len cap, .slice b n c, .agg #[.string E.t, .int .i64 E.h, .int .i64 E.a]] w (RsP E l ss w) := by
  have hE : Bk w.heap.size 35 #[.string E.t, .int .i64 E.h, .int .i64 E.a] (w.alloc (.cells #[.string E.t, .int .i64 E.h, .int .i64 E.a] 35 (0, 0))) := Bk.new _ _ _
  have hb0 : Below w.heap.size w (w.alloc (.cells #[.string E.t, .int .i64 E.h, .int .i64 E.a] 35 (0, 0))) := (Below.refl _ _).alloc (Nat.le_refl _) _
  have h0 := h.alloc (.cells #[.string E.t, .int .i64 E.h, .int .i64 E.a] 35 (0, 0))
  have s0 := hs.alloc (.cells #[.string E.t, .int .i64 E.h, .int .i64 E.a] 35 (0, 0))
  have hob : ∀ g off, 0 < len → a = some ⟨g, off, none⟩ → g < w.heap.size := fun g off h1 h2 => by
    obtain ⟨g', off', he, hg, _⟩ := h.2 h1
    rw [h2] at he
    cases he
    exact hg
  clear h hs
  cases hok : Jo.ok l
  · have hr := Vm.run_bad (E := E) (l := l) (ss := ss) (fun g => by rw [hok] at g; cases g.1)
    have hcon := implScriptOk_any a len cap l _ h0 hm
    rw [hok] at hcon
    have HR := Lib.hid hr
    clear hr hok h0 s0 hob
    go_enter Tryz.func62, Tryz.ntmps62
    go_wp2_with fail
    refine hcon.mono ?_
    rintro e w1 ⟨rfl, hb1⟩
    go_wp2
    go_ret2
    exact RsP.nil0 HR.out (below_aft9 hb0 hb1)
  · by_cases hft : Vm.fits ss
    · have hB := fun (k : Except Int (List ByteArray × List Bool)) (hk : Vm.go E l ss.reverse [] = k) => hk
      have hcon := implScriptOk_any a len cap l _ h0 hm
      rw [hok] at hcon
      have hq : decide (Vm.fits ss) = true := decide_eq_true hft
      have HOK := Lib.hid hok
      have HFT := Lib.hid hft
      have HZ := Lib.hid hz
      have hn24 := hft.1
      have hsl := s0.1
      clear hB hok hft
      go_enter Tryz.func62, Tryz.ntmps62
      go_wp2_with fail
      refine hcon.mono ?_
      rintro e w1 ⟨rfl, hb1⟩
      have s1 := s0.below hb1
      have h1 := h0.below hb1
      have hE1 := hE.below hb1
      have bb1 := below_aft9 hb0 hb1
      have hst := isStack_any b n c ss w1 s1 hn hz
      rw [hq] at hst
      clear s0 h0 hE hb1 hcon hq
      go_wp2_with fail
      refine hst.mono ?_
      rintro e w2 ⟨rfl, rfl⟩
      clear hst
      have hcl := cloneS_any b n c ss w2.drew s1 (fun e => ⟨(Nat.eq_zero_or_pos n).resolve_right (fun h0 => by obtain ⟨_, _, he, _⟩ := s1.2 h0; rw [e] at he; cases he), hbn e⟩) (by omega)
      unfold OwnS at hcl
      rw [hsl] at hcl
      obtain ⟨m0, m1, m2⟩ := Bk.c3w hE1.drew
      clear HZ hz hn hbn
      go_wp2
      go_region_with (go_at_call 105; go_must (refine hcl.mono ?_); go_must (rintro e w3 ⟨a3, c3, rfl, hb3, hown3⟩); obtain ⟨n0, n1, n2⟩ := Bk.c3w (hE1.drew.below hb3))
      all_goals
        have bb3 := below_aft9 bb1.drew hb3
        have HMP : Hid (MPs w.heap.size w3.heap.size E ss.reverse [] (w3.alloc (.cells #[.slice a3 n c3, .slice none 0 0, .string E.t, .int .i64 E.h, .int .i64 E.a] 145 (0, 0)))) := Lib.hid ⟨.slice a3 n c3, .slice none 0 0, bb3.size, Bk.new _ _ _, by
          rw [List.length_reverse, List.reverse_reverse, hsl]
          exact (ownsRow_base hown3 bb1.size).alloc _, World.ownsRow_nil _ _ _ _⟩
        have HOL := Lib.hid (((show OL w2.drew a len l from h1).below hb3).alloc (.cells #[.slice a3 n c3, .slice none 0 0, .string E.t, .int .i64 E.h, .int .i64 E.a] 145 (0, 0)))
        have HB4 := Lib.hid (bb3.alloc bb3.size (.cells #[.slice a3 n c3, .slice none 0 0, .string E.t, .int .i64 E.h, .int .i64 E.a] 145 (0, 0)))
        clear bb3 hown3 hb3 m0 m1 m2 n0 n1 n2 s1 h1 hE1 bb1 hb0
        cases hg : Vm.go E l ss.reverse [] with
        | error q =>
          have hq := Vm.go_err hg
          have HR := Lib.hid (Vm.run_err ⟨HOK.out, HFT.out⟩ hg)
          have hrun := run_any w.heap.size w3.heap.size E a len cap l ss.reverse _ HMP.out HB4.out.size (Vm.fits_rev HFT.out) HOL.out (fun g off h1 h2 => hob g off h1 h2) HOK.out ht
          rw [hg] at hrun
          have hqn : (q != 0) = true := by simp; omega
          clear hg hob
          go_wp2_with fail
          refine hrun.mono ?_
          rintro e w5 ⟨rfl, hb5⟩
          have HB5 := Lib.hid (HB4.out.trans hb5)
          clear hb5 hrun
          go_wp2
          go_ret2
          exact RsP.nil0 HR.out HB5.out
        | ok m =>
          have HR := Lib.hid (Vm.run_fine ⟨HOK.out, HFT.out⟩ hg)
          have hrun := run_any w.heap.size w3.heap.size E a len cap l ss.reverse _ HMP.out HB4.out.size (Vm.fits_rev HFT.out) HOL.out (fun g off h1 h2 => hob g off h1 h2) HOK.out ht
          rw [hg] at hrun
          clear hg hob
          go_wp2_with fail
          refine hrun.mono ?_
          rintro e w5 ⟨rfl, ⟨vi, vb, hM5⟩, hb5⟩
          obtain ⟨ai, ci, rfl, _⟩ := own_slice hM5.its
          obtain ⟨d0, _⟩ := hM5.cells
          have HB5 := Lib.hid (HB4.out.trans hb5)
          have HI5 := Lib.hid hM5.its
          obtain ⟨ki, hki⟩ : ∃ k, m.1.length = k := ⟨_, rfl⟩
          rw [hki] at d0
          clear hM5 hb5 hrun
          go_wp2
          go_ret2
          refine ⟨ai, ci, ?_, ?_, HB5.out⟩
          · rw [HR.out]; simp only [List.length_reverse, hki]; rfl
          · rw [HR.out]; simp only [List.length_reverse]; exact HI5.out
    · have hr := Vm.run_bad (E := E) (l := l) (ss := ss) (fun g => hft g.2)
      have hcon := implScriptOk_any a len cap l _ h0 hm
      rw [hok] at hcon
      have HR := Lib.hid hr
      have hq : decide (Vm.fits ss) = false := decide_eq_false hft
      clear hr hok h0 hob hft
      go_enter Tryz.func62, Tryz.ntmps62
      go_wp2_with fail
      refine hcon.mono ?_
      rintro e w1 ⟨rfl, hb1⟩
      have hst := isStack_any b n c ss w1 (s0.below hb1) hn hz
      rw [hq] at hst
      clear s0 hq
      go_wp2_with fail
      refine hst.mono ?_
      rintro e w2 ⟨rfl, rfl⟩
      go_wp2
      go_ret2
      exact RsP.nil0 HR.out (below_aft9 hb0 hb1)
end Go.Proofs.YtoocibabceeagabGreat

/-
  Contracts of the program: Unlock.
-/
namespace Go.Proofs.YtoocibabceeagabGreat
open Go.RowKit

theorem Vm.opens_some (E : Vm) (l : List Jo) (ss : List ByteArray) : Vm.opens E (some l) ss = (match Vm.run E l ss with
    | ([a], c) => decide (c = 0) && decide (a.size ≠ 0)
    | _ => false) := rfl
theorem Jo.read_ok {s : ByteArray} {l : List Jo} (h : Jo.read s = some l) : Jo.ok l = true := by
  unfold Jo.read at h
  split at h
  · cases h
  · split at h
    · rename_i h2
      cases h
      exact h2
    · cases h
theorem Vm.opens_code {E : Vm} {l : List Jo} {ss : List ByteArray} (h : (Vm.run E l ss).2 ≠ 0) : Vm.opens E (some l) ss = false := by
  have h2 := Vm.run_nil h
  rw [Vm.opens_some]
  generalize Vm.run E l ss = r at h h2
  obtain ⟨r1, r2⟩ := r
  simp only at h2
  subst h2
  rfl
theorem Vm.opens_len {E : Vm} {l : List Jo} {ss : List ByteArray} (h : (Vm.run E l ss).1.length ≠ 1) : Vm.opens E (some l) ss = false := by
  rw [Vm.opens_some]
  generalize Vm.run E l ss = r at h
  obtain ⟨r1, r2⟩ := r
  rcases r1 with _ | ⟨a, _ | ⟨b, r⟩⟩
  · rfl
  · simp at h
  · rfl
theorem Vm.opens_yes {E : Vm} {l : List Jo} {ss : List ByteArray} {a : ByteArray} (h : (Vm.run E l ss).1 = [a]) (h2 : (Vm.run E l ss).2 = 0) : Vm.opens E (some l) ss = decide (a.size ≠ 0) := by
  rw [Vm.opens_some]
  generalize Vm.run E l ss = r at h h2
  obtain ⟨r1, r2⟩ := r
  simp only at h h2
  subst h
  subst h2
  exact Bool.true_and _
/-- What Unlock says. -/
def UnP (E : Vm) (lock : ByteArray) (ss : List ByteArray) (w : World) (e : Ending) (w' : World) : Prop := e = .returned (.bool (Vm.opens E (Jo.read lock) ss)) ∧ Below w.heap.size w w'
set_option maxRecDepth 100000 in
set_option maxHeartbeats 3200000 in
theorem implUnlock_any (lock : ByteArray) (b : Option Addr) (n c : Nat) (ss : List ByteArray) (E : Vm) (w : World) (hlk : lock.size ≤ 1048576) (hs : SR w b n ss) (hn : n ≤ 9223372036854775807) (hz : ∀ s ∈ ss, s.size ≤ 9223372036854775807) (hbn : b = none → c = 0) (ht : E.t.size ≤ 1048576) :
    Calls Tryz.prog 17 #[.string lock, .slice b n c, .agg #[.string E.t, .int .i64 E.h, .int .i64 E.a]] w (UnP E lock ss w) := by
  have hE : Bk w.heap.size 35 #[.string E.t, .int .i64 E.h, .int .i64 E.a] (w.alloc (.cells #[.string E.t, .int .i64 E.h, .int .i64 E.a] 35 (0, 0))) := Bk.new _ _ _
  have hb0 : Below w.heap.size w (w.alloc (.cells #[.string E.t, .int .i64 E.h, .int .i64 E.a] 35 (0, 0))) := (Below.refl _ _).alloc (Nat.le_refl _) _
  have s0 := hs.alloc (.cells #[.string E.t, .int .i64 E.h, .int .i64 E.a] 35 (0, 0))
  have hrd := implScriptRead_any lock (w.alloc (.cells #[.string E.t, .int .i64 E.h, .int .i64 E.a] 35 (0, 0))) hlk
  clear hs hlk
  cases hr : Jo.read lock with
  | none =>
    have HQ : Hid (Vm.opens E (Jo.read lock) ss = false) := Lib.hid (by rw [hr]; rfl)
    unfold UnP
    rw [HQ.out]
    have hrd2 : Calls Tryz.prog 61 #[.string lock] (w.alloc (.cells #[.string E.t, .int .i64 E.h, .int .i64 E.a] 35 (0, 0))) fun e w' => e = .returned (.tuple #[.slice none 0 0, .bool false]) ∧ Below (w.alloc (.cells #[.string E.t, .int .i64 E.h, .int .i64 E.a] 35 (0, 0))).heap.size (w.alloc (.cells #[.string E.t, .int .i64 E.h, .int .i64 E.a] 35 (0, 0))) w' :=
      hrd.mono fun e w' h => by
        rcases h with ⟨_, h1, h2⟩ | ⟨l, _, _, h1, _⟩
        · exact ⟨h1, h2⟩
        · rw [hr] at h1; cases h1
    clear hrd hr HQ s0 hE hz hbn
    go_enter Tryz.func17, Tryz.ntmps17
    go_wp2_with fail
    refine hrd2.mono ?_
    rintro e w1 ⟨rfl, hb1⟩
    go_wp2
    go_ret
    exact ⟨rfl, below_aft9 hb0 hb1⟩
  | some l =>
    have hrd2 : Calls Tryz.prog 61 #[.string lock] (w.alloc (.cells #[.string E.t, .int .i64 E.h, .int .i64 E.a] 35 (0, 0))) fun e w' => ∃ a cap, e = .returned (.tuple #[.slice a l.length cap, .bool true]) ∧ OL w' a l.length l ∧ Below (w.alloc (.cells #[.string E.t, .int .i64 E.h, .int .i64 E.a] 35 (0, 0))).heap.size (w.alloc (.cells #[.string E.t, .int .i64 E.h, .int .i64 E.a] 35 (0, 0))) w' :=
      hrd.mono fun e w' h => by
        rcases h with ⟨h1, _⟩ | ⟨l', a, cap, h1, h2, h3, h4⟩
        · rw [hr] at h1; cases h1
        · rw [hr] at h1; cases h1; exact ⟨a, cap, h2, (OL.own h3).2, h4⟩
    have hll : l.length ≤ 40 := by
      have := (Jo.ok_iff l).1 (Jo.read_ok hr)
      exact this.1
    obtain ⟨ll, HLL⟩ : ∃ k, Hid (l.length = k) := ⟨_, Lib.hid rfl⟩
    rw [HLL.out] at hrd2 hll
    have hrs := fun (W : World) (a : Option Addr) (cap : Nat) (hO : OL W a ll l) (hS : SR W b n ss) => implRunScript_any a b ll cap n c l ss E W hO (by omega) hS hn hz hbn ht
    unfold RsP at hrs
    obtain ⟨R1, HR1⟩ : ∃ r, Hid ((Vm.run E l ss).1 = r) := ⟨_, Lib.hid rfl⟩
    obtain ⟨R2, HR2⟩ : ∃ r, Hid ((Vm.run E l ss).2 = r) := ⟨_, Lib.hid rfl⟩
    rw [HR1.out, HR2.out] at hrs
    unfold UnP
    rw [hr]
    clear hrd hr hz hbn
    by_cases hc : R2 = 0
    · by_cases hl : R1.length = 1
      · obtain ⟨a, rfl⟩ : ∃ a, R1 = [a] := by
          rcases R1 with _ | ⟨a, _ | ⟨b, r⟩⟩
          · cases hl
          · exact ⟨a, rfl⟩
          · simp at hl
        subst hc
        have HQ := Lib.hid (Vm.opens_yes HR1.out HR2.out)
        rw [HQ.out]
        obtain ⟨q, HV⟩ : ∃ q, Hid (decide (a.size ≠ 0) = q) := ⟨_, Lib.hid rfl⟩
        rw [HV.out]
        have htr := fun W => isTrue_any a W
        rw [HV.out] at htr
        simp only [List.length_singleton] at hrs
        clear HQ HV HR1 HR2 hl
        go_enter Tryz.func17, Tryz.ntmps17
        go_wp2_with fail
        refine hrd2.mono ?_
        rintro e w1 ⟨p, cap, rfl, hO, hb1⟩
        have s1 := s0.below hb1
        obtain ⟨m0, m1, m2⟩ := Bk.c3w (hE.below hb1)
        have bb1 := below_aft9 hb0 hb1
        clear s0 hb1 hb0 hrd2 hE
        go_wp2_with fail
        refine (hrs _ p cap hO s1).mono ?_
        rintro e w2 ⟨p2, c2, rfl, hown, hb2⟩
        obtain ⟨g, rfl, _, _, hcc⟩ := own_at hown (i := 0) (by omega)
        have hc0 := (hcc 0 (by omega)).trans rfl
        have bb2 := below_aft9 bb1 hb2
        clear hcc hown hrs hO s1 m0 m1 m2 bb1 hb2
        go_wp2_with fail
        refine (htr _).mono ?_
        rintro e w3 ⟨rfl, rfl⟩
        go_wp2
        go_ret
        exact ⟨rfl, bb2⟩
      · have HQ : Hid (Vm.opens E (some l) ss = false) := Lib.hid (Vm.opens_len (by rw [HR1.out]; exact hl))
        rw [HQ.out]
        subst hc
        obtain ⟨k1, HK1⟩ : ∃ k, Hid (R1.length = k) := ⟨_, Lib.hid rfl⟩
        rw [HK1.out] at hl hrs
        have hq : ((k1 : Int) == 1) = false := by simp; omega
        clear HQ HR1 HR2 hl
        go_enter Tryz.func17, Tryz.ntmps17
        go_wp2_with fail
        refine hrd2.mono ?_
        rintro e w1 ⟨p, cap, rfl, hO, hb1⟩
        have s1 := s0.below hb1
        obtain ⟨m0, m1, m2⟩ := Bk.c3w (hE.below hb1)
        have bb1 := below_aft9 hb0 hb1
        clear s0 hb1 hb0 hrd2 hE
        go_wp2_with fail
        refine (hrs _ p cap hO s1).mono ?_
        rintro e w2 ⟨p2, c2, rfl, hown, hb2⟩
        have bb2 := below_aft9 bb1 hb2
        clear hown hrs hO s1 m0 m1 m2 bb1 hb2
        go_wp2
        go_ret
        exact ⟨rfl, bb2⟩
    · have HQ : Hid (Vm.opens E (some l) ss = false) := Lib.hid (Vm.opens_code (by rw [HR2.out]; exact hc))
      rw [HQ.out]
      have hq : (R2 == 0) = false := by simpa using hc
      obtain ⟨k1, HK1⟩ : ∃ k, Hid (R1.length = k) := ⟨_, Lib.hid rfl⟩
      rw [HK1.out] at hrs
      clear HQ HR1 HR2 hc
      go_enter Tryz.func17, Tryz.ntmps17
      go_wp2_with fail
      refine hrd2.mono ?_
      rintro e w1 ⟨p, cap, rfl, hO, hb1⟩
      have s1 := s0.below hb1
      obtain ⟨m0, m1, m2⟩ := Bk.c3w (hE.below hb1)
      have bb1 := below_aft9 hb0 hb1
      clear s0 hb1 hb0 hrd2 hE
      go_wp2_with fail
      refine (hrs _ p cap hO s1).mono ?_
      rintro e w2 ⟨p2, c2, rfl, hown, hb2⟩
      have bb2 := below_aft9 bb1 hb2
      clear hown hrs hO s1 m0 m1 m2 bb1 hb2
      go_wp2
      go_ret
      exact ⟨rfl, bb2⟩
end Go.Proofs.YtoocibabceeagabGreat
