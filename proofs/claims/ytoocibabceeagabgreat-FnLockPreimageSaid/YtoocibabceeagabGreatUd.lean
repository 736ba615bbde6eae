/-
  Contracts of the model: names of locks.
-/
import Derived.Test.YtoocibabceeagabGreatZk
import Derived.Test.YtoocibabceeagabGreatYf
namespace Go.Proofs.YtoocibabceeagabGreat
open Go.RowKit

theorem Lk.len0 {l : List Jo} (h : Lk.Is 0 l) : l.length = 2 := by obtain ⟨x, _, rfl⟩ := h; rfl
theorem Lk.len1 {l : List Jo} (h : Lk.Is 1 l) : l.length = 3 := by obtain ⟨x, _, rfl⟩ := h; rfl
theorem Lk.len3 {l : List Jo} (h : Lk.Is 3 l) : l.length = 12 := by obtain ⟨d, p, q, x, _, rfl⟩ := h; rfl
theorem Lk.len4 {l : List Jo} (h : Lk.Is 4 l) : l.length = 8 := by obtain ⟨d, p, q, _, rfl⟩ := h; rfl
theorem Lk.is0_of {l : List Jo} (hok : Jo.ok l = true) (hl : l.length = 2) (h0 : Lk.kx (Jo.at_ l 0) ≠ 0) (h1 : (Jo.at_ l 1).c = 11) : Lk.Is 0 l := by
  obtain ⟨x, y, rfl⟩ : ∃ x y, l = [x, y] := by
    rcases l with _ | ⟨x, _ | ⟨y, _ | ⟨z, r⟩⟩⟩
    · cases hl
    · cases hl
    · exact ⟨x, y, rfl⟩
    · simp at hl
  have hf := ((Jo.ok_iff _).1 hok).2.1
  obtain ⟨e, hk⟩ := Lk.kx_key (hf x (by simp)) h0
  have h1' : y.c = 11 := h1
  have e2 : y = Lk.code 11 := by
    rcases Jo.kinds (hf y (by simp)) with ⟨e, _⟩ | ⟨e, _⟩ | ⟨e, _⟩ | ⟨e, _⟩ | ⟨j, e, _, _⟩
    · rw [e] at h1'; simp at h1'
    · rw [e] at h1'; simp at h1'
    · rw [e] at h1'; simp at h1'
    · rw [e] at h1'; simp at h1'
    · rw [e] at h1' ⊢
      simp only at h1'
      rw [h1']
      rfl
  refine ⟨Lk.kx x, hk, ?_⟩
  unfold Lk.key
  rw [← e, e2]
theorem Lk.of_is0 {l : List Jo} (h : Lk.Is 0 l) : Lk.kx (Jo.at_ l 0) ≠ 0 ∧ (Jo.at_ l 1).c = 11 := by
  obtain ⟨x, hx, rfl⟩ := h
  refine ⟨?_, rfl⟩
  show Lk.kx (Lk.push x) ≠ 0
  rw [Lk.kx_push hx]
  have := Gr.kok_pos hx
  omega
theorem Lk.is1_of {l : List Jo} {d : Int} (hok : Jo.ok l = true) (hd : 0 ≤ d ∧ d ≤ 4294967295) (h : Jo.bs (Lk.digest d) = Jo.bs l) : Lk.Is 1 l :=
  ⟨d, hd, (Jo.bs_inj (Lk.ok_digest d) hok h).symm⟩
theorem Lk.of_is1 {l : List Jo} (h : Lk.Is 1 l) : Lk.has (Jo.at_ l 1) = true ∧ Jo.bs (Lk.digest (Dg.num (Jo.at_ l 1).t)) = Jo.bs l := by
  obtain ⟨d, hd, rfl⟩ := h
  refine ⟨Lk.has_push d, ?_⟩
  show Jo.bs (Lk.digest (Dg.num (Dg.bytes d))) = _
  rw [Dg.num_bytes d hd.1 hd.2]
theorem Lk.is3_of {l : List Jo} {d p h q : Int} (hok : Jo.ok l = true) (ht : Lk.timedOk d p h q = true) (hb : Jo.bs (Lk.timed d p h q) = Jo.bs l) : Lk.Is 3 l :=
  ⟨d, p, h, q, ht, (Jo.bs_inj (Lk.ok_timed' ht) hok hb).symm⟩
theorem Lk.of_is3 {l : List Jo} (h : Lk.Is 3 l) : Lk.has (Jo.at_ l 2) = true ∧ Lk.timedOk (Dg.num (Jo.at_ l 2).t) (Lk.kx (Jo.at_ l 5)) (Jo.at_ l 8).a (Lk.kx (Jo.at_ l 9)) = true ∧ Jo.bs (Lk.timed (Dg.num (Jo.at_ l 2).t) (Lk.kx (Jo.at_ l 5)) (Jo.at_ l 8).a (Lk.kx (Jo.at_ l 9))) = Jo.bs l := by
  obtain ⟨d, p, h, q, ht, rfl⟩ := h
  obtain ⟨hd, hp, hq, _⟩ := Lk.timed_ok ht
  have e1 : Dg.num (Jo.at_ (Lk.timed d p h q) 2).t = d := Dg.num_bytes d hd.1 hd.2
  have e2 : Lk.kx (Jo.at_ (Lk.timed d p h q) 5) = p := Lk.kx_push hp
  have e3 : (Jo.at_ (Lk.timed d p h q) 8).a = h := rfl
  have e4 : Lk.kx (Jo.at_ (Lk.timed d p h q) 9) = q := Lk.kx_push hq
  rw [e1, e2, e3, e4]
  exact ⟨Lk.has_push d, ht, rfl⟩
theorem Lk.is4_of {l : List Jo} {r d o : Int} (hok : Jo.ok l = true) (ht : Lk.revocableOk r d o = true) (hb : Jo.bs (Lk.revocable r d o) = Jo.bs l) : Lk.Is 4 l :=
  ⟨r, d, o, ht, (Jo.bs_inj (Lk.ok_revocable' ht) hok hb).symm⟩
theorem Lk.of_is4 {l : List Jo} (h : Lk.Is 4 l) : Lk.revocableOk (Lk.kx (Jo.at_ l 1)) (Jo.at_ l 4).a (Lk.kx (Jo.at_ l 5)) = true ∧ Jo.bs (Lk.revocable (Lk.kx (Jo.at_ l 1)) (Jo.at_ l 4).a (Lk.kx (Jo.at_ l 5))) = Jo.bs l := by
  obtain ⟨r, d, o, ht, rfl⟩ := h
  obtain ⟨hr, ho, _⟩ := Lk.rev_ok ht
  have e1 : Lk.kx (Jo.at_ (Lk.revocable r d o) 1) = r := Lk.kx_push hr
  have e2 : (Jo.at_ (Lk.revocable r d o) 4).a = d := rfl
  have e3 : Lk.kx (Jo.at_ (Lk.revocable r d o) 5) = o := Lk.kx_push ho
  rw [e1, e2, e3]
  exact ⟨ht, rfl⟩
theorem Lk.kx_nine (c a b : Int) (t : ByteArray) (hc : c ≠ 0) : Lk.kx ⟨c, a, b, t⟩ = 0 := if_neg (fun h => by
  have := h.1
  unfold Lk.has at this
  simp at this
  exact hc this.1)
theorem Lk.kx_short (c a b : Int) (t : ByteArray) (ht : t.size ≠ 4) : Lk.kx ⟨c, a, b, t⟩ = 0 := if_neg (fun h => by
  have := h.1
  unfold Lk.has at this
  simp at this
  exact ht this.2)
set_option maxRecDepth 100000 in
set_option maxHeartbeats 3200000 in
theorem l12Key_any (c a b : Int) (t : ByteArray) (w : World) :
    Calls Tryz.prog 158 #[.agg #[.int .i64 c, .int .i64 a, .int .i64 b, .string t]] w fun e w' => e = .returned (.int .i64 (Lk.kx ⟨c, a, b, t⟩)) ∧ Below w.heap.size w w' := by
  have HX : Bk w.heap.size 77 #[.int .i64 c, .int .i64 a, .int .i64 b, .string t] (w.alloc (.cells #[.int .i64 c, .int .i64 a, .int .i64 b, .string t] 77 (0, 0))) := Bk.new _ _ _
  have hb0 : Below w.heap.size w (w.alloc (.cells #[.int .i64 c, .int .i64 a, .int .i64 b, .string t] 77 (0, 0))) := (Below.refl _ _).alloc (Nat.le_refl _) _
  by_cases h4 : t.size = 4
  · have hcon := fun W => specBytesDigest_ok t W h4
    by_cases hc : c = 0
    · subst hc
      have hkx : Lk.kx ⟨0, a, b, t⟩ = if Gr.kok (Dg.num t) = true then Dg.num t else 0 := by
        unfold Lk.kx Lk.has
        simp [h4]
      rw [hkx]
      obtain ⟨k, HK⟩ : ∃ k, Hid (Dg.num t = k) := ⟨_, Lib.hid rfl⟩
      rw [HK.out] at hcon ⊢
      have hk := fun W => specKeyOk_any k W
      clear hkx HK h4
      obtain ⟨f, HF⟩ : ∃ f, Hid (Gr.kok k = f) := ⟨_, Lib.hid rfl⟩
      rw [HF.out] at hk ⊢
      clear HF
      cases f
      all_goals
        go_enter Tryz.func158, Tryz.ntmps158
        go_wp2_with fail
        refine (hcon _).mono ?_
        rintro e w1 ⟨rfl, hb1⟩
        have hb := below_aft9 hb0 hb1
        obtain ⟨c0, c1, c2, c3⟩ := Bk.c4 (HX.below hb1)
        go_wp2_with fail
        refine (hk _).mono ?_
        rintro e w2 ⟨rfl, hw2⟩
        rw [hw2]
        clear hw2
        go_wp2
        go_ret
        exact ⟨rfl, hb⟩
    · rw [Lk.kx_nine c a b t hc]
      have hq : (c == 0) = false := by simpa using hc
      obtain ⟨k, HK⟩ : ∃ k, Hid (Dg.num t = k) := ⟨_, Lib.hid rfl⟩
      rw [HK.out] at hcon
      clear HK h4
      go_enter Tryz.func158, Tryz.ntmps158
      go_wp2_with fail
      refine (hcon _).mono ?_
      rintro e w1 ⟨rfl, hb1⟩
      have hb := below_aft9 hb0 hb1
      obtain ⟨c0, c1, c2, c3⟩ := Bk.c4 (HX.below hb1)
      go_wp2
      go_ret
      exact ⟨rfl, hb⟩
  · rw [Lk.kx_short c a b t h4]
    have hcon := fun W => specBytesDigest_no t W h4
    clear h4
    by_cases hc : c = 0
    · subst hc
      go_enter Tryz.func158, Tryz.ntmps158
      go_wp2_with fail
      refine (hcon _).mono ?_
      rintro e w1 ⟨rfl, hb1⟩
      have hb := below_aft9 hb0 hb1
      obtain ⟨c0, c1, c2, c3⟩ := Bk.c4 (HX.below hb1)
      go_wp2
      go_ret
      exact ⟨rfl, hb⟩
    · have hq : (c == 0) = false := by simpa using hc
      go_enter Tryz.func158, Tryz.ntmps158
      go_wp2_with fail
      refine (hcon _).mono ?_
      rintro e w1 ⟨rfl, hb1⟩
      have hb := below_aft9 hb0 hb1
      obtain ⟨c0, c1, c2, c3⟩ := Bk.c4 (HX.below hb1)
      go_wp2
      go_ret
      exact ⟨rfl, hb⟩
set_option maxRecDepth 100000 in
set_option maxHeartbeats 3200000 in
theorem l12Four_any (c a b : Int) (t : ByteArray) (w : World) :
    Calls Tryz.prog 159 #[.agg #[.int .i64 c, .int .i64 a, .int .i64 b, .string t]] w fun e w' => e = .returned (.bool (Lk.has ⟨c, a, b, t⟩)) ∧ Below w.heap.size w w' := by
  have HX : Bk w.heap.size 77 #[.int .i64 c, .int .i64 a, .int .i64 b, .string t] (w.alloc (.cells #[.int .i64 c, .int .i64 a, .int .i64 b, .string t] 77 (0, 0))) := Bk.new _ _ _
  have hb0 : Below w.heap.size w (w.alloc (.cells #[.int .i64 c, .int .i64 a, .int .i64 b, .string t] 77 (0, 0))) := (Below.refl _ _).alloc (Nat.le_refl _) _
  obtain ⟨c0, c1, c2, c3⟩ := Bk.c4 HX
  by_cases hc : c = 0
  · subst hc
    by_cases h4 : t.size = 4
    · have e : Lk.has ⟨0, a, b, t⟩ = true := by unfold Lk.has; simp [h4]
      have hz : ((t.size : Int) == 4) = true := by simp [h4]
      rw [e]
      clear e h4
      go_enter Tryz.func159, Tryz.ntmps159
      go_wp2
      go_ret
      exact ⟨rfl, hb0⟩
    · have e : Lk.has ⟨0, a, b, t⟩ = false := by unfold Lk.has; simp [h4]
      have hz : ((t.size : Int) == 4) = false := by simpa using fun g : (t.size : Int) = 4 => h4 (by omega)
      rw [e]
      clear e h4
      go_enter Tryz.func159, Tryz.ntmps159
      go_wp2
      go_ret
      exact ⟨rfl, hb0⟩
  · have e : Lk.has ⟨c, a, b, t⟩ = false := by unfold Lk.has; simp [hc]
    have hq : (c == 0) = false := by simpa using hc
    rw [e]
    clear e hc
    go_enter Tryz.func159, Tryz.ntmps159
    go_wp2
    go_ret
    exact ⟨rfl, hb0⟩
set_option maxRecDepth 100000 in
set_option maxHeartbeats 3200000 in
theorem l12Same_any (s t : ByteArray) (ok : Bool) (w : World) :
    Calls Tryz.prog 161 #[.string s, .string t, .bool ok] w fun e w' => e = .returned (.bool (ok && decide (s = t))) ∧ w' = w := by
  cases ok
  · rw [Bool.false_and]
    go_enter Tryz.func161, Tryz.ntmps161
    go_wp2
    go_ret
    exact ⟨rfl, rfl⟩
  · rw [Bool.true_and]
    by_cases h : s = t
    · subst h
      have hq : (s.toList == s.toList) = true := by simp
      rw [decide_eq_true rfl]
      go_enter Tryz.func161, Tryz.ntmps161
      go_wp2
      go_ret
      exact ⟨rfl, rfl⟩
    · have hq : (s.toList == t.toList) = false := by
        rw [beq_eq_false_iff_ne]
        intro e
        rw [ByteArray.toList_eq, ByteArray.toList_eq] at e
        exact h (ByteArray.ext (Array.toList_inj.1 e))
      rw [decide_eq_false h]
      clear h
      go_enter Tryz.func161, Tryz.ntmps161
      go_wp2
      go_ret
      exact ⟨rfl, rfl⟩
theorem Lk.keys_len {l : List Jo} (h : ¬ 2 ≤ l.length) : Lk.keysOk l = false := by
  unfold Lk.keysOk
  rw [decide_eq_false h, Bool.false_and]
theorem Lk.keys_code {l : List Jo} (h : (Jo.at_ l (l.length - 1)).c ≠ 12) : Lk.keysOk l = false := by
  unfold Lk.keysOk
  rw [decide_eq_false h, Bool.false_and, Bool.and_false]
theorem Lk.keys_b {l : List Jo} (h : (Jo.at_ l (l.length - 1)).b ≠ ((l.length - 1 : Nat) : Int)) : Lk.keysOk l = false := by
  unfold Lk.keysOk
  rw [decide_eq_false h, Bool.false_and, Bool.and_false, Bool.and_false]
theorem Lk.keys_no {l : List Jo} {j : Nat} (hj : j < l.length - 1) (h : Lk.kx (Jo.at_ l j) = 0) : Lk.keysOk l = false := by
  have : ((List.range (l.length - 1)).all fun j => decide (Lk.kx (Jo.at_ l j) ≠ 0)) = false := by
    rw [List.all_eq_false]
    exact ⟨j, List.mem_range.2 hj, by simp [h]⟩
  unfold Lk.keysOk
  rw [this, Bool.and_false, Bool.and_false, Bool.and_false]
theorem Lk.keys_yes {l : List Jo} (h2 : 2 ≤ l.length) (hc : (Jo.at_ l (l.length - 1)).c = 12) (hb : (Jo.at_ l (l.length - 1)).b = ((l.length - 1 : Nat) : Int)) (hk : ∀ j, j < l.length - 1 → Lk.kx (Jo.at_ l j) ≠ 0) : Lk.keysOk l = true := by
  unfold Lk.keysOk
  simp only [Bool.and_eq_true, decide_eq_true_eq, List.all_eq_true, List.mem_range]
  exact ⟨h2, hc, hb, hk⟩
set_option maxRecDepth 100000 in
set_option maxHeartbeats 3200000 in
theorem l12Keys_any (a : Option Addr) (len cap : Nat) (l : List Jo) (w : World) (hO : OL w a len l) (hm : len ≤ 100) :
    Calls Tryz.prog 162 #[.slice a len cap] w fun e w' => e = .returned (.bool (Lk.keysOk l)) ∧ Below w.heap.size w w' := by
  have HL := Lib.hid hO.1
  have HO := Lib.hid hO
  obtain ⟨ok, HOK⟩ : ∃ x, Hid (Lk.keysOk l = x) := ⟨_, Lib.hid rfl⟩
  rw [HOK.out]
  by_cases h2 : 2 ≤ len
  case neg =>
    have hok : ok = false := by rw [← HOK.out]; exact Lk.keys_len (by rw [HL.out]; exact h2)
    subst hok
    have hw : IntKind.i64.wrap ((len : Int) - 1) = (len : Int) - 1 := IntWalk.i64_in _ (by omega)
    have hlt : decide ((len : Int) - 1 < 1) = true := by simp; omega
    clear hO
    go_enter Tryz.func162, Tryz.ntmps162
    go_wp2
    go_ret
    exact ⟨rfl, Below.refl _ _⟩
  obtain ⟨n, rfl⟩ : ∃ n, len = n + 1 := ⟨len - 1, by omega⟩
  have hn1 : 1 ≤ n := by omega
  have hw : IntKind.i64.wrap ((n + 1 : Nat) - 1 : Int) = (n : Int) := by rw [IntWalk.i64_in _ (by omega)]; omega
  obtain ⟨b, off, rfl, hblt, hc⟩ := hO.2 (by omega)
  obtain ⟨q0, q1, q2, q3⟩ := hc n (by omega)
  have HC := Lib.hid hc
  obtain ⟨x, HXX⟩ : ∃ x, Hid (Jo.at_ l n = x) := ⟨_, Lib.hid rfl⟩
  have hl1 : l.length - 1 = n := by have := hO.1; omega
  rw [HXX.out] at q0 q1 q2 q3
  clear hO hc
  have HKN : Hid (∀ j, j < n → Lk.kx (Jo.at_ l j) = 0 → ok = false) := Lib.hid fun j hj hz => by rw [← HOK.out]; exact Lk.keys_no (j := j) (by rw [hl1]; exact hj) hz
  by_cases hcc : x.c = 12
  case neg =>
    have hok : ok = false := by rw [← HOK.out]; exact Lk.keys_code (by rw [hl1, HXX.out]; exact hcc)
    subst hok
    have hq : (x.c == 12) = false := by simpa using hcc
    have hqn : (x.c != 12) = true := by simpa using hcc
    clear hcc
    go_enter Tryz.func162, Tryz.ntmps162
    go_wp2
    go_ret
    exact ⟨rfl, Below.refl _ _⟩
  have hq : (x.c == 12) = true := by simpa using hcc
  have hqn : (x.c != 12) = false := by simpa using hcc
  by_cases hbb : x.b = (n : Int)
  case neg =>
    have hok : ok = false := by rw [← HOK.out]; exact Lk.keys_b (by rw [hl1, HXX.out]; exact hbb)
    subst hok
    have hq2 : (x.b == (n : Int)) = false := by simpa using hbb
    have hq2n : (x.b != (n : Int)) = true := by simpa using hbb
    clear hbb hcc
    go_enter Tryz.func162, Tryz.ntmps162
    go_wp2
    go_ret
    exact ⟨rfl, Below.refl _ _⟩
  have hq2 : (x.b == (n : Int)) = true := by simpa using hbb
  have hq2n : (x.b != (n : Int)) = false := by simpa using hbb
  have HYES : Hid ((∀ j, j < n → Lk.kx (Jo.at_ l j) ≠ 0) → ok = true) := Lib.hid fun hall => by
    rw [← HOK.out]
    exact Lk.keys_yes (by have := HL.out; omega) (by rw [hl1, HXX.out]; exact hcc) (by rw [hl1, HXX.out]; exact hbb) (fun j hj => hall j (by rw [← hl1]; exact hj))
  clear hbb hcc hl1
  go_enter Tryz.func162, Tryz.ntmps162
  go_wp2
  go_loopw [4] (fun i wr => ∃ (k : Nat), k ≤ n ∧ i = .int .i64 (k : Int) ∧ Hid (∀ j, j < k → Lk.kx (Jo.at_ l j) ≠ 0) ∧ Below w.heap.size w wr)
    (fun i _ => n - (intOf i).toNat)
  case atStart => exact ⟨0, by omega, rfl, Lib.hid (fun j hj => absurd hj (by omega)), Below.refl _ _⟩
  case round =>
    obtain ⟨k, hk, rfl, HV, hbel⟩ := hrel
    clear q0 q1 q2 q3 hq hqn hq2 hq2n
    by_cases hlt : k < n
    · obtain ⟨b', off', he, _, hc⟩ := (HO.out.below hbel).2 (by omega)
      cases he
      obtain ⟨p0, p1, p2, p3⟩ := hc k (by omega)
      obtain ⟨yc, ya, yb, yt, HY⟩ : ∃ c a b t, Hid (Jo.at_ l k = ⟨c, a, b, t⟩) := ⟨_, _, _, _, Lib.hid rfl⟩
      rw [HY.out] at p0 p1 p2 p3
      simp only at p0 p1 p2 p3
      have hcon := fun W => l12Key_any yc ya yb yt W
      obtain ⟨v, HVV⟩ : ∃ v, Hid (Lk.kx ⟨yc, ya, yb, yt⟩ = v) := ⟨_, Lib.hid rfl⟩
      rw [HVV.out] at hcon
      clear hc
      by_cases hv : v = 0
      · have hok : ok = false := HKN.out k hlt (by rw [HY.out, HVV.out]; exact hv)
        subst hok hv
        go_wp2_with fail
        refine (hcon _).mono ?_
        rintro e w1 ⟨rfl, hb1⟩
        have hb2 := hbel.trans (hb1.mono hbel.size)
        clear hb1
        go_wp2
        go_ret
        exact ⟨rfl, hb2⟩
      · have hvq : (v == 0) = false := by simpa using hv
        have HV2 : Hid (∀ j, j < k + 1 → Lk.kx (Jo.at_ l j) ≠ 0) := Lib.hid fun j hj => by
          by_cases hjk : j = k
          · rw [hjk, HY.out, HVV.out]; exact hv
          · exact HV.out j (by omega)
        clear hv
        go_wp2_with fail
        refine (hcon _).mono ?_
        rintro e w1 ⟨rfl, hb1⟩
        have hb2 := hbel.trans (hb1.mono hbel.size)
        clear hb1 p0 p1 p2 p3
        go_wp2
        go_roundw
        case rel => exact ⟨k + 1, by omega, by simp, HV2, hb2⟩
        case measure => simp [intOf]; omega
    · obtain rfl : k = n := by omega
      have hok : ok = true := HYES.out HV.out
      subst hok
      go_wp2
      go_ret
      exact ⟨rfl, hbel⟩
set_option maxRecDepth 100000 in
set_option maxHeartbeats 6400000 in
theorem l12NameOf_any (a : Option Addr) (n cap : Nat) (l : List Jo) (w : World) (hO : OL w a n l) (hok : Jo.ok l = true) :
    Calls Tryz.prog 117 #[.string (Jo.bs l), .slice a n cap] w fun e w' => e = .returned (.string (Lk.name l)) ∧ Below w.heap.size w w' := by
  have hlen := hO.1
  have hn40 : n ≤ 40 := by have := ((Jo.ok_iff l).1 hok).1; omega
  have HO := Lib.hid hO
  have HOK := Lib.hid hok
  have HL := Lib.hid hlen
  have HK := Lib.hid (fun W h => l12Keys_any a n cap l W h (by omega))
  have hend := @Lk.name_end l hok
  have HIS : Hid (∀ k, k < 5 → Lk.Is k l → Lk.name l = Lk.nm k) := Lib.hid fun k hk h => Lk.name_is hk h
  obtain ⟨R, HR⟩ : ∃ x, Hid (Lk.name l = x) := ⟨_, Lib.hid rfl⟩
  obtain ⟨f, HF⟩ : ∃ x, Hid (Lk.keysOk l = x) := ⟨_, Lib.hid rfl⟩
  obtain ⟨X, HXX⟩ : ∃ x, Hid (Jo.bs l = x) := ⟨_, Lib.hid rfl⟩
  rw [HR.out] at HIS hend ⊢
  rw [HF.out] at HK hend
  rw [HXX.out]
  have HT0 := Lib.hid hend
  clear hok hend HR HF
  by_cases h2 : n = 2
  case pos =>
    subst h2
    obtain ⟨b, off, rfl, _, hc⟩ := hO.2 (by omega)
    have HC := Lib.hid hc
    clear hO hc
    obtain ⟨p00, p01, p02, p03⟩ := HC.out 0 (by omega)
    obtain ⟨c0, a0, b0, t0, HY0⟩ : ∃ c a b t, Hid (Jo.at_ l 0 = ⟨c, a, b, t⟩) := ⟨_, _, _, _, Lib.hid rfl⟩
    rw [HY0.out] at p00 p01 p02 p03
    simp only at p00 p01 p02 p03
    obtain ⟨p10, p11, p12, p13⟩ := HC.out 1 (by omega)
    obtain ⟨c1, a1, b1, t1, HY1⟩ : ∃ c a b t, Hid (Jo.at_ l 1 = ⟨c, a, b, t⟩) := ⟨_, _, _, _, Lib.hid rfl⟩
    rw [HY1.out] at p10 p11 p12 p13
    simp only at p10 p11 p12 p13
    replace p00 : w.cell? ⟨b, off, none⟩ = some (.int .i64 c0) := p00
    replace p01 : w.cell? ⟨b, off + 1, none⟩ = some (.int .i64 a0) := p01
    replace p02 : w.cell? ⟨b, off + 2, none⟩ = some (.int .i64 b0) := p02
    replace p03 : w.cell? ⟨b, off + 3, none⟩ = some (.string t0) := p03
    replace p10 : w.cell? ⟨b, off + 4, none⟩ = some (.int .i64 c1) := p10
    replace p11 : w.cell? ⟨b, off + 5, none⟩ = some (.int .i64 a1) := p11
    replace p12 : w.cell? ⟨b, off + 6, none⟩ = some (.int .i64 b1) := p12
    replace p13 : w.cell? ⟨b, off + 7, none⟩ = some (.string t1) := p13
    have hcon := fun W => l12Key_any c0 a0 b0 t0 W
    obtain ⟨v, HV⟩ : ∃ v, Hid (Lk.kx ⟨c0, a0, b0, t0⟩ = v) := ⟨_, Lib.hid rfl⟩
    rw [HV.out] at hcon
    have HV0 : Hid (Lk.kx (Jo.at_ l 0) = v) := Lib.hid (by rw [HY0.out]; exact HV.out)
    have HC1 : Hid ((Jo.at_ l 1).c = c1) := Lib.hid (by rw [HY1.out])
    by_cases hv : v = 0
    · subst hv
      go_enter Tryz.func117, Tryz.ntmps117
      go_wp2_with fail
      refine (hcon _).mono ?_
      rintro e w1 ⟨rfl, hx⟩
      have hb1 := hx
      clear hx
      have hR := HT0.out (fun g => (Lk.of_is0 g).1 HV0.out) (fun g => by have := Lk.len1 g; omega) (fun g => by have := Lk.len3 g; omega) (fun g => by have := Lk.len4 g; omega)
      cases f
      · replace hR : R = ⟨#[]⟩ := hR
        subst hR
        go_wp2_with fail
        refine (HK.out _ (HO.out.below hb1)).mono ?_
        rintro e wz ⟨rfl, hbz⟩
        have hbq := hb1.trans (hbz.mono hb1.size)
        clear hbz
        go_wp2
        go_ret
        exact ⟨rfl, hbq⟩
      · replace hR : R = ⟨#[115, 104, 97, 114, 101, 100]⟩ := hR
        subst hR
        go_wp2_with fail
        refine (HK.out _ (HO.out.below hb1)).mono ?_
        rintro e wz ⟨rfl, hbz⟩
        have hbq := hb1.trans (hbz.mono hb1.size)
        clear hbz
        go_wp2
        go_ret
        exact ⟨rfl, hbq⟩
    have hv0 : (0 : Int) < v := by have := Lk.kx_pos (Jo.at_ l 0) (by rw [HV0.out]; exact hv); rw [HV0.out] at this; exact this
    by_cases hc1 : c1 = 11
    · subst hc1
      have HP : Hid (Lk.Is 0 l) := Lib.hid (Lk.is0_of HOK.out HL.out (by rw [HV0.out]; exact hv) HC1.out)
      have p10' := fun W (h : Below w.heap.size w W) => (show W.cell? ⟨b, off + 4, none⟩ = some (.int .i64 11) from by have := (HO.out.below h).2 (by omega); obtain ⟨b', off', he, _, hcc⟩ := this; cases he; have := (hcc 1 (by omega)).1; rw [HY1.out] at this; exact this)
      clear hv
      go_enter Tryz.func117, Tryz.ntmps117
      go_wp2_with fail
      refine (hcon _).mono ?_
      rintro e w1 ⟨rfl, hx⟩
      have hb1 := hx
      clear hx
      have q10 := p10' _ hb1
      have hR : R = ⟨#[107, 101, 121]⟩ := HIS.out 0 (by decide) (HP.out)
      subst hR
      go_wp2
      go_ret
      exact ⟨rfl, hb1⟩
    · have hq : (c1 == 11) = false := by simpa using hc1
      have p10' := fun W (h : Below w.heap.size w W) => (show W.cell? ⟨b, off + 4, none⟩ = some (.int .i64 c1) from by have := (HO.out.below h).2 (by omega); obtain ⟨b', off', he, _, hcc⟩ := this; cases he; have := (hcc 1 (by omega)).1; rw [HY1.out] at this; exact this)
      have HNE := Lib.hid hc1
      clear hv hc1
      go_enter Tryz.func117, Tryz.ntmps117
      go_wp2_with fail
      refine (hcon _).mono ?_
      rintro e w1 ⟨rfl, hx⟩
      have hb1 := hx
      clear hx
      have q10 := p10' _ hb1
      have hR := HT0.out (fun g => HNE.out (HC1.out.symm.trans (Lk.of_is0 g).2)) (fun g => by have := Lk.len1 g; omega) (fun g => by have := Lk.len3 g; omega) (fun g => by have := Lk.len4 g; omega)
      cases f
      · replace hR : R = ⟨#[]⟩ := hR
        subst hR
        go_wp2_with fail
        refine (HK.out _ (HO.out.below hb1)).mono ?_
        rintro e wz ⟨rfl, hbz⟩
        have hbq := hb1.trans (hbz.mono hb1.size)
        clear hbz
        go_wp2
        go_ret
        exact ⟨rfl, hbq⟩
      · replace hR : R = ⟨#[115, 104, 97, 114, 101, 100]⟩ := hR
        subst hR
        go_wp2_with fail
        refine (HK.out _ (HO.out.below hb1)).mono ?_
        rintro e wz ⟨rfl, hbz⟩
        have hbq := hb1.trans (hbz.mono hb1.size)
        clear hbz
        go_wp2
        go_ret
        exact ⟨rfl, hbq⟩
  by_cases h3 : n = 3
  case pos =>
    subst h3
    obtain ⟨b, off, rfl, _, hc⟩ := hO.2 (by omega)
    have HC := Lib.hid hc
    clear hO hc
    obtain ⟨p10, p11, p12, p13⟩ := HC.out 1 (by omega)
    obtain ⟨c1, a1, b1, t1, HY1⟩ : ∃ c a b t, Hid (Jo.at_ l 1 = ⟨c, a, b, t⟩) := ⟨_, _, _, _, Lib.hid rfl⟩
    rw [HY1.out] at p10 p11 p12 p13
    simp only at p10 p11 p12 p13
    replace p10 : w.cell? ⟨b, off + 4, none⟩ = some (.int .i64 c1) := p10
    replace p11 : w.cell? ⟨b, off + 5, none⟩ = some (.int .i64 a1) := p11
    replace p12 : w.cell? ⟨b, off + 6, none⟩ = some (.int .i64 b1) := p12
    replace p13 : w.cell? ⟨b, off + 7, none⟩ = some (.string t1) := p13
    have hcon := fun W => l12Four_any c1 a1 b1 t1 W
    obtain ⟨v, HV⟩ : ∃ v, Hid (Lk.has ⟨c1, a1, b1, t1⟩ = v) := ⟨_, Lib.hid rfl⟩
    rw [HV.out] at hcon
    have HV0 : Hid (Lk.has (Jo.at_ l 1) = v) := Lib.hid (by rw [HY1.out]; exact HV.out)
    have p13' := fun W (h : Below w.heap.size w W) => (show W.cell? ⟨b, off + 7, none⟩ = some (.string t1) from by have := (HO.out.below h).2 (by omega); obtain ⟨b', off', he, _, hcc⟩ := this; cases he; have := (hcc 1 (by omega)).2.2.2; rw [HY1.out] at this; exact this)
    cases v
    · skip
      go_enter Tryz.func117, Tryz.ntmps117
      go_wp2_with fail
      refine (hcon _).mono ?_
      rintro e w1 ⟨rfl, hx⟩
      have hb1 := hx
      clear hx
      have hR := HT0.out (fun g => by have := Lk.len0 g; omega) (fun g => by have := (Lk.of_is1 g).1; rw [HV0.out] at this; cases this) (fun g => by have := Lk.len3 g; omega) (fun g => by have := Lk.len4 g; omega)
      cases f
      · replace hR : R = ⟨#[]⟩ := hR
        subst hR
        go_wp2_with fail
        refine (HK.out _ (HO.out.below hb1)).mono ?_
        rintro e wz ⟨rfl, hbz⟩
        have hbq := hb1.trans (hbz.mono hb1.size)
        clear hbz
        go_wp2
        go_ret
        exact ⟨rfl, hbq⟩
      · replace hR : R = ⟨#[115, 104, 97, 114, 101, 100]⟩ := hR
        subst hR
        go_wp2_with fail
        refine (HK.out _ (HO.out.below hb1)).mono ?_
        rintro e wz ⟨rfl, hbz⟩
        have hbq := hb1.trans (hbz.mono hb1.size)
        clear hbz
        go_wp2
        go_ret
        exact ⟨rfl, hbq⟩
    have h4 : t1.size = 4 := by
      have := HV.out
      unfold Lk.has at this
      simp at this
      exact this.2
    have hcd := fun W => specBytesDigest_ok t1 W h4
    have hnb := Dg.num_bd t1
    have HLD : Hid (∀ W, Calls Tryz.prog 148 #[.int .i64 (Dg.num t1)] W fun e w' => e = .returned (.tuple #[.string (Jo.bs (Lk.digest (Dg.num t1))), .bool true]) ∧ Below W.heap.size W w') := Lib.hid fun W => (LockDigest_yes (Dg.num t1) W hnb.1 hnb.2).mono fun e w' h => by
      unfold LkR at h
      rw [Lk.ok_digest] at h
      exact h
    have HB := Lib.hid hnb
    have HN1 : Hid (Dg.num (Jo.at_ l 1).t = Dg.num t1) := Lib.hid (by rw [HY1.out])
    obtain ⟨d, HD⟩ : ∃ d, Hid (Dg.num t1 = d) := ⟨_, Lib.hid rfl⟩
    rw [HD.out] at hcd HLD HB HN1
    obtain ⟨Y, HYY⟩ : ∃ y, Hid (Jo.bs (Lk.digest d) = y) := ⟨_, Lib.hid rfl⟩
    rw [HYY.out] at HLD
    have hsame := fun W => l12Same_any X Y true W
    rw [Bool.true_and] at hsame
    clear h4 hnb HD
    by_cases he : X = Y
    · rw [decide_eq_true he] at hsame
      have HP : Hid (Lk.Is 1 l) := Lib.hid (Lk.is1_of HOK.out HB.out (by rw [HYY.out, HXX.out]; exact he.symm))
      clear he
      go_enter Tryz.func117, Tryz.ntmps117
      go_wp2_with fail
      refine (hcon _).mono ?_
      rintro e w1 ⟨rfl, hx⟩
      have hb1 := hx
      clear hx
      have q13 := p13' _ hb1
      go_wp2_with fail
      refine (hcd _).mono ?_
      rintro e w2 ⟨rfl, hx⟩
      have hb2 := below_aft9 hb1 hx
      clear hx
      go_wp2_with fail
      refine (HLD.out _).mono ?_
      rintro e w3 ⟨rfl, hx⟩
      have hb3 := below_aft9 hb2 hx
      clear hx
      go_wp2_with fail
      refine (hsame _).mono ?_
      rintro e w4 ⟨rfl, hw4⟩
      rw [hw4]
      clear hw4
      have hR : R = ⟨#[100, 105, 103, 101, 115, 116]⟩ := HIS.out 1 (by decide) (HP.out)
      subst hR
      go_wp2
      go_ret
      exact ⟨rfl, hb3⟩
    · rw [decide_eq_false he] at hsame
      have HNE : Hid (¬ Lk.Is 1 l) := Lib.hid (fun g => he (by have := (Lk.of_is1 g).2; rw [HN1.out, HYY.out, HXX.out] at this; exact this.symm))
      clear he
      go_enter Tryz.func117, Tryz.ntmps117
      go_wp2_with fail
      refine (hcon _).mono ?_
      rintro e w1 ⟨rfl, hx⟩
      have hb1 := hx
      clear hx
      have q13 := p13' _ hb1
      go_wp2_with fail
      refine (hcd _).mono ?_
      rintro e w2 ⟨rfl, hx⟩
      have hb2 := below_aft9 hb1 hx
      clear hx
      go_wp2_with fail
      refine (HLD.out _).mono ?_
      rintro e w3 ⟨rfl, hx⟩
      have hb3 := below_aft9 hb2 hx
      clear hx
      go_wp2_with fail
      refine (hsame _).mono ?_
      rintro e w4 ⟨rfl, hw4⟩
      rw [hw4]
      clear hw4
      have hR := HT0.out (fun g => by have := Lk.len0 g; omega) (fun g => HNE.out g) (fun g => by have := Lk.len3 g; omega) (fun g => by have := Lk.len4 g; omega)
      cases f
      · replace hR : R = ⟨#[]⟩ := hR
        subst hR
        go_wp2_with fail
        refine (HK.out _ (HO.out.below hb3)).mono ?_
        rintro e wz ⟨rfl, hbz⟩
        have hbq := hb3.trans (hbz.mono hb3.size)
        clear hbz
        go_wp2
        go_ret
        exact ⟨rfl, hbq⟩
      · replace hR : R = ⟨#[115, 104, 97, 114, 101, 100]⟩ := hR
        subst hR
        go_wp2_with fail
        refine (HK.out _ (HO.out.below hb3)).mono ?_
        rintro e wz ⟨rfl, hbz⟩
        have hbq := hb3.trans (hbz.mono hb3.size)
        clear hbz
        go_wp2
        go_ret
        exact ⟨rfl, hbq⟩
  by_cases h12 : n = 12
  case pos =>
    subst h12
    obtain ⟨b, off, rfl, _, hc⟩ := hO.2 (by omega)
    have HC := Lib.hid hc
    clear hO hc
    obtain ⟨p20, p21, p22, p23⟩ := HC.out 2 (by omega)
    obtain ⟨c2, a2, b2, t2, HY2⟩ : ∃ c a b t, Hid (Jo.at_ l 2 = ⟨c, a, b, t⟩) := ⟨_, _, _, _, Lib.hid rfl⟩
    rw [HY2.out] at p20 p21 p22 p23
    simp only at p20 p21 p22 p23
    obtain ⟨p50, p51, p52, p53⟩ := HC.out 5 (by omega)
    obtain ⟨c5, a5, b5, t5, HY5⟩ : ∃ c a b t, Hid (Jo.at_ l 5 = ⟨c, a, b, t⟩) := ⟨_, _, _, _, Lib.hid rfl⟩
    rw [HY5.out] at p50 p51 p52 p53
    simp only at p50 p51 p52 p53
    obtain ⟨p80, p81, p82, p83⟩ := HC.out 8 (by omega)
    obtain ⟨c8, a8, b8, t8, HY8⟩ : ∃ c a b t, Hid (Jo.at_ l 8 = ⟨c, a, b, t⟩) := ⟨_, _, _, _, Lib.hid rfl⟩
    rw [HY8.out] at p80 p81 p82 p83
    simp only at p80 p81 p82 p83
    obtain ⟨p90, p91, p92, p93⟩ := HC.out 9 (by omega)
    obtain ⟨c9, a9, b9, t9, HY9⟩ : ∃ c a b t, Hid (Jo.at_ l 9 = ⟨c, a, b, t⟩) := ⟨_, _, _, _, Lib.hid rfl⟩
    rw [HY9.out] at p90 p91 p92 p93
    simp only at p90 p91 p92 p93
    replace p20 : w.cell? ⟨b, off + 8, none⟩ = some (.int .i64 c2) := p20
    replace p21 : w.cell? ⟨b, off + 9, none⟩ = some (.int .i64 a2) := p21
    replace p22 : w.cell? ⟨b, off + 10, none⟩ = some (.int .i64 b2) := p22
    replace p23 : w.cell? ⟨b, off + 11, none⟩ = some (.string t2) := p23
    clear p50 p51 p52 p53
    clear p80 p81 p82 p83
    clear p90 p91 p92 p93
    have hSof : ∀ W, OL W (some ⟨b, off, none⟩) 12 l → W.cell? ⟨b, off + 20, none⟩ = some (.int .i64 c5) ∧ W.cell? ⟨b, off + 21, none⟩ = some (.int .i64 a5) ∧ W.cell? ⟨b, off + 22, none⟩ = some (.int .i64 b5) ∧ W.cell? ⟨b, off + 23, none⟩ = some (.string t5) ∧ W.cell? ⟨b, off + 36, none⟩ = some (.int .i64 c9) ∧ W.cell? ⟨b, off + 37, none⟩ = some (.int .i64 a9) ∧ W.cell? ⟨b, off + 38, none⟩ = some (.int .i64 b9) ∧ W.cell? ⟨b, off + 39, none⟩ = some (.string t9) ∧ W.cell? ⟨b, off + 33, none⟩ = some (.int .i64 a8) := fun W h => by
      obtain ⟨b', off', he, _, hcc⟩ := h.2 (by omega)
      cases he
      have u0 := (hcc 5 (by omega)).1
      rw [HY5.out] at u0
      have u1 := (hcc 5 (by omega)).2.1
      rw [HY5.out] at u1
      have u2 := (hcc 5 (by omega)).2.2.1
      rw [HY5.out] at u2
      have u3 := (hcc 5 (by omega)).2.2.2
      rw [HY5.out] at u3
      have u4 := (hcc 9 (by omega)).1
      rw [HY9.out] at u4
      have u5 := (hcc 9 (by omega)).2.1
      rw [HY9.out] at u5
      have u6 := (hcc 9 (by omega)).2.2.1
      rw [HY9.out] at u6
      have u7 := (hcc 9 (by omega)).2.2.2
      rw [HY9.out] at u7
      have u8 := (hcc 8 (by omega)).2.1
      rw [HY8.out] at u8
      exact ⟨u0, u1, u2, u3, u4, u5, u6, u7, u8⟩
    have HK5 := Lib.hid (fun W => l12Key_any c5 a5 b5 t5 W)
    obtain ⟨k5, HKV5⟩ : ∃ v, Hid (Lk.kx ⟨c5, a5, b5, t5⟩ = v) := ⟨_, Lib.hid rfl⟩
    rw [HKV5.out] at HK5
    have HKY5 : Hid (Lk.kx (Jo.at_ l 5) = k5) := Lib.hid (by rw [HY5.out]; exact HKV5.out)
    have HK9 := Lib.hid (fun W => l12Key_any c9 a9 b9 t9 W)
    obtain ⟨k9, HKV9⟩ : ∃ v, Hid (Lk.kx ⟨c9, a9, b9, t9⟩ = v) := ⟨_, Lib.hid rfl⟩
    rw [HKV9.out] at HK9
    have HKY9 : Hid (Lk.kx (Jo.at_ l 9) = k9) := Lib.hid (by rw [HY9.out]; exact HKV9.out)
    have HNU : Hid ((Jo.at_ l 8).a = a8) := Lib.hid (by rw [HY8.out])
    have hcon := fun W => l12Four_any c2 a2 b2 t2 W
    obtain ⟨v, HV⟩ : ∃ v, Hid (Lk.has ⟨c2, a2, b2, t2⟩ = v) := ⟨_, Lib.hid rfl⟩
    rw [HV.out] at hcon
    have HV0 : Hid (Lk.has (Jo.at_ l 2) = v) := Lib.hid (by rw [HY2.out]; exact HV.out)
    have p23' := fun W (h : Below w.heap.size w W) => (show W.cell? ⟨b, off + 11, none⟩ = some (.string t2) from by have := (HO.out.below h).2 (by omega); obtain ⟨b', off', he, _, hcc⟩ := this; cases he; have := (hcc 2 (by omega)).2.2.2; rw [HY2.out] at this; exact this)
    cases v
    · skip
      go_enter Tryz.func117, Tryz.ntmps117
      go_wp2_with fail
      refine (hcon _).mono ?_
      rintro e w1 ⟨rfl, hx⟩
      have hb1 := hx
      clear hx
      have hR := HT0.out (fun g => by have := Lk.len0 g; omega) (fun g => by have := Lk.len1 g; omega) (fun g => by have := (Lk.of_is3 g).1; rw [HV0.out] at this; cases this) (fun g => by have := Lk.len4 g; omega)
      cases f
      · replace hR : R = ⟨#[]⟩ := hR
        subst hR
        go_wp2_with fail
        refine (HK.out _ (HO.out.below hb1)).mono ?_
        rintro e wz ⟨rfl, hbz⟩
        have hbq := hb1.trans (hbz.mono hb1.size)
        clear hbz
        go_wp2
        go_ret
        exact ⟨rfl, hbq⟩
      · replace hR : R = ⟨#[115, 104, 97, 114, 101, 100]⟩ := hR
        subst hR
        go_wp2_with fail
        refine (HK.out _ (HO.out.below hb1)).mono ?_
        rintro e wz ⟨rfl, hbz⟩
        have hbq := hb1.trans (hbz.mono hb1.size)
        clear hbz
        go_wp2
        go_ret
        exact ⟨rfl, hbq⟩
    have h4 : t2.size = 4 := by
      have := HV.out
      unfold Lk.has at this
      simp at this
      exact this.2
    have hcd := fun W => specBytesDigest_ok t2 W h4
    have HN1 : Hid (Dg.num (Jo.at_ l 2).t = Dg.num t2) := Lib.hid (by rw [HY2.out])
    obtain ⟨d, HD⟩ : ∃ d, Hid (Dg.num t2 = d) := ⟨_, Lib.hid rfl⟩
    rw [HD.out] at hcd HN1
    clear h4 HD
    have HLE := Lib.hid (fun W => LockTimed_eq d k5 a8 k9 W)
    obtain ⟨tv, HTV⟩ : ∃ v, Hid (Lk.timedOk d k5 a8 k9 = v) := ⟨_, Lib.hid rfl⟩
    rw [HTV.out] at HLE
    obtain ⟨Y, HYY⟩ : ∃ y, Hid (Jo.bs (Lk.timed d k5 a8 k9) = y) := ⟨_, Lib.hid rfl⟩
    cases tv
    · have HLC : Hid (∀ W, Calls Tryz.prog 76 #[.int .i64 d, .int .i64 k5, .int .i64 a8, .int .i64 k9] W fun e w' => e = .returned (.tuple #[.string ⟨#[]⟩, .bool false]) ∧ Below W.heap.size W w') := Lib.hid fun W => (HLE.out W).mono fun e w' h => h.2 rfl
      have hsame := fun W => l12Same_any X ⟨#[]⟩ false W
      rw [Bool.false_and] at hsame
      have HNE : Hid (¬ Lk.Is 3 l) := Lib.hid (fun g => by have := (Lk.of_is3 g).2.1; rw [HN1.out, HKY5.out, HKY9.out, HNU.out, HTV.out] at this; cases this)
      clear HLE
      go_enter Tryz.func117, Tryz.ntmps117
      go_wp2_with fail
      refine (hcon _).mono ?_
      rintro e w1 ⟨rfl, hx⟩
      have hb1 := hx
      clear hx
      have q := p23' _ hb1
      go_wp2_with fail
      refine (hcd _).mono ?_
      rintro e w2 ⟨rfl, hx⟩
      have hb2 := below_aft9 hb1 hx
      clear hx
      have hbd := hb2.drew
      have hS0 := hSof _ (HO.out.below hb2).drew
      go_wp2_with fail
      go_region_held3 (fun W => W.cell? ⟨b, off + 20, none⟩ = some (.int .i64 c5) ∧ W.cell? ⟨b, off + 21, none⟩ = some (.int .i64 a5) ∧ W.cell? ⟨b, off + 22, none⟩ = some (.int .i64 b5) ∧ W.cell? ⟨b, off + 23, none⟩ = some (.string t5) ∧ W.cell? ⟨b, off + 36, none⟩ = some (.int .i64 c9) ∧ W.cell? ⟨b, off + 37, none⟩ = some (.int .i64 a9) ∧ W.cell? ⟨b, off + 38, none⟩ = some (.int .i64 b9) ∧ W.cell? ⟨b, off + 39, none⟩ = some (.string t9) ∧ W.cell? ⟨b, off + 33, none⟩ = some (.int .i64 a8)) (first | with_reducible exact hS0 | with_reducible exact hS1 | with_reducible exact hS2 | with_reducible exact hS3)
        (first
          | (go_at_call_of 158 (Value.agg #[Value.int .i64 c5, Value.int .i64 a5, Value.int .i64 b5, Value.string t5]); refine (HK5.out _).mono ?_; rintro e V1 ⟨rfl, hx⟩; have hv1 := hbd.trans (hx.mono hbd.size); have hS1 := hSof _ (HO.out.below hv1); clear hx)
          | (go_at_call_of 158 (Value.agg #[Value.int .i64 c9, Value.int .i64 a9, Value.int .i64 b9, Value.string t9]); refine (HK9.out _).mono ?_; rintro e V2 ⟨rfl, hx⟩; have hv2 := hv1.trans (hx.mono hv1.size); have hS2 := hSof _ (HO.out.below hv2); clear hx)
          | (go_at_call 76; refine (HLC.out _).mono ?_; rintro e V3 ⟨rfl, hx⟩; have hv3 := hv2.trans (hx.mono hv2.size); have hS3 := hSof _ (HO.out.below hv3); clear hx))
      clear hbd hS0 hS1 hS2 hS3
      go_wp2_with fail
      refine (hsame _).mono ?_
      rintro e w4 ⟨rfl, hw4⟩
      rw [hw4]
      clear hw4
      have hR := HT0.out (fun g => by have := Lk.len0 g; omega) (fun g => by have := Lk.len1 g; omega) (fun g => HNE.out g) (fun g => by have := Lk.len4 g; omega)
      cases f
      · replace hR : R = ⟨#[]⟩ := hR
        subst hR
        go_wp2_with fail
        refine (HK.out _ (HO.out.below hv3)).mono ?_
        rintro e wz ⟨rfl, hbz⟩
        have hbq := hv3.trans (hbz.mono hv3.size)
        clear hbz
        go_wp2
        go_ret
        exact ⟨rfl, hbq⟩
      · replace hR : R = ⟨#[115, 104, 97, 114, 101, 100]⟩ := hR
        subst hR
        go_wp2_with fail
        refine (HK.out _ (HO.out.below hv3)).mono ?_
        rintro e wz ⟨rfl, hbz⟩
        have hbq := hv3.trans (hbz.mono hv3.size)
        clear hbz
        go_wp2
        go_ret
        exact ⟨rfl, hbq⟩
    have HLC : Hid (∀ W, Calls Tryz.prog 76 #[.int .i64 d, .int .i64 k5, .int .i64 a8, .int .i64 k9] W fun e w' => e = .returned (.tuple #[.string Y, .bool true]) ∧ Below W.heap.size W w') := Lib.hid fun W => (HLE.out W).mono fun e w' h => by
      have h1 := h.1 rfl
      unfold LkR at h1
      rw [Lk.ok_timed' HTV.out, HYY.out] at h1
      exact h1
    have hsame := fun W => l12Same_any X Y true W
    rw [Bool.true_and] at hsame
    clear HLE
    by_cases he : X = Y
    · rw [decide_eq_true he] at hsame
      have HP : Hid (Lk.Is 3 l) := Lib.hid (Lk.is3_of HOK.out HTV.out (by rw [HYY.out, HXX.out]; exact he.symm))
      clear he
      go_enter Tryz.func117, Tryz.ntmps117
      go_wp2_with fail
      refine (hcon _).mono ?_
      rintro e w1 ⟨rfl, hx⟩
      have hb1 := hx
      clear hx
      have q := p23' _ hb1
      go_wp2_with fail
      refine (hcd _).mono ?_
      rintro e w2 ⟨rfl, hx⟩
      have hb2 := below_aft9 hb1 hx
      clear hx
      have hbd := hb2.drew
      have hS0 := hSof _ (HO.out.below hb2).drew
      go_wp2_with fail
      go_region_held3 (fun W => W.cell? ⟨b, off + 20, none⟩ = some (.int .i64 c5) ∧ W.cell? ⟨b, off + 21, none⟩ = some (.int .i64 a5) ∧ W.cell? ⟨b, off + 22, none⟩ = some (.int .i64 b5) ∧ W.cell? ⟨b, off + 23, none⟩ = some (.string t5) ∧ W.cell? ⟨b, off + 36, none⟩ = some (.int .i64 c9) ∧ W.cell? ⟨b, off + 37, none⟩ = some (.int .i64 a9) ∧ W.cell? ⟨b, off + 38, none⟩ = some (.int .i64 b9) ∧ W.cell? ⟨b, off + 39, none⟩ = some (.string t9) ∧ W.cell? ⟨b, off + 33, none⟩ = some (.int .i64 a8)) (first | with_reducible exact hS0 | with_reducible exact hS1 | with_reducible exact hS2 | with_reducible exact hS3)
        (first
          | (go_at_call_of 158 (Value.agg #[Value.int .i64 c5, Value.int .i64 a5, Value.int .i64 b5, Value.string t5]); refine (HK5.out _).mono ?_; rintro e V1 ⟨rfl, hx⟩; have hv1 := hbd.trans (hx.mono hbd.size); have hS1 := hSof _ (HO.out.below hv1); clear hx)
          | (go_at_call_of 158 (Value.agg #[Value.int .i64 c9, Value.int .i64 a9, Value.int .i64 b9, Value.string t9]); refine (HK9.out _).mono ?_; rintro e V2 ⟨rfl, hx⟩; have hv2 := hv1.trans (hx.mono hv1.size); have hS2 := hSof _ (HO.out.below hv2); clear hx)
          | (go_at_call 76; refine (HLC.out _).mono ?_; rintro e V3 ⟨rfl, hx⟩; have hv3 := hv2.trans (hx.mono hv2.size); have hS3 := hSof _ (HO.out.below hv3); clear hx))
      clear hbd hS0 hS1 hS2 hS3
      go_wp2_with fail
      refine (hsame _).mono ?_
      rintro e w4 ⟨rfl, hw4⟩
      rw [hw4]
      clear hw4
      have hR : R = ⟨#[116, 105, 109, 101, 100]⟩ := HIS.out 3 (by decide) (HP.out)
      subst hR
      go_wp2
      go_ret
      exact ⟨rfl, hv3⟩
    · rw [decide_eq_false he] at hsame
      have HNE : Hid (¬ Lk.Is 3 l) := Lib.hid (fun g => he (by have := (Lk.of_is3 g).2.2; rw [HN1.out, HKY5.out, HKY9.out, HNU.out, HYY.out, HXX.out] at this; exact this.symm))
      clear he
      go_enter Tryz.func117, Tryz.ntmps117
      go_wp2_with fail
      refine (hcon _).mono ?_
      rintro e w1 ⟨rfl, hx⟩
      have hb1 := hx
      clear hx
      have q := p23' _ hb1
      go_wp2_with fail
      refine (hcd _).mono ?_
      rintro e w2 ⟨rfl, hx⟩
      have hb2 := below_aft9 hb1 hx
      clear hx
      have hbd := hb2.drew
      have hS0 := hSof _ (HO.out.below hb2).drew
      go_wp2_with fail
      go_region_held3 (fun W => W.cell? ⟨b, off + 20, none⟩ = some (.int .i64 c5) ∧ W.cell? ⟨b, off + 21, none⟩ = some (.int .i64 a5) ∧ W.cell? ⟨b, off + 22, none⟩ = some (.int .i64 b5) ∧ W.cell? ⟨b, off + 23, none⟩ = some (.string t5) ∧ W.cell? ⟨b, off + 36, none⟩ = some (.int .i64 c9) ∧ W.cell? ⟨b, off + 37, none⟩ = some (.int .i64 a9) ∧ W.cell? ⟨b, off + 38, none⟩ = some (.int .i64 b9) ∧ W.cell? ⟨b, off + 39, none⟩ = some (.string t9) ∧ W.cell? ⟨b, off + 33, none⟩ = some (.int .i64 a8)) (first | with_reducible exact hS0 | with_reducible exact hS1 | with_reducible exact hS2 | with_reducible exact hS3)
        (first
          | (go_at_call_of 158 (Value.agg #[Value.int .i64 c5, Value.int .i64 a5, Value.int .i64 b5, Value.string t5]); refine (HK5.out _).mono ?_; rintro e V1 ⟨rfl, hx⟩; have hv1 := hbd.trans (hx.mono hbd.size); have hS1 := hSof _ (HO.out.below hv1); clear hx)
          | (go_at_call_of 158 (Value.agg #[Value.int .i64 c9, Value.int .i64 a9, Value.int .i64 b9, Value.string t9]); refine (HK9.out _).mono ?_; rintro e V2 ⟨rfl, hx⟩; have hv2 := hv1.trans (hx.mono hv1.size); have hS2 := hSof _ (HO.out.below hv2); clear hx)
          | (go_at_call 76; refine (HLC.out _).mono ?_; rintro e V3 ⟨rfl, hx⟩; have hv3 := hv2.trans (hx.mono hv2.size); have hS3 := hSof _ (HO.out.below hv3); clear hx))
      clear hbd hS0 hS1 hS2 hS3
      go_wp2_with fail
      refine (hsame _).mono ?_
      rintro e w4 ⟨rfl, hw4⟩
      rw [hw4]
      clear hw4
      have hR := HT0.out (fun g => by have := Lk.len0 g; omega) (fun g => by have := Lk.len1 g; omega) (fun g => HNE.out g) (fun g => by have := Lk.len4 g; omega)
      cases f
      · replace hR : R = ⟨#[]⟩ := hR
        subst hR
        go_wp2_with fail
        refine (HK.out _ (HO.out.below hv3)).mono ?_
        rintro e wz ⟨rfl, hbz⟩
        have hbq := hv3.trans (hbz.mono hv3.size)
        clear hbz
        go_wp2
        go_ret
        exact ⟨rfl, hbq⟩
      · replace hR : R = ⟨#[115, 104, 97, 114, 101, 100]⟩ := hR
        subst hR
        go_wp2_with fail
        refine (HK.out _ (HO.out.below hv3)).mono ?_
        rintro e wz ⟨rfl, hbz⟩
        have hbq := hv3.trans (hbz.mono hv3.size)
        clear hbz
        go_wp2
        go_ret
        exact ⟨rfl, hbq⟩
  by_cases h8 : n = 8
  case pos =>
    subst h8
    obtain ⟨b, off, rfl, _, hc⟩ := hO.2 (by omega)
    have HC := Lib.hid hc
    clear hO hc
    obtain ⟨p10, p11, p12, p13⟩ := HC.out 1 (by omega)
    obtain ⟨c1, a1, b1, t1, HY1⟩ : ∃ c a b t, Hid (Jo.at_ l 1 = ⟨c, a, b, t⟩) := ⟨_, _, _, _, Lib.hid rfl⟩
    rw [HY1.out] at p10 p11 p12 p13
    simp only at p10 p11 p12 p13
    obtain ⟨p40, p41, p42, p43⟩ := HC.out 4 (by omega)
    obtain ⟨c4, a4, b4, t4, HY4⟩ : ∃ c a b t, Hid (Jo.at_ l 4 = ⟨c, a, b, t⟩) := ⟨_, _, _, _, Lib.hid rfl⟩
    rw [HY4.out] at p40 p41 p42 p43
    simp only at p40 p41 p42 p43
    obtain ⟨p50, p51, p52, p53⟩ := HC.out 5 (by omega)
    obtain ⟨c5, a5, b5, t5, HY5⟩ : ∃ c a b t, Hid (Jo.at_ l 5 = ⟨c, a, b, t⟩) := ⟨_, _, _, _, Lib.hid rfl⟩
    rw [HY5.out] at p50 p51 p52 p53
    simp only at p50 p51 p52 p53
    clear p10 p11 p12 p13
    clear p40 p41 p42 p43
    clear p50 p51 p52 p53
    have hSof : ∀ W, OL W (some ⟨b, off, none⟩) 8 l → W.cell? ⟨b, off + 4, none⟩ = some (.int .i64 c1) ∧ W.cell? ⟨b, off + 5, none⟩ = some (.int .i64 a1) ∧ W.cell? ⟨b, off + 6, none⟩ = some (.int .i64 b1) ∧ W.cell? ⟨b, off + 7, none⟩ = some (.string t1) ∧ W.cell? ⟨b, off + 20, none⟩ = some (.int .i64 c5) ∧ W.cell? ⟨b, off + 21, none⟩ = some (.int .i64 a5) ∧ W.cell? ⟨b, off + 22, none⟩ = some (.int .i64 b5) ∧ W.cell? ⟨b, off + 23, none⟩ = some (.string t5) ∧ W.cell? ⟨b, off + 17, none⟩ = some (.int .i64 a4) := fun W h => by
      obtain ⟨b', off', he, _, hcc⟩ := h.2 (by omega)
      cases he
      have u0 := (hcc 1 (by omega)).1
      rw [HY1.out] at u0
      have u1 := (hcc 1 (by omega)).2.1
      rw [HY1.out] at u1
      have u2 := (hcc 1 (by omega)).2.2.1
      rw [HY1.out] at u2
      have u3 := (hcc 1 (by omega)).2.2.2
      rw [HY1.out] at u3
      have u4 := (hcc 5 (by omega)).1
      rw [HY5.out] at u4
      have u5 := (hcc 5 (by omega)).2.1
      rw [HY5.out] at u5
      have u6 := (hcc 5 (by omega)).2.2.1
      rw [HY5.out] at u6
      have u7 := (hcc 5 (by omega)).2.2.2
      rw [HY5.out] at u7
      have u8 := (hcc 4 (by omega)).2.1
      rw [HY4.out] at u8
      exact ⟨u0, u1, u2, u3, u4, u5, u6, u7, u8⟩
    have HK1 := Lib.hid (fun W => l12Key_any c1 a1 b1 t1 W)
    obtain ⟨k1, HKV1⟩ : ∃ v, Hid (Lk.kx ⟨c1, a1, b1, t1⟩ = v) := ⟨_, Lib.hid rfl⟩
    rw [HKV1.out] at HK1
    have HKY1 : Hid (Lk.kx (Jo.at_ l 1) = k1) := Lib.hid (by rw [HY1.out]; exact HKV1.out)
    have HK5 := Lib.hid (fun W => l12Key_any c5 a5 b5 t5 W)
    obtain ⟨k5, HKV5⟩ : ∃ v, Hid (Lk.kx ⟨c5, a5, b5, t5⟩ = v) := ⟨_, Lib.hid rfl⟩
    rw [HKV5.out] at HK5
    have HKY5 : Hid (Lk.kx (Jo.at_ l 5) = k5) := Lib.hid (by rw [HY5.out]; exact HKV5.out)
    have HNU : Hid ((Jo.at_ l 4).a = a4) := Lib.hid (by rw [HY4.out])
    have HLE := Lib.hid (fun W => LockRevocable_eq k1 a4 k5 W)
    obtain ⟨tv, HTV⟩ : ∃ v, Hid (Lk.revocableOk k1 a4 k5 = v) := ⟨_, Lib.hid rfl⟩
    rw [HTV.out] at HLE
    obtain ⟨Y, HYY⟩ : ∃ y, Hid (Jo.bs (Lk.revocable k1 a4 k5) = y) := ⟨_, Lib.hid rfl⟩
    cases tv
    · have HLC : Hid (∀ W, Calls Tryz.prog 150 #[.int .i64 k1, .int .i64 a4, .int .i64 k5] W fun e w' => e = .returned (.tuple #[.string ⟨#[]⟩, .bool false]) ∧ Below W.heap.size W w') := Lib.hid fun W => (HLE.out W).mono fun e w' h => h.2 rfl
      have hsame := fun W => l12Same_any X ⟨#[]⟩ false W
      rw [Bool.false_and] at hsame
      have HNE : Hid (¬ Lk.Is 4 l) := Lib.hid (fun g => by have := (Lk.of_is4 g).1; rw [HKY1.out, HKY5.out, HNU.out, HTV.out] at this; cases this)
      clear HLE
      go_enter Tryz.func117, Tryz.ntmps117
      have hb2 := Below.refl w.heap.size w
      have hbd := hb2.drew
      have hS0 := hSof _ (HO.out.below hb2).drew
      go_wp2_with fail
      go_region_held3 (fun W => W.cell? ⟨b, off + 4, none⟩ = some (.int .i64 c1) ∧ W.cell? ⟨b, off + 5, none⟩ = some (.int .i64 a1) ∧ W.cell? ⟨b, off + 6, none⟩ = some (.int .i64 b1) ∧ W.cell? ⟨b, off + 7, none⟩ = some (.string t1) ∧ W.cell? ⟨b, off + 20, none⟩ = some (.int .i64 c5) ∧ W.cell? ⟨b, off + 21, none⟩ = some (.int .i64 a5) ∧ W.cell? ⟨b, off + 22, none⟩ = some (.int .i64 b5) ∧ W.cell? ⟨b, off + 23, none⟩ = some (.string t5) ∧ W.cell? ⟨b, off + 17, none⟩ = some (.int .i64 a4)) (first | with_reducible exact hS0 | with_reducible exact hS1 | with_reducible exact hS2 | with_reducible exact hS3)
        (first
          | (go_at_call_of 158 (Value.agg #[Value.int .i64 c1, Value.int .i64 a1, Value.int .i64 b1, Value.string t1]); refine (HK1.out _).mono ?_; rintro e V1 ⟨rfl, hx⟩; have hv1 := hbd.trans (hx.mono hbd.size); have hS1 := hSof _ (HO.out.below hv1); clear hx)
          | (go_at_call_of 158 (Value.agg #[Value.int .i64 c5, Value.int .i64 a5, Value.int .i64 b5, Value.string t5]); refine (HK5.out _).mono ?_; rintro e V2 ⟨rfl, hx⟩; have hv2 := hv1.trans (hx.mono hv1.size); have hS2 := hSof _ (HO.out.below hv2); clear hx)
          | (go_at_call 150; refine (HLC.out _).mono ?_; rintro e V3 ⟨rfl, hx⟩; have hv3 := hv2.trans (hx.mono hv2.size); have hS3 := hSof _ (HO.out.below hv3); clear hx))
      clear hbd hS0 hS1 hS2 hS3
      go_wp2_with fail
      refine (hsame _).mono ?_
      rintro e w4 ⟨rfl, hw4⟩
      rw [hw4]
      clear hw4
      have hR := HT0.out (fun g => by have := Lk.len0 g; omega) (fun g => by have := Lk.len1 g; omega) (fun g => by have := Lk.len3 g; omega) (fun g => HNE.out g)
      cases f
      · replace hR : R = ⟨#[]⟩ := hR
        subst hR
        go_wp2_with fail
        refine (HK.out _ (HO.out.below hv3)).mono ?_
        rintro e wz ⟨rfl, hbz⟩
        have hbq := hv3.trans (hbz.mono hv3.size)
        clear hbz
        go_wp2
        go_ret
        exact ⟨rfl, hbq⟩
      · replace hR : R = ⟨#[115, 104, 97, 114, 101, 100]⟩ := hR
        subst hR
        go_wp2_with fail
        refine (HK.out _ (HO.out.below hv3)).mono ?_
        rintro e wz ⟨rfl, hbz⟩
        have hbq := hv3.trans (hbz.mono hv3.size)
        clear hbz
        go_wp2
        go_ret
        exact ⟨rfl, hbq⟩
    have HLC : Hid (∀ W, Calls Tryz.prog 150 #[.int .i64 k1, .int .i64 a4, .int .i64 k5] W fun e w' => e = .returned (.tuple #[.string Y, .bool true]) ∧ Below W.heap.size W w') := Lib.hid fun W => (HLE.out W).mono fun e w' h => by
      have h1 := h.1 rfl
      unfold LkR at h1
      rw [Lk.ok_revocable' HTV.out, HYY.out] at h1
      exact h1
    have hsame := fun W => l12Same_any X Y true W
    rw [Bool.true_and] at hsame
    clear HLE
    by_cases he : X = Y
    · rw [decide_eq_true he] at hsame
      have HP : Hid (Lk.Is 4 l) := Lib.hid (Lk.is4_of HOK.out HTV.out (by rw [HYY.out, HXX.out]; exact he.symm))
      clear he
      go_enter Tryz.func117, Tryz.ntmps117
      have hb2 := Below.refl w.heap.size w
      have hbd := hb2.drew
      have hS0 := hSof _ (HO.out.below hb2).drew
      go_wp2_with fail
      go_region_held3 (fun W => W.cell? ⟨b, off + 4, none⟩ = some (.int .i64 c1) ∧ W.cell? ⟨b, off + 5, none⟩ = some (.int .i64 a1) ∧ W.cell? ⟨b, off + 6, none⟩ = some (.int .i64 b1) ∧ W.cell? ⟨b, off + 7, none⟩ = some (.string t1) ∧ W.cell? ⟨b, off + 20, none⟩ = some (.int .i64 c5) ∧ W.cell? ⟨b, off + 21, none⟩ = some (.int .i64 a5) ∧ W.cell? ⟨b, off + 22, none⟩ = some (.int .i64 b5) ∧ W.cell? ⟨b, off + 23, none⟩ = some (.string t5) ∧ W.cell? ⟨b, off + 17, none⟩ = some (.int .i64 a4)) (first | with_reducible exact hS0 | with_reducible exact hS1 | with_reducible exact hS2 | with_reducible exact hS3)
        (first
          | (go_at_call_of 158 (Value.agg #[Value.int .i64 c1, Value.int .i64 a1, Value.int .i64 b1, Value.string t1]); refine (HK1.out _).mono ?_; rintro e V1 ⟨rfl, hx⟩; have hv1 := hbd.trans (hx.mono hbd.size); have hS1 := hSof _ (HO.out.below hv1); clear hx)
          | (go_at_call_of 158 (Value.agg #[Value.int .i64 c5, Value.int .i64 a5, Value.int .i64 b5, Value.string t5]); refine (HK5.out _).mono ?_; rintro e V2 ⟨rfl, hx⟩; have hv2 := hv1.trans (hx.mono hv1.size); have hS2 := hSof _ (HO.out.below hv2); clear hx)
          | (go_at_call 150; refine (HLC.out _).mono ?_; rintro e V3 ⟨rfl, hx⟩; have hv3 := hv2.trans (hx.mono hv2.size); have hS3 := hSof _ (HO.out.below hv3); clear hx))
      clear hbd hS0 hS1 hS2 hS3
      go_wp2_with fail
      refine (hsame _).mono ?_
      rintro e w4 ⟨rfl, hw4⟩
      rw [hw4]
      clear hw4
      have hR : R = ⟨#[114, 101, 118, 111, 99, 97, 98, 108, 101]⟩ := HIS.out 4 (by decide) (HP.out)
      subst hR
      go_wp2
      go_ret
      exact ⟨rfl, hv3⟩
    · rw [decide_eq_false he] at hsame
      have HNE : Hid (¬ Lk.Is 4 l) := Lib.hid (fun g => he (by have := (Lk.of_is4 g).2; rw [HKY1.out, HKY5.out, HNU.out, HYY.out, HXX.out] at this; exact this.symm))
      clear he
      go_enter Tryz.func117, Tryz.ntmps117
      have hb2 := Below.refl w.heap.size w
      have hbd := hb2.drew
      have hS0 := hSof _ (HO.out.below hb2).drew
      go_wp2_with fail
      go_region_held3 (fun W => W.cell? ⟨b, off + 4, none⟩ = some (.int .i64 c1) ∧ W.cell? ⟨b, off + 5, none⟩ = some (.int .i64 a1) ∧ W.cell? ⟨b, off + 6, none⟩ = some (.int .i64 b1) ∧ W.cell? ⟨b, off + 7, none⟩ = some (.string t1) ∧ W.cell? ⟨b, off + 20, none⟩ = some (.int .i64 c5) ∧ W.cell? ⟨b, off + 21, none⟩ = some (.int .i64 a5) ∧ W.cell? ⟨b, off + 22, none⟩ = some (.int .i64 b5) ∧ W.cell? ⟨b, off + 23, none⟩ = some (.string t5) ∧ W.cell? ⟨b, off + 17, none⟩ = some (.int .i64 a4)) (first | with_reducible exact hS0 | with_reducible exact hS1 | with_reducible exact hS2 | with_reducible exact hS3)
        (first
          | (go_at_call_of 158 (Value.agg #[Value.int .i64 c1, Value.int .i64 a1, Value.int .i64 b1, Value.string t1]); refine (HK1.out _).mono ?_; rintro e V1 ⟨rfl, hx⟩; have hv1 := hbd.trans (hx.mono hbd.size); have hS1 := hSof _ (HO.out.below hv1); clear hx)
          | (go_at_call_of 158 (Value.agg #[Value.int .i64 c5, Value.int .i64 a5, Value.int .i64 b5, Value.string t5]); refine (HK5.out _).mono ?_; rintro e V2 ⟨rfl, hx⟩; have hv2 := hv1.trans (hx.mono hv1.size); have hS2 := hSof _ (HO.out.below hv2); clear hx)
          | (go_at_call 150; refine (HLC.out _).mono ?_; rintro e V3 ⟨rfl, hx⟩; have hv3 := hv2.trans (hx.mono hv2.size); have hS3 := hSof _ (HO.out.below hv3); clear hx))
      clear hbd hS0 hS1 hS2 hS3
      go_wp2_with fail
      refine (hsame _).mono ?_
      rintro e w4 ⟨rfl, hw4⟩
      rw [hw4]
      clear hw4
      have hR := HT0.out (fun g => by have := Lk.len0 g; omega) (fun g => by have := Lk.len1 g; omega) (fun g => by have := Lk.len3 g; omega) (fun g => HNE.out g)
      cases f
      · replace hR : R = ⟨#[]⟩ := hR
        subst hR
        go_wp2_with fail
        refine (HK.out _ (HO.out.below hv3)).mono ?_
        rintro e wz ⟨rfl, hbz⟩
        have hbq := hv3.trans (hbz.mono hv3.size)
        clear hbz
        go_wp2
        go_ret
        exact ⟨rfl, hbq⟩
      · replace hR : R = ⟨#[115, 104, 97, 114, 101, 100]⟩ := hR
        subst hR
        go_wp2_with fail
        refine (HK.out _ (HO.out.below hv3)).mono ?_
        rintro e wz ⟨rfl, hbz⟩
        have hbq := hv3.trans (hbz.mono hv3.size)
        clear hbz
        go_wp2
        go_ret
        exact ⟨rfl, hbq⟩
  have hq2 : ((n : Int) == 2) = false := by simpa using fun g : (n : Int) = 2 => h2 (by omega)
  have hq3 : ((n : Int) == 3) = false := by simpa using fun g : (n : Int) = 3 => h3 (by omega)
  have hq12 : ((n : Int) == 12) = false := by simpa using fun g : (n : Int) = 12 => h12 (by omega)
  have hq8 : ((n : Int) == 8) = false := by simpa using fun g : (n : Int) = 8 => h8 (by omega)
  have hb0 := Below.refl w.heap.size w
  have HNN := Lib.hid (And.intro h2 (And.intro h3 (And.intro h12 h8)))
  clear h2 h3 h12 h8 hO hlen
  go_enter Tryz.func117, Tryz.ntmps117
  have hR := HT0.out (fun g => HNN.out.1 (by have := Lk.len0 g; have := HL.out; omega)) (fun g => HNN.out.2.1 (by have := Lk.len1 g; have := HL.out; omega)) (fun g => HNN.out.2.2.1 (by have := Lk.len3 g; have := HL.out; omega)) (fun g => HNN.out.2.2.2 (by have := Lk.len4 g; have := HL.out; omega))
  cases f
  · replace hR : R = ⟨#[]⟩ := hR
    subst hR
    go_wp2_with fail
    refine (HK.out _ (HO.out.below hb0)).mono ?_
    rintro e wz ⟨rfl, hbz⟩
    have hbq := hb0.trans (hbz.mono hb0.size)
    clear hbz
    go_wp2
    go_ret
    exact ⟨rfl, hbq⟩
  · replace hR : R = ⟨#[115, 104, 97, 114, 101, 100]⟩ := hR
    subst hR
    go_wp2_with fail
    refine (HK.out _ (HO.out.below hb0)).mono ?_
    rintro e wz ⟨rfl, hbz⟩
    have hbq := hb0.trans (hbz.mono hb0.size)
    clear hbz
    go_wp2
    go_ret
    exact ⟨rfl, hbq⟩
set_option maxRecDepth 100000 in
set_option maxHeartbeats 3200000 in
theorem specLockName_any (s : ByteArray) (w : World) (hs : s.size ≤ 1048576) :
    Calls Tryz.prog 78 #[.string s] w fun e w' => e = .returned (.string (Lk.nameS s)) ∧ Below w.heap.size w w' := by
  have hrd := specScriptRead_any s w hs
  cases hr : Jo.read s with
  | none =>
    have HQ : Hid (Lk.nameS s = ⟨#[]⟩) := Lib.hid (by unfold Lk.nameS; rw [hr])
    have hrd2 : Calls Tryz.prog 116 #[.string s] w fun e w' => e = .returned (.tuple #[.slice none 0 0, .bool false]) ∧ Below w.heap.size w w' :=
      hrd.mono fun e w' h => by
        rcases h with ⟨_, h1, h2⟩ | ⟨l, _, _, h1, _⟩
        · exact ⟨h1, h2⟩
        · rw [hr] at h1; cases h1
    rw [HQ.out]
    clear hrd hr hs
    go_enter Tryz.func78, Tryz.ntmps78
    go_wp2_with fail
    refine hrd2.mono ?_
    rintro e w1 ⟨rfl, hb1⟩
    go_wp2
    go_ret
    exact ⟨rfl, hb1⟩
  | some l =>
    obtain ⟨hby, hok⟩ := Jo.bytes_read hr
    have hbs : Jo.bs l = s := by rw [Jo.bs_ok hok]; exact hby
    have HQ : Hid (Lk.nameS s = Lk.name l) := Lib.hid (by unfold Lk.nameS; rw [hr])
    have HN := Lib.hid (fun W a cap h => l12NameOf_any a l.length cap l W h hok)
    obtain ⟨ll, HLL⟩ : ∃ k, Hid (l.length = k) := ⟨_, Lib.hid rfl⟩
    have hrd2 : Calls Tryz.prog 116 #[.string s] w fun e w' => ∃ a cap, e = .returned (.tuple #[.slice a ll cap, .bool true]) ∧ OL w' a ll l ∧ Below w.heap.size w w' :=
      hrd.mono fun e w' h => by
        rcases h with ⟨h1, _⟩ | ⟨l', a, cap, h1, h2, h3, h4⟩
        · rw [hr] at h1; cases h1
        · rw [hr] at h1; cases h1
          rw [HLL.out] at h2 h3
          exact ⟨a, cap, h2, (OL.own h3).2, h4⟩
    rw [HLL.out, hbs] at HN
    rw [HQ.out]
    obtain ⟨R, HR⟩ : ∃ x, Hid (Lk.name l = x) := ⟨_, Lib.hid rfl⟩
    rw [HR.out] at HN ⊢
    clear hrd hr hby hok hbs HQ HR HLL
    go_enter Tryz.func78, Tryz.ntmps78
    go_wp2_with fail
    refine hrd2.mono ?_
    rintro e w1 ⟨a, cap, rfl, hO, hb1⟩
    go_wp2_with fail
    refine (HN.out _ _ _ hO).mono ?_
    rintro e w2 ⟨rfl, hx⟩
    have hb2 := below_aft9 hb1 hx
    go_wp2
    go_ret
    exact ⟨rfl, hb2⟩
end Go.Proofs.YtoocibabceeagabGreat
