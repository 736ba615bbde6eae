/-
  Contracts: LockPreimage, of the program and of the model.
-/
import Derived.Test.YtoocibabceeagabGreatUb
import Derived.Test.YtoocibabceeagabGreatUf
import Derived.Test.YtoocibabceeagabGreatUd
import Derived.Test.YtoocibabceeagabGreatWp
namespace Go.Proofs.YtoocibabceeagabGreat
open Go.RowKit

theorem Lk.name_timed {l : List Jo} (hl : Jo.ok l = true) (h : Lk.name l = Lk.nm 3) : Lk.Is 3 l := by
  unfold Lk.name at h
  split at h
  · exact absurd h (by decide)
  split at h
  · exact absurd h (by decide)
  split at h
  · exact absurd h (by decide)
  split at h
  · rename_i h3
    exact Lk.t_is hl h3
  split at h
  · exact absurd h (by decide)
  · exact absurd h (by decide)
theorem Lk.nameS_timed {s : ByteArray} (h : Lk.nameS s = Lk.nm 3) : ∃ d p x q, Lk.timedOk d p x q = true ∧ Jo.read s = some (Lk.timed d p x q) := by
  unfold Lk.nameS at h
  cases hr : Jo.read s with
  | none => rw [hr] at h; exact absurd h (by decide)
  | some l =>
    rw [hr] at h
    obtain ⟨d, p, x, q, ht, rfl⟩ := Lk.name_timed (Jo.bytes_read hr).2 h
    exact ⟨d, p, x, q, ht, rfl⟩
/-- Is a preimage shown? -/
def Lk.seen (E : Vm) (s : ByteArray) (ss : List ByteArray) : Bool := decide (Lk.nameS s = Lk.nm 3) && (Vm.opens E (Jo.read s) ss && decide ((ss.getD (ss.length - 1) ByteArray.empty).size ≠ 0))
def Lk.shown (E : Vm) (s : ByteArray) (ss : List ByteArray) : ByteArray := if Lk.seen E s ss = true then ss.getD (ss.length - 2) ByteArray.empty else ⟨#[]⟩
/-- What LockPreimage hands back. -/
def PreQ (E : Vm) (s : ByteArray) (ss : List ByteArray) (w : World) (e : Ending) (w' : World) : Prop := e = .returned (.tuple #[.string (Lk.shown E s ss), .bool (Lk.seen E s ss)]) ∧ Below w.heap.size w w'
theorem Lk.seen_no {E : Vm} {s : ByteArray} {ss : List ByteArray} (h : Lk.seen E s ss = false) : Lk.shown E s ss = ⟨#[]⟩ := by
  unfold Lk.shown
  rw [h]
  rfl
theorem Lk.seen_name {E : Vm} {s : ByteArray} {ss : List ByteArray} (h : Lk.nameS s ≠ Lk.nm 3) : Lk.seen E s ss = false := by
  unfold Lk.seen
  rw [decide_eq_false h, Bool.false_and]
theorem Lk.seen_shut {E : Vm} {s : ByteArray} {ss : List ByteArray} (h : Vm.opens E (Jo.read s) ss = false) : Lk.seen E s ss = false := by
  unfold Lk.seen
  rw [h, Bool.false_and, Bool.and_false]
theorem Lk.seen_cases {E : Vm} {s : ByteArray} {ss : List ByteArray} (h : Lk.nameS s = Lk.nm 3) (ho : Vm.opens E (Jo.read s) ss = true) :
    (∃ g x b, ss = [g, x, b] ∧ b.size ≠ 0 ∧ Lk.seen E s ss = true ∧ Lk.shown E s ss = x) ∨ (∃ g b, ss = [g, b] ∧ b.size = 0 ∧ Lk.seen E s ss = false) := by
  obtain ⟨d, p, y, q, ht, hr⟩ := Lk.nameS_timed h
  have ho2 := ho
  rw [hr] at ho2
  rcases Vm.opens_timed (Lk.timed_ok ht).1 ho2 with ⟨g, x, b, rfl, hb, _⟩ | ⟨g, b, rfl, hb⟩
  · have hs : Lk.seen E s [g, x, b] = true := by
      unfold Lk.seen
      rw [decide_eq_true h, ho]
      show decide (b.size ≠ 0) = true
      exact decide_eq_true hb
    refine .inl ⟨g, x, b, rfl, hb, hs, ?_⟩
    unfold Lk.shown
    rw [hs]
    rfl
  · refine .inr ⟨g, b, rfl, hb, ?_⟩
    unfold Lk.seen
    have e : decide (([g, b].getD ([g, b].length - 1) ByteArray.empty).size ≠ 0) = false := by
      show decide (b.size ≠ 0) = false
      simp [hb]
    rw [e, Bool.and_false, Bool.and_false]
/-- Whose preimage it is. -/
theorem Lk.seen_yes {E : Vm} {s : ByteArray} {ss : List ByteArray} (h : Lk.seen E s ss = true) : Lk.nameS s = Lk.nm 3 ∧ Vm.opens E (Jo.read s) ss = true ∧ ∃ d p x q, Lk.timedOk d p x q = true ∧ s = Jo.bytes (Lk.timed d p x q) ∧ Dg.of (Lk.shown E s ss) = d := by
  have h1 := h
  unfold Lk.seen at h1
  simp only [Bool.and_eq_true, decide_eq_true_eq] at h1
  obtain ⟨hn, ho, hb⟩ := h1
  refine ⟨hn, ho, ?_⟩
  obtain ⟨d, p, y, q, ht, hr⟩ := Lk.nameS_timed hn
  refine ⟨d, p, y, q, ht, (Jo.bytes_read hr).1.symm, ?_⟩
  have ho2 := ho
  rw [hr] at ho2
  rcases Vm.opens_timed (Lk.timed_ok ht).1 ho2 with ⟨g, x, b, rfl, _, he⟩ | ⟨g, b, rfl, hb0⟩
  · unfold Lk.shown
    rw [h]
    exact he
  · exact absurd hb0 hb
theorem str_ne {a b : ByteArray} (h : a ≠ b) : (a.toList == b.toList) = false := by
  rw [beq_eq_false_iff_ne]
  intro e
  rw [ByteArray.toList_eq, ByteArray.toList_eq] at e
  exact h (ByteArray.ext (Array.toList_inj.1 e))
set_option maxRecDepth 100000 in
set_option maxHeartbeats 3200000 in
theorem implLockPreimage_any (s : ByteArray) (a : Option Addr) (n c : Nat) (ss : List ByteArray) (E : Vm) (w : World) (hs : s.size ≤ 1048576) (hS : SR w a n ss) (hn : n ≤ 9223372036854775807) (hz : ∀ s ∈ ss, s.size ≤ 9223372036854775807) (hac : a = none → c = 0) (ht : E.t.size ≤ 1048576) :
    Calls Tryz.prog 29 #[.string s, .slice a n c, .agg #[.string E.t, .int .i64 E.h, .int .i64 E.a]] w (PreQ E s ss w) := by
  have hE : Bk w.heap.size 35 #[.string E.t, .int .i64 E.h, .int .i64 E.a] (w.alloc (.cells #[.string E.t, .int .i64 E.h, .int .i64 E.a] 35 (0, 0))) := Bk.new _ _ _
  have hb0 : Below w.heap.size w (w.alloc (.cells #[.string E.t, .int .i64 E.h, .int .i64 E.a] 35 (0, 0))) := (Below.refl _ _).alloc (Nat.le_refl _) _
  have HS := Lib.hid (hS.alloc (.cells #[.string E.t, .int .i64 E.h, .int .i64 E.a] 35 (0, 0)))
  have HN := Lib.hid (fun W => implLockName_any s W hs)
  have HU := Lib.hid (fun W (h : SR W a n ss) => implUnlock_any s a n c ss E W hs h hn hz hac ht)
  unfold UnP at HU
  have hl := hS.1
  unfold PreQ
  clear hS hz ht hn
  by_cases hnm : Lk.nameS s = Lk.nm 3
  case neg =>
    have h0 := Lk.seen_name (E := E) (ss := ss) hnm
    rw [Lk.seen_no h0, h0]
    obtain ⟨N, HNN⟩ : ∃ x, Hid (Lk.nameS s = x) := ⟨_, Lib.hid rfl⟩
    rw [HNN.out] at HN hnm
    have hlit : (Lk.nm 3).toList = [116, 105, 109, 101, 100] := by rw [ByteArray.toList_eq]; rfl
    have hq5 : ¬ N.toList = [116, 105, 109, 101, 100] := fun e => hnm (by
      rw [← hlit, ByteArray.toList_eq, ByteArray.toList_eq] at e
      exact ByteArray.ext (Array.toList_inj.1 e))
    have hq3 : (N.toList == [116, 105, 109, 101, 100]) = false := by rw [beq_eq_false_iff_ne]; exact hq5
    have hq4 : decide (N.toList = [116, 105, 109, 101, 100]) = false := decide_eq_false hq5
    clear hlit
    obtain ⟨c0, c1, c2⟩ := Bk.c3w hE
    clear h0 HNN hnm
    go_enter Tryz.func29, Tryz.ntmps29
    go_wp2_with fail
    refine (HN.out _).mono ?_
    rintro e w1 ⟨rfl, hx⟩
    have hb1 := below_aft9 hb0 hx
    go_wp2
    go_ret2
    exact ⟨rfl, hb1⟩
  rw [hnm] at HN
  have hnm3 : Lk.nm 3 = ⟨#[116, 105, 109, 101, 100]⟩ := rfl
  rw [hnm3] at HN
  have hqe : ((⟨#[116, 105, 109, 101, 100]⟩ : ByteArray).toList == (⟨#[116, 105, 109, 101, 100]⟩ : ByteArray).toList) = true := by simp
  have hqe2 : ((⟨#[116, 105, 109, 101, 100]⟩ : ByteArray).toList != (⟨#[116, 105, 109, 101, 100]⟩ : ByteArray).toList) = false := by simp
  cases ho : Vm.opens E (Jo.read s) ss
  · have h0 := Lk.seen_shut (E := E) (s := s) (ss := ss) ho
    rw [Lk.seen_no h0, h0]
    rw [ho] at HU
    clear h0 ho hnm
    go_enter Tryz.func29, Tryz.ntmps29
    go_wp2_with fail
    refine (HN.out _).mono ?_
    rintro e w1 ⟨rfl, hx⟩
    have hb1 := below_aft9 hb0 hx
    replace HS := Lib.hid (HS.out.below hx)
    obtain ⟨c0, c1, c2⟩ := Bk.c3w (hE.below hx)
    clear hx
    go_wp2_with fail
    refine (HU.out _ HS.out).mono ?_
    rintro e w2 ⟨rfl, hx⟩
    have hb2 := below_aft9 hb1 hx
    go_wp2
    go_ret2
    exact ⟨rfl, hb2⟩
  rw [ho] at HU
  rcases Lk.seen_cases hnm ho with ⟨g, x, b, rfl, hb, h1, h2⟩ | ⟨g, b, rfl, hb, h1⟩
  · rw [h1, h2]
    have hn3 : n = 3 := by rw [← hl]; rfl
    subst hn3
    clear h1 h2 ho hnm hl
    have htr := fun W => isTrue_any b W
    rw [decide_eq_true hb] at htr
    go_enter Tryz.func29, Tryz.ntmps29
    go_wp2_with fail
    refine (HN.out _).mono ?_
    rintro e w1 ⟨rfl, hx⟩
    have hb1 := below_aft9 hb0 hx
    replace HS := Lib.hid (HS.out.below hx)
    obtain ⟨c0, c1, c2⟩ := Bk.c3w (hE.below hx)
    clear hx
    go_wp2_with fail
    refine (HU.out _ HS.out).mono ?_
    rintro e w2 ⟨rfl, hx⟩
    have hb2 := below_aft9 hb1 hx
    obtain ⟨B, off, rfl, _, hc⟩ := (HS.out.below hx).2 (by omega)
    have q1 : w2.cell? ⟨B, off + 1, none⟩ = some (.string x) := hc 1 (by omega)
    have q2 : w2.cell? ⟨B, off + 2, none⟩ = some (.string b) := hc 2 (by omega)
    clear hx hc c0 c1 c2
    go_wp2_with fail
    refine (htr _).mono ?_
    rintro e w3 ⟨rfl, hw3⟩
    rw [hw3]
    clear hw3
    go_wp2
    go_ret2
    exact ⟨rfl, hb2⟩
  · rw [Lk.seen_no h1, h1]
    have hn2 : n = 2 := by rw [← hl]; rfl
    subst hn2
    have htr := fun W => isTrue_any b W
    rw [decide_eq_false (fun h => h hb)] at htr
    clear h1 ho hnm hl
    go_enter Tryz.func29, Tryz.ntmps29
    go_wp2_with fail
    refine (HN.out _).mono ?_
    rintro e w1 ⟨rfl, hx⟩
    have hb1 := below_aft9 hb0 hx
    replace HS := Lib.hid (HS.out.below hx)
    obtain ⟨c0, c1, c2⟩ := Bk.c3w (hE.below hx)
    clear hx
    go_wp2_with fail
    refine (HU.out _ HS.out).mono ?_
    rintro e w2 ⟨rfl, hx⟩
    have hb2 := below_aft9 hb1 hx
    obtain ⟨B, off, rfl, _, hc⟩ := (HS.out.below hx).2 (by omega)
    have q0 : w2.cell? ⟨B, off, none⟩ = some (.string g) := hc 0 (by omega)
    have q1 : w2.cell? ⟨B, off + 1, none⟩ = some (.string b) := hc 1 (by omega)
    clear hx hc c0 c1 c2
    go_wp2_with fail
    refine (htr _).mono ?_
    rintro e w3 ⟨rfl, hw3⟩
    rw [hw3]
    clear hw3
    go_wp2
    go_ret2
    exact ⟨rfl, hb2⟩
set_option maxRecDepth 100000 in
set_option maxHeartbeats 3200000 in
theorem specLockPreimage_any (s : ByteArray) (a : Option Addr) (n c : Nat) (ss : List ByteArray) (E : Vm) (w : World) (hs : s.size ≤ 1048576) (hS : SR w a n ss) (hn : n ≤ 9223372036854775807) (hz : ∀ s ∈ ss, s.size ≤ 9223372036854775807) (ht : E.t.size ≤ 1048576) :
    Calls Tryz.prog 38 #[.string s, .slice a n c, .agg #[.string E.t, .int .i64 E.h, .int .i64 E.a]] w (PreQ E s ss w) := by
  have hE : Bk w.heap.size 35 #[.string E.t, .int .i64 E.h, .int .i64 E.a] (w.alloc (.cells #[.string E.t, .int .i64 E.h, .int .i64 E.a] 35 (0, 0))) := Bk.new _ _ _
  have hb0 : Below w.heap.size w (w.alloc (.cells #[.string E.t, .int .i64 E.h, .int .i64 E.a] 35 (0, 0))) := (Below.refl _ _).alloc (Nat.le_refl _) _
  have HS := Lib.hid (hS.alloc (.cells #[.string E.t, .int .i64 E.h, .int .i64 E.a] 35 (0, 0)))
  have HN := Lib.hid (fun W => specLockName_any s W hs)
  have HU := Lib.hid (fun W (h : SR W a n ss) => specUnlock_any s a n c ss E W hs h hn hz ht)
  unfold UnP at HU
  have hl := hS.1
  unfold PreQ
  clear hS hz ht hn
  by_cases hnm : Lk.nameS s = Lk.nm 3
  case neg =>
    have h0 := Lk.seen_name (E := E) (ss := ss) hnm
    rw [Lk.seen_no h0, h0]
    obtain ⟨N, HNN⟩ : ∃ x, Hid (Lk.nameS s = x) := ⟨_, Lib.hid rfl⟩
    rw [HNN.out] at HN hnm
    have hlit : (Lk.nm 3).toList = [116, 105, 109, 101, 100] := by rw [ByteArray.toList_eq]; rfl
    have hq5 : ¬ N.toList = [116, 105, 109, 101, 100] := fun e => hnm (by
      rw [← hlit, ByteArray.toList_eq, ByteArray.toList_eq] at e
      exact ByteArray.ext (Array.toList_inj.1 e))
    have hq3 : (N.toList == [116, 105, 109, 101, 100]) = false := by rw [beq_eq_false_iff_ne]; exact hq5
    have hq4 : decide (N.toList = [116, 105, 109, 101, 100]) = false := decide_eq_false hq5
    clear hlit
    obtain ⟨c0, c1, c2⟩ := Bk.c3w hE
    clear h0 HNN hnm
    go_enter Tryz.func38, Tryz.ntmps38
    go_wp2_with fail
    refine (HN.out _).mono ?_
    rintro e w1 ⟨rfl, hx⟩
    have hb1 := below_aft9 hb0 hx
    go_wp2
    go_ret2
    exact ⟨rfl, hb1⟩
  rw [hnm] at HN
  have hnm3 : Lk.nm 3 = ⟨#[116, 105, 109, 101, 100]⟩ := rfl
  rw [hnm3] at HN
  have hqe : ((⟨#[116, 105, 109, 101, 100]⟩ : ByteArray).toList == (⟨#[116, 105, 109, 101, 100]⟩ : ByteArray).toList) = true := by simp
  have hqe2 : ((⟨#[116, 105, 109, 101, 100]⟩ : ByteArray).toList != (⟨#[116, 105, 109, 101, 100]⟩ : ByteArray).toList) = false := by simp
  cases ho : Vm.opens E (Jo.read s) ss
  · have h0 := Lk.seen_shut (E := E) (s := s) (ss := ss) ho
    rw [Lk.seen_no h0, h0]
    rw [ho] at HU
    clear h0 ho hnm
    go_enter Tryz.func38, Tryz.ntmps38
    go_wp2_with fail
    refine (HN.out _).mono ?_
    rintro e w1 ⟨rfl, hx⟩
    have hb1 := below_aft9 hb0 hx
    replace HS := Lib.hid (HS.out.below hx)
    obtain ⟨c0, c1, c2⟩ := Bk.c3w (hE.below hx)
    clear hx
    go_wp2_with fail
    refine (HU.out _ HS.out).mono ?_
    rintro e w2 ⟨rfl, hx⟩
    have hb2 := below_aft9 hb1 hx
    go_wp2
    go_ret2
    exact ⟨rfl, hb2⟩
  rw [ho] at HU
  rcases Lk.seen_cases hnm ho with ⟨g, x, b, rfl, hb, h1, h2⟩ | ⟨g, b, rfl, hb, h1⟩
  · rw [h1, h2]
    have hn3 : n = 3 := by rw [← hl]; rfl
    subst hn3
    clear h1 h2 ho hnm hl
    have hbe : b.toList.isEmpty = false := by rw [str_empty_iff]; exact decide_eq_false hb
    have hbq : (b.toList == (⟨#[]⟩ : ByteArray).toList) = false := str_ne (fun e => hb (by rw [e]; rfl))
    have hbq2 : decide (b = ByteArray.empty) = false := decide_eq_false (fun e => hb (by rw [e]; rfl))
    go_enter Tryz.func38, Tryz.ntmps38
    go_wp2_with fail
    refine (HN.out _).mono ?_
    rintro e w1 ⟨rfl, hx⟩
    have hb1 := below_aft9 hb0 hx
    replace HS := Lib.hid (HS.out.below hx)
    obtain ⟨c0, c1, c2⟩ := Bk.c3w (hE.below hx)
    clear hx
    go_wp2_with fail
    refine (HU.out _ HS.out).mono ?_
    rintro e w2 ⟨rfl, hx⟩
    have hb2 := below_aft9 hb1 hx
    obtain ⟨B, off, rfl, _, hc⟩ := (HS.out.below hx).2 (by omega)
    have q1 : w2.cell? ⟨B, off + 1, none⟩ = some (.string x) := hc 1 (by omega)
    have q2 : w2.cell? ⟨B, off + 2, none⟩ = some (.string b) := hc 2 (by omega)
    clear hx hc c0 c1 c2
    go_wp2
    go_ret2
    exact ⟨rfl, hb2⟩
  · rw [Lk.seen_no h1, h1]
    have hn2 : n = 2 := by rw [← hl]; rfl
    subst hn2
    obtain rfl : b = ⟨#[]⟩ := ByteArray.ext (Array.eq_empty_of_size_eq_zero hb)
    clear h1 ho hnm hl
    go_enter Tryz.func38, Tryz.ntmps38
    go_wp2_with fail
    refine (HN.out _).mono ?_
    rintro e w1 ⟨rfl, hx⟩
    have hb1 := below_aft9 hb0 hx
    replace HS := Lib.hid (HS.out.below hx)
    obtain ⟨c0, c1, c2⟩ := Bk.c3w (hE.below hx)
    clear hx
    go_wp2_with fail
    refine (HU.out _ HS.out).mono ?_
    rintro e w2 ⟨rfl, hx⟩
    have hb2 := below_aft9 hb1 hx
    obtain ⟨B, off, rfl, _, hc⟩ := (HS.out.below hx).2 (by omega)
    have q0 : w2.cell? ⟨B, off, none⟩ = some (.string g) := hc 0 (by omega)
    have q1 : w2.cell? ⟨B, off + 1, none⟩ = some (.string ⟨#[]⟩) := hc 1 (by omega)
    clear hx hc c0 c1 c2
    go_wp2
    go_ret2
    exact ⟨rfl, hb2⟩
end Go.Proofs.YtoocibabceeagabGreat
