/-
  What calls answer that hand back coins, with names; what the laws of chapter 14 say.
-/
import Derived.Test.YtohameoomlehlaaGreatCj
namespace Go.Proofs.YtohameoomlehlaaGreat
open Go.RowKit

theorem CoAA.ex {l : List Co} {N : Nat} (hN : l.length = N) {ok : Bool} {w w' : World} {e : Ending} (h : CoAA l ok w e w') : ∃ a c, e = .returned (.tuple #[.slice a N c, .bool ok]) ∧ Hid (CoL w.heap.size w' a N l) ∧ Hid (N ≤ c) ∧ Below w.heap.size w w' := by
  obtain ⟨v, he, hO, hb⟩ := h
  obtain ⟨a, c, hv, hc, hl⟩ := hO.out.coL
  rw [hN] at hv hc hl
  exact ⟨a, c, by rw [he, hv], Lib.hid hl, Lib.hid hc, hb⟩
theorem CoSA.ex {l : List Co} {x : Co} {N : Nat} (hN : l.length = N) {ok : Bool} {w w' : World} {e : Ending} (h : CoSA l x ok w e w') : ∃ a c, e = .returned (.tuple #[.slice a N c, .agg #[.int .i64 x.tx, .int .i64 x.out, .int .i64 x.amt, .string x.lock, .int .i64 x.ht, .bool x.rew], .bool ok]) ∧ Hid (CoL w.heap.size w' a N l) ∧ Hid (N ≤ c) ∧ Below w.heap.size w w' := by
  obtain ⟨v, he, hO, hb⟩ := h
  obtain ⟨a, c, hv, hc, hl⟩ := hO.out.coL
  rw [hN] at hv hc hl
  exact ⟨a, c, by rw [he, hv], Lib.hid hl, Lib.hid hc, hb⟩
theorem Co.lok_len {l : List Co} (h : Co.lok l = true) : l.length ≤ 80 := ((Co.lok_iff l).1 h).1
theorem Co.lok_lock {l : List Co} (h : Co.lok l = true) : ∀ x ∈ l, x.lock.size ≤ 1048576 := fun x hx => by have := (Co.good_mem ((Co.good_iff l).1 h) x hx).lock; omega
theorem Co.add_good {l m : List Co} {c : Co} (h : Co.add l c = some m) : Co.lok m = true := by
  obtain ⟨h1, h2, h3, h4, rfl⟩ := Co.add_some h
  have hg := (Co.good_iff l).1 h1
  exact (Co.good_iff _).2 (Co.put_good hg ((Co.ok_iff c).1 h2) (by have := hg.len; omega) h4).1
theorem Co.spend_good {l m : List Co} {t o : Int} {c : Co} (h : Co.spend l t o = some (m, c)) : Co.lok m = true := by
  have h1 := (Co.add_spend h).1
  exact (Co.add_some h1).1
theorem Co.addO_len (l : List Co) (c : Co) : ((Co.add l c).getD []).length ≤ 80 ∧ ∀ x ∈ (Co.add l c).getD [], x.lock.size ≤ 1048576 := by
  cases h : Co.add l c with
  | none => exact ⟨by simp, fun x hx => by cases hx⟩
  | some m => exact ⟨Co.lok_len (Co.add_good h), Co.lok_lock (Co.add_good h)⟩
theorem Co.spendO_len (l : List Co) (t o : Int) : (((Co.spend l t o).map Prod.fst).getD []).length ≤ 80 ∧ ∀ x ∈ ((Co.spend l t o).map Prod.fst).getD [], x.lock.size ≤ 1048576 := by
  cases h : Co.spend l t o with
  | none => exact ⟨by simp, fun x hx => by cases hx⟩
  | some m => exact ⟨Co.lok_len (Co.spend_good (c := m.2) h), Co.lok_lock (Co.spend_good (c := m.2) h)⟩
theorem Co.readO_len (s : ByteArray) : ((Co.read s).getD []).length ≤ 80 ∧ ∀ x ∈ (Co.read s).getD [], x.lock.size ≤ 1048576 := by
  cases h : Co.read s with
  | none => exact ⟨by simp, fun x hx => by cases hx⟩
  | some m => exact ⟨Co.lok_len (Co.bytes_read h).2, Co.lok_lock (Co.bytes_read h).2⟩
theorem Co.spendO_lock (l : List Co) (t o : Int) : (Co.get ((Co.spend l t o).map Prod.snd)).lock.size ≤ 1048576 := by
  cases h : Co.spend l t o with
  | none => decide
  | some m =>
    show m.2.lock.size ≤ _
    have h1 := (Co.add_some (Co.add_spend (c := m.2) h).1).2.1
    have := ((Co.ok_iff _).1 h1).lock
    omega
theorem Co.total_tail {l : List Co} (h : 0 ≤ Co.total l) (h0 : 0 < l.length) : Co.total l = (Co.nth l 0).amt + Co.total (l.drop 1) ∧ (1 ≤ (Co.nth l 0).amt ∧ (Co.nth l 0).amt ≤ 1000000) ∧ (0 ≤ Co.total (l.drop 1) ∧ Co.total (l.drop 1) ≤ 80000000) := by
  unfold Co.total at h ⊢
  cases hk : Co.lok l with
  | false => rw [hk, if_neg (by decide)] at h; omega
  | true =>
    have hg := (Co.good_iff l).1 hk
    have hd := (Co.good_iff _).2 (Co.tail_good hg 1)
    rw [if_pos rfl, if_pos hd]
    have ha := (hg.ok 0 h0).amt
    have hb := Co.sum_bd (l := l.drop 1) (fun x hx => (Co.good_mem (Co.tail_good hg 1) x hx).amt)
    have hl := (Co.tail_good hg 1).len
    refine ⟨?_, ha, hb.1, by omega⟩
    cases l with
    | nil => simp at h0
    | cons c l => rfl
/-- list[1:] -/
theorem slice1C (b off n cap : Nat) (h1 : 1 ≤ n) (h2 : n ≤ cap) : ∃ ad : Addr, (∀ W, (Instr.slice 24 (.slice (some ⟨b, off, none⟩) n cap) (some (.int .i64 1)) none none).run Tryz.prog W = .ok (.slice (some ad) (n - 1) (cap - 1)) W) ∧ (ad = ⟨b, off + 1 * 6, none⟩ ∨ (n = 1 ∧ ad = ⟨b, off, none⟩)) := by
  have e2 : (1 : Int) ≤ (n : Int) := by omega
  by_cases hc : cap = 1
  · refine ⟨⟨b, off, none⟩, fun W => ?_, .inr ⟨by omega, rfl⟩⟩
    have hn : n = 1 := by omega
    subst hc hn
    simp [Instr.slice, Instr.sliceBounds, Instr.sliceBound, asIntOf, run_underlying Tryz.underlying24]
  · refine ⟨⟨b, off + 1 * 6, none⟩, fun W => ?_, .inl rfl⟩
    simp [Instr.slice, Instr.sliceBounds, Instr.sliceBound, asIntOf, run_underlying Tryz.underlying24, hc, e2, Addr.add, Tryz.sizeOf48]
theorem CoL.drop1 {lo : Nat} {w : World} {b off n : Nat} {ad : Addr} {l : List Co} (h : CoL lo w (some ⟨b, off, none⟩) n l) (h1 : 1 ≤ n) (ha : ad = ⟨b, off + 1 * 6, none⟩ ∨ (n = 1 ∧ ad = ⟨b, off, none⟩)) : CoL lo w (some ad) (n - 1) (l.drop 1) := by
  rcases ha with rfl | ⟨rfl, rfl⟩
  · exact h.drop h1
  · exact ⟨by rw [List.length_drop, h.1], fun h => absurd h (by omega)⟩
end Go.Proofs.YtohameoomlehlaaGreat
