/-
  Contracts of the program's coins: maps made of lists, one more, one less.
-/
import Derived.Test.YtohameoomlehlabCs
import Derived.Test.YtohameoomlehlabCd
namespace Go.Proofs.Ytohameoomlehlab
open Go.RowKit Go.Maps

theorem Co.pick_take {l : List Co} (h : Co.Good l) {k : Nat} (hk : k < l.length) : Co.pick (l.take k) (Co.nth l k).tx (Co.nth l k).out = none := by
  cases hp : Co.pick (l.take k) (Co.nth l k).tx (Co.nth l k).out with
  | none => rfl
  | some c =>
    obtain ⟨h1, h2, h3⟩ := Co.pick_some hp
    obtain ⟨j, hj, rfl⟩ := Co.mem_nth h1
    have hj' : j < k := by simp at hj; omega
    have e : Co.nth (l.take k) j = Co.nth l j := by
      unfold Co.nth
      rw [List.getD_eq_getElem?_getD, List.getD_eq_getElem?_getD, List.getElem?_take, if_pos hj']
    rw [e] at h2 h3
    have := h.asc j k hj' hk
    omega
theorem Co.take_snoc {l : List Co} {k : Nat} (hk : k < l.length) {c : Co} (h : Co.nth l k = c) : l.take (k + 1) = l.take k ++ [c] := by
  rw [List.take_add_one, Co.nth_get hk, h]
  rfl
set_option maxRecDepth 100000 in
set_option maxHeartbeats 3200000 in
theorem coinMapOf_no (lo : Nat) (a : Option Addr) (n c : Nat) (l : List Co) (w : World) (h : CoL lo w a n l) (hcap : n ≤ c) (hn : n ≤ 1048576) (hs : ∀ x ∈ l, x.lock.size ≤ 1048576) (hl : Co.lok l = false) :
    Calls Try.prog 41 #[.slice a n c] w fun e w' => e = .returned (.tuple #[.map none, .bool false]) ∧ Below w.heap.size w w' := by
  have hc := implCoinsOk_any lo a n c l w h hcap hn hs
  rw [hl] at hc
  clear h hl hs hcap
  go_enter Try.func41, Try.ntmps41
  go_wp2_with fail
  refine hc.mono ?_
  rintro e w1 ⟨rfl, hb⟩
  go_wp2
  go_ret2
  exact ⟨rfl, hb⟩
set_option maxRecDepth 100000 in
set_option maxHeartbeats 6400000 in
theorem coinMapOf_yes (lo : Nat) (a : Option Addr) (n c : Nat) (l : List Co) (w : World) (h : CoL lo w a n l) (hcap : n ≤ c) (hn : n ≤ 1048576) (hs : ∀ x ∈ l, x.lock.size ≤ 1048576) (hl : Co.lok l = true) :
    Calls Try.prog 41 #[.slice a n c] w fun e w' => ∃ B, e = .returned (.tuple #[.map (some B), .bool true]) ∧ w.heap.size ≤ B ∧ Hid (CM w' B n l) ∧ Below w.heap.size w w' := by
  have hc := implCoinsOk_any lo a n c l w h hcap hn hs
  rw [hl] at hc
  have HG := Lib.hid ((Co.good_iff l).1 hl)
  have HL := Lib.hid h.1
  have hmm := @run_makeMap Try.prog
  clear hl hs hcap
  have HH := Lib.hid h
  clear h
  go_enter Try.func41, Try.ntmps41
  go_wp2_with fail
  refine hc.mono ?_
  rintro e w1 ⟨rfl, hb⟩
  have HC0 : Hid (CM (w1.alloc (.map #[] 0)) w1.heap.size 0 (l.take 0)) := Lib.hid (CM.made w1)
  have hbB : Below w.heap.size w (w1.alloc (.map #[] 0)) := hb.alloc hb.size _
  obtain ⟨B, HB⟩ : ∃ B, Hid (w1.heap.size = B) := ⟨_, Lib.hid rfl⟩
  have hwB : w.heap.size ≤ B := by rw [← HB.out]; exact hb.size
  rw [HB.out] at HC0
  clear hc
  go_wp2
  rw [HB.out]
  clear HB
  go_loopw [13] (fun i wr => ∃ k : Nat, k ≤ n ∧ i = .int .i64 (k : Int) ∧ Hid (CM wr B k (l.take k)) ∧ Below w.heap.size w wr)
    (fun i _ => n - (intOf i).toNat)
  case atStart => exact ⟨0, by omega, rfl, HC0, hbB⟩
  case round =>
    clear HC0 hbB hb
    obtain ⟨k, hk, rfl, HM, hbel⟩ := hrel
    by_cases hlt : k < n
    · obtain ⟨g, off, rfl, _, hgw, hcc⟩ := HH.out.2 (by omega)
      obtain ⟨e0, e1, e2, e3, e4, e5⟩ := hcc k hlt
      have hkl : k < l.length := by rw [HL.out]; exact hlt
      have HPN := Lib.hid (Co.pick_take HG.out hkl)
      have HOKK := Lib.hid (HG.out.ok k hkl)
      obtain ⟨x, HX⟩ : ∃ x, Hid (Co.nth l k = x) := ⟨_, Lib.hid rfl⟩
      rw [HX.out] at e0 e1 e2 e3 e4 e5 HPN HOKK
      obtain ⟨tx, out, amt, lock, ht, rew⟩ := x
      simp only at e0 e1 e2 e3 e4 e5 HPN
      have e0' := (hbel.cell (p := ⟨g, off + k * 6, none⟩) hgw).trans e0
      have e1' := (hbel.cell (p := ⟨g, off + k * 6 + 1, none⟩) hgw).trans e1
      have e2' := (hbel.cell (p := ⟨g, off + k * 6 + 2, none⟩) hgw).trans e2
      have e3' := (hbel.cell (p := ⟨g, off + k * 6 + 3, none⟩) hgw).trans e3
      have e4' := (hbel.cell (p := ⟨g, off + k * 6 + 4, none⟩) hgw).trans e4
      have e5' := (hbel.cell (p := ⟨g, off + k * 6 + 5, none⟩) hgw).trans e5
      have hpl := fun W => place_any tx out amt lock ht rew W
      have vc : Bk wr.heap.size 30 #[.int .i64 tx, .int .i64 out, .int .i64 amt, .string lock, .int .i64 ht, .bool rew] (wr.alloc (.cells #[.int .i64 tx, .int .i64 out, .int .i64 amt, .string lock, .int .i64 ht, .bool rew] 30 (0, 0))).drew := (Bk.new _ _ _).drew
      have hba : Below w.heap.size w (wr.alloc (.cells #[.int .i64 tx, .int .i64 out, .int .i64 amt, .string lock, .int .i64 ht, .bool rew] 30 (0, 0))).drew := (hbel.alloc hbel.size _).drew
      have HMa : Hid (CM (wr.alloc (.cells #[.int .i64 tx, .int .i64 out, .int .i64 amt, .string lock, .int .i64 ht, .bool rew] 30 (0, 0))).drew B k (l.take k)) := Lib.hid (HM.out.alloc _).drew
      have hBlt : B < wr.heap.size := HM.out.lt
      have hk80 : k < 80 := by have := HG.out.len; omega
      have hS0 : ((wr.alloc (.cells #[.int .i64 tx, .int .i64 out, .int .i64 amt, .string lock, .int .i64 ht, .bool rew] 30 (0, 0))).drew.cell? ⟨wr.heap.size, 0, none⟩ = some (.int .i64 tx) ∧ (wr.alloc (.cells #[.int .i64 tx, .int .i64 out, .int .i64 amt, .string lock, .int .i64 ht, .bool rew] 30 (0, 0))).drew.cell? ⟨wr.heap.size, 1, none⟩ = some (.int .i64 out) ∧ (wr.alloc (.cells #[.int .i64 tx, .int .i64 out, .int .i64 amt, .string lock, .int .i64 ht, .bool rew] 30 (0, 0))).drew.cell? ⟨wr.heap.size, 2, none⟩ = some (.int .i64 amt) ∧ (wr.alloc (.cells #[.int .i64 tx, .int .i64 out, .int .i64 amt, .string lock, .int .i64 ht, .bool rew] 30 (0, 0))).drew.cell? ⟨wr.heap.size, 3, none⟩ = some (.string lock) ∧ (wr.alloc (.cells #[.int .i64 tx, .int .i64 out, .int .i64 amt, .string lock, .int .i64 ht, .bool rew] 30 (0, 0))).drew.cell? ⟨wr.heap.size, 4, none⟩ = some (.int .i64 ht) ∧ (wr.alloc (.cells #[.int .i64 tx, .int .i64 out, .int .i64 amt, .string lock, .int .i64 ht, .bool rew] 30 (0, 0))).drew.cell? ⟨wr.heap.size, 5, none⟩ = some (.bool rew)) := Bk.c6 vc
      clear e0 e1 e2 e3 e4 e5 hcc HM HH
      go_wp2
      go_region_held3 (fun W => (W.cell? ⟨wr.heap.size, 0, none⟩ = some (.int .i64 tx) ∧ W.cell? ⟨wr.heap.size, 1, none⟩ = some (.int .i64 out) ∧ W.cell? ⟨wr.heap.size, 2, none⟩ = some (.int .i64 amt) ∧ W.cell? ⟨wr.heap.size, 3, none⟩ = some (.string lock) ∧ W.cell? ⟨wr.heap.size, 4, none⟩ = some (.int .i64 ht) ∧ W.cell? ⟨wr.heap.size, 5, none⟩ = some (.bool rew))) (first | with_reducible exact hS0 | with_reducible exact hS1 | with_reducible exact hS2)
        (first | (go_at_call 66; refine (hpl _).mono ?_; rintro e w2 ⟨rfl, hx⟩; have hb1 := below_aftC hba hx; have vc1 := vc.below hx; have hS1 := Bk.c6 vc1; obtain ⟨w3, hrun, hcm3, hg3, hz3⟩ := (HMa.out.below hx).put (c := ⟨tx, out, amt, lock, ht, rew⟩) (by unfold maxLen; omega) HOKK.out.inn HPN.out; (simp only [Co.kv, Co.val] at hrun); have HM3 : Hid (CM w3 B (k + 1) (l.take (k + 1))) := Lib.hid (by rw [Co.take_snoc hkl HX.out]; exact hcm3); have hS2 := Bk.c6 (⟨(hg3.block wr.heap.size vc1.lt (by simp; omega)).trans vc1.held⟩ : Bk wr.heap.size 30 #[.int .i64 tx, .int .i64 out, .int .i64 amt, .string lock, .int .i64 ht, .bool rew] w3); have hb3 := hb1.grown hg3 hb1.size (fun j hj => by cases hj; exact hwB)))
      go_wp2
      go_roundw
      case rel => exact ⟨k + 1, by omega, by simp, HM3, hb3⟩
      case measure => simp [intOf]; omega
    · have hkn : k = n := by omega
      have HME : Hid (CM wr B n l) := Lib.hid (by
        have := HM.out
        rw [hkn, List.take_of_length_le (by rw [HL.out]; omega)] at this
        exact this)
      clear hkn HM HH HG
      go_wp2
      go_ret2
      exact ⟨B, rfl, hwB, HME, hbel⟩
def AddQ (B n n0 : Nat) (l : List Co) (x : Co) (w : World) (e : Ending) (w' : World) : Prop :=
  e = .returned (.bool (x.ok && ((Co.pick l x.tx x.out).isNone && !decide (l.length = 80)))) ∧ ((x.ok && ((Co.pick l x.tx x.out).isNone && !decide (l.length = 80))) = true → CM w' B (n + 1) (l ++ [x])) ∧ Below n0 w w'
theorem AddQ.mk {B n n0 : Nat} {l : List Co} {x : Co} {w : World} {e : Ending} {w' : World} {r : Bool} (he : e = .returned (.bool r)) (hr : Hid ((x.ok && ((Co.pick l x.tx x.out).isNone && !decide (l.length = 80))) = r)) (hm : Hid (r = true → CM w' B (n + 1) (l ++ [x]))) (hb : Below n0 w w') : AddQ B n n0 l x w e w' := by
  unfold AddQ
  rw [hr.out]
  exact ⟨he, hm.out, hb⟩
set_option maxRecDepth 100000 in
set_option maxHeartbeats 6400000 in
theorem add_any (B n n0 : Nat) (l : List Co) (tx out amt : Int) (lock : ByteArray) (ht : Int) (rew : Bool) (w : World) (h : CM w B n l) (hn : n ≤ 1048576) (h0 : n0 ≤ B) (hi : Co.In tx out) (hz : lock.size ≤ 9223372036854775807) :
    Calls Try.prog 43 #[.map (some B), .agg #[.int .i64 tx, .int .i64 out, .int .i64 amt, .string lock, .int .i64 ht, .bool rew]] w (AddQ B n n0 l ⟨tx, out, amt, lock, ht, rew⟩ w) := by
  have hBl := h.lt
  have hw0 : n0 ≤ w.heap.size := by omega
  have v0 : Bk w.heap.size 30 #[.int .i64 tx, .int .i64 out, .int .i64 amt, .string lock, .int .i64 ht, .bool rew] (w.alloc (.cells #[.int .i64 tx, .int .i64 out, .int .i64 amt, .string lock, .int .i64 ht, .bool rew] 30 (0, 0))) := Bk.new _ _ _
  have hb0 : Below n0 w (w.alloc (.cells #[.int .i64 tx, .int .i64 out, .int .i64 amt, .string lock, .int .i64 ht, .bool rew] 30 (0, 0))) := (Below.refl _ _).alloc (by omega) _
  have HM0 := Lib.hid (h.alloc (.cells #[.int .i64 tx, .int .i64 out, .int .i64 amt, .string lock, .int .i64 ht, .bool rew] 30 (0, 0)))
  have hpl := Lib.hid (fun W => place_any tx out amt lock ht rew W)
  have hva := Lib.hid (fun W => coinValid_any tx out amt lock ht rew W hz)
  have HI := Lib.hid hi
  clear h hz hi
  go_enter Try.func43, Try.ntmps43
  go_wp2_with fail
  refine (hpl.out _).mono ?_
  rintro e w1 ⟨rfl, hx1⟩
  have v1 := v0.below hx1
  have hb1 := hb0.trans (hx1.mono (Nat.le_trans hw0 hb0.size))
  have HM1 := Lib.hid (HM0.out.below hx1)
  have hlk := HM1.out.look HI.out
  obtain ⟨p, HP⟩ : ∃ p, Hid (Co.pick l tx out = p) := ⟨_, Lib.hid rfl⟩
  rw [HP.out] at hlk
  obtain ⟨y, hy⟩ : ∃ y : Co, p.getD ⟨0, 0, 0, ⟨#[]⟩, 0, false⟩ = y := ⟨_, rfl⟩
  rw [hy] at hlk
  clear hy
  obtain ⟨y0, y1, y2, y3, y4, y5⟩ := y
  simp only [Co.kv, Co.val] at hlk
  have v2 := v1.alloc (.cells #[.int .i64 y0, .int .i64 y1, .int .i64 y2, .string y3, .int .i64 y4, .bool y5] 30 (0, 0))
  have hb2 := hb1.alloc (Nat.le_trans hw0 hb1.size) (.cells #[.int .i64 y0, .int .i64 y1, .int .i64 y2, .string y3, .int .i64 y4, .bool y5] 30 (0, 0))
  have HM2 := Lib.hid (HM1.out.alloc (.cells #[.int .i64 y0, .int .i64 y1, .int .i64 y2, .string y3, .int .i64 y4, .bool y5] 30 (0, 0)))
  obtain ⟨c0, c1, c2, c3, c4, c5⟩ := Bk.c6 v2
  clear HM0 v0 hb0 v1 hb1
  go_wp2_with fail
  refine (hva.out _).mono ?_
  rintro e w3 ⟨rfl, hx3⟩
  have v3 := v2.below hx3
  have hb3 := hb2.trans (hx3.mono (Nat.le_trans hw0 hb2.size))
  have HM3 := Lib.hid (HM2.out.below hx3)
  clear hlk v2 hb2 HM2 HM1 c0 c1 c2 c3 c4 c5 hx3 hx1
  obtain ⟨k, HK⟩ : ∃ k, Hid (Co.ok ⟨tx, out, amt, lock, ht, rew⟩ = k) := ⟨_, Lib.hid rfl⟩
  rw [HK.out]
  cases k
  · have HR : Hid ((Co.ok ⟨tx, out, amt, lock, ht, rew⟩ && ((Co.pick l tx out).isNone && !decide (l.length = 80))) = false) := Lib.hid (by rw [HK.out]; rfl)
    go_wp2
    go_ret
    exact AddQ.mk rfl HR (Lib.hid (fun h => by cases h)) hb3
  cases p with
  | some z =>
    have HR : Hid ((Co.ok ⟨tx, out, amt, lock, ht, rew⟩ && ((Co.pick l tx out).isNone && !decide (l.length = 80))) = false) := Lib.hid (by rw [HK.out, HP.out]; rfl)
    rw [show (some z).isSome = true from rfl]
    go_wp2
    go_ret
    exact AddQ.mk rfl HR (Lib.hid (fun h => by cases h)) hb3
  | none =>
    rw [show (none : Option Co).isSome = false from rfl]
    have hlen := HM3.out.len
    by_cases h80 : l.length = 80
    · have HR : Hid ((Co.ok ⟨tx, out, amt, lock, ht, rew⟩ && ((Co.pick l tx out).isNone && !decide (l.length = 80))) = false) := Lib.hid (by rw [HK.out, HP.out, decide_eq_true h80]; rfl)
      have hl2 : (l.length : Int) = 80 := by omega
      simp only [hl2] at hlen
      clear hl2 h80
      go_wp2
      go_ret
      exact AddQ.mk rfl HR (Lib.hid (fun h => by cases h)) hb3
    · have HR : Hid ((Co.ok ⟨tx, out, amt, lock, ht, rew⟩ && ((Co.pick l tx out).isNone && !decide (l.length = 80))) = true) := Lib.hid (by rw [HK.out, HP.out, decide_eq_false h80]; rfl)
      have hne : decide ((l.length : Int) = 80) = false := decide_eq_false (by omega)
      obtain ⟨L, hL⟩ : ∃ L, (l.length : Int) = L := ⟨_, rfl⟩
      rw [hL] at hne
      simp only [hL] at hlen
      clear hL h80
      have hne2 : ¬ L = 80 := of_decide_eq_false hne
      have hS0 : (w3.drew.cell? ⟨w.heap.size, 0, none⟩ = some (.int .i64 tx) ∧ w3.drew.cell? ⟨w.heap.size, 1, none⟩ = some (.int .i64 out) ∧ w3.drew.cell? ⟨w.heap.size, 2, none⟩ = some (.int .i64 amt) ∧ w3.drew.cell? ⟨w.heap.size, 3, none⟩ = some (.string lock) ∧ w3.drew.cell? ⟨w.heap.size, 4, none⟩ = some (.int .i64 ht) ∧ w3.drew.cell? ⟨w.heap.size, 5, none⟩ = some (.bool rew)) := Bk.c6 v3.drew
      have hb3d := hb3.drew
      have c3' := Bk.c6 v3
      obtain ⟨d0, d1, d2, d3, d4, d5⟩ := c3'
      go_wp2
      go_region_held3 (fun W => (W.cell? ⟨w.heap.size, 0, none⟩ = some (.int .i64 tx) ∧ W.cell? ⟨w.heap.size, 1, none⟩ = some (.int .i64 out) ∧ W.cell? ⟨w.heap.size, 2, none⟩ = some (.int .i64 amt) ∧ W.cell? ⟨w.heap.size, 3, none⟩ = some (.string lock) ∧ W.cell? ⟨w.heap.size, 4, none⟩ = some (.int .i64 ht) ∧ W.cell? ⟨w.heap.size, 5, none⟩ = some (.bool rew))) (first | with_reducible exact hS0 | with_reducible exact hS1 | with_reducible exact hS2)
        (first | (go_at_call 66; refine (hpl.out _).mono ?_; rintro e w4 ⟨rfl, hx4⟩; have hb4 := hb3d.trans (hx4.mono (Nat.le_trans hw0 hb3d.size)); have v4 := v3.drew.below hx4; have hS1 := Bk.c6 v4; obtain ⟨w5, hrun, hcm5, hg5, hz5⟩ := ((HM3.out.drew).below hx4).put (c := ⟨tx, out, amt, lock, ht, rew⟩) (by unfold maxLen; omega) HI.out HP.out; (simp only [Co.kv, Co.val] at hrun); have HM5 := Lib.hid hcm5; have hS2 := Bk.c6 (⟨(hg5.block w.heap.size v4.lt (by simp; omega)).trans v4.held⟩ : Bk w.heap.size 30 #[.int .i64 tx, .int .i64 out, .int .i64 amt, .string lock, .int .i64 ht, .bool rew] w5); have hb5 := hb4.grown hg5 (Nat.le_trans hw0 hb4.size) (fun j hj => by cases hj; exact h0)))
      go_wp2
      go_ret
      exact AddQ.mk rfl HR (Lib.hid (fun _ => HM5.out)) hb5
end Go.Proofs.Ytohameoomlehlab
