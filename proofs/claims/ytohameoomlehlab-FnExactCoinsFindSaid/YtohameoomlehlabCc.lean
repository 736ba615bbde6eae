/-
  Contracts of the model: valid coins, places.
-/
import Derived.Test.YtohameoomlehlabCb
import Derived.Test.YtohameoomlehlabBa
import Derived.Deep.RegionHeld3
import Derived.Deep.RegionWith
import Derived.Laws.Rows
namespace Go.Proofs.Ytohameoomlehlab
open Go.RowKit Go.Deep

set_option maxRecDepth 100000 in
set_option maxHeartbeats 1600000 in
theorem l14Ok_any (tx out amt : Int) (lock : ByteArray) (ht : Int) (rew : Bool) (w : World) :
    Calls Try.prog 35 #[.agg #[.int .i64 tx, .int .i64 out, .int .i64 amt, .string lock, .int .i64 ht, .bool rew]] w fun e w' => e = .returned (.bool (Co.ok ⟨tx, out, amt, lock, ht, rew⟩)) ∧ Below w.heap.size w w' := by
  have hb0 : Below w.heap.size w (w.alloc (.cells #[.int .i64 tx, .int .i64 out, .int .i64 amt, .string lock, .int .i64 ht, .bool rew] 30 (0, 0))) := (Below.refl _ _).alloc (Nat.le_refl _) _
  have v0 : Bk w.heap.size 30 #[.int .i64 tx, .int .i64 out, .int .i64 amt, .string lock, .int .i64 ht, .bool rew] (w.alloc (.cells #[.int .i64 tx, .int .i64 out, .int .i64 amt, .string lock, .int .i64 ht, .bool rew] 30 (0, 0))) := Bk.new _ _ _
  obtain ⟨c0, c1, c2, c3, c4, c5⟩ := Bk.c6 v0
  obtain ⟨K, hK⟩ : ∃ x, Co.ok ⟨tx, out, amt, lock, ht, rew⟩ = x := ⟨_, rfl⟩
  rw [hK]
  have hK2 := hK
  unfold Co.ok at hK2
  simp only at hK2
  have h1 := fun W => l6In_any tx 0 4294967295 W
  have h2 := fun W => l6In_any out 0 5 W
  have h3 := fun W => l6In_any amt 1 1000000 W
  have h5 := fun W => l6In_any ht 0 9999 W
  obtain ⟨b1, q1⟩ : ∃ x, (decide (0 ≤ tx) && decide (tx ≤ 4294967295)) = x := ⟨_, rfl⟩
  obtain ⟨b2, q2⟩ : ∃ x, (decide (0 ≤ out) && decide (out ≤ 5)) = x := ⟨_, rfl⟩
  obtain ⟨b3, q3⟩ : ∃ x, (decide (1 ≤ amt) && decide (amt ≤ 1000000)) = x := ⟨_, rfl⟩
  obtain ⟨b4, q4⟩ : ∃ x, decide ((lock.size : Int) ≤ 300) = x := ⟨_, rfl⟩
  obtain ⟨b5, q5⟩ : ∃ x, (decide (0 ≤ ht) && decide (ht ≤ 9999)) = x := ⟨_, rfl⟩
  simp only [q1] at h1 hK2
  simp only [q2] at h2 hK2
  simp only [q3] at h3 hK2
  simp only [q4] at hK2
  simp only [q5] at h5 hK2
  have HK := Lib.hid hK2
  clear hK hK2 q1 q2 q3 q5 v0
  go_enter Try.func35, Try.ntmps35
  go_wp2_with fail
  refine (h1 _).mono ?_
  rintro e w1 ⟨rfl, rfl⟩
  cases b1
  · go_wp2
    go_ret
    exact ⟨by rw [← HK.out]; rfl, hb0⟩
  go_wp2_with fail
  refine (h2 _).mono ?_
  rintro e w1 ⟨rfl, rfl⟩
  cases b2
  · go_wp2
    go_ret
    exact ⟨by rw [← HK.out]; rfl, hb0⟩
  go_wp2_with fail
  refine (h3 _).mono ?_
  rintro e w1 ⟨rfl, rfl⟩
  cases b3
  · go_wp2
    go_ret
    exact ⟨by rw [← HK.out]; rfl, hb0⟩
  cases b4
  · have hd : ¬ ((lock.size : Int) ≤ 300) := of_decide_eq_false q4
    go_wp2
    go_ret
    exact ⟨by rw [← HK.out]; rfl, hb0⟩
  have hd : (lock.size : Int) ≤ 300 := of_decide_eq_true q4
  go_wp2_with fail
  refine (h5 _).mono ?_
  rintro e w1 ⟨rfl, rfl⟩
  go_wp2
  go_ret
  exact ⟨by rw [← HK.out]; cases b5 <;> rfl, hb0⟩
set_option maxRecDepth 100000 in
set_option maxHeartbeats 1600000 in
theorem l14Less_any (tx out amt : Int) (lock : ByteArray) (ht : Int) (rew : Bool) (t o : Int) (w : World) :
    Calls Try.prog 36 #[.agg #[.int .i64 tx, .int .i64 out, .int .i64 amt, .string lock, .int .i64 ht, .bool rew], .int .i64 t, .int .i64 o] w fun e w' => e = .returned (.bool (Co.less ⟨tx, out, amt, lock, ht, rew⟩ t o)) ∧ Below w.heap.size w w' := by
  have hb0 : Below w.heap.size w (w.alloc (.cells #[.int .i64 tx, .int .i64 out, .int .i64 amt, .string lock, .int .i64 ht, .bool rew] 30 (0, 0))) := (Below.refl _ _).alloc (Nat.le_refl _) _
  have v0 : Bk w.heap.size 30 #[.int .i64 tx, .int .i64 out, .int .i64 amt, .string lock, .int .i64 ht, .bool rew] (w.alloc (.cells #[.int .i64 tx, .int .i64 out, .int .i64 amt, .string lock, .int .i64 ht, .bool rew] 30 (0, 0))) := Bk.new _ _ _
  obtain ⟨c0, c1, c2, c3, c4, c5⟩ := Bk.c6 v0
  obtain ⟨K, hK⟩ : ∃ x, Co.less ⟨tx, out, amt, lock, ht, rew⟩ t o = x := ⟨_, rfl⟩
  rw [hK]
  unfold Co.less at hK
  simp only at hK
  have HK := Lib.hid hK
  clear hK v0
  by_cases h1 : tx < t
  · have d1 : decide (tx < t) = true := decide_eq_true h1
    go_enter Try.func36, Try.ntmps36
    go_wp2
    go_ret
    exact ⟨by rw [← HK.out, d1]; rfl, hb0⟩
  have d1 : decide (tx < t) = false := decide_eq_false h1
  by_cases h2 : tx = t
  · have d2 : decide (tx = t) = true := decide_eq_true h2
    have d3 : (tx == t) = true := by simpa using h2
    have HT := Lib.hid h2
    clear h2
    go_enter Try.func36, Try.ntmps36
    go_wp2
    go_ret
    exact ⟨by rw [← HK.out, d1, decide_eq_true HT.out]; simp, hb0⟩
  have d2 : decide (tx = t) = false := decide_eq_false h2
  have d3 : (tx == t) = false := by simpa using h2
  go_enter Try.func36, Try.ntmps36
  go_wp2
  go_ret
  exact ⟨by rw [← HK.out, d1, d2]; rfl, hb0⟩
set_option maxRecDepth 100000 in
set_option maxHeartbeats 3200000 in
theorem l14At_any (lo : Nat) (a : Option Addr) (n c : Nat) (l : List Co) (t o : Int) (w : World) (h : CoL lo w a n l) (hn : n ≤ 9223372036854775807) :
    Calls Try.prog 40 #[.slice a n c, .int .i64 t, .int .i64 o] w fun e w' => e = .returned (.int .i64 (Co.at_ l t o : Int)) ∧ Below w.heap.size w w' := by
  have HL := Lib.hid h.1
  have HH := Lib.hid h
  clear h
  have HU := Lib.hid (Co.at_uniq l t o)
  obtain ⟨K, hK⟩ : ∃ x, Co.at_ l t o = x := ⟨_, rfl⟩
  rw [hK] at HU ⊢
  clear hK
  go_enter Try.func40, Try.ntmps40
  go_wp2
  go_loopw [7] (fun i wr => ∃ k : Nat, k ≤ n ∧ i = .int .i64 (k : Int) ∧ Hid (∀ j, j < k → (Co.nth l j).less t o = true) ∧ Below w.heap.size w wr)
    (fun i _ => n - (intOf i).toNat)
  case atStart => exact ⟨0, by omega, rfl, Lib.hid (fun j hj => absurd hj (Nat.not_lt_zero _)), Below.refl _ _⟩
  case round =>
    obtain ⟨k, hk, rfl, HA, hbel⟩ := hrel
    by_cases hlt : k < n
    · obtain ⟨g, off, rfl, _, _, hc⟩ := (HH.out.below hbel).2 (by omega)
      obtain ⟨e0, e1, e2, e3, e4, e5⟩ := hc k hlt
      obtain ⟨x, HX⟩ : ∃ x, Hid (Co.nth l k = x) := ⟨_, Lib.hid rfl⟩
      rw [HX.out] at e0 e1 e2 e3 e4 e5
      obtain ⟨tx, out, amt, lock, ht, rew⟩ := x
      simp only at e0 e1 e2 e3 e4 e5
      clear hc
      have hcs := l14Less_any tx out amt lock ht rew t o wr
      obtain ⟨b, hb⟩ : ∃ x, Co.less ⟨tx, out, amt, lock, ht, rew⟩ t o = x := ⟨_, rfl⟩
      rw [hb] at hcs
      have HB := Lib.hid hb
      clear hb
      go_wp2_with fail
      refine hcs.mono ?_
      rintro e w1 ⟨rfl, hx⟩
      have hb2 := below_aftC hbel hx
      clear hx hcs e0 e1 e2 e3 e4 e5 hbel
      cases b
      · have HKK := Lib.hid (HU.out k (by rw [HL.out]; exact hk) HA.out (fun _ => by rw [HX.out]; exact HB.out))
        clear HU HA HB HX HH HL
        go_wp2
        go_ret
        exact ⟨by rw [HKK.out]; rfl, hb2⟩
      · go_wp2
        go_roundw
        case rel => exact ⟨k + 1, by omega, by simp, Lib.hid (fun j hj => by
          by_cases h2 : j = k
          · rw [h2, HX.out]; exact HB.out
          · exact HA.out j (by omega)), hb2⟩
        case measure => simp [intOf]; omega
    · have HKK := Lib.hid (HU.out k (by rw [HL.out]; exact hk) HA.out (fun h => absurd h (by rw [HL.out]; exact hlt)))
      clear HU HA HH HL
      go_wp2
      go_ret
      exact ⟨by rw [HKK.out]; rfl, hbel⟩
set_option maxRecDepth 100000 in
set_option maxHeartbeats 3200000 in
theorem l14Has_any (lo : Nat) (a : Option Addr) (n c : Nat) (l : List Co) (t o : Int) (w : World) (h : CoL lo w a n l) (hn : n ≤ 9223372036854775807) :
    Calls Try.prog 39 #[.slice a n c, .int .i64 t, .int .i64 o] w fun e w' => e = .returned (.bool (Co.has l t o)) ∧ Below w.heap.size w w' := by
  have HL := Lib.hid h.1
  have HH := Lib.hid h
  have hcs := l14At_any lo a n c l t o w h hn
  have HAS := Lib.hid (Co.has_iff l t o)
  obtain ⟨B, hB⟩ : ∃ x, Co.has l t o = x := ⟨_, rfl⟩
  rw [hB] at HAS ⊢
  have HK := Lib.hid (Co.at_spec l t o).1
  obtain ⟨k, hk⟩ : ∃ x, Co.at_ l t o = x := ⟨_, rfl⟩
  rw [hk] at hcs HAS HK
  clear h hB hk
  go_enter Try.func39, Try.ntmps39
  go_wp2_with fail
  refine hcs.mono ?_
  rintro e w1 ⟨rfl, hb1⟩
  clear hcs
  by_cases hlt : k < n
  · obtain ⟨g, off, rfl, _, _, hc⟩ := (HH.out.below hb1).2 (by omega)
    obtain ⟨e0, e1, _, _, _, _⟩ := hc k hlt
    obtain ⟨x, HX⟩ : ∃ x, Hid ((Co.nth l k).tx = x) := ⟨_, Lib.hid rfl⟩
    obtain ⟨y, HY⟩ : ∃ x, Hid ((Co.nth l k).out = x) := ⟨_, Lib.hid rfl⟩
    rw [HX.out] at e0
    rw [HY.out] at e1
    have hq : Hid (B = true ↔ x = t ∧ y = o) := Lib.hid (by
      rw [HAS.out, HX.out, HY.out, HL.out]
      exact ⟨fun h => h.2, fun h => ⟨hlt, h⟩⟩)
    clear hc HAS HX HY HH HL HK
    by_cases h1 : x = t
    · have d1 : (x == t) = true := by simpa using h1
      by_cases h2 : y = o
      · have d2 : (y == o) = true := by simpa using h2
        have hB2 : B = true := hq.out.2 ⟨h1, h2⟩
        subst hB2
        clear hq h1 h2
        go_wp2
        go_ret
        exact ⟨rfl, hb1⟩
      · have d2 : (y == o) = false := by simpa using h2
        have hB2 : B = false := by
          cases B with
          | false => rfl
          | true => exact absurd (hq.out.1 rfl).2 h2
        subst hB2
        clear hq h1 h2
        go_wp2
        go_ret
        exact ⟨rfl, hb1⟩
    · have d1 : (x == t) = false := by simpa using h1
      have hB2 : B = false := by
        cases B with
        | false => rfl
        | true => exact absurd (hq.out.1 rfl).1 h1
      subst hB2
      clear hq h1
      go_wp2
      go_ret
      exact ⟨rfl, hb1⟩
  · have hB2 : B = false := by
      cases B with
      | false => rfl
      | true => exact absurd (HAS.out.1 rfl).1 (by rw [HL.out]; exact hlt)
    subst hB2
    clear HAS HH HL HK
    go_wp2
    go_ret
    exact ⟨rfl, hb1⟩
set_option maxRecDepth 100000 in
set_option maxHeartbeats 12800000 in
theorem CoinsOk_any (lo : Nat) (a : Option Addr) (n c : Nat) (l : List Co) (w : World) (h : CoL lo w a n l) (hn : n ≤ 9223372036854775807) :
    Calls Try.prog 12 #[.slice a n c] w fun e w' => e = .returned (.bool (Co.lok l)) ∧ Below w.heap.size w w' := by
  have HL := Lib.hid h.1
  have HH := Lib.hid h
  have HLO := Lib.hid (Co.lok_iff l)
  have HBAD := Lib.hid (fun (j : Nat) (h1 : j < l.length) (h2 : Co.step l j = false) => Co.lok_bad h1 h2)
  have HLONG := Lib.hid (fun (h1 : 80 < l.length) => Co.lok_long h1)
  obtain ⟨K, hK⟩ : ∃ x, Co.lok l = x := ⟨_, rfl⟩
  rw [hK] at HLO HBAD HLONG ⊢
  clear hK h
  by_cases h80 : 80 < n
  · have hK2 : K = false := HLONG.out (by rw [HL.out]; exact h80)
    subst hK2
    have hd : (80 : Int) < (n : Int) := by omega
    clear HLO HBAD HLONG HL HH
    go_enter Try.func12, Try.ntmps12
    go_wp2
    go_ret
    exact ⟨rfl, Below.refl _ _⟩
  have hd : ¬ (80 : Int) < (n : Int) := by omega
  go_enter Try.func12, Try.ntmps12
  go_wp2
  clear hd
  go_loopw [3] (fun i wr => ∃ k : Nat, k ≤ n ∧ i = .int .i64 (k : Int) ∧ Hid (∀ j, j < k → Co.step l j = true) ∧ Below w.heap.size w wr)
    (fun i _ => n - (intOf i).toNat)
  case atStart => exact ⟨0, by omega, rfl, Lib.hid (fun j hj => absurd hj (Nat.not_lt_zero _)), Below.refl _ _⟩
  case round =>
    obtain ⟨k, hk, rfl, HA, hbel⟩ := hrel
    by_cases hlt : k < n
    · obtain ⟨g, off, rfl, _, _, hc⟩ := HH.out.2 (by omega)
      have hgw : g < w.heap.size := by assumption
      obtain ⟨e0, e1, e2, e3, e4, e5⟩ := hc k hlt
      have hkl : k < l.length := by rw [HL.out]; exact hlt
      have HST : Hid (Co.step l k = ((Co.nth l k).ok && (decide (k = 0) || (Co.nth l (k - 1)).less (Co.nth l k).tx (Co.nth l k).out))) := Lib.hid rfl
      obtain ⟨x, HX⟩ : ∃ x, Hid (Co.nth l k = x) := ⟨_, Lib.hid rfl⟩
      rw [HX.out] at e0 e1 e2 e3 e4 e5
      obtain ⟨tx, out, amt, lock, ht, rew⟩ := x
      simp only at e0 e1 e2 e3 e4 e5
      have hSof : ∀ W, Below w.heap.size w W → (W.cell? ⟨g, off + k * 6, none⟩ = some (.int .i64 tx) ∧ W.cell? ⟨g, off + k * 6 + 1, none⟩ = some (.int .i64 out) ∧ W.cell? ⟨g, off + k * 6 + 2, none⟩ = some (.int .i64 amt) ∧ W.cell? ⟨g, off + k * 6 + 3, none⟩ = some (.string lock) ∧ W.cell? ⟨g, off + k * 6 + 4, none⟩ = some (.int .i64 ht) ∧ W.cell? ⟨g, off + k * 6 + 5, none⟩ = some (.bool rew)) := fun W h => ⟨cell_belC h hgw e0, cell_belC h hgw e1, cell_belC h hgw e2, cell_belC h hgw e3, cell_belC h hgw e4, cell_belC h hgw e5⟩
      have HOK := Lib.hid (fun W => l14Ok_any tx out amt lock ht rew W)
      obtain ⟨b1, hb1'⟩ : ∃ x, Co.ok ⟨tx, out, amt, lock, ht, rew⟩ = x := ⟨_, rfl⟩
      rw [hb1'] at HOK
      have HB1 := Lib.hid hb1'
      clear hb1'
      have hS0 := hSof wr.drew hbel.drew
      cases b1
      · have hK2 : K = false := HBAD.out k hkl (by rw [HST.out, HX.out, HB1.out]; rfl)
        subst hK2
        clear HLO HBAD HLONG HH HST HX HB1 e0 e1 e2 e3 e4 e5 hc HA
        go_wp2

        refine wp_region_noPanic ?_
        refine wp_region_held_drew (S := fun W => (W.cell? ⟨g, off + k * 6, none⟩ = some (.int .i64 tx) ∧ W.cell? ⟨g, off + k * 6 + 1, none⟩ = some (.int .i64 out) ∧ W.cell? ⟨g, off + k * 6 + 2, none⟩ = some (.int .i64 amt) ∧ W.cell? ⟨g, off + k * 6 + 3, none⟩ = some (.string lock) ∧ W.cell? ⟨g, off + k * 6 + 4, none⟩ = some (.int .i64 ht) ∧ W.cell? ⟨g, off + k * 6 + 5, none⟩ = some (.bool rew))) (by kernel_rfl) hS0 (fun hH => ?_)
        refine wpAnyH_take (i := 0) (v := .slice (some ⟨g, off, none⟩) n c) rfl (by kernel_rfl) (by kernel_rfl) (by kernel_rfl) (fun _ _ _ h => h) (Or.inl ⟨by rfl, fun W hW => by go_simp⟩) (by assumption) ?_
        simp only [Act.put, List.getElem_toArray, List.getElem_cons_zero, List.setIfInBounds_toArray, List.set_cons_zero, List.set_cons_succ]
        refine wpAnyH_take (i := 1) (v := .int .i64 (k : Int)) rfl (by kernel_rfl) (by kernel_rfl) (by kernel_rfl) (fun _ _ _ h => h) (Or.inl ⟨by rfl, fun W hW => by go_simp⟩) (by assumption) ?_
        simp only [Act.put, List.getElem_toArray, List.getElem_cons_succ, List.getElem_cons_zero, List.setIfInBounds_toArray, List.set_cons_zero, List.set_cons_succ]
        refine wpAnyH_take (i := 2) (v := .pointer (some ⟨g, off + k * 6, none⟩)) rfl (by kernel_rfl) (by kernel_rfl) (by kernel_rfl) (fun _ _ _ h => h) (Or.inl ⟨by rfl, fun W hW => by go_simp⟩) (by assumption) ?_
        simp only [Act.put, List.getElem_toArray, List.getElem_cons_succ, List.getElem_cons_zero, List.setIfInBounds_toArray, List.set_cons_zero, List.set_cons_succ]
        refine wpAnyH_take (i := 3) (v := .agg #[.int .i64 tx, .int .i64 out, .int .i64 amt, .string lock, .int .i64 ht, .bool rew]) rfl (by kernel_rfl) (by kernel_rfl) (by kernel_rfl) (fun _ _ _ h => h) (Or.inl ⟨by rfl, fun W hW => by obtain ⟨c0, c1, c2, c3, c4, c5⟩ := hW; go_simp⟩) (by assumption) ?_
        simp only [Act.put, List.getElem_toArray, List.getElem_cons_succ, List.getElem_cons_zero, List.setIfInBounds_toArray, List.set_cons_zero, List.set_cons_succ]
        refine wpAnyH_ready (rs := [4]) (by kernel_rfl) (by simp) ?_
        refine AllReadyH.cons rfl (fun K1 hK1 => ?_) AllReadyH.nil
        go_simp
        go_wp2_with (go_at_call 35; refine (HOK.out _).mono ?_; rintro e w1 ⟨rfl, hx⟩; have hb1 := below_aftC hbel.drew hx; have hS1 := hSof w1 hb1)
        refine hK1.out _ _ hS1 (fun hH1 => ?_)
        clear hK1 K1
        try simp only [Act.put, List.getElem_toArray, List.getElem_cons_succ, List.getElem_cons_zero, List.setIfInBounds_toArray, List.set_cons_zero, List.set_cons_succ]
        refine wpAnyH_take (i := 5) (v := .bool true) rfl (by kernel_rfl) (by kernel_rfl) (by kernel_rfl) (fun _ _ _ h => h) (Or.inl ⟨by rfl, fun W hW => by go_simp⟩) (by assumption) ?_
        simp only [Act.put, List.getElem_toArray, List.getElem_cons_succ, List.getElem_cons_zero, List.setIfInBounds_toArray, List.set_cons_zero, List.set_cons_succ]
        refine wpAnyH_take (i := 6) (v := .bool true) rfl (by kernel_rfl) (by kernel_rfl) (by kernel_rfl) (fun _ _ _ h => h) (Or.inl ⟨by rfl, fun W hW => by go_simp⟩) (by assumption) ?_
        simp only [Act.put, List.getElem_toArray, List.getElem_cons_succ, List.getElem_cons_zero, List.setIfInBounds_toArray, List.set_cons_zero, List.set_cons_succ]
        refine wpAnyH_take (i := 7) (v := undef) rfl (by kernel_rfl) (by kernel_rfl) (by kernel_rfl) (fun _ _ _ h => h) (Or.inr ⟨rfl, rfl⟩) (by assumption) ?_
        simp only [Act.put, List.getElem_toArray, List.getElem_cons_succ, List.getElem_cons_zero, List.setIfInBounds_toArray, List.set_cons_zero, List.set_cons_succ]
        refine wpAnyH_take (i := 8) (v := undef) rfl (by kernel_rfl) (by kernel_rfl) (by kernel_rfl) (fun _ _ _ h => h) (Or.inr ⟨rfl, rfl⟩) (by assumption) ?_
        simp only [Act.put, List.getElem_toArray, List.getElem_cons_succ, List.getElem_cons_zero, List.setIfInBounds_toArray, List.set_cons_zero, List.set_cons_succ]
        refine wpAnyH_take (i := 9) (v := undef) rfl (by kernel_rfl) (by kernel_rfl) (by kernel_rfl) (fun _ _ _ h => h) (Or.inr ⟨rfl, rfl⟩) (by assumption) ?_
        simp only [Act.put, List.getElem_toArray, List.getElem_cons_succ, List.getElem_cons_zero, List.setIfInBounds_toArray, List.set_cons_zero, List.set_cons_succ]
        refine wpAnyH_take (i := 10) (v := undef) rfl (by kernel_rfl) (by kernel_rfl) (by kernel_rfl) (fun _ _ _ h => h) (Or.inr ⟨rfl, rfl⟩) (by assumption) ?_
        simp only [Act.put, List.getElem_toArray, List.getElem_cons_succ, List.getElem_cons_zero, List.setIfInBounds_toArray, List.set_cons_zero, List.set_cons_succ]
        refine wpAnyH_take (i := 11) (v := undef) rfl (by kernel_rfl) (by kernel_rfl) (by kernel_rfl) (fun _ _ _ h => h) (Or.inr ⟨rfl, rfl⟩) (by assumption) ?_
        simp only [Act.put, List.getElem_toArray, List.getElem_cons_succ, List.getElem_cons_zero, List.setIfInBounds_toArray, List.set_cons_zero, List.set_cons_succ]
        refine wpAnyH_take (i := 12) (v := undef) rfl (by kernel_rfl) (by kernel_rfl) (by kernel_rfl) (fun _ _ _ h => h) (Or.inr ⟨rfl, rfl⟩) (by assumption) ?_
        simp only [Act.put, List.getElem_toArray, List.getElem_cons_succ, List.getElem_cons_zero, List.setIfInBounds_toArray, List.set_cons_zero, List.set_cons_succ]
        refine wpAnyH_take (i := 13) (v := undef) rfl (by kernel_rfl) (by kernel_rfl) (by kernel_rfl) (fun _ _ _ h => h) (Or.inr ⟨rfl, rfl⟩) (by assumption) ?_
        simp only [Act.put, List.getElem_toArray, List.getElem_cons_succ, List.getElem_cons_zero, List.setIfInBounds_toArray, List.set_cons_zero, List.set_cons_succ]
        refine wpAnyH_take (i := 14) (v := undef) rfl (by kernel_rfl) (by kernel_rfl) (by kernel_rfl) (fun _ _ _ h => h) (Or.inr ⟨rfl, rfl⟩) (by assumption) ?_
        simp only [Act.put, List.getElem_toArray, List.getElem_cons_succ, List.getElem_cons_zero, List.setIfInBounds_toArray, List.set_cons_zero, List.set_cons_succ]
        refine wpAnyH_take (i := 15) (v := undef) rfl (by kernel_rfl) (by kernel_rfl) (by kernel_rfl) (fun _ _ _ h => h) (Or.inr ⟨rfl, rfl⟩) (by assumption) ?_
        simp only [Act.put, List.getElem_toArray, List.getElem_cons_succ, List.getElem_cons_zero, List.setIfInBounds_toArray, List.set_cons_zero, List.set_cons_succ]
        refine wpAnyH_take (i := 16) (v := undef) rfl (by kernel_rfl) (by kernel_rfl) (by kernel_rfl) (fun _ _ _ h => h) (Or.inr ⟨rfl, rfl⟩) (by assumption) ?_
        simp only [Act.put, List.getElem_toArray, List.getElem_cons_succ, List.getElem_cons_zero, List.setIfInBounds_toArray, List.set_cons_zero, List.set_cons_succ]
        refine wpAnyH_take (i := 17) (v := undef) rfl (by kernel_rfl) (by kernel_rfl) (by kernel_rfl) (fun _ _ _ h => h) (Or.inr ⟨rfl, rfl⟩) (by assumption) ?_
        simp only [Act.put, List.getElem_toArray, List.getElem_cons_succ, List.getElem_cons_zero, List.setIfInBounds_toArray, List.set_cons_zero, List.set_cons_succ]
        refine wpAnyH_take (i := 18) (v := undef) rfl (by kernel_rfl) (by kernel_rfl) (by kernel_rfl) (fun _ _ _ h => h) (Or.inr ⟨rfl, rfl⟩) (by assumption) ?_
        simp only [Act.put, List.getElem_toArray, List.getElem_cons_succ, List.getElem_cons_zero, List.setIfInBounds_toArray, List.set_cons_zero, List.set_cons_succ]
        refine wpAnyH_take (i := 19) (v := undef) rfl (by kernel_rfl) (by kernel_rfl) (by kernel_rfl) (fun _ _ _ h => h) (Or.inr ⟨rfl, rfl⟩) (by assumption) ?_
        simp only [Act.put, List.getElem_toArray, List.getElem_cons_succ, List.getElem_cons_zero, List.setIfInBounds_toArray, List.set_cons_zero, List.set_cons_succ]
        refine wpAnyH_take (i := 20) (v := undef) rfl (by kernel_rfl) (by kernel_rfl) (by kernel_rfl) (fun _ _ _ h => h) (Or.inr ⟨rfl, rfl⟩) (by assumption) ?_
        simp only [Act.put, List.getElem_toArray, List.getElem_cons_succ, List.getElem_cons_zero, List.setIfInBounds_toArray, List.set_cons_zero, List.set_cons_succ]
        refine wpAnyH_take (i := 21) (v := undef) rfl (by kernel_rfl) (by kernel_rfl) (by kernel_rfl) (fun _ _ _ h => h) (Or.inr ⟨rfl, rfl⟩) (by assumption) ?_
        simp only [Act.put, List.getElem_toArray, List.getElem_cons_succ, List.getElem_cons_zero, List.setIfInBounds_toArray, List.set_cons_zero, List.set_cons_succ]
        refine wpAnyH_take (i := 22) (v := undef) rfl (by kernel_rfl) (by kernel_rfl) (by kernel_rfl) (fun _ _ _ h => h) (Or.inr ⟨rfl, rfl⟩) (by assumption) ?_
        simp only [Act.put, List.getElem_toArray, List.getElem_cons_succ, List.getElem_cons_zero, List.setIfInBounds_toArray, List.set_cons_zero, List.set_cons_succ]
        refine wpAnyH_take (i := 23) (v := undef) rfl (by kernel_rfl) (by kernel_rfl) (by kernel_rfl) (fun _ _ _ h => h) (Or.inr ⟨rfl, rfl⟩) (by assumption) ?_
        simp only [Act.put, List.getElem_toArray, List.getElem_cons_succ, List.getElem_cons_zero, List.setIfInBounds_toArray, List.set_cons_zero, List.set_cons_succ]
        refine wpAnyH_take (i := 24) (v := undef) rfl (by kernel_rfl) (by kernel_rfl) (by kernel_rfl) (fun _ _ _ h => h) (Or.inr ⟨rfl, rfl⟩) (by assumption) ?_
        simp only [Act.put, List.getElem_toArray, List.getElem_cons_succ, List.getElem_cons_zero, List.setIfInBounds_toArray, List.set_cons_zero, List.set_cons_succ]
        refine wpAnyH_take (i := 25) (v := undef) rfl (by kernel_rfl) (by kernel_rfl) (by kernel_rfl) (fun _ _ _ h => h) (Or.inr ⟨rfl, rfl⟩) (by assumption) ?_
        simp only [Act.put, List.getElem_toArray, List.getElem_cons_succ, List.getElem_cons_zero, List.setIfInBounds_toArray, List.set_cons_zero, List.set_cons_succ]
        refine wpAnyH_take (i := 26) (v := undef) rfl (by kernel_rfl) (by kernel_rfl) (by kernel_rfl) (fun _ _ _ h => h) (Or.inr ⟨rfl, rfl⟩) (by assumption) ?_
        simp only [Act.put, List.getElem_toArray, List.getElem_cons_succ, List.getElem_cons_zero, List.setIfInBounds_toArray, List.set_cons_zero, List.set_cons_succ]
        refine wpAnyH_take (i := 27) (v := undef) rfl (by kernel_rfl) (by kernel_rfl) (by kernel_rfl) (fun _ _ _ h => h) (Or.inr ⟨rfl, rfl⟩) (by assumption) ?_
        simp only [Act.put, List.getElem_toArray, List.getElem_cons_succ, List.getElem_cons_zero, List.setIfInBounds_toArray, List.set_cons_zero, List.set_cons_succ]
        refine wpAnyH_take (i := 28) (v := .bool true) rfl (by kernel_rfl) (by kernel_rfl) (by kernel_rfl) (fun _ _ _ h => h) (Or.inl ⟨by rfl, fun W hW => by go_simp⟩) (by assumption) ?_
        simp only [Act.put, List.getElem_toArray, List.getElem_cons_succ, List.getElem_cons_zero, List.setIfInBounds_toArray, List.set_cons_zero, List.set_cons_succ]
        refine wpAnyH_done (by kernel_rfl) ?_ _
        refine NoPanic.normal ?_
        go_wp2
        go_ret
        exact ⟨rfl, hb1⟩
      by_cases hk0 : k = 0
      · have HSK : Hid (Co.step l k = true) := Lib.hid (by rw [HST.out, HX.out, HB1.out, decide_eq_true hk0]; rfl)
        have hd0 : decide ((0 : Int) < (k : Int)) = false := decide_eq_false (by omega)
        have hd1 : ¬ (0 : Int) < (k : Int) := by omega
        have HK0 := Lib.hid hk0
        clear HLO HBAD HLONG HH HST HX HB1 e0 e1 e2 e3 e4 e5 hc hk0
        go_wp2

        refine wp_region_noPanic ?_
        refine wp_region_held_drew (S := fun W => (W.cell? ⟨g, off + k * 6, none⟩ = some (.int .i64 tx) ∧ W.cell? ⟨g, off + k * 6 + 1, none⟩ = some (.int .i64 out) ∧ W.cell? ⟨g, off + k * 6 + 2, none⟩ = some (.int .i64 amt) ∧ W.cell? ⟨g, off + k * 6 + 3, none⟩ = some (.string lock) ∧ W.cell? ⟨g, off + k * 6 + 4, none⟩ = some (.int .i64 ht) ∧ W.cell? ⟨g, off + k * 6 + 5, none⟩ = some (.bool rew))) (by kernel_rfl) hS0 (fun hH => ?_)
        refine wpAnyH_take (i := 0) (v := .slice (some ⟨g, off, none⟩) n c) rfl (by kernel_rfl) (by kernel_rfl) (by kernel_rfl) (fun _ _ _ h => h) (Or.inl ⟨by rfl, fun W hW => by go_simp⟩) (by assumption) ?_
        simp only [Act.put, List.getElem_toArray, List.getElem_cons_zero, List.setIfInBounds_toArray, List.set_cons_zero, List.set_cons_succ]
        refine wpAnyH_take (i := 1) (v := .int .i64 (k : Int)) rfl (by kernel_rfl) (by kernel_rfl) (by kernel_rfl) (fun _ _ _ h => h) (Or.inl ⟨by rfl, fun W hW => by go_simp⟩) (by assumption) ?_
        simp only [Act.put, List.getElem_toArray, List.getElem_cons_succ, List.getElem_cons_zero, List.setIfInBounds_toArray, List.set_cons_zero, List.set_cons_succ]
        refine wpAnyH_take (i := 2) (v := .pointer (some ⟨g, off + k * 6, none⟩)) rfl (by kernel_rfl) (by kernel_rfl) (by kernel_rfl) (fun _ _ _ h => h) (Or.inl ⟨by rfl, fun W hW => by go_simp⟩) (by assumption) ?_
        simp only [Act.put, List.getElem_toArray, List.getElem_cons_succ, List.getElem_cons_zero, List.setIfInBounds_toArray, List.set_cons_zero, List.set_cons_succ]
        refine wpAnyH_take (i := 3) (v := .agg #[.int .i64 tx, .int .i64 out, .int .i64 amt, .string lock, .int .i64 ht, .bool rew]) rfl (by kernel_rfl) (by kernel_rfl) (by kernel_rfl) (fun _ _ _ h => h) (Or.inl ⟨by rfl, fun W hW => by obtain ⟨c0, c1, c2, c3, c4, c5⟩ := hW; go_simp⟩) (by assumption) ?_
        simp only [Act.put, List.getElem_toArray, List.getElem_cons_succ, List.getElem_cons_zero, List.setIfInBounds_toArray, List.set_cons_zero, List.set_cons_succ]
        refine wpAnyH_ready (rs := [4]) (by kernel_rfl) (by simp) ?_
        refine AllReadyH.cons rfl (fun K1 hK1 => ?_) AllReadyH.nil
        go_simp
        go_wp2_with (go_at_call 35; refine (HOK.out _).mono ?_; rintro e w1 ⟨rfl, hx⟩; have hb1 := below_aftC hbel.drew hx; have hS1 := hSof w1 hb1)
        refine hK1.out _ _ hS1 (fun hH1 => ?_)
        clear hK1 K1
        try simp only [Act.put, List.getElem_toArray, List.getElem_cons_succ, List.getElem_cons_zero, List.setIfInBounds_toArray, List.set_cons_zero, List.set_cons_succ]
        refine wpAnyH_take (i := 5) (v := .bool false) rfl (by kernel_rfl) (by kernel_rfl) (by kernel_rfl) (fun _ _ _ h => h) (Or.inl ⟨by rfl, fun W hW => by go_simp⟩) (by assumption) ?_
        simp only [Act.put, List.getElem_toArray, List.getElem_cons_succ, List.getElem_cons_zero, List.setIfInBounds_toArray, List.set_cons_zero, List.set_cons_succ]
        refine wpAnyH_take (i := 6) (v := .bool false) rfl (by kernel_rfl) (by kernel_rfl) (by kernel_rfl) (fun _ _ _ h => h) (Or.inl ⟨by rfl, fun W hW => by go_simp⟩) (by assumption) ?_
        simp only [Act.put, List.getElem_toArray, List.getElem_cons_succ, List.getElem_cons_zero, List.setIfInBounds_toArray, List.set_cons_zero, List.set_cons_succ]
        refine wpAnyH_take (i := 7) (v := .int .i64 (k : Int)) rfl (by kernel_rfl) (by kernel_rfl) (by kernel_rfl) (fun _ _ _ h => h) (Or.inl ⟨by rfl, fun W hW => by go_simp⟩) (by assumption) ?_
        simp only [Act.put, List.getElem_toArray, List.getElem_cons_succ, List.getElem_cons_zero, List.setIfInBounds_toArray, List.set_cons_zero, List.set_cons_succ]
        refine wpAnyH_take (i := 8) (v := .bool false) rfl (by kernel_rfl) (by kernel_rfl) (by kernel_rfl) (fun _ _ _ h => h) (Or.inl ⟨by rfl, fun W hW => by go_simp; exact HK0.out⟩) (by assumption) ?_
        simp only [Act.put, List.getElem_toArray, List.getElem_cons_succ, List.getElem_cons_zero, List.setIfInBounds_toArray, List.set_cons_zero, List.set_cons_succ]
        refine wpAnyH_take (i := 9) (v := .bool false) rfl (by kernel_rfl) (by kernel_rfl) (by kernel_rfl) (fun _ _ _ h => h) (Or.inl ⟨by rfl, fun W hW => by go_simp⟩) (by assumption) ?_
        simp only [Act.put, List.getElem_toArray, List.getElem_cons_succ, List.getElem_cons_zero, List.setIfInBounds_toArray, List.set_cons_zero, List.set_cons_succ]
        refine wpAnyH_take (i := 10) (v := undef) rfl (by kernel_rfl) (by kernel_rfl) (by kernel_rfl) (fun _ _ _ h => h) (Or.inr ⟨rfl, rfl⟩) (by assumption) ?_
        simp only [Act.put, List.getElem_toArray, List.getElem_cons_succ, List.getElem_cons_zero, List.setIfInBounds_toArray, List.set_cons_zero, List.set_cons_succ]
        refine wpAnyH_take (i := 11) (v := undef) rfl (by kernel_rfl) (by kernel_rfl) (by kernel_rfl) (fun _ _ _ h => h) (Or.inr ⟨rfl, rfl⟩) (by assumption) ?_
        simp only [Act.put, List.getElem_toArray, List.getElem_cons_succ, List.getElem_cons_zero, List.setIfInBounds_toArray, List.set_cons_zero, List.set_cons_succ]
        refine wpAnyH_take (i := 12) (v := undef) rfl (by kernel_rfl) (by kernel_rfl) (by kernel_rfl) (fun _ _ _ h => h) (Or.inr ⟨rfl, rfl⟩) (by assumption) ?_
        simp only [Act.put, List.getElem_toArray, List.getElem_cons_succ, List.getElem_cons_zero, List.setIfInBounds_toArray, List.set_cons_zero, List.set_cons_succ]
        refine wpAnyH_take (i := 13) (v := undef) rfl (by kernel_rfl) (by kernel_rfl) (by kernel_rfl) (fun _ _ _ h => h) (Or.inr ⟨rfl, rfl⟩) (by assumption) ?_
        simp only [Act.put, List.getElem_toArray, List.getElem_cons_succ, List.getElem_cons_zero, List.setIfInBounds_toArray, List.set_cons_zero, List.set_cons_succ]
        refine wpAnyH_take (i := 14) (v := undef) rfl (by kernel_rfl) (by kernel_rfl) (by kernel_rfl) (fun _ _ _ h => h) (Or.inr ⟨rfl, rfl⟩) (by assumption) ?_
        simp only [Act.put, List.getElem_toArray, List.getElem_cons_succ, List.getElem_cons_zero, List.setIfInBounds_toArray, List.set_cons_zero, List.set_cons_succ]
        refine wpAnyH_take (i := 15) (v := undef) rfl (by kernel_rfl) (by kernel_rfl) (by kernel_rfl) (fun _ _ _ h => h) (Or.inr ⟨rfl, rfl⟩) (by assumption) ?_
        simp only [Act.put, List.getElem_toArray, List.getElem_cons_succ, List.getElem_cons_zero, List.setIfInBounds_toArray, List.set_cons_zero, List.set_cons_succ]
        refine wpAnyH_take (i := 16) (v := undef) rfl (by kernel_rfl) (by kernel_rfl) (by kernel_rfl) (fun _ _ _ h => h) (Or.inr ⟨rfl, rfl⟩) (by assumption) ?_
        simp only [Act.put, List.getElem_toArray, List.getElem_cons_succ, List.getElem_cons_zero, List.setIfInBounds_toArray, List.set_cons_zero, List.set_cons_succ]
        refine wpAnyH_take (i := 17) (v := undef) rfl (by kernel_rfl) (by kernel_rfl) (by kernel_rfl) (fun _ _ _ h => h) (Or.inr ⟨rfl, rfl⟩) (by assumption) ?_
        simp only [Act.put, List.getElem_toArray, List.getElem_cons_succ, List.getElem_cons_zero, List.setIfInBounds_toArray, List.set_cons_zero, List.set_cons_succ]
        refine wpAnyH_take (i := 18) (v := undef) rfl (by kernel_rfl) (by kernel_rfl) (by kernel_rfl) (fun _ _ _ h => h) (Or.inr ⟨rfl, rfl⟩) (by assumption) ?_
        simp only [Act.put, List.getElem_toArray, List.getElem_cons_succ, List.getElem_cons_zero, List.setIfInBounds_toArray, List.set_cons_zero, List.set_cons_succ]
        refine wpAnyH_take (i := 19) (v := undef) rfl (by kernel_rfl) (by kernel_rfl) (by kernel_rfl) (fun _ _ _ h => h) (Or.inr ⟨rfl, rfl⟩) (by assumption) ?_
        simp only [Act.put, List.getElem_toArray, List.getElem_cons_succ, List.getElem_cons_zero, List.setIfInBounds_toArray, List.set_cons_zero, List.set_cons_succ]
        refine wpAnyH_take (i := 20) (v := undef) rfl (by kernel_rfl) (by kernel_rfl) (by kernel_rfl) (fun _ _ _ h => h) (Or.inr ⟨rfl, rfl⟩) (by assumption) ?_
        simp only [Act.put, List.getElem_toArray, List.getElem_cons_succ, List.getElem_cons_zero, List.setIfInBounds_toArray, List.set_cons_zero, List.set_cons_succ]
        refine wpAnyH_take (i := 21) (v := undef) rfl (by kernel_rfl) (by kernel_rfl) (by kernel_rfl) (fun _ _ _ h => h) (Or.inr ⟨rfl, rfl⟩) (by assumption) ?_
        simp only [Act.put, List.getElem_toArray, List.getElem_cons_succ, List.getElem_cons_zero, List.setIfInBounds_toArray, List.set_cons_zero, List.set_cons_succ]
        refine wpAnyH_take (i := 22) (v := undef) rfl (by kernel_rfl) (by kernel_rfl) (by kernel_rfl) (fun _ _ _ h => h) (Or.inr ⟨rfl, rfl⟩) (by assumption) ?_
        simp only [Act.put, List.getElem_toArray, List.getElem_cons_succ, List.getElem_cons_zero, List.setIfInBounds_toArray, List.set_cons_zero, List.set_cons_succ]
        refine wpAnyH_take (i := 23) (v := undef) rfl (by kernel_rfl) (by kernel_rfl) (by kernel_rfl) (fun _ _ _ h => h) (Or.inr ⟨rfl, rfl⟩) (by assumption) ?_
        simp only [Act.put, List.getElem_toArray, List.getElem_cons_succ, List.getElem_cons_zero, List.setIfInBounds_toArray, List.set_cons_zero, List.set_cons_succ]
        refine wpAnyH_take (i := 24) (v := undef) rfl (by kernel_rfl) (by kernel_rfl) (by kernel_rfl) (fun _ _ _ h => h) (Or.inr ⟨rfl, rfl⟩) (by assumption) ?_
        simp only [Act.put, List.getElem_toArray, List.getElem_cons_succ, List.getElem_cons_zero, List.setIfInBounds_toArray, List.set_cons_zero, List.set_cons_succ]
        refine wpAnyH_take (i := 25) (v := undef) rfl (by kernel_rfl) (by kernel_rfl) (by kernel_rfl) (fun _ _ _ h => h) (Or.inr ⟨rfl, rfl⟩) (by assumption) ?_
        simp only [Act.put, List.getElem_toArray, List.getElem_cons_succ, List.getElem_cons_zero, List.setIfInBounds_toArray, List.set_cons_zero, List.set_cons_succ]
        refine wpAnyH_take (i := 26) (v := undef) rfl (by kernel_rfl) (by kernel_rfl) (by kernel_rfl) (fun _ _ _ h => h) (Or.inr ⟨rfl, rfl⟩) (by assumption) ?_
        simp only [Act.put, List.getElem_toArray, List.getElem_cons_succ, List.getElem_cons_zero, List.setIfInBounds_toArray, List.set_cons_zero, List.set_cons_succ]
        refine wpAnyH_take (i := 27) (v := .bool false) rfl (by kernel_rfl) (by kernel_rfl) (by kernel_rfl) (fun _ _ _ h => h) (Or.inl ⟨by rfl, fun W hW => by go_simp⟩) (by assumption) ?_
        simp only [Act.put, List.getElem_toArray, List.getElem_cons_succ, List.getElem_cons_zero, List.setIfInBounds_toArray, List.set_cons_zero, List.set_cons_succ]
        refine wpAnyH_take (i := 28) (v := .bool false) rfl (by kernel_rfl) (by kernel_rfl) (by kernel_rfl) (fun _ _ _ h => h) (Or.inl ⟨by rfl, fun W hW => by go_simp⟩) (by assumption) ?_
        simp only [Act.put, List.getElem_toArray, List.getElem_cons_succ, List.getElem_cons_zero, List.setIfInBounds_toArray, List.set_cons_zero, List.set_cons_succ]
        refine wpAnyH_done (by kernel_rfl) ?_ _
        refine NoPanic.normal ?_
        go_wp2
        go_roundw
        case rel => exact ⟨k + 1, by omega, by simp, Lib.hid (fun j hj => by
          by_cases h2 : j = k
          · rw [h2]; exact HSK.out
          · exact HA.out j (by omega)), hb1⟩
        case measure => simp [intOf]; omega
      · obtain ⟨f0, f1, f2, f3, f4, f5⟩ := hc (k - 1) (by omega)
        obtain ⟨y, HY⟩ : ∃ x, Hid (Co.nth l (k - 1) = x) := ⟨_, Lib.hid rfl⟩
        rw [HY.out] at f0 f1 f2 f3 f4 f5
        obtain ⟨tx', out', amt', lock', ht', rew'⟩ := y
        simp only at f0 f1 f2 f3 f4 f5
        have HLS := Lib.hid (fun W => l14Less_any tx' out' amt' lock' ht' rew' tx out W)
        obtain ⟨b2, hb2'⟩ : ∃ x, Co.less ⟨tx', out', amt', lock', ht', rew'⟩ tx out = x := ⟨_, rfl⟩
        rw [hb2'] at HLS
        have HSK : Hid (Co.step l k = b2) := Lib.hid (by rw [HST.out, HX.out, HY.out, HB1.out, decide_eq_false hk0]; exact hb2')
        have hSof2 : ∀ W, Below w.heap.size w W → ((W.cell? ⟨g, off + k * 6, none⟩ = some (.int .i64 tx) ∧ W.cell? ⟨g, off + k * 6 + 1, none⟩ = some (.int .i64 out) ∧ W.cell? ⟨g, off + k * 6 + 2, none⟩ = some (.int .i64 amt) ∧ W.cell? ⟨g, off + k * 6 + 3, none⟩ = some (.string lock) ∧ W.cell? ⟨g, off + k * 6 + 4, none⟩ = some (.int .i64 ht) ∧ W.cell? ⟨g, off + k * 6 + 5, none⟩ = some (.bool rew)) ∧ (W.cell? ⟨g, off + (k - 1) * 6, none⟩ = some (.int .i64 tx') ∧ W.cell? ⟨g, off + (k - 1) * 6 + 1, none⟩ = some (.int .i64 out') ∧ W.cell? ⟨g, off + (k - 1) * 6 + 2, none⟩ = some (.int .i64 amt') ∧ W.cell? ⟨g, off + (k - 1) * 6 + 3, none⟩ = some (.string lock') ∧ W.cell? ⟨g, off + (k - 1) * 6 + 4, none⟩ = some (.int .i64 ht') ∧ W.cell? ⟨g, off + (k - 1) * 6 + 5, none⟩ = some (.bool rew'))) := fun W h => ⟨hSof W h, cell_belC h hgw f0, cell_belC h hgw f1, cell_belC h hgw f2, cell_belC h hgw f3, cell_belC h hgw f4, cell_belC h hgw f5⟩
        have hS0 := hSof2 wr.drew hbel.drew
        obtain ⟨j, hj⟩ : ∃ j, j = k - 1 := ⟨_, rfl⟩
        have hs1 : IntKind.i64.wrap ((k : Int) - 1) = (j : Int) := by rw [IntWalk.i64_in _ (by omega)]; omega
        have hjn : j < n := by omega
        rw [← hj] at hS0 hSof2
        have hd0 : decide (0 < k) = true := decide_eq_true (by omega)
        have hd1 : 0 < k := by omega
        have HJ := Lib.hid hj
        clear HLO HLONG HH HST HX HY HB1 e0 e1 e2 e3 e4 e5 f0 f1 f2 f3 f4 f5 hc hb2' hSof hj
        go_wp2
        go_region_held3 (fun W => ((W.cell? ⟨g, off + k * 6, none⟩ = some (.int .i64 tx) ∧ W.cell? ⟨g, off + k * 6 + 1, none⟩ = some (.int .i64 out) ∧ W.cell? ⟨g, off + k * 6 + 2, none⟩ = some (.int .i64 amt) ∧ W.cell? ⟨g, off + k * 6 + 3, none⟩ = some (.string lock) ∧ W.cell? ⟨g, off + k * 6 + 4, none⟩ = some (.int .i64 ht) ∧ W.cell? ⟨g, off + k * 6 + 5, none⟩ = some (.bool rew)) ∧ (W.cell? ⟨g, off + j * 6, none⟩ = some (.int .i64 tx') ∧ W.cell? ⟨g, off + j * 6 + 1, none⟩ = some (.int .i64 out') ∧ W.cell? ⟨g, off + j * 6 + 2, none⟩ = some (.int .i64 amt') ∧ W.cell? ⟨g, off + j * 6 + 3, none⟩ = some (.string lock') ∧ W.cell? ⟨g, off + j * 6 + 4, none⟩ = some (.int .i64 ht') ∧ W.cell? ⟨g, off + j * 6 + 5, none⟩ = some (.bool rew')))) (first | with_reducible exact hS0 | with_reducible exact hS1 | with_reducible exact hS2)
          (first
            | (go_at_call 35; refine (HOK.out _).mono ?_; rintro e w1 ⟨rfl, hx⟩; have hb1 := below_aftC hbel.drew hx; have hS1 := hSof2 w1 hb1)
            | (go_at_call 36; refine (HLS.out _).mono ?_; rintro e w2 ⟨rfl, hx2⟩; have hb2 := below_aftC hb1 hx2; have hS2 := hSof2 w2 hb2))
        cases b2
        · have hK2 : K = false := HBAD.out k hkl HSK.out
          subst hK2
          clear HA HBAD HSK
          go_wp2
          go_ret
          exact ⟨rfl, hb2⟩
        · go_wp2
          go_roundw
          case rel => exact ⟨k + 1, by omega, by simp, Lib.hid (fun i hi => by
            by_cases h2 : i = k
            · rw [h2]; exact HSK.out
            · exact HA.out i (by omega)), hb2⟩
          case measure => simp [intOf]; omega
    · have hK2 : K = true := HLO.out.2 ⟨by rw [HL.out]; omega, fun j hj => HA.out j (by rw [HL.out] at hj; omega)⟩
      subst hK2
      clear HLO HBAD HLONG HH HA HL
      go_wp2
      go_ret
      exact ⟨rfl, hbel⟩
end Go.Proofs.Ytohameoomlehlab
