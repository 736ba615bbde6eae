/-
  Contracts of the program's coins: valid ones, lists of them, maps made of them.
-/
import Derived.Test.YtohameoomlehlabCr
import Derived.Deep.RegionLaw
import Derived.Maps.RangeWalk
namespace Go.Proofs.Ytohameoomlehlab
open Go.RowKit Go.Maps

theorem bk2C {B : Nat} {t : TypeId} {u0 u1 : Value} {w : World} (h : Bk B t #[u0, u1] w) : w.cell? ⟨B, 0, none⟩ = some u0 ∧ w.cell? ⟨B, 1, none⟩ = some u1 ∧ w.frozen? ⟨B, 0, none⟩ = false ∧ w.frozen? ⟨B, 1, none⟩ = false := ⟨h.cell 0, h.cell 1, h.fro 0, h.fro 1⟩
set_option maxRecDepth 100000 in
set_option maxHeartbeats 3200000 in
theorem coinValid_any (tx out amt : Int) (lock : ByteArray) (ht : Int) (rew : Bool) (w : World) (hz : lock.size ≤ 9223372036854775807) :
    Calls Try.prog 37 #[.agg #[.int .i64 tx, .int .i64 out, .int .i64 amt, .string lock, .int .i64 ht, .bool rew]] w fun e w' => e = .returned (.bool (Co.ok ⟨tx, out, amt, lock, ht, rew⟩)) ∧ Below w.heap.size w w' := by
  have v1 : Bk w.heap.size 30 #[.int .i64 tx, .int .i64 out, .int .i64 amt, .string lock, .int .i64 ht, .bool rew] (((w.alloc (.cells #[.int .i64 tx, .int .i64 out, .int .i64 amt, .string lock, .int .i64 ht, .bool rew] 30 (0, 0))).alloc (.cells #[.int .i64 amt, .string lock] 89 (0, 0))).alloc (.cells #[.int .i64 tx, .int .i64 out, .slice none 0 0] 92 (0, 0))) := ((Bk.new _ _ _).alloc _).alloc _
  have v2 : Bk (w.heap.size + 1) 89 #[.int .i64 amt, .string lock] (((w.alloc (.cells #[.int .i64 tx, .int .i64 out, .int .i64 amt, .string lock, .int .i64 ht, .bool rew] 30 (0, 0))).alloc (.cells #[.int .i64 amt, .string lock] 89 (0, 0))).alloc (.cells #[.int .i64 tx, .int .i64 out, .slice none 0 0] 92 (0, 0))) := (Bk.new' _ _ _ _ (by simp)).alloc _
  have v3 : Bk (w.heap.size + 1 + 1) 92 #[.int .i64 tx, .int .i64 out, .slice none 0 0] (((w.alloc (.cells #[.int .i64 tx, .int .i64 out, .int .i64 amt, .string lock, .int .i64 ht, .bool rew] 30 (0, 0))).alloc (.cells #[.int .i64 amt, .string lock] 89 (0, 0))).alloc (.cells #[.int .i64 tx, .int .i64 out, .slice none 0 0] 92 (0, 0))) := Bk.new' _ _ _ _ (by simp)
  have hb0 : Below w.heap.size w (((w.alloc (.cells #[.int .i64 tx, .int .i64 out, .int .i64 amt, .string lock, .int .i64 ht, .bool rew] 30 (0, 0))).alloc (.cells #[.int .i64 amt, .string lock] 89 (0, 0))).alloc (.cells #[.int .i64 tx, .int .i64 out, .slice none 0 0] 92 (0, 0))) := below_alloc (below_alloc (below_alloc (Below.refl _ _) _) _) _
  have hc1 := outValidC amt lock (((w.alloc (.cells #[.int .i64 tx, .int .i64 out, .int .i64 amt, .string lock, .int .i64 ht, .bool rew] 30 (0, 0))).alloc (.cells #[.int .i64 amt, .string lock] 89 (0, 0))).alloc (.cells #[.int .i64 tx, .int .i64 out, .slice none 0 0] 92 (0, 0))) hz
  have hc2 := fun W => inValidC tx out W
  have HOK : Hid (Co.ok ⟨tx, out, amt, lock, ht, rew⟩ = (((decide (1 ≤ amt) && decide (amt ≤ 1000000)) && decide ((lock.size : Int) ≤ 300)) && (((decide (0 ≤ tx) && decide (tx ≤ 4294967295)) && (decide (0 ≤ out) && decide (out ≤ 5))) && (decide (0 ≤ ht) && decide (ht ≤ 9999))))) := Lib.hid (by
    unfold Co.ok
    simp only
    cases decide (1 ≤ amt) <;> cases decide (amt ≤ 1000000) <;> cases decide ((lock.size : Int) ≤ 300) <;> cases decide (0 ≤ tx) <;> cases decide (tx ≤ 4294967295) <;> cases decide (0 ≤ out) <;> cases decide (out ≤ 5) <;> rfl)
  rw [HOK.out]
  obtain ⟨A, hA⟩ : ∃ x, ((decide (1 ≤ amt) && decide (amt ≤ 1000000)) && decide ((lock.size : Int) ≤ 300)) = x := ⟨_, rfl⟩
  obtain ⟨B, hB⟩ : ∃ x, ((decide (0 ≤ tx) && decide (tx ≤ 4294967295)) && (decide (0 ≤ out) && decide (out ≤ 5))) = x := ⟨_, rfl⟩
  rw [hA] at hc1 ⊢
  simp only [hB] at hc2
  rw [hB]
  have HW0 := Lib.hid hb0
  obtain ⟨W0, HW⟩ : ∃ W, Hid ((((w.alloc (.cells #[.int .i64 tx, .int .i64 out, .int .i64 amt, .string lock, .int .i64 ht, .bool rew] 30 (0, 0))).alloc (.cells #[.int .i64 amt, .string lock] 89 (0, 0))).alloc (.cells #[.int .i64 tx, .int .i64 out, .slice none 0 0] 92 (0, 0))) = W) := ⟨_, Lib.hid rfl⟩
  rw [HW.out] at hc1 v1 v2 v3 hb0
  clear HOK hA hB HW0
  go_enter Try.func37, Try.ntmps37
  go_wp2_with fail
  rw [HW.out]
  obtain ⟨a0, a1, _, _⟩ := bk2C v2
  clear HW
  go_wp2_with fail
  refine hc1.mono ?_
  rintro e w1 ⟨rfl, hx⟩
  have hb1 := hb0.trans (hx.mono hb0.size)
  have u1 := v1.below hx
  have u3 := v3.below hx
  clear hc1 hx a0 a1 v1 v2 v3 hb0
  cases A
  · go_wp2
    go_ret
    exact ⟨rfl, hb1⟩
  obtain ⟨b0, b1, b2⟩ := Bk.c3t' u3
  go_wp2_with fail
  refine (hc2 _).mono ?_
  rintro e w2 ⟨rfl, hx2⟩
  have hb2 := hb1.trans (hx2.mono hb1.size)
  have u2 := u1.below hx2
  clear hc2 hx2 b0 b1 b2 u1 u3
  cases B
  · go_wp2
    go_ret
    exact ⟨rfl, hb2⟩
  have c4 := u2.cell 4
  clear u2
  cases h1 : decide (0 ≤ ht)
  · go_wp2
    go_ret
    exact ⟨by rw [h1]; rfl, hb2⟩
  cases h2 : decide (ht ≤ 9999)
  · go_wp2
    go_ret
    exact ⟨by rw [h1, h2]; rfl, hb2⟩
  go_wp2
  go_ret
  exact ⟨by rw [h1, h2]; rfl, hb2⟩
set_option maxRecDepth 100000 in
set_option maxHeartbeats 1600000 in
theorem place_any (tx out amt : Int) (lock : ByteArray) (ht : Int) (rew : Bool) (w : World) :
    Calls Try.prog 66 #[.agg #[.int .i64 tx, .int .i64 out, .int .i64 amt, .string lock, .int .i64 ht, .bool rew]] w fun e w' => e = .returned (.agg #[.int .i64 tx, .int .i64 out]) ∧ Below w.heap.size w w' := by
  have hR : Bk (w.heap.size + 1) 60 #[.int .i64 tx, .int .i64 out] ((w.alloc (.cells #[.int .i64 tx, .int .i64 out, .int .i64 amt, .string lock, .int .i64 ht, .bool rew] 30 (0, 0))).alloc (.cells #[.int .i64 tx, .int .i64 out] 60 (0, 0))) := Bk.new' _ _ _ _ (by simp)
  have hb2 : Below w.heap.size w ((w.alloc (.cells #[.int .i64 tx, .int .i64 out, .int .i64 amt, .string lock, .int .i64 ht, .bool rew] 30 (0, 0))).alloc (.cells #[.int .i64 tx, .int .i64 out] 60 (0, 0))) := below_alloc (below_alloc (Below.refl _ _) _) _
  go_enter Try.func66, Try.ntmps66
  go_wp2
  refine bodyPost_ret (results_cell_row (P := Try.prog) rfl _ _ (w.heap.size + 1) 60 _ (0, 0) _ rfl hR.held Try.underlying60 rfl (by kernel_rfl)) rfl ?_
  exact ⟨rfl, hb2⟩
theorem below_growC (w : World) (q : Nat) (os : Array Obj) : Below w.heap.size w (Go.Sort.grow (w.drewN q) os) :=
  ⟨rfl, rfl, rfl, by simp [Go.Sort.grow], fun k hk => Go.Sort.heap_grow_old _ _ (by exact hk)⟩
theorem compare_below (tx out amt : Int) (lock : ByteArray) (ht : Int) (rew : Bool) (tx' out' amt' : Int) (lock' : ByteArray) (ht' : Int) (rew' : Bool) (w : World) :
    Calls Try.prog 38 #[.agg #[.int .i64 tx, .int .i64 out, .int .i64 amt, .string lock, .int .i64 ht, .bool rew], .agg #[.int .i64 tx', .int .i64 out', .int .i64 amt', .string lock', .int .i64 ht', .bool rew']] w fun e w' => e = .returned (.int .i64 (Co.cmp ⟨tx, out, amt, lock, ht, rew⟩ ⟨tx', out', amt', lock', ht', rew'⟩)) ∧ Below w.heap.size w w' :=
  (compare_any tx out amt lock ht rew tx' out' amt' lock' ht' rew' w).mono fun e w' h => by
    obtain ⟨he, q, os, rfl⟩ := h
    exact ⟨he, below_growC _ _ _⟩
theorem Co.cmp_geq (x y : Co) : decide (0 ≤ Co.cmp x y) = !(x.less y.tx y.out) := by
  have h := Co.ltOf_cmp x y
  unfold ltOf at h
  rw [← h]
  cases hd : decide (Co.cmp x y < 0) with
  | true => have := of_decide_eq_true hd; exact decide_eq_false (by omega)
  | false => have := of_decide_eq_false hd; exact decide_eq_true (by omega)
set_option maxRecDepth 100000 in
set_option maxHeartbeats 6400000 in
theorem implCoinsOk_any (lo : Nat) (a : Option Addr) (n c : Nat) (l : List Co) (w : World) (h : CoL lo w a n l) (_hcap : n ≤ c) (hn : n ≤ 1048576) (hs : ∀ x ∈ l, x.lock.size ≤ 1048576) :
    Calls Try.prog 14 #[.slice a n c] w fun e w' => e = .returned (.bool (Co.lok l)) ∧ Below w.heap.size w w' := by
  have HL := Lib.hid h.1
  have HH := Lib.hid h
  have HS := Lib.hid hs
  have HLO := Lib.hid (Co.lok_iff l)
  have HBAD := Lib.hid (fun (j : Nat) (h1 : j < l.length) (h2 : Co.step l j = false) => Co.lok_bad h1 h2)
  have HLONG := Lib.hid (fun (h1 : 80 < l.length) => Co.lok_long h1)
  obtain ⟨K, hK⟩ : ∃ x, Co.lok l = x := ⟨_, rfl⟩
  rw [hK] at HLO HBAD HLONG ⊢
  clear hK h hs
  by_cases h80 : 80 < n
  · have hK2 : K = false := HLONG.out (by rw [HL.out]; exact h80)
    subst hK2
    have hd : (80 : Int) < (n : Int) := by omega
    clear HLO HBAD HLONG HL HH HS
    go_enter Try.func14, Try.ntmps14
    go_wp2
    go_ret
    exact ⟨rfl, Below.refl _ _⟩
  have hd : ¬ (80 : Int) < (n : Int) := by omega
  go_enter Try.func14, Try.ntmps14
  go_wp2
  clear hd
  go_loopw [10] (fun i wr => ∃ k : Nat, k ≤ n ∧ i = .int .i64 (k : Int) ∧ Hid (∀ j, j < k → Co.step l j = true) ∧ Below w.heap.size w wr)
    (fun i _ => n - (intOf i).toNat)
  case atStart => exact ⟨0, by omega, rfl, Lib.hid (fun j hj => absurd hj (Nat.not_lt_zero _)), Below.refl _ _⟩
  case round =>
    obtain ⟨k, hk, rfl, HA, hbel⟩ := hrel
    by_cases hlt : k < n
    · obtain ⟨g, off, rfl, _, _, hc⟩ := HH.out.2 (by omega)
      have hgw : g < w.heap.size := by assumption
      obtain ⟨e0, e1, e2, e3, e4, e5⟩ := hc k hlt
      have hkl : k < l.length := by rw [HL.out]; exact hlt
      have HST : Hid (Co.step l k = ((Co.nth l k).ok && (decide (k = 0) || (Co.nth l (k - 1)).less (Co.nth l k).tx (Co.nth l k).out))) := Lib.hid rfl
      have hzk := HS.out _ (Co.nth_mem hkl)
      obtain ⟨x, HX⟩ : ∃ x, Hid (Co.nth l k = x) := ⟨_, Lib.hid rfl⟩
      rw [HX.out] at e0 e1 e2 e3 e4 e5 hzk
      obtain ⟨tx, out, amt, lock, ht, rew⟩ := x
      simp only at e0 e1 e2 e3 e4 e5 hzk
      have hOKc := fun W => coinValid_any tx out amt lock ht rew W (by omega)
      obtain ⟨b1, hb1'⟩ : ∃ x, Co.ok ⟨tx, out, amt, lock, ht, rew⟩ = x := ⟨_, rfl⟩
      rw [hb1'] at hOKc
      have HOK := Lib.hid hOKc
      have HB1 := Lib.hid hb1'
      clear hb1' hOKc hzk
      have vc : Bk wr.heap.size 30 #[.int .i64 tx, .int .i64 out, .int .i64 amt, .string lock, .int .i64 ht, .bool rew] (wr.alloc (.cells #[.int .i64 tx, .int .i64 out, .int .i64 amt, .string lock, .int .i64 ht, .bool rew] 30 (0, 0))).drew := (Bk.new _ _ _).drew
      have hba : Below w.heap.size w (wr.alloc (.cells #[.int .i64 tx, .int .i64 out, .int .i64 amt, .string lock, .int .i64 ht, .bool rew] 30 (0, 0))).drew := (hbel.alloc hbel.size _).drew
      have hSof : ∀ W, Below (wr.alloc (.cells #[.int .i64 tx, .int .i64 out, .int .i64 amt, .string lock, .int .i64 ht, .bool rew] 30 (0, 0))).drew.heap.size (wr.alloc (.cells #[.int .i64 tx, .int .i64 out, .int .i64 amt, .string lock, .int .i64 ht, .bool rew] 30 (0, 0))).drew W → (W.cell? ⟨wr.heap.size, 0, none⟩ = some (.int .i64 tx) ∧ W.cell? ⟨wr.heap.size, 1, none⟩ = some (.int .i64 out) ∧ W.cell? ⟨wr.heap.size, 2, none⟩ = some (.int .i64 amt) ∧ W.cell? ⟨wr.heap.size, 3, none⟩ = some (.string lock) ∧ W.cell? ⟨wr.heap.size, 4, none⟩ = some (.int .i64 ht) ∧ W.cell? ⟨wr.heap.size, 5, none⟩ = some (.bool rew)) := fun W h => Bk.c6 (vc.below h)
      have hS0 := hSof _ (Below.refl _ _)
      have e0' := (hbel.cell (p := ⟨g, off + k * 6, none⟩) hgw).trans e0
      have e1' := (hbel.cell (p := ⟨g, off + k * 6 + 1, none⟩) hgw).trans e1
      have e2' := (hbel.cell (p := ⟨g, off + k * 6 + 2, none⟩) hgw).trans e2
      have e3' := (hbel.cell (p := ⟨g, off + k * 6 + 3, none⟩) hgw).trans e3
      have e4' := (hbel.cell (p := ⟨g, off + k * 6 + 4, none⟩) hgw).trans e4
      have e5' := (hbel.cell (p := ⟨g, off + k * 6 + 5, none⟩) hgw).trans e5
      cases b1
      · have hK2 : K = false := HBAD.out k hkl (by rw [HST.out, HX.out, HB1.out]; rfl)
        subst hK2
        clear HLO HBAD HLONG HH HST HX HB1 e0 e1 e2 e3 e4 e5 hc HA HS
        go_wp2
        refine wp_region_noPanic ?_
        refine wp_region_held_drew (S := fun W => (W.cell? ⟨wr.heap.size, 0, none⟩ = some (.int .i64 tx) ∧ W.cell? ⟨wr.heap.size, 1, none⟩ = some (.int .i64 out) ∧ W.cell? ⟨wr.heap.size, 2, none⟩ = some (.int .i64 amt) ∧ W.cell? ⟨wr.heap.size, 3, none⟩ = some (.string lock) ∧ W.cell? ⟨wr.heap.size, 4, none⟩ = some (.int .i64 ht) ∧ W.cell? ⟨wr.heap.size, 5, none⟩ = some (.bool rew))) (by kernel_rfl) hS0 (fun hH => ?_)
        refine wpAnyH_take (i := 0) (v := .agg #[.int .i64 tx, .int .i64 out, .int .i64 amt, .string lock, .int .i64 ht, .bool rew]) rfl (by kernel_rfl) (by kernel_rfl) (by kernel_rfl) (fun _ _ _ h => h) (Or.inl ⟨by rfl, fun W hW => by obtain ⟨c0, c1, c2, c3, c4, c5⟩ := hW; go_simp⟩) (by assumption) ?_
        simp only [Act.put, List.getElem_toArray, List.getElem_cons_zero, List.setIfInBounds_toArray, List.set_cons_zero, List.set_cons_succ]
        refine wpAnyH_ready (rs := [1]) (by kernel_rfl) (by simp) ?_
        refine AllReadyH.cons rfl (fun K1 hK1 => ?_) AllReadyH.nil
        go_simp
        go_wp2_with (go_at_call 37; refine (HOK.out _).mono ?_; rintro e w1 ⟨rfl, hx⟩; have hb1 := below_aftC hba hx; have hS1 := hSof w1 hx)
        refine hK1.out _ _ hS1 (fun hH1 => ?_)
        clear hK1 K1
        try simp only [Act.put, List.getElem_toArray, List.getElem_cons_succ, List.getElem_cons_zero, List.setIfInBounds_toArray, List.set_cons_zero, List.set_cons_succ]
        refine wpAnyH_take (i := 2) (v := .bool true) rfl (by kernel_rfl) (by kernel_rfl) (by kernel_rfl) (fun _ _ _ h => h) (Or.inl ⟨by rfl, fun W hW => by go_simp⟩) (by assumption) ?_
        simp only [Act.put, List.getElem_toArray, List.getElem_cons_succ, List.getElem_cons_zero, List.setIfInBounds_toArray, List.set_cons_zero, List.set_cons_succ]
        refine wpAnyH_take (i := 3) (v := .bool true) rfl (by kernel_rfl) (by kernel_rfl) (by kernel_rfl) (fun _ _ _ h => h) (Or.inl ⟨by rfl, fun W hW => by go_simp⟩) (by assumption) ?_
        simp only [Act.put, List.getElem_toArray, List.getElem_cons_succ, List.getElem_cons_zero, List.setIfInBounds_toArray, List.set_cons_zero, List.set_cons_succ]
        refine wpAnyH_take (i := 4) (v := undef) rfl (by kernel_rfl) (by kernel_rfl) (by kernel_rfl) (fun _ _ _ h => h) (Or.inr ⟨rfl, rfl⟩) (by assumption) ?_
        simp only [Act.put, List.getElem_toArray, List.getElem_cons_succ, List.getElem_cons_zero, List.setIfInBounds_toArray, List.set_cons_zero, List.set_cons_succ]
        refine wpAnyH_take (i := 5) (v := undef) rfl (by kernel_rfl) (by kernel_rfl) (by kernel_rfl) (fun _ _ _ h => h) (Or.inr ⟨rfl, rfl⟩) (by assumption) ?_
        simp only [Act.put, List.getElem_toArray, List.getElem_cons_succ, List.getElem_cons_zero, List.setIfInBounds_toArray, List.set_cons_zero, List.set_cons_succ]
        refine wpAnyH_take (i := 6) (v := undef) rfl (by kernel_rfl) (by kernel_rfl) (by kernel_rfl) (fun _ _ _ h => h) (Or.inr ⟨rfl, rfl⟩) (by assumption) ?_
        simp only [Act.put, List.getElem_toArray, List.getElem_cons_succ, List.getElem_cons_zero, List.setIfInBounds_toArray, List.set_cons_zero, List.set_cons_succ]
        refine wpAnyH_take (i := 7) (v := undef) rfl (by kernel_rfl) (by kernel_rfl) (by kernel_rfl) (fun _ _ _ h => h) (Or.inr ⟨rfl, rfl⟩) (by assumption) ?_
        simp only [Act.put, List.getElem_toArray, List.getElem_cons_succ, List.getElem_cons_zero, List.setIfInBounds_toArray, List.set_cons_zero, List.set_cons_succ]
        refine wpAnyH_take (i := 8) (v := undef) rfl (by kernel_rfl) (by kernel_rfl) (by kernel_rfl) (fun _ _ _ h => h) (Or.inr ⟨rfl, rfl⟩) (by assumption) ?_
        simp only [Act.put, List.getElem_toArray, List.getElem_cons_succ, List.getElem_cons_zero, List.setIfInBounds_toArray, List.set_cons_zero, List.set_cons_succ]
        refine wpAnyH_take (i := 9) (v := undef) rfl (by kernel_rfl) (by kernel_rfl) (by kernel_rfl) (fun _ _ _ h => h) (Or.inr ⟨rfl, rfl⟩) (by assumption) ?_
        simp only [Act.put, List.getElem_toArray, List.getElem_cons_succ, List.getElem_cons_zero, List.setIfInBounds_toArray, List.set_cons_zero, List.set_cons_succ]
        refine wpAnyH_take (i := 10) (v := undef) rfl (by kernel_rfl) (by kernel_rfl) (by kernel_rfl) (fun _ _ _ h => h) (Or.inr ⟨rfl, rfl⟩) (by assumption) ?_
        simp only [Act.put, List.getElem_toArray, List.getElem_cons_succ, List.getElem_cons_zero, List.setIfInBounds_toArray, List.set_cons_zero, List.set_cons_succ]
        refine wpAnyH_take (i := 11) (v := undef) rfl (by kernel_rfl) (by kernel_rfl) (by kernel_rfl) (fun _ _ _ h => h) (Or.inr ⟨rfl, rfl⟩) (by assumption) ?_
        simp only [Act.put, List.getElem_toArray, List.getElem_cons_succ, List.getElem_cons_zero, List.setIfInBounds_toArray, List.set_cons_zero, List.set_cons_succ]
        refine wpAnyH_take (i := 12) (v := undef) rfl (by kernel_rfl) (by kernel_rfl) (by kernel_rfl) (fun _ _ _ h => h) (Or.inr ⟨rfl, rfl⟩) (by assumption) ?_
        simp only [Act.put, List.getElem_toArray, List.getElem_cons_succ, List.getElem_cons_zero, List.setIfInBounds_toArray, List.set_cons_zero, List.set_cons_succ]
        refine wpAnyH_take (i := 13) (v := undef) rfl (by kernel_rfl) (by kernel_rfl) (by kernel_rfl) (fun _ _ _ h => h) (Or.inr ⟨rfl, rfl⟩) (by assumption) ?_
        simp only [Act.put, List.getElem_toArray, List.getElem_cons_succ, List.getElem_cons_zero, List.setIfInBounds_toArray, List.set_cons_zero, List.set_cons_succ]
        refine wpAnyH_take (i := 14) (v := undef) rfl (by kernel_rfl) (by kernel_rfl) (by kernel_rfl) (fun _ _ _ h => h) (Or.inr ⟨rfl, rfl⟩) (by assumption) ?_
        simp only [Act.put, List.getElem_toArray, List.getElem_cons_succ, List.getElem_cons_zero, List.setIfInBounds_toArray, List.set_cons_zero, List.set_cons_succ]
        refine wpAnyH_take (i := 15) (v := undef) rfl (by kernel_rfl) (by kernel_rfl) (by kernel_rfl) (fun _ _ _ h => h) (Or.inr ⟨rfl, rfl⟩) (by assumption) ?_
        simp only [Act.put, List.getElem_toArray, List.getElem_cons_succ, List.getElem_cons_zero, List.setIfInBounds_toArray, List.set_cons_zero, List.set_cons_succ]
        refine wpAnyH_take (i := 16) (v := .bool true) rfl (by kernel_rfl) (by kernel_rfl) (by kernel_rfl) (fun _ _ _ h => h) (Or.inl ⟨by rfl, fun W hW => by go_simp⟩) (by assumption) ?_
        simp only [Act.put, List.getElem_toArray, List.getElem_cons_succ, List.getElem_cons_zero, List.setIfInBounds_toArray, List.set_cons_zero, List.set_cons_succ]
        refine wpAnyH_done (by kernel_rfl) ?_ _
        refine NoPanic.normal ?_
        go_wp2
        go_ret
        exact ⟨rfl, hb1⟩
      by_cases hk0 : k = 0
      · have HSK : Hid (Co.step l k = true) := Lib.hid (by rw [HST.out, HX.out, HB1.out, decide_eq_true hk0]; rfl)
        have hd0 : decide (0 < k) = false := decide_eq_false (by omega)
        have hd1 : decide ((0 : Int) < (k : Int)) = false := decide_eq_false (by omega)
        have HK0 := Lib.hid hk0
        clear hk0
        clear HLO HBAD HLONG HH HST HX HB1 e0 e1 e2 e3 e4 e5 hc HS
        go_wp2
        refine wp_region_noPanic ?_
        refine wp_region_held_drew (S := fun W => (W.cell? ⟨wr.heap.size, 0, none⟩ = some (.int .i64 tx) ∧ W.cell? ⟨wr.heap.size, 1, none⟩ = some (.int .i64 out) ∧ W.cell? ⟨wr.heap.size, 2, none⟩ = some (.int .i64 amt) ∧ W.cell? ⟨wr.heap.size, 3, none⟩ = some (.string lock) ∧ W.cell? ⟨wr.heap.size, 4, none⟩ = some (.int .i64 ht) ∧ W.cell? ⟨wr.heap.size, 5, none⟩ = some (.bool rew))) (by kernel_rfl) hS0 (fun hH => ?_)
        refine wpAnyH_take (i := 0) (v := .agg #[.int .i64 tx, .int .i64 out, .int .i64 amt, .string lock, .int .i64 ht, .bool rew]) rfl (by kernel_rfl) (by kernel_rfl) (by kernel_rfl) (fun _ _ _ h => h) (Or.inl ⟨by rfl, fun W hW => by obtain ⟨c0, c1, c2, c3, c4, c5⟩ := hW; go_simp⟩) (by assumption) ?_
        simp only [Act.put, List.getElem_toArray, List.getElem_cons_zero, List.setIfInBounds_toArray, List.set_cons_zero, List.set_cons_succ]
        refine wpAnyH_ready (rs := [1]) (by kernel_rfl) (by simp) ?_
        refine AllReadyH.cons rfl (fun K1 hK1 => ?_) AllReadyH.nil
        go_simp
        go_wp2_with (go_at_call 37; refine (HOK.out _).mono ?_; rintro e w1 ⟨rfl, hx⟩; have hb1 := below_aftC hba hx; have hS1 := hSof w1 hx)
        refine hK1.out _ _ hS1 (fun hH1 => ?_)
        clear hK1 K1
        try simp only [Act.put, List.getElem_toArray, List.getElem_cons_succ, List.getElem_cons_zero, List.setIfInBounds_toArray, List.set_cons_zero, List.set_cons_succ]
        refine wpAnyH_take (i := 2) (v := .bool false) rfl (by kernel_rfl) (by kernel_rfl) (by kernel_rfl) (fun _ _ _ h => h) (Or.inl ⟨by rfl, fun W hW => by go_simp⟩) (by assumption) ?_
        simp only [Act.put, List.getElem_toArray, List.getElem_cons_succ, List.getElem_cons_zero, List.setIfInBounds_toArray, List.set_cons_zero, List.set_cons_succ]
        refine wpAnyH_take (i := 3) (v := .bool false) rfl (by kernel_rfl) (by kernel_rfl) (by kernel_rfl) (fun _ _ _ h => h) (Or.inl ⟨by rfl, fun W hW => by go_simp⟩) (by assumption) ?_
        simp only [Act.put, List.getElem_toArray, List.getElem_cons_succ, List.getElem_cons_zero, List.setIfInBounds_toArray, List.set_cons_zero, List.set_cons_succ]
        refine wpAnyH_take (i := 4) (v := .int .i64 (k : Int)) rfl (by kernel_rfl) (by kernel_rfl) (by kernel_rfl) (fun _ _ _ h => h) (Or.inl ⟨by rfl, fun W hW => by go_simp⟩) (by assumption) ?_
        simp only [Act.put, List.getElem_toArray, List.getElem_cons_succ, List.getElem_cons_zero, List.setIfInBounds_toArray, List.set_cons_zero, List.set_cons_succ]
        refine wpAnyH_take (i := 5) (v := .bool false) rfl (by kernel_rfl) (by kernel_rfl) (by kernel_rfl) (fun _ _ _ h => h) (Or.inl ⟨by rfl, fun W hW => by go_simp <;> simp [hd0]⟩) (by assumption) ?_
        simp only [Act.put, List.getElem_toArray, List.getElem_cons_succ, List.getElem_cons_zero, List.setIfInBounds_toArray, List.set_cons_zero, List.set_cons_succ]
        refine wpAnyH_take (i := 6) (v := .bool false) rfl (by kernel_rfl) (by kernel_rfl) (by kernel_rfl) (fun _ _ _ h => h) (Or.inl ⟨by rfl, fun W hW => by go_simp⟩) (by assumption) ?_
        simp only [Act.put, List.getElem_toArray, List.getElem_cons_succ, List.getElem_cons_zero, List.setIfInBounds_toArray, List.set_cons_zero, List.set_cons_succ]
        refine wpAnyH_take (i := 7) (v := undef) rfl (by kernel_rfl) (by kernel_rfl) (by kernel_rfl) (fun _ _ _ h => h) (Or.inr ⟨rfl, rfl⟩) (by assumption) ?_
        simp only [Act.put, List.getElem_toArray, List.getElem_cons_succ, List.getElem_cons_zero, List.setIfInBounds_toArray, List.set_cons_zero, List.set_cons_succ]
        refine wpAnyH_take (i := 8) (v := undef) rfl (by kernel_rfl) (by kernel_rfl) (by kernel_rfl) (fun _ _ _ h => h) (Or.inr ⟨rfl, rfl⟩) (by assumption) ?_
        simp only [Act.put, List.getElem_toArray, List.getElem_cons_succ, List.getElem_cons_zero, List.setIfInBounds_toArray, List.set_cons_zero, List.set_cons_succ]
        refine wpAnyH_take (i := 9) (v := undef) rfl (by kernel_rfl) (by kernel_rfl) (by kernel_rfl) (fun _ _ _ h => h) (Or.inr ⟨rfl, rfl⟩) (by assumption) ?_
        simp only [Act.put, List.getElem_toArray, List.getElem_cons_succ, List.getElem_cons_zero, List.setIfInBounds_toArray, List.set_cons_zero, List.set_cons_succ]
        refine wpAnyH_take (i := 10) (v := undef) rfl (by kernel_rfl) (by kernel_rfl) (by kernel_rfl) (fun _ _ _ h => h) (Or.inr ⟨rfl, rfl⟩) (by assumption) ?_
        simp only [Act.put, List.getElem_toArray, List.getElem_cons_succ, List.getElem_cons_zero, List.setIfInBounds_toArray, List.set_cons_zero, List.set_cons_succ]
        refine wpAnyH_take (i := 11) (v := undef) rfl (by kernel_rfl) (by kernel_rfl) (by kernel_rfl) (fun _ _ _ h => h) (Or.inr ⟨rfl, rfl⟩) (by assumption) ?_
        simp only [Act.put, List.getElem_toArray, List.getElem_cons_succ, List.getElem_cons_zero, List.setIfInBounds_toArray, List.set_cons_zero, List.set_cons_succ]
        refine wpAnyH_take (i := 12) (v := undef) rfl (by kernel_rfl) (by kernel_rfl) (by kernel_rfl) (fun _ _ _ h => h) (Or.inr ⟨rfl, rfl⟩) (by assumption) ?_
        simp only [Act.put, List.getElem_toArray, List.getElem_cons_succ, List.getElem_cons_zero, List.setIfInBounds_toArray, List.set_cons_zero, List.set_cons_succ]
        refine wpAnyH_take (i := 13) (v := undef) rfl (by kernel_rfl) (by kernel_rfl) (by kernel_rfl) (fun _ _ _ h => h) (Or.inr ⟨rfl, rfl⟩) (by assumption) ?_
        simp only [Act.put, List.getElem_toArray, List.getElem_cons_succ, List.getElem_cons_zero, List.setIfInBounds_toArray, List.set_cons_zero, List.set_cons_succ]
        refine wpAnyH_take (i := 14) (v := undef) rfl (by kernel_rfl) (by kernel_rfl) (by kernel_rfl) (fun _ _ _ h => h) (Or.inr ⟨rfl, rfl⟩) (by assumption) ?_
        simp only [Act.put, List.getElem_toArray, List.getElem_cons_succ, List.getElem_cons_zero, List.setIfInBounds_toArray, List.set_cons_zero, List.set_cons_succ]
        refine wpAnyH_take (i := 15) (v := .bool false) rfl (by kernel_rfl) (by kernel_rfl) (by kernel_rfl) (fun _ _ _ h => h) (Or.inl ⟨by rfl, fun W hW => by go_simp⟩) (by assumption) ?_
        simp only [Act.put, List.getElem_toArray, List.getElem_cons_succ, List.getElem_cons_zero, List.setIfInBounds_toArray, List.set_cons_zero, List.set_cons_succ]
        refine wpAnyH_take (i := 16) (v := .bool false) rfl (by kernel_rfl) (by kernel_rfl) (by kernel_rfl) (fun _ _ _ h => h) (Or.inl ⟨by rfl, fun W hW => by go_simp⟩) (by assumption) ?_
        simp only [Act.put, List.getElem_toArray, List.getElem_cons_succ, List.getElem_cons_zero, List.setIfInBounds_toArray, List.set_cons_zero, List.set_cons_succ]
        refine wpAnyH_done (by kernel_rfl) ?_ _
        refine NoPanic.normal ?_
        go_wp2
        go_roundw
        case rel => exact ⟨k + 1, by omega, by simp, Lib.hid (fun i hi => by
            have := HK0.out
            obtain rfl : i = k := by omega
            exact HSK.out), hb1⟩
        case measure => simp [intOf]; omega
      · obtain ⟨f0, f1, f2, f3, f4, f5⟩ := hc (k - 1) (by omega)
        obtain ⟨y, HY⟩ : ∃ x, Hid (Co.nth l (k - 1) = x) := ⟨_, Lib.hid rfl⟩
        rw [HY.out] at f0 f1 f2 f3 f4 f5
        obtain ⟨tx', out', amt', lock', ht', rew'⟩ := y
        simp only at f0 f1 f2 f3 f4 f5
        have hcm := fun W => compare_below tx' out' amt' lock' ht' rew' tx out amt lock ht rew W
        have hge := Co.cmp_geq ⟨tx', out', amt', lock', ht', rew'⟩ ⟨tx, out, amt, lock, ht, rew⟩
        simp only at hge
        obtain ⟨R, hR⟩ : ∃ x, Co.cmp ⟨tx', out', amt', lock', ht', rew'⟩ ⟨tx, out, amt, lock, ht, rew⟩ = x := ⟨_, rfl⟩
        rw [hR] at hge
        simp only [hR] at hcm
        have HLS := Lib.hid hcm
        obtain ⟨b2, hb2'⟩ : ∃ x, Co.less ⟨tx', out', amt', lock', ht', rew'⟩ tx out = x := ⟨_, rfl⟩
        rw [hb2'] at hge
        have HSK : Hid (Co.step l k = b2) := Lib.hid (by rw [HST.out, HX.out, HY.out, HB1.out, decide_eq_false hk0]; exact hb2')
        have hSof2 : ∀ W, Below (wr.alloc (.cells #[.int .i64 tx, .int .i64 out, .int .i64 amt, .string lock, .int .i64 ht, .bool rew] 30 (0, 0))).drew.heap.size (wr.alloc (.cells #[.int .i64 tx, .int .i64 out, .int .i64 amt, .string lock, .int .i64 ht, .bool rew] 30 (0, 0))).drew W → ((W.cell? ⟨wr.heap.size, 0, none⟩ = some (.int .i64 tx) ∧ W.cell? ⟨wr.heap.size, 1, none⟩ = some (.int .i64 out) ∧ W.cell? ⟨wr.heap.size, 2, none⟩ = some (.int .i64 amt) ∧ W.cell? ⟨wr.heap.size, 3, none⟩ = some (.string lock) ∧ W.cell? ⟨wr.heap.size, 4, none⟩ = some (.int .i64 ht) ∧ W.cell? ⟨wr.heap.size, 5, none⟩ = some (.bool rew)) ∧ (W.cell? ⟨g, off + (k - 1) * 6, none⟩ = some (.int .i64 tx') ∧ W.cell? ⟨g, off + (k - 1) * 6 + 1, none⟩ = some (.int .i64 out') ∧ W.cell? ⟨g, off + (k - 1) * 6 + 2, none⟩ = some (.int .i64 amt') ∧ W.cell? ⟨g, off + (k - 1) * 6 + 3, none⟩ = some (.string lock') ∧ W.cell? ⟨g, off + (k - 1) * 6 + 4, none⟩ = some (.int .i64 ht') ∧ W.cell? ⟨g, off + (k - 1) * 6 + 5, none⟩ = some (.bool rew'))) := fun W h => ⟨hSof W h, cell_belC (below_aftC hba h) hgw f0, cell_belC (below_aftC hba h) hgw f1, cell_belC (below_aftC hba h) hgw f2, cell_belC (below_aftC hba h) hgw f3, cell_belC (below_aftC hba h) hgw f4, cell_belC (below_aftC hba h) hgw f5⟩
        have hS0 := hSof2 _ (Below.refl _ _)
        obtain ⟨j, hj⟩ : ∃ j, j = k - 1 := ⟨_, rfl⟩
        have hs1 : IntKind.i64.wrap ((k : Int) - 1) = (j : Int) := by rw [IntWalk.i64_in _ (by omega)]; omega
        have hjn : j < n := by omega
        rw [← hj] at hS0 hSof2
        have hd0 : decide (0 < k) = true := decide_eq_true (by omega)
        have hd1 : 0 < k := by omega
        have HJ := Lib.hid hj
        clear HLO HLONG HH HST HX HY HB1 e0 e1 e2 e3 e4 e5 f0 f1 f2 f3 f4 f5 hc hb2' hSof hj hR hcm HS
        go_wp2
        go_region_held3 (fun W => ((W.cell? ⟨wr.heap.size, 0, none⟩ = some (.int .i64 tx) ∧ W.cell? ⟨wr.heap.size, 1, none⟩ = some (.int .i64 out) ∧ W.cell? ⟨wr.heap.size, 2, none⟩ = some (.int .i64 amt) ∧ W.cell? ⟨wr.heap.size, 3, none⟩ = some (.string lock) ∧ W.cell? ⟨wr.heap.size, 4, none⟩ = some (.int .i64 ht) ∧ W.cell? ⟨wr.heap.size, 5, none⟩ = some (.bool rew)) ∧ (W.cell? ⟨g, off + j * 6, none⟩ = some (.int .i64 tx') ∧ W.cell? ⟨g, off + j * 6 + 1, none⟩ = some (.int .i64 out') ∧ W.cell? ⟨g, off + j * 6 + 2, none⟩ = some (.int .i64 amt') ∧ W.cell? ⟨g, off + j * 6 + 3, none⟩ = some (.string lock') ∧ W.cell? ⟨g, off + j * 6 + 4, none⟩ = some (.int .i64 ht') ∧ W.cell? ⟨g, off + j * 6 + 5, none⟩ = some (.bool rew')))) (first | with_reducible exact hS0 | with_reducible exact hS1 | with_reducible exact hS2)
          (first
            | (go_at_call 37; refine (HOK.out _).mono ?_; rintro e w1 ⟨rfl, hx⟩; have hb1 := below_aftC hba hx; have hS1 := hSof2 w1 hx)
            | (go_at_call 38; refine (HLS.out _).mono ?_; rintro e w2 ⟨rfl, hx2⟩; have hb2 := below_aftC hb1 hx2; have hS2 := hSof2 w2 (below_aftC hx hx2)))
        cases b2
        · have hK2 : K = false := HBAD.out k hkl HSK.out
          subst hK2
          clear HA HBAD HSK
          go_wp2
          go_ret
          exact ⟨rfl, hb2⟩
        · go_wp2
          go_roundw
          case rel => exact ⟨k + 1, by omega, by simp, Lib.hid (fun i hi => by
            by_cases h2 : i = k
            · rw [h2]; exact HSK.out
            · exact HA.out i (by omega)), hb2⟩
          case measure => simp [intOf]; omega
    · have hK2 : K = true := HLO.out.2 ⟨by rw [HL.out]; omega, fun j hj => HA.out j (by rw [HL.out] at hj; omega)⟩
      subst hK2
      clear HLO HBAD HLONG HH HA HL HS
      go_wp2
      go_ret
      exact ⟨rfl, hbel⟩
end Go.Proofs.Ytohameoomlehlab
