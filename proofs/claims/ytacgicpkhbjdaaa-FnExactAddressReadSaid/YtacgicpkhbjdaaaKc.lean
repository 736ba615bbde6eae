/-
  Contracts of addresses: areAddress, text; of the program.
-/
import Derived.Test.YtacgicpkhbjdaaaKb
namespace Go.Proofs.Ytacgicpkhbjdaaa
open Go.RowKit

theorem ka_checks (x0 x1 x2 x3 x4 x5 x6 x7 x8 x9 : Int) : Ka.checks [x0, x1, x2, x3, x4, x5, x6, x7, x8, x9] = [x0, x1, x2, x3, x4, x5, x6, x7, ((Ka.wsum [x0, x1, x2, x3, x4, x5, x6, x7, x8, x9] 8 - 10 * Ka.sum [x0, x1, x2, x3, x4, x5, x6, x7, x8, x9] 8) % 31), ((9 * Ka.sum [x0, x1, x2, x3, x4, x5, x6, x7, x8, x9] 8 - Ka.wsum [x0, x1, x2, x3, x4, x5, x6, x7, x8, x9] 8) % 31)] := rfl
/-- What areAddress answers. -/
def Ka.ok (l : List Int) : Bool := decide (Ka.Good l)
theorem Ka.ok_big {l : List Int} (h : 4294967295 < Ka.num l 7) : Ka.ok l = false := decide_eq_false (fun g => by have := g.n; omega)
theorem Ka.ok_same {l : List Int} (hl : l.length = 10) (hin : Ka.In l) (h : Ka.num l 7 ≤ 4294967295) : Ka.ok l = (l == Ka.checks l) := by
  unfold Ka.ok
  rw [Bool.eq_iff_iff]
  simp only [decide_eq_true_eq, beq_iff_eq, Ka.checks_iff hl hin]
  exact ⟨fun g => ⟨g.a, g.b⟩, fun ⟨a, b⟩ => ⟨a, b, h⟩⟩
set_option maxRecDepth 100000 in
set_option maxHeartbeats 3200000 in
theorem areAddress_any (x0 x1 x2 x3 x4 x5 x6 x7 x8 x9 : Int) (w : World) (h : Ka.In [x0, x1, x2, x3, x4, x5, x6, x7, x8, x9]) :
    Calls Try.prog 29 #[(.agg #[.int .i64 x0, .int .i64 x1, .int .i64 x2, .int .i64 x3, .int .i64 x4, .int .i64 x5, .int .i64 x6, .int .i64 x7, .int .i64 x8, .int .i64 x9])] w fun e w' => e = .returned (.bool (Ka.ok [x0, x1, x2, x3, x4, x5, x6, x7, x8, x9])) ∧ Below w.heap.size w w' := by
  have hcon1 := fun W => kaNumber_any x0 x1 x2 x3 x4 x5 x6 x7 x8 x9 W h
  have hcon2 := fun W => withChecks_any x0 x1 x2 x3 x4 x5 x6 x7 x8 x9 W h
  have HV0 : Bk w.heap.size 40 #[.int .i64 x0, .int .i64 x1, .int .i64 x2, .int .i64 x3, .int .i64 x4, .int .i64 x5, .int .i64 x6, .int .i64 x7, .int .i64 x8, .int .i64 x9] (w.alloc (.cells #[.int .i64 x0, .int .i64 x1, .int .i64 x2, .int .i64 x3, .int .i64 x4, .int .i64 x5, .int .i64 x6, .int .i64 x7, .int .i64 x8, .int .i64 x9] 40 (0, 0))) := Bk.new w 40 _
  have hb0 : Below w.heap.size w (w.alloc (.cells #[.int .i64 x0, .int .i64 x1, .int .i64 x2, .int .i64 x3, .int .i64 x4, .int .i64 x5, .int .i64 x6, .int .i64 x7, .int .i64 x8, .int .i64 x9] 40 (0, 0))) := (Below.refl _ _).alloc (Nat.le_refl _) _
  have hS0 := Bk.c10 HV0.drew
  by_cases hn : 4294967295 < Ka.num [x0, x1, x2, x3, x4, x5, x6, x7, x8, x9] 7
  · have HN := Lib.hid (Ka.ok_big hn)
    obtain ⟨n, HNN⟩ : ∃ n, Hid (Ka.num [x0, x1, x2, x3, x4, x5, x6, x7, x8, x9] 7 = n) := ⟨_, Lib.hid rfl⟩
    rw [HNN.out] at hn hcon1
    rw [HN.out]
    have hd : decide (n ≤ 4294967295) = false := by simpa using hn
    clear h hcon2 HN HNN hn
    go_enter Try.func29, Try.ntmps29
    go_wp2
    refine wp_region_noPanic ?_
    refine wp_region_held_drew (S := fun W => W.cell? ⟨w.heap.size, 0, none⟩ = some (.int .i64 x0) ∧ W.cell? ⟨w.heap.size, 1, none⟩ = some (.int .i64 x1) ∧ W.cell? ⟨w.heap.size, 2, none⟩ = some (.int .i64 x2) ∧ W.cell? ⟨w.heap.size, 3, none⟩ = some (.int .i64 x3) ∧ W.cell? ⟨w.heap.size, 4, none⟩ = some (.int .i64 x4) ∧ W.cell? ⟨w.heap.size, 5, none⟩ = some (.int .i64 x5) ∧ W.cell? ⟨w.heap.size, 6, none⟩ = some (.int .i64 x6) ∧ W.cell? ⟨w.heap.size, 7, none⟩ = some (.int .i64 x7) ∧ W.cell? ⟨w.heap.size, 8, none⟩ = some (.int .i64 x8) ∧ W.cell? ⟨w.heap.size, 9, none⟩ = some (.int .i64 x9)) (by kernel_rfl) hS0 (fun hH => ?_)
    refine wpAnyH_take (i := 0) (v := (.agg #[.int .i64 x0, .int .i64 x1, .int .i64 x2, .int .i64 x3, .int .i64 x4, .int .i64 x5, .int .i64 x6, .int .i64 x7, .int .i64 x8, .int .i64 x9])) rfl (by kernel_rfl) (by kernel_rfl) (by kernel_rfl) (fun _ _ _ h => h) (Or.inl ⟨by rfl, fun W hW => by obtain ⟨c0, c1, c2, c3, c4, c5, c6, c7, c8, c9⟩ := hW; go_simp⟩) (by assumption) ?_
    refine wpAnyH_ready (rs := [1]) (by kernel_rfl) (by simp) ?_
    refine AllReadyH.cons rfl (fun K hK => ?_) AllReadyH.nil
    go_simp
    go_wp2_with (go_at_call 30; refine (hcon1 _).mono ?_; rintro x1 w1 ⟨rfl, hb1⟩; have HE1 := HV0.drew.below hb1; have hS1 := Bk.c10 HE1; have hc1 := below_aft hb0.drew hb1)
    refine hK.out _ _ hS1 (fun hH1 => ?_)
    clear hK K
    refine wpAnyH_take (i := 2) (v := .bool false) rfl (by kernel_rfl) (by kernel_rfl) (by kernel_rfl) (fun _ _ _ h => h) (Or.inl ⟨by rfl, fun W hW => by go_simp⟩) (by assumption) ?_
    simp only [Act.put, List.getElem_toArray, List.getElem_cons_succ, List.getElem_cons_zero, List.setIfInBounds_toArray, List.set_cons_zero, List.set_cons_succ]
    refine wpAnyH_take (i := 3) (v := .bool false) rfl (by kernel_rfl) (by kernel_rfl) (by kernel_rfl) (fun _ _ _ h => h) (Or.inl ⟨by rfl, fun W hW => by go_simp⟩) (by assumption) ?_
    simp only [Act.put, List.getElem_toArray, List.getElem_cons_succ, List.getElem_cons_zero, List.setIfInBounds_toArray, List.set_cons_zero, List.set_cons_succ]
    refine wpAnyH_take (i := 4) (v := undef) rfl (by kernel_rfl) (by kernel_rfl) (by kernel_rfl) (fun _ _ _ h => h) (Or.inr ⟨rfl, rfl⟩) (by assumption) ?_
    simp only [Act.put, List.getElem_toArray, List.getElem_cons_succ, List.getElem_cons_zero, List.setIfInBounds_toArray, List.set_cons_zero, List.set_cons_succ]
    refine wpAnyH_take (i := 5) (v := undef) rfl (by kernel_rfl) (by kernel_rfl) (by kernel_rfl) (fun _ _ _ h => h) (Or.inr ⟨rfl, rfl⟩) (by assumption) ?_
    simp only [Act.put, List.getElem_toArray, List.getElem_cons_succ, List.getElem_cons_zero, List.setIfInBounds_toArray, List.set_cons_zero, List.set_cons_succ]
    refine wpAnyH_take (i := 6) (v := undef) rfl (by kernel_rfl) (by kernel_rfl) (by kernel_rfl) (fun _ _ _ h => h) (Or.inr ⟨rfl, rfl⟩) (by assumption) ?_
    simp only [Act.put, List.getElem_toArray, List.getElem_cons_succ, List.getElem_cons_zero, List.setIfInBounds_toArray, List.set_cons_zero, List.set_cons_succ]
    refine wpAnyH_take (i := 7) (v := undef) rfl (by kernel_rfl) (by kernel_rfl) (by kernel_rfl) (fun _ _ _ h => h) (Or.inr ⟨rfl, rfl⟩) (by assumption) ?_
    simp only [Act.put, List.getElem_toArray, List.getElem_cons_succ, List.getElem_cons_zero, List.setIfInBounds_toArray, List.set_cons_zero, List.set_cons_succ]
    refine wpAnyH_take (i := 8) (v := .bool false) rfl (by kernel_rfl) (by kernel_rfl) (by kernel_rfl) (fun _ _ _ h => h) (Or.inl ⟨by rfl, fun W hW => by go_simp⟩) (by assumption) ?_
    simp only [Act.put, List.getElem_toArray, List.getElem_cons_succ, List.getElem_cons_zero, List.setIfInBounds_toArray, List.set_cons_zero, List.set_cons_succ]
    refine wpAnyH_take (i := 9) (v := .bool false) rfl (by kernel_rfl) (by kernel_rfl) (by kernel_rfl) (fun _ _ _ h => h) (Or.inl ⟨by rfl, fun W hW => by go_simp⟩) (by assumption) ?_
    simp only [Act.put, List.getElem_toArray, List.getElem_cons_succ, List.getElem_cons_zero, List.setIfInBounds_toArray, List.set_cons_zero, List.set_cons_succ]
    refine wpAnyH_done (by kernel_rfl) ?_ _
    refine NoPanic.normal ?_
    go_wp2
    go_ret
    exact ⟨rfl, hc1⟩
  · have HN := Lib.hid (Ka.ok_same (l := [x0, x1, x2, x3, x4, x5, x6, x7, x8, x9]) rfl h (by omega))
    obtain ⟨n, HNN⟩ : ∃ n, Hid (Ka.num [x0, x1, x2, x3, x4, x5, x6, x7, x8, x9] 7 = n) := ⟨_, Lib.hid rfl⟩
    rw [HNN.out] at hn hcon1
    rw [HN.out, ka_checks]
    obtain ⟨c8, HC8⟩ : ∃ n, Hid (((Ka.wsum [x0, x1, x2, x3, x4, x5, x6, x7, x8, x9] 8 - 10 * Ka.sum [x0, x1, x2, x3, x4, x5, x6, x7, x8, x9] 8) % 31) = n) := ⟨_, Lib.hid rfl⟩
    obtain ⟨c9, HC9⟩ : ∃ n, Hid (((9 * Ka.sum [x0, x1, x2, x3, x4, x5, x6, x7, x8, x9] 8 - Ka.wsum [x0, x1, x2, x3, x4, x5, x6, x7, x8, x9] 8) % 31) = n) := ⟨_, Lib.hid rfl⟩
    rw [HC8.out] at hcon2 ⊢
    rw [HC9.out] at hcon2 ⊢
    have hd : decide (n ≤ 4294967295) = true := by simpa using hn
    have hq1 := fun W => ka_eq x0 x1 x2 x3 x4 x5 x6 x7 x8 x9 x0 x1 x2 x3 x4 x5 x6 x7 c8 c9 W
    have hq2 := ka_noGuard
    obtain ⟨q, HQ⟩ : ∃ q, Hid (([x0, x1, x2, x3, x4, x5, x6, x7, x8, x9] == [x0, x1, x2, x3, x4, x5, x6, x7, c8, c9]) = q) := ⟨_, Lib.hid rfl⟩
    rw [HQ.out] at hq1 ⊢
    clear h HN HNN hn HC8 HC9 HQ
    go_enter Try.func29, Try.ntmps29
    go_wp2
    refine wp_region_noPanic ?_
    refine wp_region_held_drew (S := fun W => W.cell? ⟨w.heap.size, 0, none⟩ = some (.int .i64 x0) ∧ W.cell? ⟨w.heap.size, 1, none⟩ = some (.int .i64 x1) ∧ W.cell? ⟨w.heap.size, 2, none⟩ = some (.int .i64 x2) ∧ W.cell? ⟨w.heap.size, 3, none⟩ = some (.int .i64 x3) ∧ W.cell? ⟨w.heap.size, 4, none⟩ = some (.int .i64 x4) ∧ W.cell? ⟨w.heap.size, 5, none⟩ = some (.int .i64 x5) ∧ W.cell? ⟨w.heap.size, 6, none⟩ = some (.int .i64 x6) ∧ W.cell? ⟨w.heap.size, 7, none⟩ = some (.int .i64 x7) ∧ W.cell? ⟨w.heap.size, 8, none⟩ = some (.int .i64 x8) ∧ W.cell? ⟨w.heap.size, 9, none⟩ = some (.int .i64 x9)) (by kernel_rfl) hS0 (fun hH => ?_)
    refine wpAnyH_take (i := 0) (v := (.agg #[.int .i64 x0, .int .i64 x1, .int .i64 x2, .int .i64 x3, .int .i64 x4, .int .i64 x5, .int .i64 x6, .int .i64 x7, .int .i64 x8, .int .i64 x9])) rfl (by kernel_rfl) (by kernel_rfl) (by kernel_rfl) (fun _ _ _ h => h) (Or.inl ⟨by rfl, fun W hW => by obtain ⟨c0, c1, c2, c3, c4, c5, c6, c7, c8, c9⟩ := hW; go_simp⟩) (by assumption) ?_
    refine wpAnyH_ready (rs := [1]) (by kernel_rfl) (by simp) ?_
    refine AllReadyH.cons rfl (fun K hK => ?_) AllReadyH.nil
    go_simp
    go_wp2_with (go_at_call 30; refine (hcon1 _).mono ?_; rintro x1 w1 ⟨rfl, hb1⟩; have HE1 := HV0.drew.below hb1; have hS1 := Bk.c10 HE1; have hc1 := below_aft hb0.drew hb1)
    refine hK.out _ _ hS1 (fun hH1 => ?_)
    clear hK K
    refine wpAnyH_take (i := 2) (v := .bool true) rfl (by kernel_rfl) (by kernel_rfl) (by kernel_rfl) (fun _ _ _ h => h) (Or.inl ⟨by rfl, fun W hW => by go_simp⟩) (by assumption) ?_
    simp only [Act.put, List.getElem_toArray, List.getElem_cons_succ, List.getElem_cons_zero, List.setIfInBounds_toArray, List.set_cons_zero, List.set_cons_succ]
    refine wpAnyH_take (i := 3) (v := .bool true) rfl (by kernel_rfl) (by kernel_rfl) (by kernel_rfl) (fun _ _ _ h => h) (Or.inl ⟨by rfl, fun W hW => by go_simp⟩) (by assumption) ?_
    simp only [Act.put, List.getElem_toArray, List.getElem_cons_succ, List.getElem_cons_zero, List.setIfInBounds_toArray, List.set_cons_zero, List.set_cons_succ]
    refine wpAnyH_take (i := 4) (v := (.agg #[.int .i64 x0, .int .i64 x1, .int .i64 x2, .int .i64 x3, .int .i64 x4, .int .i64 x5, .int .i64 x6, .int .i64 x7, .int .i64 x8, .int .i64 x9])) rfl (by kernel_rfl) (by kernel_rfl) (by kernel_rfl) (fun _ _ _ h => h) (Or.inl ⟨by rfl, fun W hW => by obtain ⟨c0, c1, c2, c3, c4, c5, c6, c7, c8, c9⟩ := hW; go_simp⟩) (by assumption) ?_
    simp only [Act.put, List.getElem_toArray, List.getElem_cons_succ, List.getElem_cons_zero, List.setIfInBounds_toArray, List.set_cons_zero, List.set_cons_succ]
    refine wpAnyH_take (i := 5) (v := (.agg #[.int .i64 x0, .int .i64 x1, .int .i64 x2, .int .i64 x3, .int .i64 x4, .int .i64 x5, .int .i64 x6, .int .i64 x7, .int .i64 x8, .int .i64 x9])) rfl (by kernel_rfl) (by kernel_rfl) (by kernel_rfl) (fun _ _ _ h => h) (Or.inl ⟨by rfl, fun W hW => by obtain ⟨c0, c1, c2, c3, c4, c5, c6, c7, c8, c9⟩ := hW; go_simp⟩) (by assumption) ?_
    simp only [Act.put, List.getElem_toArray, List.getElem_cons_succ, List.getElem_cons_zero, List.setIfInBounds_toArray, List.set_cons_zero, List.set_cons_succ]
    refine wpAnyH_ready (rs := [6]) (by kernel_rfl) (by simp) ?_
    refine AllReadyH.cons rfl (fun K hK => ?_) AllReadyH.nil
    go_simp
    go_wp2_with (go_at_call 23; refine (hcon2 _).mono ?_; rintro x2 w2 ⟨rfl, hb2⟩; have HE2 := HE1.below hb2; have hS2 := Bk.c10 HE2; have hc2 := below_aft hc1 hb2)
    refine hK.out _ _ hS2 (fun hH2 => ?_)
    clear hK K
    refine wpAnyH_take (i := 7) (v := .bool q) rfl (by kernel_rfl) (by kernel_rfl) (by kernel_rfl) (fun _ _ _ h => h) (Or.inl ⟨by rfl, fun W hW => by go_simp⟩) (by assumption) ?_
    simp only [Act.put, List.getElem_toArray, List.getElem_cons_succ, List.getElem_cons_zero, List.setIfInBounds_toArray, List.set_cons_zero, List.set_cons_succ]
    refine wpAnyH_take (i := 8) (v := .bool q) rfl (by kernel_rfl) (by kernel_rfl) (by kernel_rfl) (fun _ _ _ h => h) (Or.inl ⟨by rfl, fun W hW => by go_simp⟩) (by assumption) ?_
    simp only [Act.put, List.getElem_toArray, List.getElem_cons_succ, List.getElem_cons_zero, List.setIfInBounds_toArray, List.set_cons_zero, List.set_cons_succ]
    refine wpAnyH_take (i := 9) (v := .bool q) rfl (by kernel_rfl) (by kernel_rfl) (by kernel_rfl) (fun _ _ _ h => h) (Or.inl ⟨by rfl, fun W hW => by go_simp⟩) (by assumption) ?_
    simp only [Act.put, List.getElem_toArray, List.getElem_cons_succ, List.getElem_cons_zero, List.setIfInBounds_toArray, List.set_cons_zero, List.set_cons_succ]
    refine wpAnyH_done (by kernel_rfl) ?_ _
    refine NoPanic.normal ?_
    go_wp2
    go_ret
    exact ⟨rfl, hc2⟩

theorem Ka.dig_at_all : ∀ k : Fin 31, (((⟨#[97, 98, 99, 100, 101, 102, 103, 104, 106, 107, 109, 110, 112, 113, 114, 115, 116, 117, 118, 119, 120, 121, 122, 50, 51, 52, 53, 54, 55, 56, 57]⟩ : ByteArray).data[k.val]'(by exact k.isLt)).toNat : Int) = Ka.dig (k.val : Int) := by decide +kernel
theorem Ka.dig_at (k : Nat) (h : k < (⟨#[97, 98, 99, 100, 101, 102, 103, 104, 106, 107, 109, 110, 112, 113, 114, 115, 116, 117, 118, 119, 120, 121, 122, 50, 51, 52, 53, 54, 55, 56, 57]⟩ : ByteArray).size) : (((⟨#[97, 98, 99, 100, 101, 102, 103, 104, 106, 107, 109, 110, 112, 113, 114, 115, 116, 117, 118, 119, 120, 121, 122, 50, 51, 52, 53, 54, 55, 56, 57]⟩ : ByteArray)[k]'h).toNat : Int) = Ka.dig (k : Int) := Ka.dig_at_all ⟨k, h⟩
/-- The string of values. -/
def Ka.str (l : List Int) : ByteArray := strOfNums (l.map Ka.dig)
/-- The bytes of the first k values, as a builder holds them. -/
def Ka.bts (l : List Int) (k : Nat) : List Value := Lib.byteCells (((l.map Ka.dig).take k).map fun n => UInt8.ofNat n.toNat)
theorem Ka.bts_len (l : List Int) (k : Nat) : (Ka.bts l k).length ≤ k := by
  unfold Ka.bts
  simp only [Lib.byteCells, List.length_map, List.length_take]
  omega
theorem Ka.bts_succ {l : List Int} (k : Nat) (h : Ka.In l) (hk : k < l.length) : Ka.bts l k ++ [.int .u8 (Ka.dig (Ka.at_ l k))] = Ka.bts l (k + 1) := by
  have hb := Ka.at_bd h k
  have hd := Ka.dig_bd hb.1 hb.2
  unfold Ka.bts
  rw [List.take_succ_eq_append_getElem (by simpa using hk), List.map_append]
  simp only [Lib.byteCells, List.map_append, List.map_cons, List.map_nil, List.getElem_map]
  rw [show l[k] = Ka.at_ l k by unfold Ka.at_; rw [List.getD_eq_getElem?_getD, List.getElem?_eq_getElem hk]; rfl, En.u8 hd.1 hd.2]
set_option maxRecDepth 100000 in
set_option maxHeartbeats 1600000 in
theorem kaText_any (x0 x1 x2 x3 x4 x5 x6 x7 x8 x9 : Int) (w : World) (h : Ka.In [x0, x1, x2, x3, x4, x5, x6, x7, x8, x9]) :
    Calls Try.prog 24 #[(.agg #[.int .i64 x0, .int .i64 x1, .int .i64 x2, .int .i64 x3, .int .i64 x4, .int .i64 x5, .int .i64 x6, .int .i64 x7, .int .i64 x8, .int .i64 x9])] w fun e w' => e = .returned (.string (Ka.str [x0, x1, x2, x3, x4, x5, x6, x7, x8, x9])) ∧ Below w.heap.size w w' := by
  have HI := Lib.hid (ka_idx x0 x1 x2 x3 x4 x5 x6 x7 x8 x9)
  have hl : [x0, x1, x2, x3, x4, x5, x6, x7, x8, x9].length = 10 := rfl
  obtain ⟨l, HL⟩ : ∃ l, Hid ([x0, x1, x2, x3, x4, x5, x6, x7, x8, x9] = l) := ⟨_, Lib.hid rfl⟩
  rw [HL.out] at HI h hl ⊢
  have HIN := Lib.hid h
  have HLL := Lib.hid hl
  have hb0 : Below w.heap.size w ((w.alloc (.cells #[.int .i64 x0, .int .i64 x1, .int .i64 x2, .int .i64 x3, .int .i64 x4, .int .i64 x5, .int .i64 x6, .int .i64 x7, .int .i64 x8, .int .i64 x9] 40 (0, 0))).alloc (.cells #[.pointer none, .slice none 0 0] 60 (0, 0))) := ((Below.refl _ _).alloc (Nat.le_refl _) _).alloc (by simp) _
  have hd0 : IsBd (w.heap.size + 1) (w.heap.size + 1) (Ka.bts l 0) ((w.alloc (.cells #[.int .i64 x0, .int .i64 x1, .int .i64 x2, .int .i64 x3, .int .i64 x4, .int .i64 x5, .int .i64 x6, .int .i64 x7, .int .i64 x8, .int .i64 x9] 40 (0, 0))).alloc (.cells #[.pointer none, .slice none 0 0] 60 (0, 0))) := by
    have hf := Lib.fresh_isBuilder 60 5 (w.alloc (.cells #[.int .i64 x0, .int .i64 x1, .int .i64 x2, .int .i64 x3, .int .i64 x4, .int .i64 x5, .int .i64 x6, .int .i64 x7, .int .i64 x8, .int .i64 x9] 40 (0, 0)))
    rw [World.size_alloc] at hf
    exact hf
  have HB0 := Lib.hid hb0
  have HD0 := Lib.hid hd0
  clear h hl HL hb0 hd0
  go_enter Try.func24, Try.ntmps24
  go_wp2
  go_loopw [7] (fun i wr => ∃ k : Nat, k ≤ 10 ∧ i = .int .i64 (k : Int) ∧ IsBd (w.heap.size + 1) (w.heap.size + 1) (Ka.bts l k) wr ∧ w.heap.size + 1 ≤ wr.heap.size ∧ Below w.heap.size w wr)
    (fun i _ => 10 - (intOf i).toNat)
  case atStart => exact ⟨0, by omega, rfl, HD0.out, by simp, HB0.out⟩
  case round =>
    obtain ⟨k, hk, rfl, hbd, hsz, hbel⟩ := hrel
    by_cases hlt : k < 10
    · have hx := HI.out k hlt
      have b3 := Ka.at_bd HIN.out k
      have HC := Lib.hid (Ka.bts_succ k HIN.out (by rw [HLL.out]; exact hlt))
      have hlen := Ka.bts_len l k
      obtain ⟨x, HX⟩ : ∃ x, Hid (Ka.at_ l k = x) := ⟨_, Lib.hid rfl⟩
      rw [HX.out] at hx b3 HC
      obtain ⟨x0, x1⟩ := b3
      have d0 := Ka.dig_at x.toNat
      rw [show ((x.toNat : Nat) : Int) = x by omega] at d0
      go_wp2_with fail
      refine (bd_WriteByte (w.heap.size + 1) (w.heap.size + 1) _ _ _ hbd (by omega) hsz).mono ?_
      rintro e w1 ⟨rfl, hbd1, hb1⟩
      rw [HC.out] at hbd1
      have hsz1 := Nat.le_trans hsz hb1.size
      have hbel1 := hbel.trans (hb1.mono (Nat.le_succ _))
      clear hbd hb1 hbel hlen hsz
      go_wp2
      go_roundw
      case rel => exact ⟨k + 1, by omega, by simp, .inr hbd1, hsz1, hbel1⟩
      case measure => simp [intOf]; omega
    · obtain rfl : k = 10 := by omega
      have HR : Hid (Ka.str l = ⟨(l.map ((fun n : Int => UInt8.ofNat n.toNat) ∘ Ka.dig)).toArray⟩) := Lib.hid (by rw [← List.map_map]; rfl)
      have HE : Hid (Ka.bts l 10 = Lib.byteCells (l.map ((fun n : Int => UInt8.ofNat n.toNat) ∘ Ka.dig))) := Lib.hid (by
        rw [← List.map_map]
        unfold Ka.bts
        rw [List.take_of_length_le (by rw [List.length_map, HLL.out]; exact Nat.le_refl _)])
      rw [HE.out] at hbd
      go_wp2_with fail
      refine (Try.Builder_String_any (w.heap.size + 1) (w.heap.size + 1) _ _ hbd hsz).mono ?_
      rintro e w2 ⟨rfl, hb2⟩
      have hbel2 := hbel.trans (hb2.mono (Nat.le_succ _))
      go_wp2
      go_ret
      exact ⟨by rw [HR.out]; rfl, hbel2⟩
end Go.Proofs.Ytacgicpkhbjdaaa
