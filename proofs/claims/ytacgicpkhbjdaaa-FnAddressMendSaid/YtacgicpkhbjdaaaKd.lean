/-
  Contracts of addresses: the values of characters (a map), those of a string; of the program.
-/
import Derived.Test.YtacgicpkhbjdaaaKc
import Derived.Carry
namespace Go.Proofs.Ytacgicpkhbjdaaa
open Go.RowKit Go.Maps

theorem grownBy_setC (w : World) (B i : Nat) (v : Value) : w.grownBy (w.setCell ⟨B, i, none⟩ v) (some B) :=
  ⟨rfl, rfl, rfl, by simp [World.setCell], fun j _ hr => Below.heap_setCell _ _ _ _ (fun e => hr (by simp [e]))⟩
theorem results_cell_tmp2 {P : Program} {fn : Func} {p u : Tmp} {ty : TypeId} (h : fn.results = #[.cell p ty, .tmp u]) (tmps : Array Value) (w : World) (g : Nat) (t : TypeId) (cs : Array Value) (fr : Nat × Nat) (d : TypeDesc)
    (hp : tmps.getD p undef = .pointer (some ⟨g, 0, none⟩)) (hg : w.heap[g]? = some (.cells cs t fr))
    (hu : P.underlying ty = some d) (hd : (match d with | .struct _ | .array _ _ => true | _ => false) = true) (hi : (P.info? ty).map (·.size) = some cs.size) :
    (results fn tmps).run P w = .ok (.tuple #[.agg cs, tmps.getD u undef]) w := by
  rw [results_cell_tmp h]
  have hp' : tmps[p]?.getD undef = .pointer (some ⟨g, 0, none⟩) := by simpa using hp
  simp [Result.andThen, hp', asAddr, run_loadVar_row w g t ty cs fr d hg hu hd hi]

/-- The values of the ten characters of s. -/
def Ka.vals (s : ByteArray) : List Int := (List.range 10).map fun k => Ka.val (En.byt s k)
theorem Ka.vals_len (s : ByteArray) : (Ka.vals s).length = 10 := by simp [Ka.vals]
theorem Ka.vals_at (s : ByteArray) (k : Nat) (h : k < 10) : Ka.at_ (Ka.vals s) k = Ka.val (En.byt s k) := by
  unfold Ka.at_ Ka.vals
  rw [List.getD_eq_getElem?_getD, List.getElem?_map, List.getElem?_range h]
  rfl
/-- The first k characters are those of addresses. -/
def Ka.pre (s : ByteArray) (k : Nat) : Prop := ∀ j, j < k → 0 ≤ Ka.val (En.byt s j)
/-- Ten characters of addresses. -/
def Ka.gd (s : ByteArray) : Bool := s.size == 10 && (List.range 10).all fun j => decide (0 ≤ Ka.val (En.byt s j))
theorem Ka.gd_iff (s : ByteArray) : Ka.gd s = true ↔ s.size = 10 ∧ Ka.pre s 10 := by
  unfold Ka.gd Ka.pre
  simp
theorem Ka.gd_size {s : ByteArray} (h : s.size ≠ 10) : Ka.gd s = false := by
  rw [Bool.eq_false_iff]; exact fun g => h ((Ka.gd_iff s).1 g).1
theorem Ka.gd_bad {s : ByteArray} {k : Nat} (hk : k < 10) (h : Ka.val (En.byt s k) < 0) : Ka.gd s = false := by
  rw [Bool.eq_false_iff]; exact fun g => by have := ((Ka.gd_iff s).1 g).2 k hk; omega
theorem Ka.vals_in {s : ByteArray} (h : Ka.pre s 10) : Ka.In (Ka.vals s) := by
  intro x hx
  unfold Ka.vals at hx
  obtain ⟨k, hk, rfl⟩ := List.mem_map.1 hx
  have hb := En.byt_bd s k
  exact ⟨h k (List.mem_range.1 hk), (Ka.val_bd hb.1 hb.2).1⟩
theorem Ka.pre_succ {s : ByteArray} {k : Nat} (h : Ka.pre s k) (h2 : 0 ≤ Ka.val (En.byt s k)) : Ka.pre s (k + 1) := fun j hj => by
  by_cases hjk : j < k
  · exact h j hjk
  · have : j = k := by omega
    subst this; exact h2
/-- The array's cells behind k characters. -/
def Ka.fill (l : List Int) (k : Nat) : Array Value := ((l.take k ++ List.replicate (10 - k) 0).map (Value.int .i64)).toArray
theorem Ka.fill_zero (l : List Int) : Ka.fill l 0 = #[.int .i64 0, .int .i64 0, .int .i64 0, .int .i64 0, .int .i64 0, .int .i64 0, .int .i64 0, .int .i64 0, .int .i64 0, .int .i64 0] := rfl
theorem Ka.fill_succ {l : List Int} {k : Nat} (hl : l.length = 10) (hk : k < 10) : (Ka.fill l k).setIfInBounds k (.int .i64 (Ka.at_ l k)) = Ka.fill l (k + 1) := by
  unfold Ka.fill
  rw [List.setIfInBounds_toArray]
  congr 1
  rw [← List.map_set]
  congr 1
  rw [List.set_append_right _ _ (by rw [List.length_take]; omega), List.length_take, show k - min k l.length = 0 by omega, show 10 - k = (10 - (k + 1)) + 1 by omega, List.replicate_succ, List.set_cons_zero,
    List.take_succ_eq_append_getElem (by omega), List.append_assoc]
  unfold Ka.at_
  rw [List.getD_eq_getElem?_getD, List.getElem?_eq_getElem (by omega)]
  rfl
theorem Ka.fill_ten {l : List Int} (hl : l.length = 10) : Ka.fill l 10 = #[.int .i64 (Ka.at_ l 0), .int .i64 (Ka.at_ l 1), .int .i64 (Ka.at_ l 2), .int .i64 (Ka.at_ l 3), .int .i64 (Ka.at_ l 4), .int .i64 (Ka.at_ l 5), .int .i64 (Ka.at_ l 6), .int .i64 (Ka.at_ l 7), .int .i64 (Ka.at_ l 8), .int .i64 (Ka.at_ l 9)] := by
  obtain ⟨a, b, c, d, e, f, g, i, j, k, rfl⟩ := Ka.ten hl
  rfl
theorem Ka.fill_cell {l : List Int} {k : Nat} (hl : l.length = 10) (hk : k < 10) : (Ka.fill l k)[k]? = some (.int .i64 0) := by
  obtain ⟨a, b, c, d, e, f, g, i, j, m, rfl⟩ := Ka.ten hl
  have hc : k = 0 ∨ k = 1 ∨ k = 2 ∨ k = 3 ∨ k = 4 ∨ k = 5 ∨ k = 6 ∨ k = 7 ∨ k = 8 ∨ k = 9 := by omega
  rcases hc with rfl | rfl | rfl | rfl | rfl | rfl | rfl | rfl | rfl | rfl <;> rfl

/-- What the map holds behind the first k characters. -/
structure Ka.MP (k : Nat) (D : DataW Unit) : Prop where
  isMap : IsMap D
  has : ∀ c : Int, Maps.has D (.int .u8 c) = true ↔ ∃ j : Nat, j < k ∧ Ka.dig (j : Int) = c
  at_ : ∀ j : Nat, j < k → ∀ z, D.atKey (.int .u8 (Ka.dig (j : Int))) z = .lit (.int .i64 (j : Int))
theorem Ka.MP.zero : Ka.MP 0 (.map []) :=
  ⟨isMap_empty, fun d => ⟨fun h => by simp [Maps.has] at h, fun ⟨j, hj, _⟩ => absurd hj (by omega)⟩, fun j hj => absurd hj (by omega)⟩
theorem Ka.MP.put {k : Nat} {D : DataW Unit} (h : Ka.MP k D) (hk : k < 31) : Ka.MP (k + 1) (D.put (.int .u8 (Ka.dig (k : Int))) (.lit (.int .i64 (k : Int)))) := by
  have hkl : WideAt.IsKeyLit (.int .u8 (Ka.dig (k : Int))) := trivial
  refine ⟨h.isMap.put _ _, fun d => ?_, fun j hj z => ?_⟩
  · by_cases hd : d = Ka.dig (k : Int)
    · subst hd
      exact ⟨fun _ => ⟨k, by omega, rfl⟩, fun _ => has_put_same h.isMap hkl _⟩
    · rw [has_put_other (by simpa using hd), h.has]
      exact ⟨fun ⟨j, hj, he⟩ => ⟨j, by omega, he⟩, fun ⟨j, hj, he⟩ => ⟨j, by
        rcases Nat.lt_or_ge j k with h' | h'
        · exact h'
        · have : j = k := by omega
          subst this
          exact absurd he.symm hd, he⟩⟩
  · by_cases hjk : j = k
    · subst hjk
      rw [atKey_put_same h.isMap hkl]
    · have hne : Ka.dig (j : Int) ≠ Ka.dig (k : Int) := fun e => hjk (by have := Ka.dig_inj (a := (j : Int)) (b := (k : Int)) (by omega) (by omega) (by omega) (by omega) e; omega)
      rw [atKey_put_other (by simpa using hne)]
      exact h.at_ j (by omega) z
/-- What a look-up finds. -/
theorem Ka.MP.yes {D : DataW Unit} (h : Ka.MP 31 D) {c x : Int} (c0 : 0 ≤ c) (c1 : c < 256) (hv : 0 ≤ Ka.val c) (hat : D.atKey (.int .u8 c) (.lit (.int .i64 0)) = .lit (.int .i64 x)) : x = Ka.val c ∧ Maps.has D (.int .u8 c) = true := by
  have hb := Ka.val_bd c0 c1
  have hd := Ka.dig_val c0 c1 hv
  obtain ⟨j, hj⟩ := Int.eq_ofNat_of_zero_le hv
  rw [hj] at hd
  have h1 := h.at_ j (by omega) (.lit (.int .i64 0))
  rw [hd, hat] at h1
  injection h1 with h2
  injection h2 with _ h3
  exact ⟨by rw [h3, hj], (h.has c).2 ⟨j, by omega, hd⟩⟩
theorem Ka.MP.no {D : DataW Unit} (h : Ka.MP 31 D) {c : Int} (hv : Ka.val c < 0) : Maps.has D (.int .u8 c) = false := by
  rw [Bool.eq_false_iff]
  intro hh
  obtain ⟨j, hj, he⟩ := (h.has c).1 hh
  rw [← he, Ka.val_dig (by omega) (by omega)] at hv
  omega
theorem ka_keyed : Keyed Try.prog 5 := int_keyed Try.underlying5
theorem ka_keyOf (c : Int) (h0 : 0 ≤ c) (h1 : c < 256) : keyOf Try.prog 5 (.int .u8 c) = some (.int .u8 c) := keyOf_int_mk Try.underlying5 (WalkArith.wf_u8 (by omega))
theorem ka_zero (w : World) : (zeroValue 3).run Try.prog w = .ok (.int .i64 0) w := by kernel_rfl

/-- What characterValues hands back. -/
def KaMap (w : World) (e : Ending) (w' : World) : Prop :=
  ∃ D, e = .returned (.map (some w.heap.size)) ∧ w'.ownsMap Try.prog 5 (plainElem Try.prog 3) w.heap.size 31 D ∧ Ka.MP 31 D ∧ Below w.heap.size w w' ∧ w.heap.size < w'.heap.size
set_option maxRecDepth 100000 in
set_option maxHeartbeats 1600000 in
theorem characterValues_any (w : World) : Calls Try.prog 40 #[] w (KaMap w) := by
  have hmm := @run_makeMap Try.prog
  have HM0 := Lib.hid Ka.MP.zero
  go_enter Try.func40, Try.ntmps40
  go_wp2
  go_loopw [4] (fun i wr => ∃ (k : Nat) (D : DataW Unit), k ≤ 31 ∧ i = .int .i64 (k : Int) ∧ wr.ownsMap Try.prog 5 (plainElem Try.prog 3) w.heap.size k D ∧ Ka.MP k D ∧ Below w.heap.size w wr ∧ w.heap.size < wr.heap.size)
    (fun i _ => 31 - (intOf i).toNat)
  case atStart => exact ⟨0, _, by omega, rfl, World.ownsMap_made _ _ _ _, HM0.out, (Below.refl _ _).alloc (Nat.le_refl _) _, by simp⟩
  case round =>
    obtain ⟨k, D, hk, rfl, hown, hMD, hbel, hsz⟩ := hrel
    by_cases hlt : k < 31
    · have d0 := Ka.dig_at k
      have hdb := Ka.dig_bd (n := (k : Int)) (by omega) (by omega)
      have hkey := ka_keyOf _ hdb.1 hdb.2
      have HP := Lib.hid (hMD.put hlt)
      obtain ⟨c, HC⟩ : ∃ c, Hid (Ka.dig (k : Int) = c) := ⟨_, Lib.hid rfl⟩
      simp only [HC.out] at d0 hdb hkey HP
      have hval : plainElem (H := Unit) Try.prog 3 (.int .i64 (k : Int)) = some (.lit (.int .i64 (k : Int)), []) := plainElem_int Try.underlying3 (WalkArith.wf_i64 (by omega))
      have HVAL := Lib.hid hval
      have HKEY := Lib.hid hkey
      clear hval hMD hkey
      go_wp2_with (at_mapUpdate; refine wpList_mapUpdate_own _ rfl _ _ _ 64 rfl 5 3 ka_keyed Try.underlying64 _ w.heap.size k D rfl hown (by unfold maxLen; omega) _ _ _ rfl rfl HKEY.out _ [] HVAL.out ?_)
      intro w3 hown3 hgr3
      have hbel3 := Below.grown hbel hgr3 (by omega) (fun j hj => by cases hj; exact Nat.le_refl _)
      have hsz3 := Nat.lt_of_lt_of_le hsz hgr3.size
      clear hown hgr3 hbel
      go_wp2
      go_roundw
      case rel => exact ⟨k + 1, _, by omega, by simp, hown3, HP.out, hbel3, hsz3⟩
      case measure => simp [intOf]; omega
    · obtain rfl : k = 31 := by omega
      go_wp2
      go_ret
      exact ⟨D, rfl, hown, hMD, hbel, hsz⟩

/-- What addressValuesOf hands back. -/
def KaVal (s : ByteArray) (w : World) (e : Ending) (w' : World) : Prop :=
  ((Ka.gd s = true ∧ e = .returned (.tuple #[(.agg #[.int .i64 (Ka.at_ (Ka.vals s) 0), .int .i64 (Ka.at_ (Ka.vals s) 1), .int .i64 (Ka.at_ (Ka.vals s) 2), .int .i64 (Ka.at_ (Ka.vals s) 3), .int .i64 (Ka.at_ (Ka.vals s) 4), .int .i64 (Ka.at_ (Ka.vals s) 5), .int .i64 (Ka.at_ (Ka.vals s) 6), .int .i64 (Ka.at_ (Ka.vals s) 7), .int .i64 (Ka.at_ (Ka.vals s) 8), .int .i64 (Ka.at_ (Ka.vals s) 9)]), .bool true])) ∨ (Ka.gd s = false ∧ e = .returned (.tuple #[(.agg #[.int .i64 0, .int .i64 0, .int .i64 0, .int .i64 0, .int .i64 0, .int .i64 0, .int .i64 0, .int .i64 0, .int .i64 0, .int .i64 0]), .bool false]))) ∧ Below w.heap.size w w'
set_option maxRecDepth 100000 in
set_option maxHeartbeats 3200000 in
theorem addressValuesOf_any (s : ByteArray) (w : World) : Calls Try.prog 28 #[.string s] w (KaVal s w) := by
  have hr0 : Bk w.heap.size 40 #[.int .i64 0, .int .i64 0, .int .i64 0, .int .i64 0, .int .i64 0, .int .i64 0, .int .i64 0, .int .i64 0, .int .i64 0, .int .i64 0] (w.alloc (.cells #[.int .i64 0, .int .i64 0, .int .i64 0, .int .i64 0, .int .i64 0, .int .i64 0, .int .i64 0, .int .i64 0, .int .i64 0, .int .i64 0] 40 (0, 0))) := Bk.new w 40 _
  have hb0 : Below w.heap.size w (w.alloc (.cells #[.int .i64 0, .int .i64 0, .int .i64 0, .int .i64 0, .int .i64 0, .int .i64 0, .int .i64 0, .int .i64 0, .int .i64 0, .int .i64 0] 40 (0, 0))) := (Below.refl _ _).alloc (Nat.le_refl _) _
  by_cases hz : s.size = 10
  · have h10 : ((s.size : Int) == 10) = true := by simp [hz]
    have h11 : ((s.size : Int) != 10) = false := by simp [hz]
    have HZ := Lib.hid hz
    have HR0 := Lib.hid hr0
    have HB0 := Lib.hid hb0
    clear hz hr0 hb0
    go_enter Try.func28, Try.ntmps28
    go_wp2_with fail
    refine (characterValues_any _).mono ?_
    rintro e w1 ⟨D, rfl, hown, hMP, hb1, hsz1⟩
    have hr1 := HR0.out.below hb1
    have hb2 := below_aft HB0.out hb1
    simp only [World.size_alloc] at hown hsz1
    have HR1 := Lib.hid hr1
    have HB1 := Lib.hid hb2
    have HM := Lib.hid hMP
    clear hr1 hb1 hb2 hMP HR0 HB0 h10 h11
    go_wp2
    go_loopw [14] (fun i wr => ∃ k : Nat, k ≤ 10 ∧ i = .int .i64 (k : Int) ∧ Ka.pre s k ∧ wr.ownsMap Try.prog 5 (plainElem Try.prog 3) (w.heap.size + 1) 31 D ∧ Bk w.heap.size 40 #[.int .i64 0, .int .i64 0, .int .i64 0, .int .i64 0, .int .i64 0, .int .i64 0, .int .i64 0, .int .i64 0, .int .i64 0, .int .i64 0] wr ∧ Bk w1.heap.size 40 (Ka.fill (Ka.vals s) k) wr ∧ Below w.heap.size w wr)
      (fun i _ => 10 - (intOf i).toNat)
    case atStart => exact ⟨0, by omega, rfl, fun j hj => absurd hj (by omega), hown.kept (World.grownBy_alloc w1 _ none) (by simp), HR1.out.alloc _, by rw [Ka.fill_zero]; exact Bk.new _ _ _, HB1.out.alloc (by have := HB1.out.size; omega) _⟩
    case round =>
      obtain ⟨k, hk, rfl, hpre, hown2, hr, hv, hbel⟩ := hrel
      have HPRE := Lib.hid hpre
      clear hpre hown
      by_cases hlt : k < 10
      · have hb := En.byt_bd s k
        have hx : ∀ h : k < s.size, ((s[k]'h).toNat : Int) = En.byt s k := fun h => En.byt_eq _ _ h
        have hks : k < s.size := by rw [HZ.out]; exact hlt
        have HVA := Lib.hid (Ka.vals_at s k hlt)
        have HPS := Lib.hid (Ka.pre_succ HPRE.out)
        have HBAD := Lib.hid (Ka.gd_bad (s := s) hlt)
        obtain ⟨x, HX⟩ : ∃ x, Hid (En.byt s k = x) := ⟨_, Lib.hid rfl⟩
        rw [HX.out] at hb HVA HPS HBAD
        simp only [HX.out] at hx
        obtain ⟨x0, x1⟩ := hb
        have hkey := ka_keyOf x x0 x1
        have HKEY := Lib.hid hkey
        clear hkey
        go_wp2_with (at_lookup; refine wpList_lookup_own_ok_int _ rfl _ _ 64 rfl 5 3 .i64 ka_keyed Try.underlying64 Try.underlying3 (ka_zero _) (w.heap.size + 1) 31 D rfl hown2 _ _ rfl HKEY.out ?_)
        intro c hat hwc
        by_cases hv0 : 0 ≤ Ka.val x
        · obtain ⟨hc, hh⟩ := HM.out.yes x0 x1 hv0 hat
          have HPP := Lib.hid (HPS.out hv0)
          have HC : Hid (c = Ka.at_ (Ka.vals s) k) := Lib.hid (by rw [HVA.out]; exact hc)
          have c0 : wr.cell? ⟨w1.heap.size, k, none⟩ = some (.int .i64 0) := by rw [hv.cell]; exact Ka.fill_cell (Ka.vals_len s) hlt
          have f0 := hv.fro k
          have hne : w.heap.size ≠ w1.heap.size := by have := HR1.out.lt; omega
          have hv2 := hv.set k (.int .i64 c)
          rw [HC.out, Ka.fill_succ (Ka.vals_len s) hlt, ← HC.out] at hv2
          have hr2 := hr.oset w1.heap.size k (.int .i64 c) hne
          have hown3 := hown2.kept (row := some w1.heap.size) (grownBy_setC wr w1.heap.size k (.int .i64 c)) (by simp; omega)
          have hb2 := hbel.setCell (p := ⟨w1.heap.size, k, none⟩) (show w.heap.size ≤ w1.heap.size by have := HR1.out.lt; omega) (.int .i64 c)
          rw [hh]
          have HF := Lib.hid (And.intro hv2 (And.intro hr2 (And.intro hown3 hb2)))
          clear hat hwc hc hh hv0 hv hr hown2 hbel hne hv2 hr2 hown3 hb2
          go_wp2
          go_roundw
          case rel => exact ⟨k + 1, by omega, by simp, HPP.out, HF.out.2.2.1, HF.out.2.1, HF.out.1, HF.out.2.2.2⟩
          case measure => simp [intOf]; omega
        · have hh := HM.out.no (show Ka.val x < 0 by omega)
          have HN := Lib.hid (HBAD.out (by omega))
          have hne : w.heap.size ≠ w1.heap.size := by have := HR1.out.lt; omega
          rw [hh]
          obtain ⟨c0, c1, c2, c3, c4, c5, c6, c7, c8, c9⟩ := Bk.c10 hr
          obtain ⟨f0, f1, f2, f3, f4, f5, f6, f7, f8, f9⟩ := Bk.f10 hr
          have hr2 := Bk.store10 hr (.int .i64 0) (.int .i64 0) (.int .i64 0) (.int .i64 0) (.int .i64 0) (.int .i64 0) (.int .i64 0) (.int .i64 0) (.int .i64 0) (.int .i64 0)
          have hb2 := below_store10 hbel w.heap.size (Nat.le_refl _) (.int .i64 0) (.int .i64 0) (.int .i64 0) (.int .i64 0) (.int .i64 0) (.int .i64 0) (.int .i64 0) (.int .i64 0) (.int .i64 0) (.int .i64 0)
          have HF := Lib.hid (And.intro hr2 hb2)
          clear hat hwc hh hv0 hv hr hown2 hbel hne hr2 hb2
          go_wp2
          refine bodyPost_ret (results_cell_tmp2 (P := Try.prog) rfl _ _ w.heap.size 40 _ (0, 0) _ rfl HF.out.1.held Try.underlying40 rfl (by kernel_rfl)) rfl ?_
          exact ⟨.inr ⟨HN.out, rfl⟩, HF.out.2⟩
      · obtain rfl : k = 10 := by omega
        have HY := Lib.hid ((Ka.gd_iff s).2 ⟨HZ.out, HPRE.out⟩)
        rw [Ka.fill_ten (Ka.vals_len s)] at hv
        obtain ⟨c0, c1, c2, c3, c4, c5, c6, c7, c8, c9⟩ := Bk.c10 hr
        obtain ⟨f0, f1, f2, f3, f4, f5, f6, f7, f8, f9⟩ := Bk.f10 hr
        obtain ⟨d0, d1, d2, d3, d4, d5, d6, d7, d8, d9⟩ := Bk.c10 hv
        have hr2 := Bk.store10 hr (.int .i64 (Ka.at_ (Ka.vals s) 0)) (.int .i64 (Ka.at_ (Ka.vals s) 1)) (.int .i64 (Ka.at_ (Ka.vals s) 2)) (.int .i64 (Ka.at_ (Ka.vals s) 3)) (.int .i64 (Ka.at_ (Ka.vals s) 4)) (.int .i64 (Ka.at_ (Ka.vals s) 5)) (.int .i64 (Ka.at_ (Ka.vals s) 6)) (.int .i64 (Ka.at_ (Ka.vals s) 7)) (.int .i64 (Ka.at_ (Ka.vals s) 8)) (.int .i64 (Ka.at_ (Ka.vals s) 9))
        have hb2 := below_store10 hbel w.heap.size (Nat.le_refl _) (.int .i64 (Ka.at_ (Ka.vals s) 0)) (.int .i64 (Ka.at_ (Ka.vals s) 1)) (.int .i64 (Ka.at_ (Ka.vals s) 2)) (.int .i64 (Ka.at_ (Ka.vals s) 3)) (.int .i64 (Ka.at_ (Ka.vals s) 4)) (.int .i64 (Ka.at_ (Ka.vals s) 5)) (.int .i64 (Ka.at_ (Ka.vals s) 6)) (.int .i64 (Ka.at_ (Ka.vals s) 7)) (.int .i64 (Ka.at_ (Ka.vals s) 8)) (.int .i64 (Ka.at_ (Ka.vals s) 9))
        have HF := Lib.hid (And.intro hr2 hb2)
        clear hv hr hown2 hbel hr2 hb2
        go_wp2
        refine bodyPost_ret (results_cell_tmp2 (P := Try.prog) rfl _ _ w.heap.size 40 _ (0, 0) _ rfl HF.out.1.held Try.underlying40 rfl (by kernel_rfl)) rfl ?_
        exact ⟨.inl ⟨HY.out, rfl⟩, HF.out.2⟩
  · have h10 : ((s.size : Int) == 10) = false := by simpa using fun e : (s.size : Int) = 10 => hz (by omega)
    have h11 : ((s.size : Int) != 10) = true := by simpa using fun e : (s.size : Int) = 10 => hz (by omega)
    have HN := Lib.hid (Ka.gd_size hz)
    obtain ⟨c0, c1, c2, c3, c4, c5, c6, c7, c8, c9⟩ := Bk.c10 hr0
    obtain ⟨f0, f1, f2, f3, f4, f5, f6, f7, f8, f9⟩ := Bk.f10 hr0
    have HB0 := Lib.hid hb0
    have HR0 := Lib.hid hr0
    clear hz hr0 hb0
    go_enter Try.func28, Try.ntmps28
    go_wp2
    refine bodyPost_ret (results_cell_tmp2 (P := Try.prog) rfl _ _ w.heap.size 40 _ (0, 0) _ rfl HR0.out.held Try.underlying40 rfl (by kernel_rfl)) rfl ?_
    exact ⟨.inr ⟨HN.out, rfl⟩, HB0.out⟩

end Go.Proofs.Ytacgicpkhbjdaaa
