/-
  Contracts of addresses: the model's parts.
-/
import Derived.Test.YtacgicpkhbjdaaaKf
import Derived.Test.YtacgicpkhbjdaaaIl
import Derived.Test.YtacgicpkhbjdaaaOw
import Derived.Test.YtacgicpkhbjdaaaBa
import Derived.Deep.RegionLaw
namespace Go.Proofs.Ytacgicpkhbjdaaa
open Go.RowKit

theorem info_int12 : (Try.prog.info? 3).map (fun i => (i.zero, i.size, i.bytes)) = some (some (.int .i64 0), 1, 8) := by kernel_rfl
theorem l9Signs_any (w : World) : Calls Try.prog 39 #[] w fun e w' => e = .returned (.string ⟨#[97, 98, 99, 100, 101, 102, 103, 104, 106, 107, 109, 110, 112, 113, 114, 115, 116, 117, 118, 119, 120, 121, 122, 50, 51, 52, 53, 54, 55, 56, 57]⟩) ∧ w = w' := by
  go_enter Try.func39, Try.ntmps39
  go_wp2
  go_ret
  exact ⟨rfl, rfl⟩
theorem Ka.val_is {c : Int} {k : Nat} (hk : k < 31) (h : Ka.dig (k : Int) = c) : Ka.val c = (k : Int) := by
  rw [← h, Ka.val_dig (by omega) (by omega)]
theorem Ka.val_none {c : Int} (c0 : 0 ≤ c) (c1 : c < 256) (h : ∀ j : Nat, j < 31 → Ka.dig (j : Int) ≠ c) : Ka.val c = -1 := by
  have hb := Ka.val_bd c0 c1
  rcases Int.lt_or_le (Ka.val c) 0 with h1 | h1
  · omega
  · obtain ⟨j, hj⟩ := Int.eq_ofNat_of_zero_le h1
    have hd := Ka.dig_val c0 c1 h1
    rw [hj] at hd
    exact absurd hd (h j (by omega))
set_option maxRecDepth 100000 in
set_option maxHeartbeats 1600000 in
theorem l9Value_any (c : Int) (w : World) (c0 : 0 ≤ c) (c1 : c < 256) : Calls Try.prog 42 #[.int .u8 c] w fun e w' => e = .returned (.int .i64 (Ka.val c)) ∧ w = w' := by
  have HNone := Lib.hid (Ka.val_none c0 c1)
  have HIs := Lib.hid (fun k hk h => Ka.val_is (c := c) (k := k) hk h)
  go_enter Try.func42, Try.ntmps42
  go_wp2
  go_loop [3] (fun i => ∃ k : Nat, k ≤ 31 ∧ i = .int .i64 (k : Int) ∧ Hid (∀ j : Nat, j < k → Ka.dig (j : Int) ≠ c))
    (fun i => 31 - (intOf i).toNat)
  case atStart => exact ⟨0, by omega, rfl, Lib.hid fun j hj => absurd hj (by omega)⟩
  case round =>
    obtain ⟨k, hk, rfl, HN⟩ := hrel
    by_cases hlt : k < 31
    · have d0 := Ka.dig_at k
      have HE := Lib.hid (fun h => HIs.out k hlt h)
      have HS : Hid (Ka.dig (k : Int) ≠ c → ∀ j : Nat, j < k + 1 → Ka.dig (j : Int) ≠ c) := Lib.hid (fun hne j hj => by
        by_cases hjk : j < k
        · exact HN.out j hjk
        · have : j = k := by omega
          subst this; exact hne)
      obtain ⟨x, HX⟩ : ∃ x, Hid (Ka.dig (k : Int) = x) := ⟨_, Lib.hid rfl⟩
      rw [HX.out] at HE HS
      simp only [HX.out] at d0
      by_cases he : x = c
      · have hq : (x == c) = true := by simpa using he
        have HV := Lib.hid (HE.out he)
        clear he HE HS HX
        go_wp2_with (first | (go_at_call 39; refine (l9Signs_any _).mono ?_; rintro e w' ⟨rfl, rfl⟩))
        go_ret
        exact ⟨by rw [HV.out]; rfl, rfl⟩
      · have hq : (x == c) = false := by simpa using he
        have HS2 := Lib.hid (HS.out he)
        clear he HE HS HX
        go_wp2_with (first | (go_at_call 39; refine (l9Signs_any _).mono ?_; rintro e w' ⟨rfl, rfl⟩))
        go_round
        case rel => exact ⟨k + 1, by omega, by go_num, HS2⟩
        case measure => simp [intOf]; omega
    · obtain rfl : k = 31 := by omega
      have HV := Lib.hid (HNone.out HN.out)
      go_wp2
      go_ret
      exact ⟨by rw [HV.out]; rfl, rfl⟩

/-- The characters of the first k values. -/
def Ka.dgs (l : List Int) (k : Nat) : List Int := (l.map Ka.dig).take k
theorem Ka.dgs_len {l : List Int} {k : Nat} (h : k ≤ l.length) : (Ka.dgs l k).length = k := by unfold Ka.dgs; rw [List.length_take, List.length_map]; omega
theorem Ka.dgs_succ {l : List Int} {k : Nat} (h : k < l.length) : Ka.dgs l (k + 1) = Ka.dgs l k ++ [Ka.dig (Ka.at_ l k)] := by
  unfold Ka.dgs Ka.at_
  rw [List.take_succ_eq_append_getElem (by simpa using h), List.getElem_map, List.getD_eq_getElem?_getD, List.getElem?_eq_getElem h]
  rfl
theorem Ka.dgs_all {l : List Int} {k : Nat} (h : l.length = k) : strOfNums (Ka.dgs l k) = Ka.str l := by
  unfold Ka.dgs Ka.str
  rw [List.take_of_length_le (by rw [List.length_map]; omega)]
set_option maxRecDepth 100000 in
set_option maxHeartbeats 3200000 in
theorem l9Text_any (a : Option Addr) (len cap : Nat) (l : List Int) (w : World) (h : IR w a len l) (hin : Ka.In l) (hlen : len ≤ 1048576) :
    Calls Try.prog 27 #[.slice a len cap] w fun e w' => e = .returned (.string (Ka.str l)) ∧ Below w.heap.size w w' := by
  obtain ⟨i0, hi, hz0, hz1, hz2⟩ := info_parts info_u8
  have hl := h.1
  have HIN := Lib.hid hin
  have HL := Lib.hid hl
  have HLen := Lib.hid hlen
  clear hin hl
  go_enter Try.func27, Try.ntmps27
  go_wp2
  go_loopw [3, 4] (fun v i wr => ∃ k : Nat, k ≤ len ∧ i = .int .i64 (k : Int) ∧ wr.ownsRow w.heap.size 5 1 v k ((Ka.dgs l k).map (Value.int .u8)) ∧ Below w.heap.size w wr)
    (fun _ i _ => len - (intOf i).toNat)
  case atStart => exact ⟨0, by omega, rfl, World.ownsRow_made _ _ _ (Nat.le_refl _) (by decide) rfl, (Below.refl _ _).alloc (Nat.le_refl _) _⟩
  case round =>
    obtain ⟨k, hk, rfl, hown, hbel⟩ := hrel
    by_cases hlt : k < len
    · have hr := h.below hbel
      obtain ⟨b, off, rfl, hb, hc⟩ := hr.2 (by omega)
      have hck := hc k hlt
      have hbd := Ka.at_bd HIN.out k
      have hds := Ka.dig_bd hbd.1 hbd.2
      have d0 := Ka.dig_at (Ka.at_ l k).toNat
      rw [show (((Ka.at_ l k).toNat : Nat) : Int) = Ka.at_ l k by omega] at d0
      have HS := Lib.hid (Ka.dgs_succ (l := l) (k := k) (by rw [HL.out]; exact hlt))
      rw [show l.getD k 0 = Ka.at_ l k from rfl] at hck
      obtain ⟨x, HX⟩ : ∃ x, Hid (Ka.at_ l k = x) := ⟨_, Lib.hid rfl⟩
      rw [HX.out] at hck hbd hds HS
      simp only [HX.out] at d0
      obtain ⟨y, HY⟩ : ∃ y, Hid (Ka.dig x = y) := ⟨_, Lib.hid rfl⟩
      rw [HY.out] at hds HS
      simp only [HY.out] at d0
      obtain ⟨x0, x1⟩ := hbd
      have hbs := hbel.size
      have s1 := Lib.hid (one_new wr (.int .u8 y) 5)
      clear hr hc h hb
      go_wp2
      go_region_law (first
        | (refine step_append_own rfl _ _ 22 rfl w.heap.size 5 i0 (.int .u8 0) 1 1 Try.underlying22 hi hz0 hz1 hz2 rfl (by decide) _ _ _ rfl (by exact hown.alloc _) ⟨wr.heap.size, 0, none⟩ 1 1 [.int .u8 y] rfl rfl s1.out (by intro u hu; simp at hu; subst hu; rfl) (by unfold maxLen; omega) (by omega) (by simp; omega) (fun v' w5 hown5 hgrow => ?_))
        | (rw [if_pos (by simp [Region.wanted])]; go_simp; go_at_call 39; refine (l9Signs_any _).mono ?_; rintro e w9 ⟨rfl, rfl⟩))
      all_goals
        have hown6 : w5.ownsRow w.heap.size 5 1 v' (k + 1) ((Ka.dgs l (k + 1)).map (Value.int .u8)) := by
          rw [HS.out, List.map_append]
          exact hown5
        have hbel2 : Below w.heap.size w w5 := (hbel.alloc hbs (.cells #[.int .u8 y] 5)).drew.grown hgrow (by simp; omega) (fun q hq => (hown.lt _ hq).1)
        clear hown hown5 hgrow hbel
        go_wp2
        go_roundw
        case rel => exact ⟨k + 1, by omega, by simp, hown6, hbel2⟩
        case measure => simp [intOf]; omega
    · have hk2 : len = k := by omega
      have hcv := own_string hown (Ka.dgs_len (by rw [HL.out]; omega))
      have HR : Hid (Ka.str l = strOfNums (Ka.dgs l k)) := Lib.hid (Ka.dgs_all (by rw [HL.out]; exact hk2)).symm
      clear hk2 hown
      go_wp2
      go_ret
      exact ⟨by rw [HR.out]; rfl, hbel⟩

/-- The values of the first k characters. -/
def Ka.vs (s : ByteArray) (k : Nat) : List Int := (List.range k).map fun j => Ka.val (En.byt s j)
theorem Ka.vs_succ (s : ByteArray) (k : Nat) : Ka.vs s (k + 1) = Ka.vs s k ++ [Ka.val (En.byt s k)] := by unfold Ka.vs; rw [List.range_succ, List.map_append]; rfl
theorem Ka.vs_len (s : ByteArray) (k : Nat) : (Ka.vs s k).length = k := by simp [Ka.vs]
theorem Ka.gd_of_pre {s : ByteArray} (h : Ka.pre s s.size) (h2 : s.size = 10) : Ka.gd s = true := (Ka.gd_iff s).2 ⟨h2, by rw [← h2]; exact h⟩
theorem Ka.gd_bad2 {s : ByteArray} {k : Nat} (hk : k < s.size) (h : Ka.val (En.byt s k) < 0) : Ka.gd s = false := by
  rw [Bool.eq_false_iff]
  intro g
  obtain ⟨h1, h2⟩ := (Ka.gd_iff s).1 g
  have := h2 k (by omega)
  omega
/-- What l9Values hands back. -/
def KaVs (s : ByteArray) (w : World) (e : Ending) (w' : World) : Prop :=
  ((Ka.gd s = true ∧ ∃ b cap, e = .returned (.tuple #[.slice (some ⟨b, 0, none⟩) 10 cap, .bool true]) ∧ w.heap.size ≤ b ∧ IR w' (some ⟨b, 0, none⟩) 10 (Ka.vals s)) ∨ (Ka.gd s = false ∧ ∃ a len cap, e = .returned (.tuple #[.slice a len cap, .bool false]))) ∧ Below w.heap.size w w'
set_option maxRecDepth 100000 in
set_option maxHeartbeats 3200000 in
theorem l9Values_any (s : ByteArray) (w : World) (hs : s.size ≤ 4194304) : Calls Try.prog 32 #[.string s] w (KaVs s w) := by
  obtain ⟨i0, hi, hz0, hz1, hz2⟩ := info_parts info_int12
  go_enter Try.func32, Try.ntmps32
  go_wp2
  go_loopw [4, 5] (fun v i wr => ∃ k : Nat, k ≤ s.size ∧ i = .int .i64 (k : Int) ∧ Hid (Ka.pre s k) ∧ wr.ownsRow w.heap.size 3 1 v k ((Ka.vs s k).map (Value.int .i64)) ∧ Below w.heap.size w wr)
    (fun _ i _ => s.size - (intOf i).toNat)
  case atStart => exact ⟨0, by omega, rfl, Lib.hid fun j hj => absurd hj (by omega), World.ownsRow_made _ _ _ (Nat.le_refl _) (by decide) rfl, (Below.refl _ _).alloc (Nat.le_refl _) _⟩
  case round =>
    obtain ⟨k, hk, rfl, HP, hown, hbel⟩ := hrel
    by_cases hlt : k < s.size
    · have hb := En.byt_bd s k
      have hx : ∀ h : k < s.size, ((s[k]'h).toNat : Int) = En.byt s k := fun h => En.byt_eq _ _ h
      have HPS := Lib.hid (Ka.pre_succ HP.out)
      have HBAD := Lib.hid (Ka.gd_bad2 (s := s) hlt)
      have HVS := Lib.hid (Ka.vs_succ s k)
      obtain ⟨x, HX⟩ : ∃ x, Hid (En.byt s k = x) := ⟨_, Lib.hid rfl⟩
      rw [HX.out] at hb HPS HBAD HVS
      simp only [HX.out] at hx
      have hcon := fun W => l9Value_any x W hb.1 hb.2
      obtain ⟨y, HY⟩ : ∃ y, Hid (Ka.val x = y) := ⟨_, Lib.hid rfl⟩
      rw [HY.out] at HPS HBAD HVS
      simp only [HY.out] at hcon
      obtain ⟨b0, b1⟩ := hb
      have HC := Lib.hid hcon
      have hbs := hbel.size
      clear hcon
      by_cases hy : y < 0
      · have HN := Lib.hid (HBAD.out hy)
        clear HPS HBAD HVS
        go_wp2_with fail
        refine (HC.out _).mono ?_
        rintro e w2 ⟨rfl, rfl⟩
        go_wp2
        go_ret2
        exact ⟨.inr ⟨HN.out, _, _, _, rfl⟩, hbel⟩
      · have HPP := Lib.hid (HPS.out (by omega))
        have s1 := one_new wr (.int .i64 y) 3
        have S1 := Lib.hid s1
        clear HPS HBAD s1
        go_wp2_with fail
        refine (HC.out _).mono ?_
        rintro e w2 ⟨rfl, rfl⟩
        go_wp2_with (at_builtin; refine wpList_append_own _ rfl _ _ 44 rfl w.heap.size 3 i0 (.int .i64 0) 1 8 Try.underlying44 hi hz0 hz1 hz2 rfl (by decide) _ _ _ rfl (hown.alloc (.cells #[.int .i64 y] 3 (0, 0))) ⟨wr.heap.size, 0, none⟩ 1 1 [.int .i64 y] rfl rfl ?_ ?_ ?_ ?_ ?_ ?_)
        any_goals first | exact S1.out | (intro u hu; simp at hu; subst hu; rfl) | (unfold maxLen; omega) | omega | (simp; omega)
        intro v' w5 hown5 hgrow _
        have hown6 : w5.ownsRow w.heap.size 3 1 v' (k + 1) ((Ka.vs s (k + 1)).map (Value.int .i64)) := by
          rw [HVS.out, List.map_append]
          exact hown5
        have hbel2 : Below w.heap.size w w5 := (hbel.alloc hbs (.cells #[.int .i64 y] 3)).grown hgrow (by simp; omega) (fun q hq => (hown.lt _ hq).1)
        clear hown hown5 hgrow hbel
        go_wp2
        go_roundw
        case rel => exact ⟨k + 1, by omega, by simp, HPP, hown6, hbel2⟩
        case measure => simp [intOf]; omega
    · obtain rfl : k = s.size := by omega
      by_cases h10 : s.size = 10
      · have hq : ((s.size : Int) == 10) = true := by simp [h10]
        have HG := Lib.hid (Ka.gd_of_pre HP.out h10)
        obtain ⟨g, cp, rfl⟩ : ∃ g cp, u4 = .slice (some ⟨g, 0, none⟩) s.size cp := by
          rcases hown.2 with ⟨_, h0⟩ | ⟨g, cap, cur, h, _⟩
          · omega
          · exact ⟨_, _, h⟩
        obtain ⟨_, hir⟩ := IR.own hown
        have hg := (hown.lt _ rfl).1
        have HF : Hid (w.heap.size ≤ g ∧ s.size = 10 ∧ IR wr (some ⟨g, 0, none⟩) 10 (Ka.vals s)) := Lib.hid ⟨hg, h10, by
          have e : Ka.vs s s.size = Ka.vals s := by rw [h10]; rfl
          rw [e, h10] at hir
          exact hir⟩
        clear hown hir hg h10
        go_wp2
        go_ret2
        exact ⟨.inl ⟨HG.out, g, cp, by rw [HF.out.2.1]; rfl, HF.out.1, HF.out.2.2⟩, hbel⟩
      · have hq : ((s.size : Int) == 10) = false := by simpa using fun e : (s.size : Int) = 10 => h10 (by omega)
        have HG := Lib.hid (Ka.gd_size h10)
        obtain ⟨a, n, cp, rfl⟩ : ∃ a n cp, u4 = .slice a n cp := by
          rcases hown.2 with ⟨h, _⟩ | ⟨g, cap, cur, h, _⟩
          · exact ⟨_, _, _, h⟩
          · exact ⟨_, _, _, h⟩
        clear hown h10
        go_wp2
        go_ret2
        exact ⟨.inr ⟨HG.out, _, _, _, rfl⟩, hbel⟩

set_option maxRecDepth 100000 in
set_option maxHeartbeats 1600000 in
theorem l9Sums_any (b off len cap : Nat) (l : List Int) (w : World) (hc : ∀ i, i < len → w.cell? ⟨b, off + i, none⟩ = some (.int .i64 (Ka.at_ l i))) (hin : Ka.In l) (hlen : len ≤ 10) :
    Calls Try.prog 26 #[.slice (some ⟨b, off, none⟩) len cap] w fun e w' => e = .returned (.tuple #[.int .i64 (Ka.sum l len % 31), .int .i64 (Ka.wsum l len % 31)]) ∧ w = w' := by
  have HC := Lib.hid hc
  have HIN := Lib.hid hin
  clear hc hin
  go_enter Try.func26, Try.ntmps26
  go_wp2
  go_loop [4, 5, 6] (fun p q i => ∃ m : Nat, m ≤ len ∧ i = .int .i64 (m : Int) ∧ p = .int .i64 (Ka.sum l m) ∧ q = .int .i64 (Ka.wsum l m))
    (fun _ _ i => len - (intOf i).toNat)
  case atStart => exact ⟨0, by omega, rfl, rfl, rfl⟩
  case round =>
    obtain ⟨m, hm, rfl, rfl, rfl⟩ := hrel
    have b1 := Ka.sum_bd HIN.out m
    have b2 := Ka.wsum_bd HIN.out m (by omega)
    by_cases hlt : m < len
    · have hx := HC.out m hlt
      have b3 := Ka.at_bd HIN.out m
      have HS : Hid (Ka.sum l (m + 1) = Ka.sum l m + Ka.at_ l m) := Lib.hid rfl
      have HW : Hid (Ka.wsum l (m + 1) = Ka.wsum l m + ((m : Int) + 1) * Ka.at_ l m) := Lib.hid rfl
      obtain ⟨x, HX⟩ : ∃ x, Hid (Ka.at_ l m = x) := ⟨_, Lib.hid rfl⟩
      obtain ⟨s, HSS⟩ : ∃ x, Hid (Ka.sum l m = x) := ⟨_, Lib.hid rfl⟩
      obtain ⟨u, HUU⟩ : ∃ x, Hid (Ka.wsum l m = x) := ⟨_, Lib.hid rfl⟩
      rw [HX.out] at hx b3 HS HW
      rw [HSS.out] at b1 HS ⊢
      rw [HUU.out] at b2 HW ⊢
      have b4 : 0 ≤ ((m : Int) + 1) * x := Int.mul_nonneg (by omega) b3.1
      have b5 : ((m : Int) + 1) * x ≤ 10 * x := Int.mul_le_mul_of_nonneg_right (by omega) b3.1
      have b6 : ((m : Int) + 1) * x ≤ 300 := by omega
      clear b5
      obtain ⟨b10, b11⟩ := b1
      obtain ⟨b20, b21⟩ := b2
      have b22 : u ≤ 3000 := by omega
      have b12 : s ≤ 300 := by omega
      obtain ⟨b30, b31⟩ := b3
      go_wp2
      go_round
      case rel => exact ⟨m + 1, by omega, by go_num, by rw [HS.out], by rw [HW.out]⟩
      case measure => simp [intOf]; omega
    · obtain rfl : m = len := by omega
      obtain ⟨s, HSS⟩ : ∃ x, Hid (Ka.sum l m = x) := ⟨_, Lib.hid rfl⟩
      obtain ⟨u, HUU⟩ : ∃ x, Hid (Ka.wsum l m = x) := ⟨_, Lib.hid rfl⟩
      rw [HSS.out] at b1 ⊢
      rw [HUU.out] at b2 ⊢
      obtain ⟨b10, b11⟩ := b1
      obtain ⟨b20, b21⟩ := b2
      go_wp2
      go_ret2
      exact ⟨by rw [HSS.out, HUU.out]; rfl, rfl⟩
set_option maxRecDepth 100000 in
set_option maxHeartbeats 1600000 in
theorem l9Number_any (b off len cap : Nat) (l : List Int) (w : World) (hc : ∀ i, i < len → w.cell? ⟨b, off + i, none⟩ = some (.int .i64 (Ka.at_ l i))) (hin : Ka.In l) (hlen : 8 ≤ len) :
    Calls Try.prog 33 #[.slice (some ⟨b, off, none⟩) len cap] w fun e w' => e = .returned (.int .i64 (Ka.num l 7)) ∧ w = w' := by
  have HC := Lib.hid hc
  have HIN := Lib.hid hin
  clear hc hin
  go_enter Try.func33, Try.ntmps33
  go_wp2
  go_loop [3, 4] (fun p i => ∃ m : Nat, 1 ≤ m ∧ m ≤ 8 ∧ i = .int .i64 (m : Int) ∧ p = .int .i64 (Ka.num l (m - 1)))
    (fun _ i => 8 - (intOf i).toNat)
  case atStart => exact ⟨1, by omega, by omega, rfl, rfl⟩
  case round =>
    obtain ⟨m, hm0, hm, rfl, rfl⟩ := hrel
    by_cases hlt : m < 8
    · have hx := HC.out m (by omega)
      have b1 := Ka.num_bd HIN.out (m - 1) (by omega)
      have b3 := Ka.at_bd HIN.out m
      have e1 : (31 : Int) ^ (m - 1) ≤ 887503681 := by
        match m, hlt with
        | 0, _ => decide
        | 1, _ => decide
        | 2, _ => decide
        | 3, _ => decide
        | 4, _ => decide
        | 5, _ => decide
        | 6, _ => decide
        | 7, _ => decide
      have HS : Hid (Ka.num l (m + 1 - 1) = Ka.num l (m - 1) * 31 + Ka.at_ l m) := Lib.hid (by
        obtain ⟨i, rfl⟩ : ∃ i, m = i + 1 := ⟨m - 1, by omega⟩
        rfl)
      obtain ⟨x, HX⟩ : ∃ x, Hid (Ka.at_ l m = x) := ⟨_, Lib.hid rfl⟩
      obtain ⟨s, HSS⟩ : ∃ x, Hid (Ka.num l (m - 1) = x) := ⟨_, Lib.hid rfl⟩
      rw [HX.out] at hx b3 HS
      rw [HSS.out] at b1 HS ⊢
      obtain ⟨b10, b11⟩ := b1
      have b12 : s ≤ 887503681 := by omega
      obtain ⟨b30, b31⟩ := b3
      clear b11 e1
      go_wp2
      go_round
      case rel => exact ⟨m + 1, by omega, by omega, by go_num, by rw [HS.out]⟩
      case measure => simp [intOf]; omega
    · obtain rfl : m = 8 := by omega
      go_wp2
      go_ret
      exact ⟨rfl, rfl⟩

end Go.Proofs.Ytacgicpkhbjdaaa
