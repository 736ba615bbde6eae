/-
  Contracts of chapter 8: a factor of the polynomial through points; of the program.
-/
import Derived.Test.YtbhpealkhpginaaRh
import Derived.Test.YtbhpealkhpginaaPr
namespace Go.Proofs.Ytbhpealkhpginaa
open Go.RowKit

set_option maxRecDepth 100000 in
set_option maxHeartbeats 6400000 in
theorem factorAt_any (a : Option Addr) (len cap : Nat) (l : List (Int × Int)) (i : Nat) (y x : Int) (w : World) (h : QR w a len l) (hi : i < len) (h9 : len ≤ 9) (hX : ∀ j, j < len → 0 ≤ Po.X l j ∧ Po.X l j ≤ 1073741788) (hD : ∀ j, j < len → j ≠ i → Po.X l j ≠ Po.X l i) (x0 : 0 ≤ x) (x1 : x ≤ 1073741788) :
    Calls Try.prog 57 #[.slice a len cap, .agg #[.int .i64 (Po.X l i), .int .i64 y], .int .i64 x] w fun e w' => e = .returned (.agg #[.int .i64 (Po.part l i x), .int .i64 1073741789]) ∧ Below w.heap.size w w' := by
  have hl := h.1
  obtain ⟨xi0, xi1⟩ := hX i hi
  have HPE : Hid (Po.part l i x = Po.up l i x len * Po.inv (Po.up l i (Po.X l i) len) % 1073741789) := Lib.hid (by unfold Po.part; rw [hl])
  obtain ⟨T, HT⟩ : ∃ V, Hid (Po.X l i = V) := ⟨_, Lib.hid rfl⟩
  rw [HT.out] at xi0 xi1 hD HPE ⊢
  have HS0 : Bk w.heap.size 35 #[.int .i64 T, .int .i64 y] ((((w.alloc (.cells #[.int .i64 T, .int .i64 y] 35 (0, 0))).alloc (.cells #[.int .i64 0, .int .i64 0] 77 (0, 0))).alloc (.cells #[.int .i64 1, .int .i64 1073741789] 77 (0, 0))).alloc (.cells #[.int .i64 1, .int .i64 1073741789] 77 (0, 0))) := (((Bk.new _ _ _).alloc _).alloc _).alloc _
  have HR0 : Bk (w.heap.size + 1) 77 #[.int .i64 0, .int .i64 0] ((((w.alloc (.cells #[.int .i64 T, .int .i64 y] 35 (0, 0))).alloc (.cells #[.int .i64 0, .int .i64 0] 77 (0, 0))).alloc (.cells #[.int .i64 1, .int .i64 1073741789] 77 (0, 0))).alloc (.cells #[.int .i64 1, .int .i64 1073741789] 77 (0, 0))) := ((Bk.new' _ _ _ _ (by simp)).alloc _).alloc _
  have HA0 : Bk (w.heap.size + 1 + 1) 77 #[.int .i64 1, .int .i64 1073741789] ((((w.alloc (.cells #[.int .i64 T, .int .i64 y] 35 (0, 0))).alloc (.cells #[.int .i64 0, .int .i64 0] 77 (0, 0))).alloc (.cells #[.int .i64 1, .int .i64 1073741789] 77 (0, 0))).alloc (.cells #[.int .i64 1, .int .i64 1073741789] 77 (0, 0))) := (Bk.new' _ _ _ _ (by simp)).alloc _
  have HB0 : Bk (w.heap.size + 1 + 1 + 1) 77 #[.int .i64 1, .int .i64 1073741789] ((((w.alloc (.cells #[.int .i64 T, .int .i64 y] 35 (0, 0))).alloc (.cells #[.int .i64 0, .int .i64 0] 77 (0, 0))).alloc (.cells #[.int .i64 1, .int .i64 1073741789] 77 (0, 0))).alloc (.cells #[.int .i64 1, .int .i64 1073741789] 77 (0, 0))) := Bk.new' _ _ _ _ (by simp)
  have hb0 : Below w.heap.size w ((((w.alloc (.cells #[.int .i64 T, .int .i64 y] 35 (0, 0))).alloc (.cells #[.int .i64 0, .int .i64 0] 77 (0, 0))).alloc (.cells #[.int .i64 1, .int .i64 1073741789] 77 (0, 0))).alloc (.cells #[.int .i64 1, .int .i64 1073741789] 77 (0, 0))) := below_alloc (below_alloc (below_alloc (below_alloc (Below.refl _ _) _) _) _) _
  obtain ⟨W0, HW0⟩ : ∃ W0, Hid ((((w.alloc (.cells #[.int .i64 T, .int .i64 y] 35 (0, 0))).alloc (.cells #[.int .i64 0, .int .i64 0] 77 (0, 0))).alloc (.cells #[.int .i64 1, .int .i64 1073741789] 77 (0, 0))).alloc (.cells #[.int .i64 1, .int .i64 1073741789] 77 (0, 0)) = W0) := ⟨_, Lib.hid rfl⟩
  rw [HW0.out] at HS0 HR0 HA0 HB0 hb0
  go_enter Try.func57, Try.ntmps57
  go_wp2
  rw [HW0.out]
  go_loopw [16] (fun k wr => ∃ j : Nat, j ≤ len ∧ k = .int .i64 (j : Int) ∧ Bk w.heap.size 35 #[.int .i64 T, .int .i64 y] wr ∧ Bk (w.heap.size + 1) 77 #[.int .i64 0, .int .i64 0] wr ∧ Bk (w.heap.size + 1 + 1) 77 #[.int .i64 (Po.up l i x j), .int .i64 1073741789] wr ∧ Bk (w.heap.size + 1 + 1 + 1) 77 #[.int .i64 (Po.up l i T j), .int .i64 1073741789] wr ∧ Below w.heap.size w wr)
    (fun k _ => len - (intOf k).toNat)
  case atStart => exact ⟨0, by omega, rfl, HS0, HR0, HA0, HB0, hb0⟩
  case round =>
    clear HS0 HR0 HA0 HB0 hb0 HW0
    obtain ⟨j, hj, rfl, HS, HR, HA, HB, hbel⟩ := hrel
    have hsz := HB.lt
    by_cases hlt : j < len
    · obtain ⟨b, off, rfl, hb, hc⟩ := (h.below hbel).2 (by omega)
      obtain ⟨c0, c1⟩ := hc j hlt
      obtain ⟨xj0, xj1⟩ := hX j hlt
      have hne := hD j hlt
      obtain ⟨V, HV⟩ : ∃ V, Hid (Po.X l j = V) := ⟨_, Lib.hid rfl⟩
      obtain ⟨Y, HY⟩ : ∃ V, Hid (Po.Y l j = V) := ⟨_, Lib.hid rfl⟩
      rw [HV.out] at c0 xj0 xj1 hne
      rw [HY.out] at c1
      have HP0 : Bk wr.heap.size 35 #[.int .i64 V, .int .i64 Y] (wr.alloc (.cells #[.int .i64 V, .int .i64 Y] 35 (0, 0))) := Bk.new _ _ _
      have HS1 := HS.alloc (.cells #[.int .i64 V, .int .i64 Y] 35 (0, 0))
      have HR1 := HR.alloc (.cells #[.int .i64 V, .int .i64 Y] 35 (0, 0))
      have HA1 := HA.alloc (.cells #[.int .i64 V, .int .i64 Y] 35 (0, 0))
      have HB1 := HB.alloc (.cells #[.int .i64 V, .int .i64 Y] 35 (0, 0))
      have hbel1 := below_alloc hbel (.cells #[.int .i64 V, .int .i64 Y] 35 (0, 0))
      by_cases hji : j = i
      · have HU : Hid (Po.up l i x (j + 1) = Po.up l i x j) := Lib.hid (by show (if j = i then _ else _) = _; rw [if_pos hji])
        have HD : Hid (Po.up l i T (j + 1) = Po.up l i T j) := Lib.hid (by show (if j = i then _ else _) = _; rw [if_pos hji])
        have hVT : V = T := by rw [← HV.out, ← HT.out, hji]
        subst hVT
        obtain ⟨U, HU2⟩ : ∃ U, Hid (Po.up l i x j = U) := ⟨_, Lib.hid rfl⟩
        obtain ⟨D, HD2⟩ : ∃ U, Hid (Po.up l i V j = U) := ⟨_, Lib.hid rfl⟩
        rw [HU2.out] at HU HA1
        rw [HD2.out] at HD HB1
        obtain ⟨s0, s1⟩ := Bk.c2 HS1
        obtain ⟨p0, p1⟩ := Bk.c2 HP0
        clear h hX hD HU2 HD2 hji HV HY hc HS HR HA HB hbel HT HPE HP0 hne
        go_wp2
        go_roundw
        case rel => exact ⟨j + 1, by omega, by simp, HS1, HR1, by rw [HU.out]; exact HA1, by rw [HD.out]; exact HB1, hbel1⟩
        case measure => simp [intOf]; omega
      · have hne2 := hne hji
        have hn1 : (V == T) = false := by simp [hne2]
        have hn2 : decide (V = T) = false := by simp [hne2]
        have hn3 : (V != T) = true := by simp [hne2]
        have HU : Hid (Po.up l i x (j + 1) = Po.up l i x j * Po.less x (Po.X l j) % 1073741789) := Lib.hid (by show (if j = i then _ else _) = _; rw [if_neg hji])
        have HD : Hid (Po.up l i T (j + 1) = Po.up l i T j * Po.less T (Po.X l j) % 1073741789) := Lib.hid (by show (if j = i then _ else _) = _; rw [if_neg hji])
        obtain ⟨u0, u1⟩ := Po.up_bd l i x j
        obtain ⟨d0, d1⟩ := Po.up_bd l i T j
        obtain ⟨U, HU2⟩ : ∃ U, Hid (Po.up l i x j = U) := ⟨_, Lib.hid rfl⟩
        obtain ⟨D, HD2⟩ : ∃ U, Hid (Po.up l i T j = U) := ⟨_, Lib.hid rfl⟩
        rw [HU2.out, HV.out] at HU
        rw [HU2.out] at u0 u1 HA1
        rw [HD2.out, HV.out] at HD
        rw [HD2.out] at d0 d1 HB1
        have hM1 : ∀ W, Calls Try.prog 61 #[.agg #[.int .i64 x, .int .i64 1073741789], .agg #[.int .i64 V, .int .i64 1073741789]] W fun e w' => e = .returned (.agg #[.int .i64 (Po.less x V), .int .i64 1073741789]) ∧ Below W.heap.size W w' := fun W => minus_any x V 1073741789 W (by omega) (by omega) x0 (by omega) xj0 (by omega)
        have hM2 : ∀ W, Calls Try.prog 61 #[.agg #[.int .i64 T, .int .i64 1073741789], .agg #[.int .i64 V, .int .i64 1073741789]] W fun e w' => e = .returned (.agg #[.int .i64 (Po.less T V), .int .i64 1073741789]) ∧ Below W.heap.size W w' := fun W => minus_any T V 1073741789 W (by omega) (by omega) xi0 (by omega) xj0 (by omega)
        have hl1 : 0 ≤ Po.less x V ∧ Po.less x V < 1073741789 := ⟨Int.emod_nonneg _ (by decide), Int.emod_lt_of_pos _ (by decide)⟩
        have hl2 : 0 ≤ Po.less T V ∧ Po.less T V < 1073741789 := ⟨Int.emod_nonneg _ (by decide), Int.emod_lt_of_pos _ (by decide)⟩
        obtain ⟨P, HP⟩ : ∃ P, Hid (Po.less x V = P) := ⟨_, Lib.hid rfl⟩
        obtain ⟨Q, HQ⟩ : ∃ P, Hid (Po.less T V = P) := ⟨_, Lib.hid rfl⟩
        rw [HP.out] at hM1 hl1 HU
        rw [HQ.out] at hM2 hl2 HD
        have hT1 := fun W => times_any U P 1073741789 W (by omega) (by omega) u0 u1 hl1.1 hl1.2
        have hT2 := fun W => times_any D Q 1073741789 W (by omega) (by omega) d0 d1 hl2.1 hl2.2
        obtain ⟨U2, HU3⟩ : ∃ K, Hid (U * P % 1073741789 = K) := ⟨_, Lib.hid rfl⟩
        obtain ⟨D2, HD3⟩ : ∃ K, Hid (D * Q % 1073741789 = K) := ⟨_, Lib.hid rfl⟩
        rw [HU3.out] at hT1 HU
        rw [HD3.out] at hT2 HD
        have HC2 : Bk (wr.heap.size + 1) 77 #[.int .i64 V, .int .i64 1073741789] ((wr.alloc (.cells #[.int .i64 V, .int .i64 Y] 35 (0, 0))).alloc (.cells #[.int .i64 V, .int .i64 1073741789] 77 (0, 0))) := Bk.new' _ _ _ _ (by simp)
        have HS2 := HS1.alloc (.cells #[.int .i64 V, .int .i64 1073741789] 77 (0, 0))
        have HR2 := HR1.alloc (.cells #[.int .i64 V, .int .i64 1073741789] 77 (0, 0))
        have HA2 := HA1.alloc (.cells #[.int .i64 V, .int .i64 1073741789] 77 (0, 0))
        have HB2 := HB1.alloc (.cells #[.int .i64 V, .int .i64 1073741789] 77 (0, 0))
        have hbel2 := below_alloc hbel1 (.cells #[.int .i64 V, .int .i64 1073741789] 77 (0, 0))
        obtain ⟨W1, HW⟩ : ∃ W1, Hid ((wr.alloc (.cells #[.int .i64 V, .int .i64 Y] 35 (0, 0))).alloc (.cells #[.int .i64 V, .int .i64 1073741789] 77 (0, 0)) = W1) := ⟨_, Lib.hid rfl⟩
        rw [HW.out] at HC2 HS2 HR2 HA2 HB2 hbel2
        obtain ⟨s0, s1⟩ := Bk.c2 HS1
        obtain ⟨p0, p1⟩ := Bk.c2 HP0
        clear h hX hD HU2 HD2 HV HY hc HS HR HA HB hbel HT HPE HP HQ HU3 HD3 hne hne2 HP0 HS1 HR1 HA1 HB1 hbel1 hl1 hl2 u0 u1 d0 d1 xi0 xi1 xj0 xj1 x0 x1
        go_wp2
        rw [HW.out]
        clear HW p0 p1 s0 s1 c0 c1
        apply wp_meet8 (fun w' => Bk (w.heap.size + 1 + 1) 77 #[.int .i64 U2, .int .i64 1073741789] w' ∧ (∀ B T cs, B ≠ (w.heap.size + 1 + 1) → Bk B T cs W1 → Bk B T cs w') ∧ Below w.heap.size w w')
        case h1 =>
          obtain ⟨a0, a1⟩ := Bk.c2 HA2.drew; obtain ⟨g0, g1⟩ := Bk.c2 HC2.drew
          go_region_with (first
            | (go_at_call 61; refine (hM1 _).mono ?_; rintro e1 v1 ⟨rfl, hb1⟩; have HT1 := HA2.drew.below hb1; obtain ⟨t10, t11⟩ := Bk.c2 HT1; have hd1 : Below W1.heap.size W1 v1 := below_after (Below.refl _ _).drew hb1)
            | (go_at_call 56; refine (hT1 _).mono ?_; rintro e2 v2 ⟨rfl, hb2⟩; have HT2 := HT1.below hb2; obtain ⟨f20, f21⟩ := HT2.f2; obtain ⟨t20, t21⟩ := Bk.c2 HT2; have HT3 := Bk.store2 HT2 (.int .i64 U2) (.int .i64 1073741789); have hd2 := below_after hd1 hb2; have hk3 : ∀ B T cs, B ≠ (w.heap.size + 1 + 1) → Bk B T cs W1 → Bk B T cs ((v2.setCell ⟨(w.heap.size + 1 + 1), 0, none⟩ (.int .i64 U2)).setCell ⟨(w.heap.size + 1 + 1), 1, none⟩ (.int .i64 1073741789)) := fun B T cs hne hB => (hB.below hd2).other2 (w.heap.size + 1 + 1) hne _ _; have hc3 := below_store2 (below_after hbel2 hd2) ((w.heap.size + 1 + 1)) (by omega) (.int .i64 U2) (.int .i64 1073741789)))
          all_goals exact ⟨rfl, HT3, hk3, hc3⟩
        case h2 =>
          rintro w3 ⟨HA3, hk3, hc3⟩
          have HS3 := hk3 _ _ _ (by omega) HS2
          have HR3 := hk3 _ _ _ (by omega) HR2
          have HB3 := hk3 _ _ _ (by omega) HB2
          have HC3 := hk3 _ _ _ (by omega) HC2
          clear hk3 HS2 HR2 HB2 HC2 HA2 hbel2 hM1 hT1
          go_wp2
          apply wp_meet8 (fun w' => Bk (w.heap.size + 1 + 1 + 1) 77 #[.int .i64 D2, .int .i64 1073741789] w' ∧ (∀ B T cs, B ≠ (w.heap.size + 1 + 1 + 1) → Bk B T cs w3 → Bk B T cs w') ∧ Below w.heap.size w w')
          case h1 =>
            obtain ⟨a0, a1⟩ := Bk.c2 HB3.drew; obtain ⟨g0, g1⟩ := Bk.c2 HC3.drew; obtain ⟨k0, k1⟩ := Bk.c2 HS3.drew
            go_region_with (first
              | (go_at_call 61; refine (hM2 _).mono ?_; rintro e1 v1 ⟨rfl, hb1⟩; have HT1 := HB3.drew.below hb1; obtain ⟨t10, t11⟩ := Bk.c2 HT1; have hd1 : Below w3.heap.size w3 v1 := below_after (Below.refl _ _).drew hb1)
              | (go_at_call 56; refine (hT2 _).mono ?_; rintro e2 v2 ⟨rfl, hb2⟩; have HT2 := HT1.below hb2; obtain ⟨f20, f21⟩ := HT2.f2; obtain ⟨t20, t21⟩ := Bk.c2 HT2; have HT3 := Bk.store2 HT2 (.int .i64 D2) (.int .i64 1073741789); have hd2 := below_after hd1 hb2; have hk3 : ∀ B T cs, B ≠ (w.heap.size + 1 + 1 + 1) → Bk B T cs w3 → Bk B T cs ((v2.setCell ⟨(w.heap.size + 1 + 1 + 1), 0, none⟩ (.int .i64 D2)).setCell ⟨(w.heap.size + 1 + 1 + 1), 1, none⟩ (.int .i64 1073741789)) := fun B T cs hne hB => (hB.below hd2).other2 (w.heap.size + 1 + 1 + 1) hne _ _; have hc3 := below_store2 (below_after hc3 hd2) ((w.heap.size + 1 + 1 + 1)) (by omega) (.int .i64 D2) (.int .i64 1073741789)))
            all_goals exact ⟨rfl, HT3, hk3, hc3⟩
          case h2 =>
            rintro w4 ⟨HB4, hk4, hc4⟩
            have HS4 := hk4 _ _ _ (by omega) HS3
            have HR4 := hk4 _ _ _ (by omega) HR3
            have HA4 := hk4 _ _ _ (by omega) HA3
            clear hk4 HS3 HR3 HB3 HC3 HA3 hc3 hM2 hT2
            go_wp2
            go_roundw
            case rel => exact ⟨j + 1, by omega, by simp, HS4, HR4, by rw [HU.out]; exact HA4, by rw [HD.out]; exact HB4, hc4⟩
            case measure => simp [intOf]; omega
    · have hj2 : j = len := by omega
      subst hj2
      obtain ⟨u0, u1⟩ := Po.up_bd l i x j
      obtain ⟨d0, d1⟩ := Po.up_bd l i T j
      obtain ⟨U, HU2⟩ : ∃ U, Hid (Po.up l i x j = U) := ⟨_, Lib.hid rfl⟩
      obtain ⟨D, HD2⟩ : ∃ U, Hid (Po.up l i T j = U) := ⟨_, Lib.hid rfl⟩
      rw [HU2.out] at u0 u1 HA HPE
      rw [HD2.out] at d0 d1 HB HPE
      have hI : ∀ W, Calls Try.prog 62 #[.agg #[.int .i64 D, .int .i64 1073741789]] W fun e w' => e = .returned (.agg #[.int .i64 (Po.inv D), .int .i64 1073741789]) ∧ Below W.heap.size W w' := fun W => inverse_any D 1073741789 W (by omega) (by omega) d0 d1
      have hq : 0 ≤ Po.inv D ∧ Po.inv D < 1073741789 := Gr.pw_bd 1073741789 D 1073741787 (by decide)
      obtain ⟨G, HG⟩ : ∃ G, Hid (Po.inv D = G) := ⟨_, Lib.hid rfl⟩
      rw [HG.out] at hI hq HPE
      have hT := fun W => times_any U G 1073741789 W (by omega) (by omega) u0 u1 hq.1 hq.2
      rw [← HPE.out] at hT
      obtain ⟨Z, HZ⟩ : ∃ G, Hid (Po.part l i x = G) := ⟨_, Lib.hid rfl⟩
      rw [HZ.out] at hT
      obtain ⟨a0, a1⟩ := Bk.c2 HA.drew
      obtain ⟨g0, g1⟩ := Bk.c2 HB.drew
      clear h hX hD HU2 HD2 HG HPE hq u0 u1 d0 d1 HT xi0 xi1 x0 x1
      go_wp2
      apply wp_meet8 (fun w' => Bk (w.heap.size + 1) 77 #[.int .i64 Z, .int .i64 1073741789] w' ∧ Below w.heap.size w w')
      case h1 =>
        go_region_with (first
          | (go_at_call 62; refine (hI _).mono ?_; rintro e1 v1 ⟨rfl, hb1⟩; have HA1 := HA.drew.below hb1; have HR1 := HR.drew.below hb1; obtain ⟨t10, t11⟩ := Bk.c2 HA1; have hd1 : Below w.heap.size w v1 := below_after hbel.drew hb1)
          | (go_at_call 56; refine (hT _).mono ?_; rintro e2 v2 ⟨rfl, hb2⟩; have HR2 := HR1.below hb2; obtain ⟨f20, f21⟩ := HR2.f2; obtain ⟨t20, t21⟩ := Bk.c2 HR2; have HR3 := Bk.store2 HR2 (.int .i64 Z) (.int .i64 1073741789); have hc3 := below_store2 (below_after hd1 hb2) (w.heap.size + 1) (by omega) (.int .i64 Z) (.int .i64 1073741789)))
        all_goals exact ⟨rfl, HR3, hc3⟩
      case h2 =>
        rintro w5 ⟨HR5, hc5⟩
        go_wp2
        refine bodyPost_ret (results_cell_row (P := Try.prog) rfl _ _ (w.heap.size + 1) 77 _ (0, 0) _ rfl HR5.held Try.underlying77 rfl (by kernel_rfl)) rfl ?_
        exact ⟨by rw [HZ.out], hc5⟩
end Go.Proofs.Ytbhpealkhpginaa
