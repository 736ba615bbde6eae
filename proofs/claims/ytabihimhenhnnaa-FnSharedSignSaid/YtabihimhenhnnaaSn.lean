/-
  Contracts of chapter 7: SharedSign; of the model.
-/
import Derived.Test.YtabihimhenhnnaaSb
import Derived.Test.YtabihimhenhnnaaSt
import Derived.Test.YtabihimhenhnnaaBk
namespace Go.Proofs.Ytabihimhenhnnaa
open Go.RowKit

set_option maxRecDepth 100000 in
set_option maxHeartbeats 3200000 in
theorem specSharedSign_any (a : Option Addr) (len cap : Nat) (us : List Int) (t : ByteArray) (w : World) (h : IR w a len us) (hm : len ≤ 1048576) (ht : t.size ≤ 1048576) :
    Calls Try.prog 13 #[.slice a len cap, .string t] w fun e w' => e = .returned (.tuple #[.agg #[.int .i64 (Sd.s0 us t), .int .i64 (Sd.s1 us t)], .bool (Sd.sok us)]) ∧ Below w.heap.size w w' := by
  have hl := h.1
  have HX0 : Bk w.heap.size 32 #[.int .i64 0, .int .i64 0] (w.alloc (.cells #[.int .i64 0, .int .i64 0] 32 (0, 0))) := Bk.new _ _ _
  have hb0 : Below w.heap.size w (w.alloc (.cells #[.int .i64 0, .int .i64 0] 32 (0, 0))) := below_alloc (Below.refl _ _) _
  obtain ⟨w0, Hw0⟩ : ∃ w0, Hid (w.alloc (.cells #[.int .i64 0, .int .i64 0] 32 (0, 0)) = w0) := ⟨_, Lib.hid rfl⟩
  rw [Hw0.out] at HX0 hb0
  have h0 := h.below hb0
  go_enter Try.func13, Try.ntmps13
  go_wp2_with fail
  rw [Hw0.out]
  refine (l7Keys_any a len cap us w0 h0 hm).mono ?_
  rintro e1 w1 ⟨hb1, ⟨hsg, rfl⟩ | ⟨hsg, g, cp, rfl, hI⟩⟩
  · have HN := Lib.hid (Sd.s_no t (Sd.sok_no_good (us := us) (by rw [hl]; exact hsg)))
    have hcon := specSharedKey_any none 0 0 [] w1 ⟨rfl, fun h => absurd h (by omega)⟩
    obtain ⟨n1, n2⟩ := Sd.no_room (ks := []) (by simp)
    rw [n1, n2] at hcon
    have HX1 := HX0.below hb1
    have hc1 := below_after hb0 hb1
    clear n1 n2 hsg h h0 HX0 hb0 hb1
    go_wp2_with fail
    refine hcon.mono ?_
    rintro e2 w2 ⟨rfl, hb2⟩
    have HX2 := HX1.below hb2
    have hc2 := below_after hc1 hb2
    clear hc1 hb2 HX1 hcon
    obtain ⟨z0, z1⟩ := Bk.c2 HX2
    obtain ⟨f0, f1⟩ := HX2.f2
    have HX3 := Bk.store2 HX2 (.int .i64 0) (.int .i64 0)
    have hc3 := below_store2 hc2 w.heap.size (by omega) (.int .i64 0) (.int .i64 0)
    clear HX2 hc2
    go_wp2
    refine bodyPost_ret (results_cell_row2 (P := Try.prog) rfl _ _ w.heap.size 32 _ (0, 0) _ rfl HX3.held Try.underlying32 rfl (by kernel_rfl)) rfl ?_
    exact ⟨by rw [HN.out.1, HN.out.2.1, HN.out.2.2]; rfl, hc3⟩
  have hsgl : Sd.sgood us us.length = true := by rw [hl]; exact hsg
  have hcon := specSharedKey_any (some ⟨g, 0, none⟩) len cp (Sd.keys us) w1 hI
  have hse := Sd.sok_eq hsgl
  cases hok : Sd.ok (Sd.keys us)
  · have HN := Lib.hid (Sd.s_no t (hse.trans hok))
    rw [hok, Sd.res_no hok] at hcon
    have HX1 := HX0.below hb1
    have hc1 := below_after hb0 hb1
    clear hsg hsgl hse hok h h0 HX0 hb0 hb1 hI
    go_wp2_with fail
    refine hcon.mono ?_
    rintro e2 w2 ⟨rfl, hb2⟩
    have HX2 := HX1.below hb2
    have hc2 := below_after hc1 hb2
    clear hc1 hb2 HX1 hcon
    obtain ⟨z0, z1⟩ := Bk.c2 HX2
    obtain ⟨f0, f1⟩ := HX2.f2
    have HX3 := Bk.store2 HX2 (.int .i64 0) (.int .i64 0)
    have hc3 := below_store2 hc2 w.heap.size (by omega) (.int .i64 0) (.int .i64 0)
    clear HX2 hc2
    go_wp2
    refine bodyPost_ret (results_cell_row2 (P := Try.prog) rfl _ _ w.heap.size 32 _ (0, 0) _ rfl HX3.held Try.underlying32 rfl (by kernel_rfl)) rfl ?_
    exact ⟨by rw [HN.out.1, HN.out.2.1, HN.out.2.2]; rfl, hc3⟩
  · obtain ⟨s1, s2⟩ := Sd.s_yes t (hse.trans hok)
    have HN : Hid (Sd.sok us = true ∧ Sd.s0 us t = Sd.sr us t ∧ Sd.s1 us t = Sd.ss us t) := Lib.hid ⟨hse.trans hok, s1, s2⟩
    have h8 : len ≤ 8 := by have := (Sd.room_bd hok).2; rw [Sd.keys_len] at this; omega
    rw [hok, Sd.res_yes hok] at hcon
    obtain ⟨kb0, kb1⟩ := Gr.E_bd ((Sg.kok_iff _).mp (Sd.key_kok hok)).1
    have HSC : Hid (Sd.sc us t = Sg.ch (Sd.sr us t) (Sd.key (Sd.keys us)) t) := Lib.hid rfl
    obtain ⟨K, HK⟩ : ∃ K, Hid (Sd.key (Sd.keys us) = K) := ⟨_, Lib.hid rfl⟩
    rw [HK.out] at hcon kb0 kb1 HSC
    have HX1 := HX0.below hb1
    have hc1 := below_after hb0 hb1
    have hu1 := h0.below hb1
    have HSG := Lib.hid hsgl
    have HKB : Hid (∀ j, j < len → 0 ≤ (Sd.keys us).getD j 0 ∧ (Sd.keys us).getD j 0 < 2147483579) := Lib.hid fun j hj => Sd.keys_bd hsgl j (by omega)
    have HUB : Hid (∀ j, j < len → 1 ≤ us.getD j 0 ∧ us.getD j 0 < 1073741789) := Lib.hid fun j hj => (Gr.sok_iff _).mp (Sd.sgood_at us _ hsgl j (by omega))
    clear hsg hsgl hse hok h h0 HX0 hb0 hb1 s1 s2 HK
    go_wp2_with fail
    refine hcon.mono ?_
    rintro e2 w2 ⟨rfl, hb2⟩
    have HX2 := HX1.below hb2
    have hc2 := below_after hc1 hb2
    have hu2 := hu1.below hb2
    have hI2 := hI.below hb2
    clear hc1 hb2 HX1 hcon hu1 hI
    go_wp2
    go_loopw [10, 11] (fun r i wr => ∃ k : Nat, k ≤ len ∧ i = .int .i64 (k : Int) ∧ r = .int .i64 (Sd.rp us t k) ∧ Below w2.heap.size w2 wr)
      (fun _ i _ => len - (intOf i).toNat)
    case atStart => exact ⟨0, by omega, rfl, rfl, Below.refl _ _⟩
    case round =>
      obtain ⟨k, hk1, rfl, rfl, hbel⟩ := hrel
      by_cases hlt : k < len
      · obtain ⟨ba, offa, rfl, hba, hca⟩ := (hu2.below hbel).2 (by omega)
        have c0 := hca k hlt
        obtain ⟨v0, v1⟩ := HUB.out k hlt
        have HR : Hid (Sd.rp us t (k + 1) = Sd.rp us t k * Sg.gp (Sg.no (us.getD k 0) t) % 2147483579) := Lib.hid rfl
        obtain ⟨p0, p1⟩ := Sd.rp_bd us t k
        obtain ⟨P, HP⟩ : ∃ P, Hid (Sd.rp us t k = P) := ⟨_, Lib.hid rfl⟩
        rw [HP.out] at p0 p1 HR ⊢
        obtain ⟨V, HV⟩ : ∃ V, Hid (us.getD k 0 = V) := ⟨_, Lib.hid rfl⟩
        rw [HV.out] at c0 v0 v1 HR
        obtain ⟨n0, n1⟩ := Sg.no_bd V t
        have hconN := fun W => l5Nonce_any V t W (by omega) (by omega) ht
        obtain ⟨N, HNN⟩ : ∃ N, Hid (Sg.no V t = N) := ⟨_, Lib.hid rfl⟩
        rw [HNN.out] at n0 n1 HR hconN
        have hconB : ∀ W, Calls Try.prog 41 #[.int .i64 N] W fun x w' => x = .returned (.int .i64 (Sg.gp N)) ∧ w' = W := fun W => l4Base_any N W (by omega)
        obtain ⟨q0, q1⟩ : 0 ≤ Sg.gp N ∧ Sg.gp N < 2147483579 := Gr.pw_bd 2147483579 4 N (by decide)
        obtain ⟨G, HG⟩ : ∃ G, Hid (Sg.gp N = G) := ⟨_, Lib.hid rfl⟩
        rw [HG.out] at HR hconB q0 q1
        have hconM := fun W => l4Mul_any P G W p0 p1 q0 q1
        rw [← HR.out] at hconM
        obtain ⟨M, HM⟩ : ∃ M, Hid (Sd.rp us t (k + 1) = M) := ⟨_, Lib.hid rfl⟩
        rw [HM.out] at hconM
        clear hca HP HV HNN HG HR HN HSC HKB HUB HSG hu2 hI2 HX2
        go_wp2_with fail
        refine (hconN _).mono ?_
        rintro e3 w3 ⟨rfl, hb3⟩
        have hc3 := below_after hbel hb3
        go_wp2_with fail
        refine (hconB _).mono ?_
        rintro e4 w4 ⟨rfl, h4⟩
        subst h4
        go_wp2_with fail
        refine (hconM _).mono ?_
        rintro e5 w5 ⟨rfl, h5⟩
        subst h5
        go_wp2
        go_roundw
        case rel => exact ⟨k + 1, by omega, by simp, by rw [HM.out], hc3⟩
        case measure => simp [intOf]; omega
      · have hk2 : k = len := by omega
        subst hk2
        have hRP : Sd.rp us t k = Sd.sr us t := by rw [Sd.rp_eq, ← hl]; rfl
        rw [hRP]
        obtain ⟨r0, r1⟩ : 0 ≤ Sd.sr us t ∧ Sd.sr us t < 2147483579 := by rw [← hRP]; exact Sd.rp_bd us t k
        have hconC := fun W => l5Challenge_any (Sd.sr us t) K t W r0 (by omega) (by omega) (by omega) ht
        rw [← HSC.out] at hconC
        have HSS : Hid (Sd.sm us t (Sd.sc us t) k = Sd.ss us t) := Lib.hid (by rw [Sd.sm_eq, ← hl]; rfl)
        obtain ⟨x0, x1⟩ : 0 ≤ Sd.sc us t ∧ Sd.sc us t < 1073741789 := Sg.ch_bd _ _ _
        obtain ⟨C, HC⟩ : ∃ C, Hid (Sd.sc us t = C) := ⟨_, Lib.hid rfl⟩
        obtain ⟨R, HR⟩ : ∃ R, Hid (Sd.sr us t = R) := ⟨_, Lib.hid rfl⟩
        rw [HC.out] at hconC x0 x1 HSS
        rw [HR.out] at hconC HN ⊢
        have HX3 := HX2.below hbel
        have hc3 := below_after hc2 hbel
        have hu3 := hu2.below hbel
        have hI3 := hI2.below hbel
        clear HX2 hc2 hu2 hI2 hbel HSC HC HR hRP r0 r1 kb0 kb1
        go_wp2_with fail
        refine (hconC _).mono ?_
        rintro e4 w4 ⟨rfl, hb4⟩
        have HX4 := HX3.below hb4
        have hc4 := below_after hc3 hb4
        have hu4 := hu3.below hb4
        have hI4 := hI3.below hb4
        clear HX3 hc3 hu3 hI3 hb4 hconC
        go_wp2
        go_loopw [13, 14] (fun s i wr => ∃ j : Nat, j ≤ k ∧ i = .int .i64 (j : Int) ∧ s = .int .i64 (Sd.sm us t C j) ∧ Below w4.heap.size w4 wr)
          (fun _ i _ => k - (intOf i).toNat)
        case atStart => exact ⟨0, by omega, rfl, rfl, Below.refl _ _⟩
        case round =>
          obtain ⟨j, hj1, rfl, rfl, hbel⟩ := hrel
          by_cases hlj : j < k
          · have hIr := hI4.below hbel
            have hconW := l7Weight_any (some ⟨g, 0, none⟩) k cp (Sd.keys us) j _ (show IR (World.drew _) _ _ _ from ⟨hIr.1, hIr.2⟩) hlj h8 HKB.out
            obtain ⟨ba, offa, rfl, hba, hca⟩ := (hu4.below hbel).2 (by omega)
            have c0 := hca j hlj
            obtain ⟨v0, v1⟩ := HUB.out j hlj
            have HM : Hid (Sd.sm us t C (j + 1) = (Sd.sm us t C j + Sg.no (us.getD j 0) t + C * Sd.wt (Sd.keys us) j % 1073741789 * us.getD j 0 % 1073741789) % 1073741789) := Lib.hid rfl
            obtain ⟨p0, p1⟩ := Sd.sm_bd us t C j
            obtain ⟨P, HP⟩ : ∃ P, Hid (Sd.sm us t C j = P) := ⟨_, Lib.hid rfl⟩
            rw [HP.out] at p0 p1 HM ⊢
            obtain ⟨V, HV⟩ : ∃ V, Hid (us.getD j 0 = V) := ⟨_, Lib.hid rfl⟩
            rw [HV.out] at c0 v0 v1 HM
            obtain ⟨u0, u1⟩ := Sd.wt_bd (Sd.keys us) j
            obtain ⟨U, HU⟩ : ∃ U, Hid (Sd.wt (Sd.keys us) j = U) := ⟨_, Lib.hid rfl⟩
            rw [HU.out] at u0 u1 HM hconW
            obtain ⟨m0, m1⟩ := Gr.mul_bd C U 1073741789 x0 x1 (by omega) (by omega) (by omega)
            have k1 : IntKind.i64.wrap (C * U) = C * U := IntWalk.i64_in _ (by omega)
            have k2 : Int.tmod (C * U) 1073741789 = C * U % 1073741789 := Int.tmod_eq_emod_of_nonneg (by omega)
            have k3 : IntKind.i64.wrap (C * U % 1073741789) = C * U % 1073741789 := IntWalk.i64_in _ (by omega)
            have e0 := Int.emod_nonneg (C * U) (show (1073741789 : Int) ≠ 0 by decide)
            have e1 := Int.emod_lt_of_pos (C * U) (show (0 : Int) < 1073741789 by decide)
            obtain ⟨E, HE⟩ : ∃ E, Hid (C * U % 1073741789 = E) := ⟨_, Lib.hid rfl⟩
            rw [HE.out] at k2 k3 e0 e1 HM
            obtain ⟨m2, m3⟩ := Gr.mul_bd E V 1073741789 e0 e1 (by omega) (by omega) (by omega)
            have k4 : IntKind.i64.wrap (E * V) = E * V := IntWalk.i64_in _ (by omega)
            have k5 : Int.tmod (E * V) 1073741789 = E * V % 1073741789 := Int.tmod_eq_emod_of_nonneg (by omega)
            have e2 := Int.emod_nonneg (E * V) (show (1073741789 : Int) ≠ 0 by decide)
            have e3 := Int.emod_lt_of_pos (E * V) (show (0 : Int) < 1073741789 by decide)
            have k6 : IntKind.i64.wrap (E * V % 1073741789) = E * V % 1073741789 := IntWalk.i64_in _ (by omega)
            obtain ⟨F, HF⟩ : ∃ F, Hid (E * V % 1073741789 = F) := ⟨_, Lib.hid rfl⟩
            rw [HF.out] at k5 k6 e2 e3 HM
            obtain ⟨n0, n1⟩ := Sg.no_bd V t
            have hconN := fun W => l5Nonce_any V t W (by omega) (by omega) ht
            obtain ⟨N, HNN⟩ : ∃ N, Hid (Sg.no V t = N) := ⟨_, Lib.hid rfl⟩
            rw [HNN.out] at n0 n1 HM hconN
            have hS0 : wr.drew.cell? ⟨ba, offa + j, none⟩ = some (.int .i64 V) := c0
            have hbd : ∀ W, Below wr.drew.heap.size wr.drew W → W.cell? ⟨ba, offa + j, none⟩ = some (.int .i64 V) := fun W hb => (hb.cell hba).trans hS0
            have hbe : ∀ W, Below wr.drew.heap.size wr.drew W → Below w4.heap.size w4 W := fun W hb => below_after hbel.drew hb
            clear hca HP HV HU HE HF HNN HN HKB HUB HSG hu4 hI4 HX4 hIr HSS hbel
            go_wp2
            go_region_held3 (fun W => W.cell? ⟨ba, offa + j, none⟩ = some (.int .i64 V)) (first | with_reducible exact hS0 | with_reducible exact hS1)
              (first | (go_at_call 44; refine hconW.mono ?_; rintro e5 w5 ⟨rfl, hb5⟩; have hS1 := hbd _ hb5; have hc5 := hbe _ hb5))
            all_goals
              go_wp2_with fail
              refine (hconN _).mono ?_
              rintro e6 w6 ⟨rfl, hb6⟩
              have hc6 := below_after hc5 hb6
              go_wp2
              go_roundw
              case rel => exact ⟨j + 1, by omega, by simp, by rw [HM.out], hc6⟩
              case measure => simp [intOf]; omega
          · have hk2 : j = k := by omega
            subst hk2
            have HX5 := HX4.below hbel
            have hc5 := below_after hc4 hbel
            obtain ⟨z0, z1⟩ := Bk.c2 HX5
            obtain ⟨f0, f1⟩ := HX5.f2
            rw [HSS.out]
            obtain ⟨S, HS⟩ : ∃ S, Hid (Sd.ss us t = S) := ⟨_, Lib.hid rfl⟩
            rw [HS.out] at HN ⊢
            have HX6 := Bk.store2 HX5 (.int .i64 R) (.int .i64 S)
            have hc6 := below_store2 hc5 w.heap.size (by omega) (.int .i64 R) (.int .i64 S)
            clear HX5 HX4 hc5 hc4 hu4 hI4 hbel HKB HUB HSG HSS
            go_wp2
            refine bodyPost_ret (results_cell_row2 (P := Try.prog) rfl _ _ w.heap.size 32 _ (0, 0) _ rfl HX6.held Try.underlying32 rfl (by kernel_rfl)) rfl ?_
            exact ⟨by rw [HN.out.1, HN.out.2.1, HN.out.2.2]; rfl, hc6⟩
end Go.Proofs.Ytabihimhenhnnaa
