/-
  Contracts of chapter 7: shared keys; of the model.
-/
import Derived.Test.YtabihimhenhnnaaSp
import Derived.Test.YtabihimhenhnnaaSj
import Derived.Test.YtabihimhenhnnaaIl
namespace Go.Proofs.Ytabihimhenhnnaa
open Go.RowKit

theorem Sd.addS (S : ByteArray) (hS : S.size ≤ 1048576) (d : Int) (W : World) : (Op.stringOp .add S (Dg.bytes d)).run Try.prog W = .ok (.string (S ++ Dg.bytes d)) W :=
  run_string_add_sum (P := Try.prog) W _ _ (by rw [Dg.bytes_size]; omega)
theorem Sd.text_size (ks : List Int) : ∀ j, (Sd.text ks j).size = 6 + 4 * j := by
  intro j
  induction j with
  | zero => rfl
  | succ j ih => unfold Sd.text; rw [ByteArray.size_append, Dg.bytes_size, ih]; omega
theorem Sd.no_room {ks : List Int} (h : ¬ (1 ≤ ks.length ∧ ks.length ≤ 8)) : Sd.ok ks = false ∧ Sd.res ks = 0 := by
  have h1 : Sd.room ks.length = false := by unfold Sd.room; simp; omega
  have h2 : Sd.ok ks = false := by unfold Sd.ok; rw [h1, Bool.false_and, Bool.false_and]
  exact ⟨h2, by unfold Sd.res; rw [h2]; rfl⟩
theorem Sd.no_good {ks : List Int} (h : Sd.good ks ks.length = false) : Sd.ok ks = false ∧ Sd.res ks = 0 := by
  have h2 : Sd.ok ks = false := by unfold Sd.ok; rw [h, Bool.and_false, Bool.false_and]
  exact ⟨h2, by unfold Sd.res; rw [h2]; rfl⟩
theorem Sd.no_one {ks : List Int} (h : Sd.key ks = 1) : Sd.ok ks = false ∧ Sd.res ks = 0 := by
  have h2 : Sd.ok ks = false := by unfold Sd.ok; rw [h, show ((1 : Int) == 1) = true from rfl, Bool.not_true, Bool.and_false]
  exact ⟨h2, by unfold Sd.res; rw [h2]; rfl⟩
theorem Sd.yes {ks : List Int} (h0 : 1 ≤ ks.length ∧ ks.length ≤ 8) (h1 : Sd.good ks ks.length = true) (h2 : ¬ Sd.key ks = 1) : Sd.ok ks = true ∧ Sd.res ks = Sd.key ks := by
  have h3 : Sd.ok ks = true := by
    unfold Sd.ok Sd.room
    simp [h0.1, h0.2, h1, h2]
  exact ⟨h3, by unfold Sd.res; rw [h3]; rfl⟩
theorem Sd.kok_bd {ks : List Int} (h : Sd.good ks ks.length = true) (j : Nat) (hj : j < ks.length) : 0 ≤ ks.getD j 0 ∧ ks.getD j 0 < 2147483579 := by
  have := ((Sg.kok_iff _).mp (Sd.good_at ks _ h j hj)).1
  have h1 := this.pos
  have h2 := this.lt
  omega
set_option maxRecDepth 100000 in
set_option maxHeartbeats 800000 in
theorem l7Weight_any (a : Option Addr) (len cap : Nat) (ks : List Int) (i : Nat) (w : World) (h : IR w a len ks) (hi : i < len) (h8 : len ≤ 8) (hk : ∀ j, j < len → 0 ≤ ks.getD j 0 ∧ ks.getD j 0 < 2147483579) :
    Calls Try.prog 44 #[.slice a len cap, .int .i64 (i : Int)] w fun e w' => e = .returned (.int .i64 (Sd.wt ks i)) ∧ Below w.heap.size w w' := by
  have hl := h.1
  go_enter Try.func44, Try.ntmps44
  go_wp2
  go_loopw [5, 6] (fun s i wr => ∃ k : Nat, k ≤ len ∧ i = .int .i64 (k : Int) ∧ s = .string (Sd.text ks k) ∧ Below w.heap.size w wr)
    (fun _ i _ => len - (intOf i).toNat)
  case atStart => exact ⟨0, by omega, rfl, rfl, Below.refl _ _⟩
  case round =>
    obtain ⟨k, hk1, rfl, rfl, hbel⟩ := hrel
    have hts := Sd.text_size ks k
    by_cases hlt : k < len
    · obtain ⟨ba, offa, rfl, hba, hca⟩ := (h.below hbel).2 (by omega)
      have c0 := hca k hlt
      obtain ⟨v0, v1⟩ := hk k hlt
      have hadd := Sd.addS (Sd.text ks k) (by omega) (ks.getD k 0)
      obtain ⟨N, HN⟩ : ∃ N, Hid (Sd.text ks k ++ Dg.bytes (ks.getD k 0) = N) := ⟨_, Lib.hid rfl⟩
      have HN2 : Hid (Sd.text ks (k + 1) = N) := Lib.hid HN.out
      obtain ⟨V, HV⟩ : ∃ V, Hid (ks.getD k 0 = V) := ⟨_, Lib.hid rfl⟩
      obtain ⟨T, HT⟩ : ∃ T, Hid (Sd.text ks k = T) := ⟨_, Lib.hid rfl⟩
      rw [HN.out, HT.out, HV.out] at hadd
      rw [HV.out] at c0 v0 v1
      rw [HT.out]
      clear hca h hk hts HN HV HT
      go_wp2_with fail
      refine (l2Bytes_any V _ (by omega) (by omega)).mono ?_
      rintro e1 w1 ⟨rfl, hb1⟩
      have hc1 := below_after hbel hb1
      go_wp2
      go_roundw
      case rel => exact ⟨k + 1, by omega, by simp, by rw [HN2.out], hc1⟩
      case measure => simp [intOf]; omega
    · have hk2 : k = len := by omega
      subst hk2
      obtain ⟨ba, offa, rfl, hba, hca⟩ := (h.below hbel).2 (by omega)
      have c0 := hca i hi
      obtain ⟨v0, v1⟩ := hk i hi
      have hadd := Sd.addS (Sd.text ks k) (by omega) (ks.getD i 0)
      have hsz : (Sd.text ks k ++ Dg.bytes (ks.getD i 0)).size ≤ 9223372036854775807 := by rw [ByteArray.size_append, Dg.bytes_size]; omega
      have HW : Hid (Sd.wt ks i = 1 + Dg.of (Sd.text ks k ++ Dg.bytes (ks.getD i 0)) % 1073741788) := Lib.hid (by unfold Sd.wt; rw [hl])
      obtain ⟨N, HN⟩ : ∃ N, Hid (Sd.text ks k ++ Dg.bytes (ks.getD i 0) = N) := ⟨_, Lib.hid rfl⟩
      obtain ⟨V, HV⟩ : ∃ V, Hid (ks.getD i 0 = V) := ⟨_, Lib.hid rfl⟩
      obtain ⟨T, HT⟩ : ∃ T, Hid (Sd.text ks k = T) := ⟨_, Lib.hid rfl⟩
      rw [HN.out] at hadd hsz HW
      rw [HT.out, HV.out] at hadd
      rw [HV.out] at c0 v0 v1
      rw [HT.out]
      obtain ⟨d0, d1⟩ := Dg.of_bd N
      obtain ⟨D, HD⟩ : ∃ D, Hid (Dg.of N = D) := ⟨_, Lib.hid rfl⟩
      rw [HD.out] at d0 d1 HW
      clear hca h hk hts HN HV HT hl
      go_wp2_with fail
      refine (l2Bytes_any V _ (by omega) (by omega)).mono ?_
      rintro e1 w1 ⟨rfl, hb1⟩
      have hc1 := below_after hbel hb1
      go_wp2_with fail
      refine (specDigest_any N _ hsz).mono ?_
      rw [HD.out]
      rintro e2 w2 ⟨rfl, hb2⟩
      have hc2 := below_after hc1 hb2
      clear hb1 hb2 hc1 hbel
      go_wp2
      go_ret
      exact ⟨by rw [HW.out]; rfl, hc2⟩
set_option maxRecDepth 100000 in
set_option maxHeartbeats 800000 in
theorem l7Key_any (a : Option Addr) (len cap : Nat) (ks : List Int) (w : World) (h : IR w a len ks) (h8 : len ≤ 8) (hk : ∀ j, j < len → 0 ≤ ks.getD j 0 ∧ ks.getD j 0 < 2147483579) :
    Calls Try.prog 26 #[.slice a len cap] w fun e w' => e = .returned (.int .i64 (Sd.key ks)) ∧ Below w.heap.size w w' := by
  have hl := h.1
  go_enter Try.func26, Try.ntmps26
  go_wp2
  go_loopw [3, 4] (fun s i wr => ∃ k : Nat, k ≤ len ∧ i = .int .i64 (k : Int) ∧ s = .int .i64 (Sd.prod ks k) ∧ Below w.heap.size w wr)
    (fun _ i _ => len - (intOf i).toNat)
  case atStart => exact ⟨0, by omega, rfl, rfl, Below.refl _ _⟩
  case round =>
    obtain ⟨k, hk1, rfl, rfl, hbel⟩ := hrel
    by_cases hlt : k < len
    · have h1 := h.below hbel
      have hcon1 := l7Weight_any a len cap ks k wr.drew ⟨h1.1, h1.2⟩ hlt h8 hk
      obtain ⟨ba, offa, rfl, hba, hca⟩ := h1.2 (by omega)
      have c0 := hca k hlt
      obtain ⟨v0, v1⟩ := hk k hlt
      obtain ⟨p0, p1⟩ := Sd.prod_bd ks k
      have HP2 : Hid (Sd.prod ks (k + 1) = Sd.prod ks k * Gr.pw 2147483579 (ks.getD k 0) (Sd.wt ks k) % 2147483579) := Lib.hid rfl
      obtain ⟨wt0, wt1⟩ := Sd.wt_bd ks k
      have hcon2 := fun W => l4Exp_any (ks.getD k 0) (Sd.wt ks k) W v0 v1 (by omega)
      have q0 := Gr.pw_bd 2147483579 (ks.getD k 0) (Sd.wt ks k) (by decide)
      obtain ⟨G, HG⟩ : ∃ G, Hid (Gr.pw 2147483579 (ks.getD k 0) (Sd.wt ks k) = G) := ⟨_, Lib.hid rfl⟩
      rw [HG.out] at HP2 hcon2 q0
      have hcon3 := fun W => l4Mul_any (Sd.prod ks k) G W p0 p1 q0.1 q0.2
      obtain ⟨P, HP⟩ : ∃ P, Hid (Sd.prod ks k = P) := ⟨_, Lib.hid rfl⟩
      rw [HP.out] at HP2 hcon3 ⊢
      obtain ⟨V, HV⟩ : ∃ V, Hid (ks.getD k 0 = V) := ⟨_, Lib.hid rfl⟩
      rw [HV.out] at hcon2 c0
      obtain ⟨U, HU⟩ : ∃ U, Hid (Sd.wt ks k = U) := ⟨_, Lib.hid rfl⟩
      rw [HU.out] at hcon2 hcon1
      obtain ⟨M, HM⟩ : ∃ M, Hid (P * G % 2147483579 = M) := ⟨_, Lib.hid rfl⟩
      rw [HM.out] at HP2 hcon3
      have hS0 : wr.drew.cell? ⟨ba, offa + k, none⟩ = some (.int .i64 V) := c0
      have hbd : ∀ w1, Below wr.drew.heap.size wr.drew w1 → w1.cell? ⟨ba, offa + k, none⟩ = some (.int .i64 V) := fun w1 hb => (hb.cell hba).trans hS0
      have hbe : ∀ w1, Below wr.drew.heap.size wr.drew w1 → Below w.heap.size w w1 := fun w1 hb => below_after hbel.drew hb
      clear hca h h1 hk v0 v1 p0 p1 wt0 wt1 q0 HG HP HV HU HM
      go_wp2
      go_region_held3 (fun W => W.cell? ⟨ba, offa + k, none⟩ = some (.int .i64 V)) (first | with_reducible exact hS0 | with_reducible exact hS1)
        (first
          | (go_at_call 44; refine hcon1.mono ?_; rintro e1 w1 ⟨rfl, hb1⟩; have hS1 := hbd _ hb1; have hc1 := hbe _ hb1)
          | (go_at_call 55; refine (hcon2 w1).mono ?_; rintro e2 w2 ⟨rfl, h2⟩; subst h2)
          | (go_at_call 40; refine (hcon3 _).mono ?_; rintro e3 w3 ⟨rfl, h3⟩; subst h3))
      all_goals
        go_wp2
        go_roundw
        case rel => exact ⟨k + 1, by omega, by simp, by rw [HP2.out], hc1⟩
        case measure => simp [intOf]; omega
    · have hk2 : k = len := by omega
      subst hk2
      have HK : Hid (Sd.key ks = Sd.prod ks k) := Lib.hid (by unfold Sd.key; rw [hl])
      clear h hk hl
      go_wp2
      go_ret
      exact ⟨by rw [HK.out]; rfl, hbel⟩
set_option maxRecDepth 100000 in
set_option maxHeartbeats 800000 in
theorem specSharedKey_any (a : Option Addr) (len cap : Nat) (ks : List Int) (w : World) (h : IR w a len ks) :
    Calls Try.prog 9 #[.slice a len cap] w fun e w' => e = .returned (.tuple #[.int .i64 (Sd.res ks), .bool (Sd.ok ks)]) ∧ Below w.heap.size w w' := by
  have hl := h.1
  by_cases hr : ¬ (1 ≤ len ∧ len ≤ 8)
  · obtain ⟨n1, n2⟩ := Sd.no_room (ks := ks) (by omega)
    have HT : Hid ((decide ((1 : Int) ≤ (len : Int)) && decide ((len : Int) ≤ 8)) = false) := Lib.hid (by simp; omega)
    rw [n1, n2]
    clear hr h
    go_enter Try.func9, Try.ntmps9
    go_wp2_with fail
    refine (l6In_any (len : Int) 1 8 _).mono ?_
    rw [HT.out]
    rintro e1 w1 ⟨rfl, rfl⟩
    go_wp2
    go_ret2
    exact ⟨rfl, Below.refl _ _⟩
  replace hr := Decidable.not_not.mp hr
  have HT : Hid ((decide ((1 : Int) ≤ (len : Int)) && decide ((len : Int) ≤ 8)) = true) := Lib.hid (by simp; omega)
  go_enter Try.func9, Try.ntmps9
  go_wp2_with fail
  refine (l6In_any (len : Int) 1 8 _).mono ?_
  rw [HT.out]
  rintro e1 w1 ⟨rfl, rfl⟩
  go_wp2
  go_loopw [4] (fun i wr => ∃ k : Nat, k ≤ len ∧ i = .int .i64 (k : Int) ∧ Hid (Sd.good ks k = true) ∧ Below w.heap.size w wr)
    (fun i _ => len - (intOf i).toNat)
  case atStart => exact ⟨0, by omega, rfl, Lib.hid rfl, Below.refl _ _⟩
  case round =>
    obtain ⟨k, hk1, rfl, hgd, hbel⟩ := hrel
    by_cases hlt : k < len
    · obtain ⟨ba, offa, rfl, hba, hca⟩ := (h.below hbel).2 (by omega)
      have c0 := hca k hlt
      have HG : Hid (Sd.good ks (k + 1) = Gr.kok (ks.getD k 0)) := Lib.hid (by show (Sd.good ks k && _) = _; rw [hgd.out, Bool.true_and])
      have hno : Gr.kok (ks.getD k 0) = false → Hid (Sd.ok ks = false ∧ Sd.res ks = 0) := fun hf => Lib.hid (Sd.no_good (Sd.good_no ks k hf _ (by omega)))
      obtain ⟨V, HV⟩ : ∃ V, Hid (ks.getD k 0 = V) := ⟨_, Lib.hid rfl⟩
      rw [HV.out] at c0 HG hno
      have hcon := specKeyOk_any V
      cases hkk : Gr.kok V
      · have HN := hno hkk
        rw [hkk] at hcon
        clear hca h hno HV hkk HG
        go_wp2_with fail
        refine (hcon _).mono ?_
        rintro e2 w2 ⟨rfl, rfl⟩
        go_wp2
        go_ret2
        exact ⟨by rw [HN.out.1, HN.out.2]; rfl, hbel⟩
      · rw [hkk] at hcon HG
        clear hca h hno HV hkk
        go_wp2_with fail
        refine (hcon _).mono ?_
        rintro e2 w2 ⟨rfl, rfl⟩
        go_wp2
        go_roundw
        case rel => exact ⟨k + 1, by omega, by simp, Lib.hid HG.out, hbel⟩
        case measure => simp [intOf]; omega
    · have hk2 : k = len := by omega
      subst hk2
      have hg2 : Sd.good ks ks.length = true := by rw [hl]; exact hgd.out
      have hcon := l7Key_any a k cap ks wr (h.below hbel) hr.2 (fun j hj => Sd.kok_bd hg2 j (by omega))
      by_cases h1 : Sd.key ks = 1
      · obtain ⟨n1, n2⟩ := Sd.no_one h1
        have HN : Hid (Sd.ok ks = false ∧ Sd.res ks = 0) := Lib.hid ⟨n1, n2⟩
        rw [h1] at hcon
        clear h hgd hg2 n1 n2 h1
        go_wp2_with fail
        refine hcon.mono ?_
        rintro e2 w2 ⟨rfl, hb2⟩
        have hc2 := below_after hbel hb2
        clear hb2
        go_wp2
        go_ret2
        exact ⟨by rw [HN.out.1, HN.out.2]; rfl, hc2⟩
      · obtain ⟨n1, n2⟩ := Sd.yes (by omega) hg2 h1
        have HN : Hid (Sd.ok ks = true ∧ Sd.res ks = Sd.key ks) := Lib.hid ⟨n1, n2⟩
        obtain ⟨K, HK⟩ : ∃ K, Hid (Sd.key ks = K) := ⟨_, Lib.hid rfl⟩
        rw [HK.out] at h1 hcon HN
        have hd : decide (K = 1) = false := by simp [h1]
        have he : (K == 1) = false := by simp [h1]
        clear h hgd hg2 n1 n2 HK
        go_wp2_with fail
        refine hcon.mono ?_
        rintro e2 w2 ⟨rfl, hb2⟩
        have hc2 := below_after hbel hb2
        clear hb2
        go_wp2
        go_ret2
        exact ⟨by rw [HN.out.1, HN.out.2]; rfl, hc2⟩
end Go.Proofs.Ytabihimhenhnnaa
