/-
  Contracts of the model's chapter 3: peaks added, their root; collisions.
-/
import Derived.Test.YtdgepneaeieogacMu
namespace Go.Proofs.Ytdgepneaeieogac
open Go.RowKit

set_option maxHeartbeats 800000 in
theorem l3Ones_any (n : Nat) (w : World) (h : n ≤ 1000000) :
    Calls Try.prog 32 #[.int .i64 (n : Int)] w fun e w' => e = .returned (.int .i64 (Me.ones n : Int)) ∧ w' = w := by
  obtain ⟨T, HT⟩ : ∃ T, Hid (Me.ones n = T) := ⟨_, Lib.hid rfl⟩
  rw [HT.out]
  go_enter Try.func32, Try.ntmps32
  go_wp2
  go_loopw [0, 3] (fun v k wr => ∃ m q : Nat, v = .int .i64 (m : Int) ∧ k = .int .i64 (q : Int) ∧ m ≤ n ∧ q + m ≤ n ∧ q + Me.ones m = T ∧ wr = w)
    (fun v _ _ => (intOf v).toNat)
  case atStart => exact ⟨n, 0, rfl, rfl, by omega, by omega, by rw [← HT.out]; omega, rfl⟩
  case round =>
    obtain ⟨m, q, rfl, rfl, hm, hqm, hT, hw⟩ := hrel
    subst hw
    by_cases h0 : 0 < m
    · have h1 := Me.ones_pos h0
      have HX : Hid (q + m % 2 + Me.ones (m / 2) = T) := Lib.hid (by omega)
      clear h1 hT
      go_wp2
      go_roundw
      case rel => exact ⟨m / 2, q + m % 2, by simp, by simp, by omega, by omega, HX.out, trivial⟩
      case measure => simp [intOf]; omega
    · have : m = 0 := by omega
      subst this
      have HX : Hid (q = T) := Lib.hid (by rw [Me.ones_zero] at hT; exact hT)
      clear hT
      go_wp2
      go_ret
      exact ⟨by rw [HX.out]; rfl, rfl⟩

theorem Me.fold_bd {p : List Int} (h : Me.digests p) (hne : p ≠ []) : 0 ≤ Me.fold p ∧ Me.fold p ≤ 4294967295 := by
  match p, hne with
  | [d], _ => exact h d (by simp)
  | d :: e :: r, _ => exact Dg.of_bd _
theorem Me.fold_drop {p : List Int} {j : Nat} (h : j + 1 < p.length) : Me.fold (p.drop j) = Dg.of (Dg.pair (p.getD j 0) (Me.fold (p.drop (j + 1)))) := by
  have hd : p.drop j = p[j]'(by omega) :: p.drop (j + 1) := List.drop_eq_getElem_cons (by omega)
  rw [hd, Me.fold_cons (by
    intro he
    have := congrArg List.length he
    rw [List.length_drop] at this
    simp at this
    omega), List.getD_eq_getElem?_getD, List.getElem?_eq_getElem (by omega)]
  rfl
theorem Me.fold_last {p : List Int} {j : Nat} (h : j + 1 = p.length) : Me.fold (p.drop j) = p.getD j 0 := by
  have hd : p.drop j = p[j]'(by omega) :: p.drop (j + 1) := List.drop_eq_getElem_cons (by omega)
  rw [hd, List.drop_eq_nil_of_le (by omega), List.getD_eq_getElem?_getD, List.getElem?_eq_getElem (by omega)]
  rfl
theorem Me.digests_drop {p : List Int} (h : Me.digests p) (k : Nat) : Me.digests (p.drop k) := fun d hd => h d (List.mem_of_mem_drop hd)
/-- What PeaksRoot answers. -/
def Me.prOk (p : List Int) : Prop := (1 ≤ p.length ∧ p.length ≤ 6) ∧ Me.digests p
noncomputable def Me.prA (p : List Int) : Value := open Classical in if Me.prOk p then .tuple #[.int .i64 (Me.fold p), .bool true] else .tuple #[.int .i64 0, .bool false]

set_option maxRecDepth 100000 in
set_option maxHeartbeats 1600000 in
theorem specPeaksRoot_any (a : Option Addr) (n cap : Nat) (p : List Int) (w : World) (hp : IR w a n p) (hlen : n ≤ 9223372036854775807) :
    Calls Try.prog 13 #[.slice a n cap] w fun e w' => e = .returned (Me.prA p) ∧ Below w.heap.size w w' := by
  have hl := hp.1
  by_cases h : 1 ≤ n ∧ n ≤ 6
  · have HI := Lib.hid (In.yes (n := (n : Int)) (a := 1) (b := 6) (by omega) (by omega))
    by_cases hdg : Me.digests p
    · have HA : Hid (Me.prA p = .tuple #[.int .i64 (Me.fold p), .bool true]) := Lib.hid (if_pos ⟨by omega, hdg⟩)
      rw [HA.out]
      have HDG := Lib.hid hdg
      have HP := Lib.hid hp
      obtain ⟨F, HF⟩ : ∃ F, Hid (Me.fold p = F) := ⟨_, Lib.hid rfl⟩
      rw [HF.out]
      obtain ⟨q, hqn⟩ : ∃ q, n = q + 1 := ⟨n - 1, by omega⟩
      obtain ⟨b, off, rfl, hbw, hc⟩ := hp.2 (by omega)
      have hcq := hc q (by omega)
      have hdq := hdg _ (getD_memI (zs := p) (i := q) (by omega))
      have HCC := Lib.hid hc
      have HLAST : Hid (Me.fold (p.drop q) = p.getD q 0) := Lib.hid (Me.fold_last (by omega))
      have HBD : Hid (∀ j, j ≤ q → 0 ≤ Me.fold (p.drop j) ∧ Me.fold (p.drop j) ≤ 4294967295) := Lib.hid fun j hj => Me.fold_bd (Me.digests_drop hdg j) (by
        intro he
        have := congrArg List.length he
        rw [List.length_drop] at this
        simp at this
        omega)
      obtain ⟨x0, HX0⟩ : ∃ x, Hid (p.getD q 0 = x) := ⟨_, Lib.hid rfl⟩
      rw [HX0.out] at hcq hdq HLAST
      have HQN := Lib.hid hqn
      have hq1 : (n : Int) - 1 = (q : Int) := by omega
      have hq2 : (n : Int) - 2 = (q : Int) - 1 := by omega
      have hqc : q < n := by omega
      clear hp hdg hc hqn
      go_enter Try.func13, Try.ntmps13
      go_wp2_with fail
      refine (l6In_any _ _ _ _).mono ?_
      rw [HI.out]
      rintro e w1 ⟨rfl, rfl⟩
      go_wp2_with fail
      refine (l3Digests_any _ n cap p _ HP.out (by omega)).mono ?_
      rintro e w1 ⟨b1, rfl, hb1, rfl⟩
      obtain rfl : b1 = true := hb1.2 HDG.out
      clear hb1
      go_wp2
      go_loopw [4, 5] (fun d i wr => ∃ j : Nat, j ≤ q ∧ i = .int .i64 ((j : Int) - 1) ∧ d = .int .i64 (Me.fold (p.drop j)) ∧ Below w1.heap.size w1 wr)
        (fun _ i _ => (intOf i + 1).toNat)
      case atStart => exact ⟨q, by omega, rfl, by rw [HLAST.out], Below.refl _ _⟩
      case round =>
        obtain ⟨j, hj, rfl, rfl, hbel⟩ := hrel
        by_cases h0 : j = 0
        · subst h0
          have HZ : Hid (F = Me.fold (p.drop 0)) := Lib.hid (by rw [List.drop_zero]; exact HF.out.symm)
          generalize Me.fold (p.drop 0) = G at HZ ⊢
          go_wp2
          go_ret2
          exact ⟨by rw [HZ.out]; rfl, hbel⟩
        · obtain ⟨m, rfl⟩ : ∃ m, j = m + 1 := ⟨j - 1, by omega⟩
          have hcm := HCC.out m (by have := HQN.out; omega)
          have hdm := HDG.out _ (getD_memI (zs := p) (i := m) (by have := HQN.out; omega))
          have hfd := HBD.out (m + 1) hj
          have HFD : Hid (Me.fold (p.drop m) = Dg.of (Dg.pair (p.getD m 0) (Me.fold (p.drop (m + 1))))) := Lib.hid (Me.fold_drop (by have := HQN.out; omega))
          obtain ⟨x, HX⟩ : ∃ x, Hid (p.getD m 0 = x) := ⟨_, Lib.hid rfl⟩
          obtain ⟨f, HFF⟩ : ∃ f, Hid (Me.fold (p.drop (m + 1)) = f) := ⟨_, Lib.hid rfl⟩
          rw [HX.out] at hcm hdm
          rw [HFF.out] at hfd ⊢
          rw [HX.out, HFF.out] at HFD
          have hcr : wr.cell? ⟨b, off + m, none⟩ = some (.int .i64 x) := (World.cell?_of_block (w := w1) (a := ⟨b, off + m, none⟩) (hbel.block b hbw)).trans hcm
          have e1 : ((m + 1 : Nat) : Int) - 1 = (m : Int) := by omega
          rw [e1]
          have hmn : m < n := by have := HQN.out; omega
          clear hcm hj hq1 hq2 hcq hdq e1
          go_wp2_with fail
          refine (l2Pair_any x f _ hdm.1 hdm.2 hfd.1 hfd.2).mono ?_
          rintro e w2 ⟨rfl, hb2⟩
          go_wp2_with fail
          refine (specDigest_any (Dg.pair x f) _ (by rw [Dg.pair_size]; decide)).mono ?_
          rw [← HFD.out]
          rintro e w3 ⟨rfl, hb3⟩
          have hbel3 := hbel.trans ((hb2.trans (hb3.mono hb2.size)).mono hbel.size)
          clear hbel hb2 hb3
          obtain ⟨G, HG⟩ : ∃ G, Hid (Me.fold (p.drop m) = G) := ⟨_, Lib.hid rfl⟩
          rw [HG.out]
          go_wp2
          go_roundw
          case rel => exact ⟨m, by have := HQN.out; omega, by simp, by rw [HG.out], hbel3⟩
          case measure => simp [intOf]
    · have HA : Hid (Me.prA p = .tuple #[.int .i64 0, .bool false]) := Lib.hid (if_neg fun h => hdg h.2)
      rw [HA.out]
      have HDG := Lib.hid hdg
      have HP := Lib.hid hp
      clear hp hdg
      go_enter Try.func13, Try.ntmps13
      go_wp2_with fail
      refine (l6In_any _ _ _ _).mono ?_
      rw [HI.out]
      rintro e w1 ⟨rfl, rfl⟩
      go_wp2_with fail
      refine (l3Digests_any _ n cap p _ HP.out (by omega)).mono ?_
      rintro e w1 ⟨b1, rfl, hb1, rfl⟩
      obtain rfl : b1 = false := by
        rw [Bool.eq_false_iff]
        exact fun h => HDG.out (hb1.1 h)
      clear hb1
      go_wp2
      go_ret2
      exact ⟨rfl, Below.refl _ _⟩
  · have HA : Hid (Me.prA p = .tuple #[.int .i64 0, .bool false]) := Lib.hid (if_neg fun h' => h (by have := h'.1; omega))
    have HI := Lib.hid (In.no (n := (n : Int)) (a := 1) (b := 6) (by omega))
    rw [HA.out]
    clear hp
    go_enter Try.func13, Try.ntmps13
    go_wp2_with fail
    refine (l6In_any _ _ _ _).mono ?_
    rw [HI.out]
    rintro e w1 ⟨rfl, rfl⟩
    go_wp2
    go_ret2
    exact ⟨rfl, Below.refl _ _⟩
end Go.Proofs.Ytdgepneaeieogac
