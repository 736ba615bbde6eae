/-
  Contracts of chapter 4: scalars and keys, of the program and of the model; the rest of the model's group.
-/
import Derived.Test.YtabihimhenhnnaaGd
namespace Go.Proofs.Ytabihimhenhnnaa
open Go.RowKit

theorem Gr.sok_yes {x : Int} (h0 : 1 ≤ x) (h1 : x ≤ 1073741788) : Gr.sok x = true := by unfold Gr.sok; simp [h0, h1]
theorem Gr.sok_no {x : Int} (h : ¬ (1 ≤ x ∧ x ≤ 1073741788)) : Gr.sok x = false := by unfold Gr.sok; simp; omega
theorem Gr.kok_one : Gr.kok 1 = false := by unfold Gr.kok; simp
set_option maxRecDepth 100000 in
set_option maxHeartbeats 800000 in
theorem isScalar_any (x : Int) (w : World) :
    Calls Try.prog 45 #[.int .i64 x] w fun r w' => r = .returned (.bool (Gr.sok x)) ∧ w' = w := by
  by_cases h0 : 1 ≤ x
  · by_cases h1 : x ≤ 1073741788
    · rw [Gr.sok_yes h0 h1]
      have h2 : x < 1073741789 := by omega
      clear h1
      go_enter Try.func45, Try.ntmps45
      go_wp2
      go_ret
      exact ⟨rfl, rfl⟩
    · rw [Gr.sok_no (by omega)]
      have h2 : decide (x < 1073741789) = false := by simp; omega
      clear h1
      go_enter Try.func45, Try.ntmps45
      go_wp2
      go_ret
      exact ⟨rfl, rfl⟩
  · rw [Gr.sok_no (by omega)]
    have h2 : x < 1 := by omega
    clear h0
    go_enter Try.func45, Try.ntmps45
    go_wp2
    go_ret
    exact ⟨rfl, rfl⟩
set_option maxRecDepth 100000 in
set_option maxHeartbeats 800000 in
theorem implKeyOf_any (x : Int) (w : World) :
    Calls Try.prog 14 #[.int .i64 x] w fun r w' => r = .returned (.tuple #[.int .i64 (Gr.key x), .bool (Gr.sok x)]) ∧ Below w.heap.size w w' := by
  by_cases h : 1 ≤ x ∧ x ≤ 1073741788
  · have HS := Lib.hid (Gr.sok_yes h.1 h.2)
    have HK : Hid (Gr.key x = Gr.pw 2147483579 4 x) := by unfold Gr.key; rw [HS.out, if_pos rfl]; exact rfl
    have HP : Hid (Gr.pok 4 x = true) := by unfold Gr.pok; rw [Gr.ok_yes Gr.base, Bool.true_and]; exact decide_eq_true (by omega)
    have HQ : Hid (Gr.pow 4 x = Gr.pw 2147483579 4 x) := by unfold Gr.pow; rw [HP.out, if_pos rfl]; exact rfl
    rw [HK.out, HS.out]
    obtain ⟨h0, h1⟩ := h
    go_enter Try.func14, Try.ntmps14
    go_wp2_with fail
    refine (isScalar_any x _).mono ?_
    rw [HS.out]
    rintro e1 w1 ⟨rfl, rfl⟩
    go_wp2_with fail
    refine (implGroupPow_any 4 x _ (by omega)).mono ?_
    rw [HP.out, HQ.out]
    rintro e2 w2 ⟨rfl, hb2⟩
    go_wp2
    go_ret2
    exact ⟨rfl, hb2⟩
  · have HS := Lib.hid (Gr.sok_no h)
    have HK : Hid (Gr.key x = 0) := by unfold Gr.key; rw [HS.out, if_neg (by simp)]; exact rfl
    rw [HK.out, HS.out]
    clear h
    go_enter Try.func14, Try.ntmps14
    go_wp2_with fail
    refine (isScalar_any x _).mono ?_
    rw [HS.out]
    rintro e1 w1 ⟨rfl, rfl⟩
    go_wp2
    go_ret2
    exact ⟨rfl, Below.refl _ _⟩
set_option maxRecDepth 100000 in
set_option maxHeartbeats 800000 in
theorem implKeyOk_any (a : Int) (w : World) :
    Calls Try.prog 10 #[.int .i64 a] w fun r w' => r = .returned (.bool (Gr.kok a)) ∧ Below w.heap.size w w' := by
  by_cases h : a = 1
  · have HK : Hid (Gr.kok a = false) := by rw [h]; exact Gr.kok_one
    rw [HK.out]
    have h1 : (a == 1) = true := by simpa using h
    have h2 : (a != 1) = false := by simpa using h
    clear h
    go_enter Try.func10, Try.ntmps10
    go_wp2
    go_ret
    exact ⟨rfl, Below.refl _ _⟩
  · have h1 : (a == 1) = false := by simpa using h
    have h2 : (a != 1) = true := by simpa using h
    have HK : Hid (Gr.kok a = Gr.ok a) := Lib.hid (by unfold Gr.kok; rw [h1, Bool.not_false, Bool.and_true])
    rw [HK.out]
    clear h
    go_enter Try.func10, Try.ntmps10
    go_wp2_with fail
    refine (implGroupOk_any a _).mono ?_
    rintro e2 w2 ⟨rfl, hb2⟩
    go_wp2
    go_ret
    exact ⟨rfl, hb2⟩

set_option maxRecDepth 100000 in
set_option maxHeartbeats 800000 in
theorem l4Base_any (e : Int) (w : World) (he2 : e ≤ 9223372036854775807) :
    Calls Try.prog 41 #[.int .i64 e] w fun x w' => x = .returned (.int .i64 (Gr.pw 2147483579 4 e)) ∧ w' = w := by
  go_enter Try.func41, Try.ntmps41
  go_wp2_with fail
  refine (l4Exp_any 4 e _ (by omega) (by omega) he2).mono ?_
  rintro e1 w1 ⟨rfl, rfl⟩
  go_wp2
  go_ret
  exact ⟨rfl, rfl⟩
set_option maxRecDepth 100000 in
set_option maxHeartbeats 800000 in
theorem l4Mul_any (a b : Int) (w : World) (ha : 0 ≤ a) (ha2 : a < 2147483579) (hb : 0 ≤ b) (hb2 : b < 2147483579) :
    Calls Try.prog 40 #[.int .i64 a, .int .i64 b] w fun x w' => x = .returned (.int .i64 (a * b % 2147483579)) ∧ w' = w := by
  obtain ⟨p0, p1⟩ := Gr.mul_bd a b 2147483579 ha ha2 hb hb2 (by omega)
  go_enter Try.func40, Try.ntmps40
  go_wp2
  go_ret
  exact ⟨rfl, rfl⟩
set_option maxRecDepth 100000 in
set_option maxHeartbeats 800000 in
theorem specKeyOf_any (x : Int) (w : World) :
    Calls Try.prog 60 #[.int .i64 x] w fun r w' => r = .returned (.tuple #[.int .i64 (Gr.key x), .bool (Gr.sok x)]) ∧ w' = w := by
  by_cases h : 1 ≤ x ∧ x ≤ 1073741788
  · have HS := Lib.hid (Gr.sok_yes h.1 h.2)
    have HT : Hid ((decide (1 ≤ x) && decide (x ≤ 1073741788)) = true) := HS
    have HI : Hid (Gr.key x = Gr.pw 2147483579 4 x) := by unfold Gr.key; rw [HS.out, if_pos rfl]; exact rfl
    rw [HI.out, HS.out]
    obtain ⟨h0, h1⟩ := h
    go_enter Try.func60, Try.ntmps60
    go_wp2_with fail
    refine (l6In_any x 1 1073741788 _).mono ?_
    rw [HT.out]
    rintro e1 w1 ⟨rfl, rfl⟩
    go_wp2_with fail
    refine (l4Base_any x _ (by omega)).mono ?_
    rintro e2 w2 ⟨rfl, rfl⟩
    go_wp2
    go_ret2
    exact ⟨rfl, rfl⟩
  · have HS := Lib.hid (Gr.sok_no h)
    have HT : Hid ((decide (1 ≤ x) && decide (x ≤ 1073741788)) = false) := HS
    have HI : Hid (Gr.key x = 0) := by unfold Gr.key; rw [HS.out, if_neg (by simp)]; exact rfl
    rw [HI.out, HS.out]
    clear h
    go_enter Try.func60, Try.ntmps60
    go_wp2_with fail
    refine (l6In_any x 1 1073741788 _).mono ?_
    rw [HT.out]
    rintro e1 w1 ⟨rfl, rfl⟩
    go_wp2
    go_ret2
    exact ⟨rfl, rfl⟩
set_option maxRecDepth 100000 in
set_option maxHeartbeats 800000 in
theorem specKeyOk_any (a : Int) (w : World) :
    Calls Try.prog 25 #[.int .i64 a] w fun r w' => r = .returned (.bool (Gr.kok a)) ∧ w' = w := by
  have HK : Hid (Gr.kok a = (Gr.ok a && !(a == 1))) := rfl
  by_cases hk : Gr.ok a = true
  · have HA := Lib.hid hk
    rw [HK.out, HA.out, Bool.true_and]
    clear hk HK
    have hn : (a != 1) = !(a == 1) := rfl
    go_enter Try.func25, Try.ntmps25
    go_wp2_with fail
    refine (specGroupOk_any a _).mono ?_
    rw [HA.out]
    rintro e2 w2 ⟨rfl, rfl⟩
    go_wp2
    go_ret
    exact ⟨rfl, rfl⟩
  · have HA : Hid (Gr.ok a = false) := Lib.hid (by simpa using hk)
    rw [HK.out, HA.out, Bool.false_and]
    clear hk HK
    go_enter Try.func25, Try.ntmps25
    go_wp2_with fail
    refine (specGroupOk_any a _).mono ?_
    rw [HA.out]
    rintro e2 w2 ⟨rfl, rfl⟩
    go_wp2
    go_ret
    exact ⟨rfl, rfl⟩
end Go.Proofs.Ytabihimhenhnnaa
