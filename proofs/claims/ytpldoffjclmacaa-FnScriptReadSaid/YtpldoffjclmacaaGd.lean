/-
  Contracts of chapter 4: the functions that are asked, of the program and of the model.
-/
import Derived.Test.YtpldoffjclmacaaGc
namespace Go.Proofs.Ytpldoffjclmacaa
open Go.RowKit

/-- Whether a is an element. -/
def Gr.ok (a : Int) : Bool := decide (1 ≤ a) && decide (a ≤ 2147483578) && decide (Gr.pw 2147483579 a 1073741789 = 1)
theorem Gr.ok_iff (a : Int) : Gr.ok a = true ↔ Gr.E a := by
  unfold Gr.ok
  rw [Bool.and_eq_true, Bool.and_eq_true, decide_eq_true_iff, decide_eq_true_iff, decide_eq_true_iff]
  exact ⟨fun h => ⟨h.1.1, by omega, h.2⟩, fun h => ⟨⟨h.pos, by have := h.lt; omega⟩, h.one⟩⟩
theorem Gr.ok_yes {a : Int} (h : Gr.E a) : Gr.ok a = true := (Gr.ok_iff a).mpr h
theorem Gr.ok_no {a : Int} (h : ¬ Gr.E a) : Gr.ok a = false := by
  cases hk : Gr.ok a
  · rfl
  · exact absurd ((Gr.ok_iff a).mp hk) h

set_option maxRecDepth 100000 in
set_option maxHeartbeats 800000 in
theorem l4Exp_any (a e : Int) (w : World) (ha : 0 ≤ a) (ha2 : a < 2147483579) (he2 : e ≤ 9223372036854775807) :
    Calls Try.prog 69 #[.int .i64 a, .int .i64 e] w fun x w' => x = .returned (.int .i64 (Gr.pw 2147483579 a e)) ∧ w' = w := by
  go_enter Try.func69, Try.ntmps69
  go_wp2_with fail
  refine (l4Pow_any a e 2147483579 _ (by omega) (by omega) ha ha2 he2).mono ?_
  rintro e w1 ⟨rfl, rfl⟩
  go_wp2
  go_ret
  exact ⟨rfl, rfl⟩
set_option maxRecDepth 100000 in
set_option maxHeartbeats 800000 in
theorem specGroupOk_any (a : Int) (w : World) :
    Calls Try.prog 78 #[.int .i64 a] w fun x w' => x = .returned (.bool (Gr.ok a)) ∧ w' = w := by
  by_cases hr : 1 ≤ a ∧ a ≤ 2147483578
  · have ha : (decide (1 ≤ a) && decide (a ≤ 2147483578)) = true := by simp [hr]
    obtain ⟨h0, h1⟩ := hr
    have HO : Hid (Gr.ok a = decide (Gr.pw 2147483579 a 1073741789 = 1)) := by unfold Gr.ok; rw [ha, Bool.true_and]; exact rfl
    rw [HO.out]
    clear HO
    obtain ⟨P, HP⟩ : ∃ P, Hid (Gr.pw 2147483579 a 1073741789 = P) := ⟨_, Lib.hid rfl⟩
    go_enter Try.func78, Try.ntmps78
    go_wp2_with fail
    refine (l6In_any a 1 2147483578 _).mono ?_
    rw [ha]
    rintro e w1 ⟨rfl, rfl⟩
    go_wp2_with fail
    refine (l4Exp_any a 1073741789 _ (by omega) (by omega) (by omega)).mono ?_
    rw [HP.out]
    rintro e w1 ⟨rfl, rfl⟩
    go_wp2
    go_ret
    exact ⟨by rw [HP.out]; rfl, rfl⟩
  · have ha : (decide (1 ≤ a) && decide (a ≤ 2147483578)) = false := by simp; omega
    have HO : Hid (Gr.ok a = false) := by unfold Gr.ok; rw [ha]; exact rfl
    rw [HO.out]
    go_enter Try.func78, Try.ntmps78
    go_wp2_with fail
    refine (l6In_any a 1 2147483578 _).mono ?_
    rw [ha]
    rintro e w1 ⟨rfl, rfl⟩
    go_wp2
    go_ret
    exact ⟨rfl, rfl⟩

/-- What GroupMul, GroupPow, GroupInv, ScalarInv and KeyOf answer beside true. -/
def Gr.mul (a b : Int) : Int := if Gr.ok a && Gr.ok b then a * b % 2147483579 else 0
def Gr.pok (a e : Int) : Bool := Gr.ok a && decide (0 ≤ e)
def Gr.pow (a e : Int) : Int := if Gr.pok a e then Gr.pw 2147483579 a e else 0
def Gr.inv (a : Int) : Int := if Gr.ok a then Gr.pw 2147483579 a 1073741788 else 0
def Gr.sok (x : Int) : Bool := decide (1 ≤ x) && decide (x ≤ 1073741788)
def Gr.sinv (x : Int) : Int := if Gr.sok x then Gr.pw 1073741789 x 1073741787 else 0
def Gr.key (x : Int) : Int := if Gr.sok x then Gr.pw 2147483579 4 x else 0
def Gr.kok (a : Int) : Bool := Gr.ok a && !(a == 1)
theorem Gr.E_bd {a : Int} (h : Gr.E a) : 1 ≤ a ∧ a ≤ 2147483578 := ⟨h.pos, by have := h.lt; omega⟩

end Go.Proofs.Ytpldoffjclmacaa
