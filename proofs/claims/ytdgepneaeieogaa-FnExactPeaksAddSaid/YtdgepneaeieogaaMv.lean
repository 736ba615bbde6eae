/-
  Contracts of the model's chapter 3: peaks added, their root; collisions.
-/
import Derived.Test.YtdgepneaeieogaaMu
namespace Go.Proofs.Ytdgepneaeieogaa
open Go.RowKit

set_option maxHeartbeats 800000 in
theorem l3Ones_any (n : Nat) (w : World) (h : n ≤ 1000000) :
    Calls Try.prog 47 #[.int .i64 (n : Int)] w fun e w' => e = .returned (.int .i64 (Me.ones n : Int)) ∧ w' = w := by
  obtain ⟨T, HT⟩ : ∃ T, Hid (Me.ones n = T) := ⟨_, Lib.hid rfl⟩
  rw [HT.out]
  go_enter Try.func47, Try.ntmps47
  go_wp2
  go_loopw [0, 3] (fun v k wr => ∃ m q : Nat, v = .int .i64 (m : Int) ∧ k = .int .i64 (q : Int) ∧ m ≤ n ∧ q + m ≤ n ∧ q + Me.ones m = T ∧ wr = w)
    (fun v _ _ => (intOf v).toNat)
  case atStart => exact ⟨n, 0, rfl, rfl, by omega, by omega, by rw [← HT.out]; omega, rfl⟩
  case round =>
    obtain ⟨m, q, rfl, rfl, hm, hqm, hT, hw⟩ := hrel
    subst hw
    by_cases h0 : 0 < m
    · have h1 := Me.ones_pos h0
      have HX : Hid (q + m % 2 + Me.ones (m / 2) = T) := Lib.hid (by omega)
      clear h1 hT
      go_wp2
      go_roundw
      case rel => exact ⟨m / 2, q + m % 2, by simp, by simp, by omega, by omega, HX.out, trivial⟩
      case measure => simp [intOf]; omega
    · have : m = 0 := by omega
      subst this
      have HX : Hid (q = T) := Lib.hid (by rw [Me.ones_zero] at hT; exact hT)
      clear hT
      go_wp2
      go_ret
      exact ⟨by rw [HX.out]; rfl, rfl⟩

theorem Me.fold_bd {p : List Int} (h : Me.digests p) (hne : p ≠ []) : 0 ≤ Me.fold p ∧ Me.fold p ≤ 4294967295 := by
  match p, hne with
  | [d], _ => exact h d (by simp)
  | d :: e :: r, _ => exact Dg.of_bd _
theorem Me.fold_drop {p : List Int} {j : Nat} (h : j + 1 < p.length) : Me.fold (p.drop j) = Dg.of (Dg.pair (p.getD j 0) (Me.fold (p.drop (j + 1)))) := by
  have hd : p.drop j = p[j]'(by omega) :: p.drop (j + 1) := List.drop_eq_getElem_cons (by omega)
  rw [hd, Me.fold_cons (by
    intro he
    have := congrArg List.length he
    rw [List.length_drop] at this
    simp at this
    omega), List.getD_eq_getElem?_getD, List.getElem?_eq_getElem (by omega)]
  rfl
theorem Me.fold_last {p : List Int} {j : Nat} (h : j + 1 = p.length) : Me.fold (p.drop j) = p.getD j 0 := by
  have hd : p.drop j = p[j]'(by omega) :: p.drop (j + 1) := List.drop_eq_getElem_cons (by omega)
  rw [hd, List.drop_eq_nil_of_le (by omega), List.getD_eq_getElem?_getD, List.getElem?_eq_getElem (by omega)]
  rfl
theorem Me.digests_drop {p : List Int} (h : Me.digests p) (k : Nat) : Me.digests (p.drop k) := fun d hd => h d (List.mem_of_mem_drop hd)
/-- What PeaksRoot answers. -/
def Me.prOk (p : List Int) : Prop := (1 ≤ p.length ∧ p.length ≤ 6) ∧ Me.digests p
noncomputable def Me.prA (p : List Int) : Value := open Classical in if Me.prOk p then .tuple #[.int .i64 (Me.fold p), .bool true] else .tuple #[.int .i64 0, .bool false]

end Go.Proofs.Ytdgepneaeieogaa
