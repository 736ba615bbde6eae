/-
  Witnesses of the model, whole.
-/
import Derived.Test.YtoocibabceeagacUw
import Derived.Test.YtoocibabceeagacSm
import Derived.Test.YtoocibabceeagacSk
import Derived.Test.YtoocibabceeagacOw
namespace Go.Proofs.Ytoocibabceeagac
open Go.RowKit

/-- What a witness's function hands back. -/
def WtR (L : List ByteArray) (ok : Bool) (w : World) (e : Ending) (w' : World) : Prop :=
  ∃ a c, e = .returned (.tuple #[.slice a L.length c, .bool ok]) ∧ Below w.heap.size w w' ∧ w'.ownsRow w.heap.size 9 1 (.slice a L.length c) L.length (L.map Value.string)
theorem WtR.no {w w' : World} (hb : Below w.heap.size w w') : WtR [] false w (.returned (.tuple #[.slice none 0 0, .bool false])) w' :=
  ⟨none, 0, rfl, hb, World.ownsRow_nil _ _ _ _⟩
set_option maxRecDepth 100000 in
set_option maxHeartbeats 1600000 in
theorem l12Sig_eq (x : Int) (t : ByteArray) (w : World) (x0 : 1 ≤ x) (x1 : x ≤ 1073741788) (ht : t.size ≤ 1048576) :
    Calls Try.prog 10 #[.int .i64 x, .string t] w fun e w' => e = .returned (.string (Wt.sig x t)) ∧ Below w.heap.size w w' := by
  have hcon := l5Sign_any x t w x0 x1 ht
  unfold Wt.sig
  clear x0 x1 ht
  generalize Sg.sr x t = r at hcon
  generalize Sg.ss x t = s at hcon
  go_enter Try.func10, Try.ntmps10
  go_wp2_with fail
  refine hcon.mono ?_
  rintro e w1 ⟨rfl, hb1⟩
  go_wp2_with fail
  refine (specSigItem_any r s _).mono ?_
  rintro e w2 ⟨rfl, hb2⟩
  go_wp2
  go_ret
  exact ⟨rfl, hb1.trans (hb2.mono hb1.size)⟩
theorem l12Secret_eq (x : Int) (w : World) :
    Calls Try.prog 9 #[.int .i64 x] w fun e w' => e = .returned (.bool (Wt.sec x)) ∧ w' = w := by
  have hcon := fun W => l6In_any x 1 1073741788 W
  unfold Wt.sec
  generalize (decide (1 ≤ x) && decide (x ≤ 1073741788)) = q at hcon
  go_enter Try.func9, Try.ntmps9
  go_wp2_with fail
  refine (hcon _).mono ?_
  rintro e w1 ⟨rfl, rfl⟩
  go_wp2
  go_ret
  exact ⟨rfl, rfl⟩
theorem l11BoolU_any (b : Bool) (w : World) : Calls Try.prog 11 #[.bool b] w fun e w' => e = .returned (.string (Wt.tr b)) ∧ w' = w := by
  cases b
  · go_enter Try.func11, Try.ntmps11
    go_wp2
    go_ret
    exact ⟨rfl, rfl⟩
  · go_enter Try.func11, Try.ntmps11
    go_wp2
    go_ret
    exact ⟨rfl, rfl⟩
set_option maxRecDepth 100000 in
set_option maxHeartbeats 1600000 in
theorem OpenRevoked_yes (x : Int) (t : ByteArray) (w : World) (hx : Wt.sec x = true) (ht : t.size ≤ 1048576) :
    Calls Try.prog 4 #[.int .i64 x, .string t] w (WtR ([Wt.sig x t, Wt.tr true]) true w) := by
  obtain ⟨x0, x1⟩ := (Wt.sec_iff x).1 hx
  have hcon1 := fun W => l12Secret_eq x W
  rw [hx] at hcon1
  have hcon2 := fun W => l12Sig_eq x t W x0 x1 ht
  obtain ⟨s, HS⟩ : ∃ s, Hid (Wt.sig x t = s) := ⟨_, Lib.hid rfl⟩
  rw [HS.out] at hcon2 ⊢
  clear HS x0 x1 hx
  have hcon3 := fun W => l11BoolU_any true W
  obtain ⟨b1, HB⟩ : ∃ b, Hid (Wt.tr true = b) := ⟨_, Lib.hid rfl⟩
  rw [HB.out] at hcon3 ⊢
  clear HB
  go_enter Try.func4, Try.ntmps4
  go_wp2_with fail
  refine (hcon1 _).mono ?_
  rintro e w1 ⟨rfl, hw1⟩
  rw [hw1]
  clear hw1
  go_wp2_with fail
  refine (hcon2 _).mono ?_
  rintro e w2 ⟨rfl, hb2⟩
  go_wp2_with fail
  refine (hcon3 _).mono ?_
  rintro e w3 ⟨rfl, hw3⟩
  rw [hw3]
  clear hw3
  have hown := own_newS w2 w.heap.size hb2.size ([s, b1] : List ByteArray) #[.string s, .string b1] rfl (by simp)
  have hbz := below_alloc hb2 (.cells #[.string s, .string b1] 9 (0, 0))
  go_wp2
  go_ret2
  exact ⟨_, _, rfl, hbz, hown⟩
set_option maxRecDepth 100000 in
theorem OpenRevoked_no (x : Int) (t : ByteArray) (w : World) (hx : Wt.sec x = false) :
    Calls Try.prog 4 #[.int .i64 x, .string t] w (WtR [] false w) := by
  have hcon1 := fun W => l12Secret_eq x W
  rw [hx] at hcon1
  clear hx
  go_enter Try.func4, Try.ntmps4
  go_wp2_with fail
  refine (hcon1 _).mono ?_
  rintro e w1 ⟨rfl, hw1⟩
  rw [hw1]
  clear hw1
  go_wp2
  go_ret2
  exact WtR.no (Below.refl _ _)
end Go.Proofs.Ytoocibabceeagac
