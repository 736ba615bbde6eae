/- For every string of at most 1<<20 bytes (longer ones are let pass by the law itself), FromHex of the program answers as the model's FromHex. -/
import Derived.Test.YtegdckdfllkmeabRows
import Derived.Test.YtegdckdfllkmeabHx
import Derived.WalkKit
import Derived.WalkSpells
import Derived.ProofKit
import Derived.OpenShut
import Derived.ShutString
import Derived.Below
import Derived.SliceStrings
namespace Go.Proofs.Ytegdckdfllkmeab.fnExactFromHex
open Go.ChangeShapes Go.WideShapes Go.ChangeAt Go.RowKit
open Go.ChangeMaps (open_string shut_string)
set_option maxRecDepth 100000 in
set_option maxHeartbeats 800000 in
theorem walk (s : ByteArray) (_ : s.size ≤ maxLen) (w : World) :
    Calls Try.prog 4 #[.string s] w fun e w' => e = .returned (.bool true) ∧ Below w.heap.size w w' := by
  by_cases h : (1048576 : Int) < (s.size : Int)
  · go_enter Try.func4, Try.ntmps4
    go_wp2
    go_ret
    exact ⟨rfl, Below.refl _ _⟩
  go_enter Try.func4, Try.ntmps4
  go_wp2_with fail
  refine (specFromHex_any s _ (by omega)).mono ?_
  rintro e w1 ⟨v1, rfl, e1, hb1⟩
  by_cases hg : Hx.good s
  · obtain rfl : v1 = Hx.yes s := by
      rcases e1 with ⟨_, e1⟩ | ⟨hn, _⟩
      · exact e1
      · exact absurd hg hn
    have HG := Lib.hid hg
    clear e1 hg
    unfold Hx.yes
    go_wp2_with fail
    refine (implFromHex_any s _ (by omega)).mono ?_
    rintro e w2 ⟨v2, rfl, e2, hb2⟩
    obtain rfl : v2 = Hx.yes s := by
      rcases e2 with ⟨_, e2⟩ | ⟨hn, _⟩
      · exact e2
      · exact absurd HG.out hn
    clear e2
    unfold Hx.yes
    go_wp2
    go_ret
    exact ⟨rfl, hb1.trans (hb2.mono hb1.size)⟩
  · obtain rfl : v1 = Hx.no := by
      rcases e1 with ⟨hy, _⟩ | ⟨_, e1⟩
      · exact absurd hy hg
      · exact e1
    have HG := Lib.hid hg
    clear e1 hg
    unfold Hx.no
    go_wp2_with fail
    refine (implFromHex_any s _ (by omega)).mono ?_
    rintro e w2 ⟨v2, rfl, e2, hb2⟩
    obtain rfl : v2 = Hx.no := by
      rcases e2 with ⟨hy, _⟩ | ⟨_, e2⟩
      · exact absurd hy HG.out
      · exact e2
    clear e2
    unfold Hx.no
    go_wp2
    go_ret
    exact ⟨rfl, hb1.trans (hb2.mono hb1.size)⟩
/-! ### The row's step. -/
theorem own : ownKnob Try.prog.godebug = none := by kernel_rfl
set_option maxRecDepth 100000 in
theorem lifted (os : Os) (started : os.Started) (H : Type) (enc : TypeId × Value → H) :
    ReturnsInHanded {} Try.checked os 4 .any (Rows.fnExactFromHexSpec.pre6 enc Try.prog Try.f4 Rows.fnExactFromHexRow.domain false) (Rows.fnExactFromHexSpec.post enc Try.prog Try.f4 false true false false) := by
  refine returnsInHanded_of_change (C := Try.checked) own started (by kernel_rfl) Try.func4
    (ChangeSpec.witness6 (enc := enc) (C := Try.checked) false ⟨#[], #[.string ByteArray.empty], []⟩ 8 (by kernel_rfl) (by kernel_rfl) (by kernel_rfl) (by kernel_rfl)) ?_
  intro W base args ds gs before hval0 hW hcnd _
  have hval : ∀ (j : Nat) t v, Try.f4.params[j]? = some t → args[j]? = some v → Value.okWide Try.prog W .any base t v := hval0
  have hW' := hW
  obtain ⟨p, q, hA0, hV, rfl, hfz, hnd⟩ := hW
  have hA : DataW.TrodAll enc Try.prog W 0 (fun _ => true) true Try.f4.params.toList args.toList ds p := hA0
  rw [Try.params4] at hA hval
  obtain ⟨v0, vs0, d0, ds0, p0, q0, hargs, rfl, rfl, h0, r0⟩ := trodAll_cons hA
  obtain ⟨rfl, rfl, rfl⟩ := trodAll_nil r0
  obtain rfl : args = #[v0] := by cases args; simp_all
  obtain ⟨rfl, rfl⟩ := trodVars_none hV
  obtain ⟨a0, rfl, rfl, rfl, w0⟩ := open_string Try.underlying9 (hval 0 9 v0 rfl rfl) h0
  clear hA0 hval0
  refine (walk a0 w0 W).mono fun e W' ⟨he, bel⟩ => ?_
  subst he
  exact ⟨_, rfl, _, _, _, [], _, [], hW', trodAll_mk1 (shut_bool Try.underlying4 _), (trodAll_cons_mk (shut_string Try.underlying9 w0) trodAll_mk0), rfl, bel.frame _, fun h => by cases h⟩
theorem over : Rows.fnExactFromHexRow.holds Try.pinned (OpenSpec.ofChange Rows.fnExactFromHexSpec) :=
  OpenClaim.holds_of_wide 4 Try.f4 rfl rfl rfl rfl rfl rfl rfl ⟨rfl, rfl, rfl, rfl, rfl⟩ rfl rfl rfl rfl rfl (by kernel_rfl) Try.func4 (by kernel_rfl)
    (of_decide_eq_true (by kernel_rfl)) (by unfold Func.isWrapper; first | (rw [if_pos (by decide +kernel)]; kernel_rfl) | (rw [if_neg (by decide +kernel)]; exact ⟨rfl, rfl⟩))
    (fun os started H enc _ => lifted os started H enc)
theorem proved : Rows.FnExactFromHexSaid := over
#print axioms proved
end Go.Proofs.Ytegdckdfllkmeab.fnExactFromHex
