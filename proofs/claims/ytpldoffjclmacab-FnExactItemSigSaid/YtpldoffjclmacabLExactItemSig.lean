/- For every string of at most 1<<20 bytes (a longer one is let pass by the law itself), ItemSig of the program answers as the model's ItemSig. -/
import Derived.Test.YtpldoffjclmacabRows
import Derived.Test.YtpldoffjclmacabYa
import Derived.WalkKit
import Derived.WalkSpells
import Derived.ProofKit
import Derived.OpenShut
import Derived.ShutString
import Derived.Below
import Derived.SliceStrings
namespace Go.Proofs.Ytpldoffjclmacab.fnExactItemSig
open Go.ChangeShapes Go.WideShapes Go.ChangeAt Go.RowKit
open Go.ChangeMaps (open_string shut_string)
set_option maxRecDepth 100000 in
set_option maxHeartbeats 3200000 in
theorem walk (t : ByteArray) (_ : t.size ≤ maxLen) (w : World) :
    Calls Try.prog 6 #[.string t] w fun e w' => e = .returned (.bool true) ∧ Below w.heap.size w w' := by
  by_cases h : (1048576 : Int) < (t.size : Int)
  · go_enter Try.func6, Try.ntmps6
    go_wp2
    go_ret
    exact ⟨rfl, Below.refl _ _⟩
  have hcon1 := fun W => specItemSig_any t W
  have hcon2 := fun W => implItemSig_any t W
  obtain ⟨R, HR⟩ : ∃ R, Hid (Jo.sr t = R) := ⟨_, Lib.hid rfl⟩
  obtain ⟨S, HS⟩ : ∃ S, Hid (Jo.ss t = S) := ⟨_, Lib.hid rfl⟩
  obtain ⟨ok, HO⟩ : ∃ ok, Hid (decide (t.size = 8) = ok) := ⟨_, Lib.hid rfl⟩
  rw [HR.out, HS.out, HO.out] at hcon1 hcon2
  have hq : (ok == ok) = true := by simp
  clear HR HS HO
  go_enter Try.func6, Try.ntmps6
  go_wp2_with fail
  refine (hcon1 _).mono ?_
  rintro e w1 ⟨rfl, hb1⟩
  have HX1 : Bk w1.heap.size 24 #[.int .i64 R, .int .i64 S] (w1.alloc (.cells #[.int .i64 R, .int .i64 S] 24 (0, 0))) := Bk.new _ _ _
  go_wp2_with fail
  refine (hcon2 _).mono ?_
  rintro e w2 ⟨rfl, hb2⟩
  have HX2 := (HX1.below hb2).alloc (.cells #[.int .i64 R, .int .i64 S] 24 (0, 0))
  obtain ⟨c0, c1⟩ := Bk.c2 HX2
  replace hb2 := below_aft9 (below_allocY hb1 _) hb2
  clear hb1
  go_wp2_with fail
  refine (eqSig_any R S _).mono ?_
  rintro e w3 ⟨rfl, hb3⟩
  replace hb3 := below_aft9 (below_allocY hb2 _) hb3
  clear hb2
  go_wp2
  go_ret
  exact ⟨rfl, hb3⟩
/-! ### The row's step. -/
theorem own : ownKnob Try.prog.godebug = none := by kernel_rfl
set_option maxRecDepth 100000 in
theorem lifted (os : Os) (started : os.Started) (H : Type) (enc : TypeId × Value → H) :
    ReturnsInHanded {} Try.checked os 6 .any (Rows.fnExactItemSigSpec.pre6 enc Try.prog Try.f6 Rows.fnExactItemSigRow.domain false) (Rows.fnExactItemSigSpec.post enc Try.prog Try.f6 false true false false) := by
  refine returnsInHanded_of_change (C := Try.checked) own started (by kernel_rfl) Try.func6
    (ChangeSpec.witness6 (enc := enc) (C := Try.checked) false ⟨#[], #[.string ByteArray.empty], []⟩ 8 (by kernel_rfl) (by kernel_rfl) (by kernel_rfl) (by kernel_rfl)) ?_
  intro W base args ds gs before hval0 hW hcnd _
  have hval : ∀ (j : Nat) t v, Try.f6.params[j]? = some t → args[j]? = some v → Value.okWide Try.prog W .any base t v := hval0
  have hW' := hW
  obtain ⟨p, q, hA0, hV, rfl, hfz, hnd⟩ := hW
  have hA : DataW.TrodAll enc Try.prog W 0 (fun _ => true) true Try.f6.params.toList args.toList ds p := hA0
  rw [Try.params6] at hA hval
  obtain ⟨v0, vs0, d0, ds0, p0, q0, hargs, rfl, rfl, h0, r0⟩ := trodAll_cons hA
  obtain ⟨rfl, rfl, rfl⟩ := trodAll_nil r0
  obtain rfl : args = #[v0] := by cases args; simp_all
  obtain ⟨rfl, rfl⟩ := trodVars_none hV
  obtain ⟨a0, rfl, rfl, rfl, w0⟩ := open_string Try.underlying9 (hval 0 9 v0 rfl rfl) h0
  clear hA0 hval0
  refine (walk a0 w0 W).mono fun e W' ⟨he, bel⟩ => ?_
  subst he
  exact ⟨_, rfl, _, _, _, [], _, [], hW', trodAll_mk1 (shut_bool Try.underlying4 _), (trodAll_cons_mk (shut_string Try.underlying9 w0) trodAll_mk0), rfl, bel.frame _, fun h => by cases h⟩
theorem over : Rows.fnExactItemSigRow.holds Try.pinned (OpenSpec.ofChange Rows.fnExactItemSigSpec) :=
  OpenClaim.holds_of_wide 6 Try.f6 rfl rfl rfl rfl rfl rfl rfl ⟨rfl, rfl, rfl, rfl, rfl⟩ rfl rfl rfl rfl rfl (by kernel_rfl) Try.func6 (by kernel_rfl)
    (of_decide_eq_true (by kernel_rfl)) (by unfold Func.isWrapper; first | (rw [if_pos (by decide +kernel)]; kernel_rfl) | (rw [if_neg (by decide +kernel)]; exact ⟨rfl, rfl⟩))
    (fun os started H enc _ => lifted os started H enc)
theorem proved : Rows.FnExactItemSigSaid := over
#print axioms proved
end Go.Proofs.Ytpldoffjclmacab.fnExactItemSig
