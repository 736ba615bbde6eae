/- For every number and every message of at most 1<<20 bytes (a longer one is let pass by the law itself), Sign of the program answers as the model's Sign. -/
import Derived.Test.YtnjgdbfiebaomabRows
import Derived.Test.YtnjgdbfiebaomabSk
import Derived.Test.YtnjgdbfiebaomabSx
import Derived.WalkKit
import Derived.WalkSpells
import Derived.ProofKit
import Derived.OpenShut
import Derived.ShutString
import Derived.Below
import Derived.SliceStrings
namespace Go.Proofs.Ytnjgdbfiebaomab.fnExactSign
open Go.ChangeShapes Go.WideShapes Go.ChangeAt Go.RowKit
open Go.ChangeMaps (open_string shut_string)
set_option maxRecDepth 100000 in
set_option maxHeartbeats 1600000 in
theorem walk (u : Int) (_ : (Lit.int .i64 u).wf = true) (t : ByteArray) (_ : t.size ≤ maxLen) (w : World) :
    Calls Try.prog 4 #[.int .i64 u, .string t] w fun e w' => e = .returned (.bool true) ∧ Below w.heap.size w w' := by
  by_cases h : (1048576 : Int) < (t.size : Int)
  · go_enter Try.func4, Try.ntmps4
    go_wp2
    go_ret
    exact ⟨rfl, Below.refl _ _⟩
  have hcon1 := fun W => specSign_any u t W (by omega)
  have hcon2 := fun W => implSign_any u t W (by omega)
  obtain ⟨R, HR⟩ : ∃ R, Hid (Sg.o0 u t = R) := ⟨_, Lib.hid rfl⟩
  obtain ⟨S, HS⟩ : ∃ S, Hid (Sg.o1 u t = S) := ⟨_, Lib.hid rfl⟩
  obtain ⟨ok, HO⟩ : ∃ ok, Hid (Gr.sok u = ok) := ⟨_, Lib.hid rfl⟩
  rw [HR.out, HS.out, HO.out] at hcon1 hcon2
  clear HR HS HO
  go_enter Try.func4, Try.ntmps4
  go_wp2_with fail
  refine (hcon1 _).mono ?_
  rintro e w1 ⟨rfl, hb1⟩
  have HX1 : Bk w1.heap.size 25 #[.int .i64 R, .int .i64 S] (w1.alloc (.cells #[.int .i64 R, .int .i64 S] 25 (0, 0))) := Bk.new _ _ _
  go_wp2_with fail
  refine (hcon2 _).mono ?_
  rintro e w2 ⟨rfl, hb2⟩
  have HX2 := (HX1.below hb2).alloc (.cells #[.int .i64 R, .int .i64 S] 25 (0, 0))
  obtain ⟨c0, c1⟩ := Bk.c2 HX2
  replace hb2 := below_after (below_alloc hb1 _) hb2
  clear hb1
  go_wp2_with fail
  refine (eqSig_any R S _).mono ?_
  rintro e w3 ⟨rfl, hb3⟩
  replace hb3 := below_after (below_alloc hb2 _) hb3
  clear hb2
  go_wp2
  go_ret
  exact ⟨rfl, hb3⟩
/-! ### The row's step. -/
theorem own : ownKnob Try.prog.godebug = none := by kernel_rfl
set_option maxRecDepth 100000 in
theorem lifted (os : Os) (started : os.Started) (H : Type) (enc : TypeId × Value → H) :
    ReturnsInHanded {} Try.checked os 4 .any (Rows.fnExactSignSpec.pre6 enc Try.prog Try.f4 Rows.fnExactSignRow.domain false) (Rows.fnExactSignSpec.post enc Try.prog Try.f4 false true false false) := by
  refine returnsInHanded_of_change (C := Try.checked) own started (by kernel_rfl) Try.func4
    (ChangeSpec.witness6 (enc := enc) (C := Try.checked) false ⟨#[], #[.int .i64 0, .string ByteArray.empty], []⟩ 8 (by kernel_rfl) (by kernel_rfl) (by kernel_rfl) (by kernel_rfl)) ?_
  intro W base args ds gs before hval0 hW hcnd _
  have hval : ∀ (j : Nat) t v, Try.f4.params[j]? = some t → args[j]? = some v → Value.okWide Try.prog W .any base t v := hval0
  have hW' := hW
  obtain ⟨p, q, hA0, hV, rfl, hfz, hnd⟩ := hW
  have hA : DataW.TrodAll enc Try.prog W 0 (fun _ => true) true Try.f4.params.toList args.toList ds p := hA0
  rw [Try.params4] at hA hval
  obtain ⟨v0, vs0, d0, ds0, p0, q0, hargs, rfl, rfl, h0, r0⟩ := trodAll_cons hA
  obtain ⟨v1, vs1, d1, ds1, p1, q1, rfl, rfl, rfl, h1, r1⟩ := trodAll_cons r0
  obtain ⟨rfl, rfl, rfl⟩ := trodAll_nil r1
  obtain rfl : args = #[v0, v1] := by cases args; simp_all
  obtain ⟨rfl, rfl⟩ := trodVars_none hV
  obtain ⟨a0, rfl, rfl, rfl, w0⟩ := open_int Try.underlying3 (hval 0 3 v0 rfl rfl) h0
  obtain ⟨a1, rfl, rfl, rfl, w1⟩ := open_string Try.underlying9 (hval 1 9 v1 rfl rfl) h1
  clear hA0 hval0
  refine (walk a0 w0 a1 w1 W).mono fun e W' ⟨he, bel⟩ => ?_
  subst he
  exact ⟨_, rfl, _, _, _, [], _, [], hW', trodAll_mk1 (shut_bool Try.underlying4 _), (trodAll_cons_mk (shut_int Try.underlying3 w0) (trodAll_cons_mk (shut_string Try.underlying9 w1) trodAll_mk0)), rfl, bel.frame _, fun h => by cases h⟩
theorem over : Rows.fnExactSignRow.holds Try.pinned (OpenSpec.ofChange Rows.fnExactSignSpec) :=
  OpenClaim.holds_of_wide 4 Try.f4 rfl rfl rfl rfl rfl rfl rfl ⟨rfl, rfl, rfl, rfl, rfl⟩ rfl rfl rfl rfl rfl (by kernel_rfl) Try.func4 (by kernel_rfl)
    (of_decide_eq_true (by kernel_rfl)) (by unfold Func.isWrapper; first | (rw [if_pos (by decide +kernel)]; kernel_rfl) | (rw [if_neg (by decide +kernel)]; exact ⟨rfl, rfl⟩))
    (fun os started H enc _ => lifted os started H enc)
theorem proved : Rows.FnExactSignSaid := over
#print axioms proved
end Go.Proofs.Ytnjgdbfiebaomab.fnExactSign
