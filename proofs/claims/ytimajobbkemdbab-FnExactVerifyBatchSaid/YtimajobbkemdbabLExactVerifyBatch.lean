/- For every list of signed messages of at most 1<<20 elements and bytes in all and every list of at most 1<<20 numbers (longer ones are let pass by the law itself), VerifyBatch of the program answers as the model's VerifyBatch, and leaves both lists as they were. -/
import Derived.Test.YtimajobbkemdbabRows
import Derived.Test.YtimajobbkemdbabVc
import Derived.Test.YtimajobbkemdbabSw
import Derived.WalkKit
import Derived.WalkSpells
import Derived.ProofKit
import Derived.OpenShut
import Derived.ShutString
import Derived.Below
import Derived.SliceStrings
namespace Go.Proofs.Ytimajobbkemdbab.fnExactVerifyBatch
open Go.ChangeShapes Go.WideShapes Go.ChangeAt Go.RowKit
open Go.ChangeMaps (open_string shut_string)
set_option maxRecDepth 100000 in
set_option maxHeartbeats 1600000 in
theorem walk (a0 : Option Addr) (len0 cap0 : Nat) (l : List Sg.It) (a1 : Option Addr) (len1 cap1 : Nat) (z1 : List Int) (w : World) (w0 : IsSigs w a0 len0 cap0 l) (w1 : IsInts w a1 len1 cap1 z1) :
    Calls Try.prog 8 #[.slice a0 len0 cap0, .slice a1 len1 cap1] w fun e w' => e = .returned (.bool true) ∧ Below w.heap.size w w' := by
  obtain ⟨hl0, hl1, hl2⟩ := w1.len
  have HI := Lib.hid w1.ir
  obtain ⟨g0, g1, hg, ht⟩ := w0
  have HG := Lib.hid hg
  clear w1 hg
  generalize z1.take len1 = p at HI
  by_cases hp : (1048576 : Int) < (len1 : Int)
  · clear ht
    go_enter Try.func8, Try.ntmps8
    go_wp2
    go_ret
    exact ⟨rfl, Below.refl _ _⟩
  have hcon0 := szSignedS_any a0 len0 cap0 l w HG.out (by omega) ht
  clear ht
  go_enter Try.func8, Try.ntmps8
  go_wp2_with fail
  refine hcon0.mono ?_
  rintro e w2 ⟨v, rfl, hv, hb2⟩
  clear hcon0
  by_cases hn : v < 0
  · clear hv
    go_wp2
    go_ret
    exact ⟨rfl, hb2⟩
  obtain ⟨hs0, hst⟩ := hv.resolve_left hn
  clear hv
  have HT := Lib.hid hst
  clear hst
  have hcon1 := fun (a b : Option Addr) W (h : GR W a len0 l) (k : IR W b len1 p) => specVerifyBatch_any a b len0 len0 len1 len1 l p W h k (by omega) (by omega) HT.out
  have hcon2 := fun (a b : Option Addr) W (h : GR W a len0 l) (k : IR W b len1 p) => implVerifyBatch_any a b len0 len0 len1 len1 l p W h k (by omega) (by omega) HT.out
  obtain ⟨X, HX⟩ : ∃ X, Hid (Sg.batch l p = X) := ⟨_, Lib.hid rfl⟩
  rw [HX.out] at hcon1 hcon2
  clear HX
  have HG2 := Lib.hid (HG.out.below hb2)
  have HI2 := Lib.hid (HI.out.below hb2)
  go_wp2_with fail
  refine (toSignedS_any a0 len0 cap0 l _ HG2.out hs0).mono ?_
  rintro e w3 ⟨b3, rfl, hs3, hb3⟩
  have HA3 := Lib.hid hs3
  have HI3 := Lib.hid (HI2.out.below hb3)
  have hc3 := below_after hb2 hb3
  clear hs3 hb3 HI2
  go_wp2_with fail
  refine (toIntS_any a1 len1 cap1 p _ HI3.out (by omega)).mono ?_
  rintro e w4 ⟨b4, rfl, hn4, hs4, hb4⟩
  have HA4 := Lib.hid (HA3.out.below hb4)
  have HB4 := Lib.hid hs4
  have hc4 := below_after hc3 hb4
  clear hs4 hn4 HI3 HA3 hb4 hc3
  go_wp2_with fail
  refine (hcon1 _ _ _ HA4.out HB4.out).mono ?_
  rintro e w5 ⟨rfl, hb5⟩
  have hc5 := below_after hc4 hb5
  clear HA4 HB4 hc4 hb5 hcon1
  have HG5 := Lib.hid (HG.out.below hc5)
  have HI5 := Lib.hid (HI.out.below hc5)
  go_wp2_with fail
  refine (toSignedS_any a0 len0 cap0 l _ HG5.out hs0).mono ?_
  rintro e w6 ⟨b6, rfl, hs6, hb6⟩
  have HA6 := Lib.hid hs6
  have HI6 := Lib.hid (HI5.out.below hb6)
  have hc6 := below_after hc5 hb6
  clear hs6 hb6 HI5 HG5 hc5
  go_wp2_with fail
  refine (toIntS_any a1 len1 cap1 p _ HI6.out (by omega)).mono ?_
  rintro e w7 ⟨b7, rfl, hn7, hs7, hb7⟩
  have HA7 := Lib.hid (HA6.out.below hb7)
  have HB7 := Lib.hid hs7
  have hc7 := below_after hc6 hb7
  clear hs7 hn7 HI6 HA6 hb7 hc6
  go_wp2_with fail
  refine (hcon2 _ _ _ HA7.out HB7.out).mono ?_
  rintro e w8 ⟨rfl, hb8⟩
  have HA8 := Lib.hid (HA7.out.below hb8)
  have HB8 := Lib.hid (HB7.out.below hb8)
  have hc8 := below_after hc7 hb8
  clear HA7 HB7 hc7 hb8 hcon2
  have HG8 := Lib.hid (HG.out.below hc8)
  go_wp2_with fail
  refine (toSignedS_any a0 len0 cap0 l _ HG8.out hs0).mono ?_
  rintro e w9 ⟨b9, rfl, hs9, hb9⟩
  have HA9 := Lib.hid (HA8.out.below hb9)
  have HB9 := Lib.hid (HB8.out.below hb9)
  have HC9 := Lib.hid hs9
  have hc9 := below_after hc8 hb9
  clear hs9 hb9 HA8 HB8 HG8 hc8
  go_wp2_with fail
  refine (eqSignedS_any _ _ len0 len0 len0 l _ HA9.out HC9.out (by omega)).mono ?_
  rintro e w10 ⟨rfl, hb10⟩
  have HB10 := Lib.hid (HB9.out.below hb10)
  have hc10 := below_after hc9 hb10
  clear hb10 HA9 HB9 HC9 hc9
  have HI10 := Lib.hid (HI.out.below hc10)
  go_wp2_with fail
  refine (toIntS_any a1 len1 cap1 p _ HI10.out (by omega)).mono ?_
  rintro e w11 ⟨b11, rfl, hn11, hs11, hb11⟩
  have HB11 := Lib.hid (HB10.out.below hb11)
  have HC11 := Lib.hid hs11
  have hc11 := below_after hc10 hb11
  clear hs11 hn11 HI10 HB10 hb11 hc10
  go_wp2_with fail
  refine (eqIntS_any _ _ len1 len1 len1 p _ HB11.out HC11.out (by omega)).mono ?_
  rintro e w12 ⟨rfl, hb12⟩
  have hc12 := below_after hc11 hb12
  clear hb12 hc11
  go_wp2
  go_ret
  exact ⟨rfl, hc12⟩
/-! ### The row's step. -/
theorem own : ownKnob Try.prog.godebug = none := by kernel_rfl
theorem laidOut : laidOutB Try.prog = true := by kernel_rfl
set_option maxRecDepth 100000 in
theorem lifted (os : Os) (started : os.Started) (H : Type) (enc : TypeId × Value → H) :
    ReturnsInHanded {} Try.checked os 8 .any (Rows.fnExactVerifyBatchSpec.pre6 enc Try.prog Try.f8 Rows.fnExactVerifyBatchRow.domain false) (Rows.fnExactVerifyBatchSpec.post enc Try.prog Try.f8 false true false false) := by
  refine returnsInHanded_of_change (C := Try.checked) own started (by kernel_rfl) Try.func8
    (ChangeSpec.witness6 (enc := enc) (C := Try.checked) false ⟨#[], #[.slice none 0 0, .slice none 0 0], []⟩ 8 (by kernel_rfl) (by kernel_rfl) (by kernel_rfl) (by kernel_rfl)) ?_
  intro W base args ds gs before hval0 hW hcnd _
  have hval : ∀ (j : Nat) t v, Try.f8.params[j]? = some t → args[j]? = some v → Value.okWide Try.prog W .any base t v := hval0
  have hW' := hW
  obtain ⟨p, q, hA0, hV, rfl, hfz, hnd⟩ := hW
  have hA : DataW.TrodAll enc Try.prog W 0 (fun _ => true) true Try.f8.params.toList args.toList ds p := hA0
  rw [Try.params8] at hA hval
  obtain ⟨v0, vs0, d0, ds0, p0, q0, hargs, rfl, rfl, h0, r0⟩ := trodAll_cons hA
  obtain ⟨v1, vs1, d1, ds1, p1, q1, rfl, rfl, rfl, h1, r1⟩ := trodAll_cons r0
  obtain ⟨rfl, rfl, rfl⟩ := trodAll_nil r1
  obtain rfl : args = #[v0, v1] := by cases args; simp_all
  obtain ⟨rfl, rfl⟩ := trodVars_none hV
  obtain ⟨a0, len0, cap0, rfl⟩ := okWide_slice Try.underlying48 (hval 0 48 v0 rfl rfl)
  have k0 := h0
  have lt0 : ∀ x ∈ p0, x.block < W.heap.size := by obtain ⟨m, hm⟩ := k0; exact DataW.trod_lt m _ _ _ hm
  obtain ⟨z0, w0⟩ : ∃ l, IsSigs W a0 len0 cap0 l := by
    obtain ⟨fuel, hf⟩ := h0
    exact open_signeds (by simpa [Value.cells] using hf)
  obtain ⟨a1, len1, cap1, rfl⟩ := okWide_slice Try.underlying23 (hval 1 23 v1 rfl rfl)
  have k1 := h1
  have lt1 : ∀ x ∈ p1, x.block < W.heap.size := by obtain ⟨m, hm⟩ := k1; exact DataW.trod_lt m _ _ _ hm
  obtain ⟨z1, w1⟩ : ∃ zs, IsInts W a1 len1 cap1 zs := by
    obtain ⟨fuel, hf⟩ := h1
    rcases open_ints Try.underlying23 Try.underlying3 (by kernel_rfl) hf with ⟨hcs, _⟩ | ⟨x, l, c, zs, hcs, _, hl, hm, hz, _, hcell, hwz⟩
    · simp [Value.cells] at hcs
      obtain ⟨rfl, rfl, rfl⟩ := hcs
      exact ⟨[], .inl ⟨rfl, rfl, rfl, rfl⟩⟩
    · simp [Value.cells] at hcs
      obtain ⟨rfl, rfl, rfl⟩ := hcs
      exact ⟨zs, .inr ⟨_, rfl, hl, hm, by simpa using hz, hcell, hwz⟩⟩
  clear hA0 hval0
  refine (walk a0 len0 cap0 z0 a1 len1 cap1 z1 W w0 w1).mono fun e W' ⟨he, bel⟩ => ?_
  subst he
  exact ⟨_, rfl, _, _, _, [], _, [], hW', trodAll_mk1 (shut_bool Try.underlying4 _), (trodAll_cons_mk (Below.trod laidOut (by kernel_rfl) (of_decide_eq_true (by kernel_rfl)) k0 bel lt0) (trodAll_cons_mk (Below.trod laidOut (by kernel_rfl) (of_decide_eq_true (by kernel_rfl)) k1 bel lt1) trodAll_mk0)), rfl, bel.frame _, fun h => by cases h⟩
theorem over : Rows.fnExactVerifyBatchRow.holds Try.pinned (OpenSpec.ofChange Rows.fnExactVerifyBatchSpec) :=
  OpenClaim.holds_of_wide 8 Try.f8 rfl rfl rfl rfl rfl rfl rfl ⟨rfl, rfl, rfl, rfl, rfl⟩ rfl rfl rfl rfl rfl (by kernel_rfl) Try.func8 (by kernel_rfl)
    (of_decide_eq_true (by kernel_rfl)) (by unfold Func.isWrapper; first | (rw [if_pos (by decide +kernel)]; kernel_rfl) | (rw [if_neg (by decide +kernel)]; exact ⟨rfl, rfl⟩))
    (fun os started H enc _ => lifted os started H enc)
theorem proved : Rows.FnExactVerifyBatchSaid := over
#print axioms proved
end Go.Proofs.Ytimajobbkemdbab.fnExactVerifyBatch
