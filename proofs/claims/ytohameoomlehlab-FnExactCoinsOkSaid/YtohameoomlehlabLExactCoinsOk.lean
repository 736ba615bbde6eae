/- For every list of coins that holds together at most 1<<20 elements and bytes as the law counts them (longer ones are let pass by the law itself), CoinsOk of the program answers as the model's CoinsOk and leaves the list as it was. -/
import Derived.Test.YtohameoomlehlabRows
import Derived.Test.YtohameoomlehlabCn
import Derived.Test.YtohameoomlehlabCy
import Derived.WalkKit
import Derived.WalkSpells
import Derived.ProofKit
import Derived.OpenShut
import Derived.ShutString
import Derived.Below
import Derived.SliceStrings
namespace Go.Proofs.Ytohameoomlehlab.fnExactCoinsOk
open Go.ChangeShapes Go.WideShapes Go.ChangeAt Go.RowKit
open Go.ChangeMaps (open_string shut_string)
set_option maxRecDepth 100000 in
set_option maxHeartbeats 6400000 in
theorem walk (a : Option Addr) (len cap : Nat) (l0 : List Co) (w : World) (w0 : IsCoin w a len cap l0) :
    Calls Try.prog 3 #[.slice a len cap] w fun e w' => e = .returned (.bool true) ∧ Below w.heap.size w w' := by
  obtain ⟨hlc, hcm, hcl, hlk⟩ := w0
  have HSZ := szCoinS_any 0 a len cap l0 1048576 w hcl (by omega) (by omega) (by omega) hlk
  have HCL := Lib.hid hcl
  clear hcl hlk
  go_enter Try.func3, Try.ntmps3
  go_wp2_with fail
  refine HSZ.mono ?_
  rintro e w1 ⟨v, rfl, hv, hB1⟩
  clear HSZ
  by_cases hneg : v < 0
  · clear hv
    go_wp2
    go_ret
    exact ⟨rfl, hB1⟩
  obtain ⟨hv1, hl1, hl2⟩ := hv.resolve_left hneg
  have HLK : Hid (∀ x ∈ l0, x.lock.size ≤ 1048576) := Lib.hid (CB.lolock (by rw [HCL.out.lenC]; exact hl2))
  have HTO : Hid (∀ W, Below w.heap.size w W → Calls Try.prog 13 #[.slice a len cap] W fun e w' => e = .returned (.slice (some ⟨W.heap.size, 0, none⟩) len len) ∧ Hid (CoL 0 w' (some ⟨W.heap.size, 0, none⟩) len l0) ∧ Below W.heap.size W w') := Lib.hid fun W hW => (toCoinS_any 0 a len cap l0 W (HCL.out.below hW) hl1).mono fun e w' q => ⟨q.1, Lib.hid (q.2.1.out.ol HCL.out.lenC (Nat.zero_le _)), q.2.2⟩
  have HEQ := Lib.hid (fun W a b (h1 : CoL 0 W a len l0) (h2 : CoL 0 W b len l0) => eqCoinS_any 0 0 a b len len len l0 W h1 h2 (by omega))
  have H1 := Lib.hid (fun W g (h : CoL 0 W (some ⟨g, 0, none⟩) len l0) => CoinsOk_any 0 (some ⟨g, 0, none⟩) len len l0 W h (by omega))
  have H2 := Lib.hid (fun W g (h : CoL 0 W (some ⟨g, 0, none⟩) len l0) => implCoinsOk_any 0 (some ⟨g, 0, none⟩) len len l0 W h (Nat.le_refl _) hl1 HLK.out)
  obtain ⟨K, hK⟩ : ∃ x, Co.lok l0 = x := ⟨_, rfl⟩
  simp only [hK] at H1 H2
  clear hK
  clear hv hv1 hl2 HLK HCL hlc hcm
  have hcs := HTO.out w1 hB1
  go_wp2_with fail
  refine hcs.mono ?_
  rintro e w2 ⟨rfl, HC2, hx⟩
  have hB2 := hB1.trans (hx.mono hB1.size)
  have hcs := H1.out w2 _ HC2.out
  clear hx hB1 HC2
  go_wp2_with fail
  refine hcs.mono ?_
  rintro e w3 ⟨rfl, hx⟩
  have hB3 := hB2.trans (hx.mono hB2.size)
  have hcs := HTO.out w3 hB3
  clear hx hB2
  go_wp2_with fail
  refine hcs.mono ?_
  rintro e w4 ⟨rfl, HC4, hx⟩
  have hB4 := hB3.trans (hx.mono hB3.size)
  have hcs := H2.out w4 _ HC4.out
  clear hx hB3
  go_wp2_with fail
  refine hcs.mono ?_
  rintro e w5 ⟨rfl, hx⟩
  have hB5 := hB4.trans (hx.mono hB4.size)
  have HC5 := Lib.hid (HC4.out.below hx)
  have hcs := HTO.out w5 hB5
  clear hx hB4 HC4
  go_wp2_with fail
  refine hcs.mono ?_
  rintro e w6 ⟨rfl, HC6, hx⟩
  have hB6 := hB5.trans (hx.mono hB5.size)
  have HC7 := Lib.hid (HC5.out.below hx)
  have hcs := HEQ.out w6 _ _ HC7.out HC6.out
  clear hx hB5 HC5 HTO H1 H2
  go_wp2_with fail
  refine hcs.mono ?_
  rintro e w7 ⟨rfl, hx⟩
  have hB7 := hB6.trans (hx.mono hB6.size)
  clear hx hB6 HC6 HC7 hcs HEQ
  go_wp2
  go_ret
  exact ⟨rfl, hB7⟩
/-! ### The row's step. -/
theorem own : ownKnob Try.prog.godebug = none := by kernel_rfl
theorem laidOut : laidOutB Try.prog = true := by kernel_rfl
set_option maxRecDepth 100000 in
theorem lifted (os : Os) (started : os.Started) (H : Type) (enc : TypeId × Value → H) :
    ReturnsInHanded {} Try.checked os 3 .any (Rows.fnExactCoinsOkSpec.pre6 enc Try.prog Try.f3 Rows.fnExactCoinsOkRow.domain false) (Rows.fnExactCoinsOkSpec.post enc Try.prog Try.f3 false true false false) := by
  refine returnsInHanded_of_change (C := Try.checked) own started (by kernel_rfl) Try.func3
    (ChangeSpec.witness6 (enc := enc) (C := Try.checked) false ⟨#[], #[.slice none 0 0], []⟩ 8 (by kernel_rfl) (by kernel_rfl) (by kernel_rfl) (by kernel_rfl)) ?_
  intro W base args ds gs before hval0 hW hcnd _
  have hval : ∀ (j : Nat) t v, Try.f3.params[j]? = some t → args[j]? = some v → Value.okWide Try.prog W .any base t v := hval0
  have hW' := hW
  obtain ⟨p, q, hA0, hV, rfl, hfz, hnd⟩ := hW
  have hA : DataW.TrodAll enc Try.prog W 0 (fun _ => true) true Try.f3.params.toList args.toList ds p := hA0
  rw [Try.params3] at hA hval
  obtain ⟨v0, vs0, d0, ds0, p0, q0, hargs, rfl, rfl, h0, r0⟩ := trodAll_cons hA
  obtain ⟨rfl, rfl, rfl⟩ := trodAll_nil r0
  obtain rfl : args = #[v0] := by cases args; simp_all
  obtain ⟨rfl, rfl⟩ := trodVars_none hV
  obtain ⟨a0, len0, cap0, rfl⟩ := okWide_slice Try.underlying22 (hval 0 22 v0 rfl rfl)
  have k0 := h0
  have lt0 : ∀ x ∈ p0, x.block < W.heap.size := by obtain ⟨m, hm⟩ := k0; exact DataW.trod_lt m _ _ _ hm
  obtain ⟨z0, w0⟩ : ∃ l, IsCoin W a0 len0 cap0 l := by
    obtain ⟨fuel, hf⟩ := h0
    exact open_coins (by simpa [Value.cells] using hf)
  clear hA0 hval0
  refine (walk a0 len0 cap0 z0 W w0).mono fun e W' ⟨he, bel⟩ => ?_
  subst he
  exact ⟨_, rfl, _, _, _, [], _, [], hW', trodAll_mk1 (shut_bool Try.underlying4 _), (trodAll_cons_mk (Below.trod laidOut (by kernel_rfl) (of_decide_eq_true (by kernel_rfl)) k0 bel lt0) trodAll_mk0), rfl, bel.frame _, fun h => by cases h⟩
theorem over : Rows.fnExactCoinsOkRow.holds Try.pinned (OpenSpec.ofChange Rows.fnExactCoinsOkSpec) :=
  OpenClaim.holds_of_wide 3 Try.f3 rfl rfl rfl rfl rfl rfl rfl ⟨rfl, rfl, rfl, rfl, rfl⟩ rfl rfl rfl rfl rfl (by kernel_rfl) Try.func3 (by kernel_rfl)
    (of_decide_eq_true (by kernel_rfl)) (by unfold Func.isWrapper; first | (rw [if_pos (by decide +kernel)]; kernel_rfl) | (rw [if_neg (by decide +kernel)]; exact ⟨rfl, rfl⟩))
    (fun os started H enc _ => lifted os started H enc)
theorem proved : Rows.FnExactCoinsOkSaid := over
#print axioms proved
end Go.Proofs.Ytohameoomlehlab.fnExactCoinsOk
