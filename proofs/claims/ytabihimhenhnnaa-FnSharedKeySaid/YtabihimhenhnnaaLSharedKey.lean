/- For every code of at most 1<<20 bytes (longer ones are let pass by the law itself): SharedKey answers as the model's SharedKey, and what it answers with true is a valid key. -/
import Derived.Test.YtabihimhenhnnaaRows
import Derived.Test.YtabihimhenhnnaaSr
import Derived.Test.YtabihimhenhnnaaDz
import Derived.WalkKit
import Derived.WalkSpells
import Derived.ProofKit
import Derived.OpenShut
import Derived.ShutString
import Derived.Below
import Derived.SliceStrings
namespace Go.Proofs.Ytabihimhenhnnaa.fnSharedKey
open Go.ChangeShapes Go.WideShapes Go.ChangeAt Go.RowKit
open Go.ChangeMaps (open_string shut_string)
set_option maxRecDepth 100000 in
set_option maxHeartbeats 1600000 in
theorem walk (a0 : Option Addr) (len0 cap0 : Nat) (z0 : List Int) (w : World) (w0 : IsRow .u8 w a0 len0 cap0 z0) :
    Calls Try.prog 3 #[.slice a0 len0 cap0] w fun e w' => e = .returned (.bool true) ∧ Below w.heap.size w w' := by
  have hcm := w0.len
  by_cases h : (1048576 : Int) < (len0 : Int)
  · go_enter Try.func3, Try.ntmps3
    go_wp2
    go_ret
    exact ⟨rfl, Below.refl _ _⟩
  go_enter Try.func3, Try.ntmps3
  go_wp2_with fail
  refine (drawSharedKey_any a0 len0 cap0 z0 _ w0 (by omega)).mono ?_
  rintro e w1 ⟨ws, g, cp, rfl, n0, n1, h1, hb1⟩
  clear w0 h hcm
  have HIR1 := (IR.own h1).2
  have hcon1 := fun W (h : IR W (some ⟨g, 0, none⟩) ws.length ws) => implSharedKey_any _ ws.length cp ws W h (by omega)
  have hcon2 := fun W (h : IR W (some ⟨g, 0, none⟩) ws.length ws) => specSharedKey_any _ ws.length cp ws W h
  have HE : Hid (Sd.ok ws = true → Gr.kok (Sd.res ws) = true) := Lib.hid fun h => by
    have h2 := Sd.key_kok h
    unfold Sd.res
    rwa [if_pos h]
  obtain ⟨K, HK⟩ : ∃ K, Hid (Sd.res ws = K) := ⟨_, Lib.hid rfl⟩
  obtain ⟨X, HX⟩ : ∃ X, Hid (Sd.ok ws = X) := ⟨_, Lib.hid rfl⟩
  rw [HK.out, HX.out] at hcon1 hcon2 HE
  clear h1
  obtain ⟨m, hm⟩ : ∃ m, ws.length = m := ⟨_, rfl⟩
  have HM := Lib.hid hm
  rw [hm] at hcon1 hcon2 HIR1 n0
  rw [hm]
  clear hm HK HX n1
  cases X
  · clear HE
    go_wp2_with fail
    refine (hcon1 _ HIR1).mono ?_
    rintro e w2 ⟨rfl, hb2⟩
    have HIR2 := HIR1.below hb2
    replace hb2 := below_after hb1 hb2
    clear HIR1 hb1
    go_wp2_with fail
    refine (hcon2 _ HIR2).mono ?_
    rintro e w3 ⟨rfl, hb3⟩
    replace hb3 := below_after hb2 hb3
    clear hb2 HIR2 hcon1 hcon2
    go_wp2
    go_ret
    exact ⟨rfl, hb3⟩
  · have hcon3 := fun W => implKeyOk_any K W
    rw [HE.out rfl] at hcon3
    go_wp2_with fail
    refine (hcon1 _ HIR1).mono ?_
    rintro e w2 ⟨rfl, hb2⟩
    have HIR2 := HIR1.below hb2
    replace hb2 := below_after hb1 hb2
    clear HIR1 hb1
    go_wp2_with fail
    refine (hcon2 _ HIR2).mono ?_
    rintro e w3 ⟨rfl, hb3⟩
    replace hb3 := below_after hb2 hb3
    clear hb2 HIR2 hcon1 hcon2
    go_wp2_with fail
    refine (hcon3 _).mono ?_
    rintro e w4 ⟨rfl, hb4⟩
    replace hb4 := below_after hb3 hb4
    clear hb3
    go_wp2
    go_ret
    exact ⟨rfl, hb4⟩
/-! ### The row's step. -/
theorem own : ownKnob Try.prog.godebug = none := by kernel_rfl
theorem laidOut : laidOutB Try.prog = true := by kernel_rfl
set_option maxRecDepth 100000 in
theorem lifted (os : Os) (started : os.Started) (H : Type) (enc : TypeId × Value → H) :
    ReturnsInHanded {} Try.checked os 3 .any (Rows.fnSharedKeySpec.pre6 enc Try.prog Try.f3 Rows.fnSharedKeyRow.domain false) (Rows.fnSharedKeySpec.post enc Try.prog Try.f3 false true false false) := by
  refine returnsInHanded_of_change (C := Try.checked) own started (by kernel_rfl) Try.func3
    (ChangeSpec.witness6 (enc := enc) (C := Try.checked) false ⟨#[], #[.slice none 0 0], []⟩ 8 (by kernel_rfl) (by kernel_rfl) (by kernel_rfl) (by kernel_rfl)) ?_
  intro W base args ds gs before hval0 hW hcnd _
  have hval : ∀ (j : Nat) t v, Try.f3.params[j]? = some t → args[j]? = some v → Value.okWide Try.prog W .any base t v := hval0
  have hW' := hW
  obtain ⟨p, q, hA0, hV, rfl, hfz, hnd⟩ := hW
  have hA : DataW.TrodAll enc Try.prog W 0 (fun _ => true) true Try.f3.params.toList args.toList ds p := hA0
  rw [Try.params3] at hA hval
  obtain ⟨v0, vs0, d0, ds0, p0, q0, hargs, rfl, rfl, h0, r0⟩ := trodAll_cons hA
  obtain ⟨rfl, rfl, rfl⟩ := trodAll_nil r0
  obtain rfl : args = #[v0] := by cases args; simp_all
  obtain ⟨rfl, rfl⟩ := trodVars_none hV
  obtain ⟨a0, len0, cap0, rfl⟩ := okWide_slice Try.underlying22 (hval 0 22 v0 rfl rfl)
  have k0 := h0
  have lt0 : ∀ x ∈ p0, x.block < W.heap.size := by obtain ⟨m, hm⟩ := k0; exact DataW.trod_lt m _ _ _ hm
  obtain ⟨z0, w0⟩ : ∃ zs, IsRow .u8 W a0 len0 cap0 zs := by
    obtain ⟨fuel, hf⟩ := h0
    rcases open_ints Try.underlying22 Try.underlying5 (by kernel_rfl) hf with ⟨hcs, _⟩ | ⟨x, l, c, zs, hcs, _, hl, hm, hz, _, hcell, hwz⟩
    · simp [Value.cells] at hcs
      obtain ⟨rfl, rfl, rfl⟩ := hcs
      exact ⟨[], .inl ⟨rfl, rfl, rfl, rfl⟩⟩
    · simp [Value.cells] at hcs
      obtain ⟨rfl, rfl, rfl⟩ := hcs
      exact ⟨zs, .inr ⟨_, rfl, hl, hm, by simpa using hz, hcell, hwz⟩⟩
  clear hA0 hval0
  refine (walk a0 len0 cap0 z0 W w0).mono fun e W' ⟨he, bel⟩ => ?_
  subst he
  exact ⟨_, rfl, _, _, _, [], _, [], hW', trodAll_mk1 (shut_bool Try.underlying4 _), (trodAll_cons_mk (Below.trod laidOut (by kernel_rfl) (of_decide_eq_true (by kernel_rfl)) k0 bel lt0) trodAll_mk0), rfl, bel.frame _, fun h => by cases h⟩
theorem over : Rows.fnSharedKeyRow.holds Try.pinned (OpenSpec.ofChange Rows.fnSharedKeySpec) :=
  OpenClaim.holds_of_wide 3 Try.f3 rfl rfl rfl rfl rfl rfl rfl ⟨rfl, rfl, rfl, rfl, rfl⟩ rfl rfl rfl rfl rfl (by kernel_rfl) Try.func3 (by kernel_rfl)
    (of_decide_eq_true (by kernel_rfl)) (by unfold Func.isWrapper; first | (rw [if_pos (by decide +kernel)]; kernel_rfl) | (rw [if_neg (by decide +kernel)]; exact ⟨rfl, rfl⟩))
    (fun os started H enc _ => lifted os started H enc)
theorem proved : Rows.FnSharedKeySaid := over
#print axioms proved
end Go.Proofs.Ytabihimhenhnnaa.fnSharedKey
