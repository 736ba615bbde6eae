/- For every code of at most 1<<20 bytes (longer ones are let pass by the law itself): PeaksRoot answers as the model's PeaksRoot, and the root of one peak is that peak. -/
import Derived.Test.YtdgepneaeieogacRows
import Derived.Test.YtdgepneaeieogacDw
import Derived.Test.YtdgepneaeieogacMg
import Derived.Test.YtdgepneaeieogacMk
import Derived.WalkKit
import Derived.WalkSpells
import Derived.ProofKit
import Derived.OpenShut
import Derived.ShutString
import Derived.Below
import Derived.SliceStrings
namespace Go.Proofs.Ytdgepneaeieogac.fnPeaksRoot
open Go.ChangeShapes Go.WideShapes Go.ChangeAt Go.RowKit
open Go.ChangeMaps (open_string shut_string)
set_option maxRecDepth 100000 in
set_option maxHeartbeats 1600000 in
theorem walk (a0 : Option Addr) (len0 cap0 : Nat) (z0 : List Int) (w : World) (w0 : IsRow .u8 w a0 len0 cap0 z0) :
    Calls Try.prog 4 #[.slice a0 len0 cap0] w fun e w' => e = .returned (.bool true) ∧ Below w.heap.size w w' := by
  have hcm := w0.len
  by_cases h : (1048576 : Int) < (len0 : Int)
  · go_enter Try.func4, Try.ntmps4
    go_wp2
    go_ret
    exact ⟨rfl, Below.refl _ _⟩
  go_enter Try.func4, Try.ntmps4
  go_wp2_with fail
  refine (drawPeaksRoot_any a0 len0 cap0 z0 _ w0 (by omega)).mono ?_
  rintro e w1 ⟨b, cp, p, rfl, hpl, hb1, hown1⟩
  clear w0
  have HI := Lib.hid (IR.own hown1).2
  have hcc := own_capV hown1
  obtain ⟨r, ok, HA⟩ : ∃ r ok, Hid (Me.prA p = .tuple #[.int .i64 r, .bool ok]) := by
    unfold Me.prA
    split
    · exact ⟨_, _, Lib.hid rfl⟩
    · exact ⟨_, _, Lib.hid rfl⟩
  have HONE : Hid (ok = true → p.length = 1 → r = p.getD 0 0) := Lib.hid fun hk h1 => by
    by_cases h : Me.prOk p
    · have h2 : Me.prA p = .tuple #[.int .i64 (Me.fold p), .bool true] := if_pos h
      rw [HA.out] at h2
      have h3 : r = Me.fold p := by injection h2 with h4; simp at h4; exact h4.1
      rw [h3]
      match p, h1 with
      | [d], _ => rfl
    · have h2 : Me.prA p = .tuple #[.int .i64 0, .bool false] := if_neg h
      rw [HA.out, hk] at h2
      simp at h2
  obtain ⟨m, hm⟩ : ∃ m, p.length = m := ⟨_, rfl⟩
  have HM := Lib.hid hm
  rw [hm] at HI hcc hpl
  rw [hm]
  clear hown1 hm
  go_wp2_with fail
  refine (implPeaksRoot_any b m cp p _ HI.out (by omega)).mono ?_
  rw [HA.out]
  rintro e w2 ⟨rfl, hb2⟩
  have HI2 := Lib.hid (HI.out.below hb2)
  have hb12 := hb1.trans (hb2.mono hb1.size)
  clear hb1 hb2
  go_wp2_with fail
  refine (specPeaksRoot_any b m cp p _ HI2.out (by omega)).mono ?_
  rw [HA.out]
  rintro e w3 ⟨rfl, hb3⟩
  have HI3 := Lib.hid (HI2.out.below hb3)
  have hb13 := hb12.trans (hb3.mono hb12.size)
  clear hb12 hb3
  cases ok
  · go_wp2
    go_ret
    exact ⟨rfl, hb13⟩
  · by_cases h1 : m = 1
    · subst h1
      obtain ⟨b', off', rfl, _, hc⟩ := HI3.out.2 (by omega)
      have hc0 := hc 0 (by omega)
      rw [Nat.add_zero, ← HONE.out rfl HM.out] at hc0
      clear hc
      go_wp2
      go_ret
      exact ⟨rfl, hb13⟩
    · have hm1 : ((m : Int) == 1) = false := by simp; omega
      clear h1
      go_wp2
      go_ret
      exact ⟨rfl, hb13⟩
/-! ### The row's step. -/
theorem own : ownKnob Try.prog.godebug = none := by kernel_rfl
theorem laidOut : laidOutB Try.prog = true := by kernel_rfl
set_option maxRecDepth 100000 in
theorem lifted (os : Os) (started : os.Started) (H : Type) (enc : TypeId × Value → H) :
    ReturnsInHanded {} Try.checked os 4 .any (Rows.fnPeaksRootSpec.pre6 enc Try.prog Try.f4 Rows.fnPeaksRootRow.domain false) (Rows.fnPeaksRootSpec.post enc Try.prog Try.f4 false true false false) := by
  refine returnsInHanded_of_change (C := Try.checked) own started (by kernel_rfl) Try.func4
    (ChangeSpec.witness6 (enc := enc) (C := Try.checked) false ⟨#[], #[.slice none 0 0], []⟩ 8 (by kernel_rfl) (by kernel_rfl) (by kernel_rfl) (by kernel_rfl)) ?_
  intro W base args ds gs before hval0 hW hcnd _
  have hval : ∀ (j : Nat) t v, Try.f4.params[j]? = some t → args[j]? = some v → Value.okWide Try.prog W .any base t v := hval0
  have hW' := hW
  obtain ⟨p, q, hA0, hV, rfl, hfz, hnd⟩ := hW
  have hA : DataW.TrodAll enc Try.prog W 0 (fun _ => true) true Try.f4.params.toList args.toList ds p := hA0
  rw [Try.params4] at hA hval
  obtain ⟨v0, vs0, d0, ds0, p0, q0, hargs, rfl, rfl, h0, r0⟩ := trodAll_cons hA
  obtain ⟨rfl, rfl, rfl⟩ := trodAll_nil r0
  obtain rfl : args = #[v0] := by cases args; simp_all
  obtain ⟨rfl, rfl⟩ := trodVars_none hV
  obtain ⟨a0, len0, cap0, rfl⟩ := okWide_slice Try.underlying22 (hval 0 22 v0 rfl rfl)
  have k0 := h0
  have lt0 : ∀ x ∈ p0, x.block < W.heap.size := by obtain ⟨m, hm⟩ := k0; exact DataW.trod_lt m _ _ _ hm
  obtain ⟨z0, w0⟩ : ∃ zs, IsRow .u8 W a0 len0 cap0 zs := by
    obtain ⟨fuel, hf⟩ := h0
    rcases open_ints Try.underlying22 Try.underlying5 (by kernel_rfl) hf with ⟨hcs, _⟩ | ⟨x, l, c, zs, hcs, _, hl, hm, hz, _, hcell, hwz⟩
    · simp [Value.cells] at hcs
      obtain ⟨rfl, rfl, rfl⟩ := hcs
      exact ⟨[], .inl ⟨rfl, rfl, rfl, rfl⟩⟩
    · simp [Value.cells] at hcs
      obtain ⟨rfl, rfl, rfl⟩ := hcs
      exact ⟨zs, .inr ⟨_, rfl, hl, hm, by simpa using hz, hcell, hwz⟩⟩
  clear hA0 hval0
  refine (walk a0 len0 cap0 z0 W w0).mono fun e W' ⟨he, bel⟩ => ?_
  subst he
  exact ⟨_, rfl, _, _, _, [], _, [], hW', trodAll_mk1 (shut_bool Try.underlying4 _), (trodAll_cons_mk (Below.trod laidOut (by kernel_rfl) (of_decide_eq_true (by kernel_rfl)) k0 bel lt0) trodAll_mk0), rfl, bel.frame _, fun h => by cases h⟩
theorem over : Rows.fnPeaksRootRow.holds Try.pinned (OpenSpec.ofChange Rows.fnPeaksRootSpec) :=
  OpenClaim.holds_of_wide 4 Try.f4 rfl rfl rfl rfl rfl rfl rfl ⟨rfl, rfl, rfl, rfl, rfl⟩ rfl rfl rfl rfl rfl (by kernel_rfl) Try.func4 (by kernel_rfl)
    (of_decide_eq_true (by kernel_rfl)) (by unfold Func.isWrapper; first | (rw [if_pos (by decide +kernel)]; kernel_rfl) | (rw [if_neg (by decide +kernel)]; exact ⟨rfl, rfl⟩))
    (fun os started H enc _ => lifted os started H enc)
theorem proved : Rows.FnPeaksRootSaid := over
#print axioms proved
end Go.Proofs.Ytdgepneaeieogac.fnPeaksRoot
