/- For every list of strings of at most 1<<20 bytes in all (longer ones are let pass by the law itself), MerkleRoot of the program answers as the model's MerkleRoot, and leaves the list as it was. -/
import Derived.Test.YtdgepneaeieogaaRows
import Derived.Test.YtdgepneaeieogaaMb
import Derived.WalkKit
import Derived.WalkSpells
import Derived.ProofKit
import Derived.OpenShut
import Derived.ShutString
import Derived.Below
import Derived.SliceStrings
namespace Go.Proofs.Ytdgepneaeieogaa.fnExactMerkleRoot
open Go.ChangeShapes Go.WideShapes Go.ChangeAt Go.RowKit
open Go.ChangeMaps (open_string shut_string)
set_option maxRecDepth 100000 in
set_option maxHeartbeats 1600000 in
theorem walk (a0 : Option Addr) (len0 cap0 : Nat) (z0 : List ByteArray) (w : World) (w0 : IsStrs w a0 len0 cap0 z0) :
    Calls Try.prog 3 #[.slice a0 len0 cap0] w fun e w' => e = .returned (.bool true) ∧ Below w.heap.size w w' := by
  obtain ⟨hl0, hl1, hl2⟩ := w0.len
  have HS := Lib.hid w0.sr
  have HZ := Lib.hid w0.sizes
  clear w0
  generalize z0.take len0 = ss at HS HZ
  go_enter Try.func3, Try.ntmps3
  go_wp2_with fail
  refine (szStringS_any a0 len0 cap0 ss 1048576 _ HS.out (by omega) (by omega) hl0 HZ.out).mono ?_
  rintro e w1 ⟨v, rfl, hv, hb1⟩
  by_cases hneg : v < 0
  · go_wp2
    go_ret
    exact ⟨rfl, hb1⟩
  obtain ⟨hv', hvz⟩ : (len0 : Int) ≤ 1048576 ∧ ∀ s ∈ ss, (s.size : Int) ≤ 1048576 := by
    rcases hv with h | h
    · omega
    · exact h.2
  have HZ2 : Hid (∀ s ∈ ss, s.size ≤ 4611686018427387904) := Lib.hid fun s h => by have := hvz s h; omega
  obtain ⟨r, b, HA⟩ : ∃ r b, Hid (Me.rootA ss = .tuple #[.int .i64 r, .bool b]) := by
    unfold Me.rootA
    split
    · exact ⟨_, _, Lib.hid rfl⟩
    · exact ⟨_, _, Lib.hid rfl⟩
  clear hv hvz
  go_wp2_with fail
  refine (toStringS_any a0 len0 cap0 ss _ (HS.out.below hb1) (by omega)).mono ?_
  rintro e w2 ⟨b2, rfl, hn2, hs2, hb2⟩
  have HS2 := Lib.hid hs2
  have hb12 := hb1.trans (hb2.mono hb1.size)
  clear hs2 hb2
  go_wp2_with fail
  refine (specMerkleRoot_any _ len0 len0 ss _ HS2.out (Nat.le_refl _) (by omega) HZ2.out).mono ?_
  rw [HA.out]
  rintro e w3 ⟨rfl, hb3⟩
  have hb13 := hb12.trans (hb3.mono hb12.size)
  go_wp2_with fail
  refine (toStringS_any a0 len0 cap0 ss _ (HS.out.below hb13) (by omega)).mono ?_
  rintro e w4 ⟨b4, rfl, hn4, hs4, hb4⟩
  have HS4 := Lib.hid hs4
  have hb14 := hb13.trans (hb4.mono hb13.size)
  clear hs4 hb3 hb4
  go_wp2_with fail
  refine (implMerkleRoot_any _ len0 len0 ss _ HS4.out (Nat.le_refl _) (by omega) HZ2.out).mono ?_
  rw [HA.out]
  rintro e w5 ⟨rfl, hb5⟩
  have HS5 := Lib.hid (HS4.out.below hb5)
  have hb15 := hb14.trans (hb5.mono hb14.size)
  clear hb5
  cases b
  all_goals
    go_wp2_with fail
    refine (toStringS_any a0 len0 cap0 ss _ (HS.out.below hb15) (by omega)).mono ?_
    rintro e w6 ⟨b6, rfl, hn6, hs6, hb6⟩
    have HS6 := Lib.hid hs6
    have HS56 := Lib.hid (HS5.out.below hb6)
    have hb16 := hb15.trans (hb6.mono hb15.size)
    clear hs6 hb6
    go_wp2_with fail
    refine (eqStringS_any _ _ len0 len0 len0 ss _ HS56.out HS6.out hl0).mono ?_
    rintro e w7 ⟨rfl, hb7⟩
    go_wp2
    go_ret
    exact ⟨rfl, hb16.trans (hb7.mono hb16.size)⟩
/-! ### The row's step. -/
theorem own : ownKnob Try.prog.godebug = none := by kernel_rfl
theorem laidOut : laidOutB Try.prog = true := by kernel_rfl
set_option maxRecDepth 100000 in
theorem lifted (os : Os) (started : os.Started) (H : Type) (enc : TypeId × Value → H) :
    ReturnsInHanded {} Try.checked os 3 .any (Rows.fnExactMerkleRootSpec.pre6 enc Try.prog Try.f3 Rows.fnExactMerkleRootRow.domain false) (Rows.fnExactMerkleRootSpec.post enc Try.prog Try.f3 false true false false) := by
  refine returnsInHanded_of_change (C := Try.checked) own started (by kernel_rfl) Try.func3
    (ChangeSpec.witness6 (enc := enc) (C := Try.checked) false ⟨#[], #[.slice none 0 0], []⟩ 8 (by kernel_rfl) (by kernel_rfl) (by kernel_rfl) (by kernel_rfl)) ?_
  intro W base args ds gs before hval0 hW hcnd _
  have hval : ∀ (j : Nat) t v, Try.f3.params[j]? = some t → args[j]? = some v → Value.okWide Try.prog W .any base t v := hval0
  have hW' := hW
  obtain ⟨p, q, hA0, hV, rfl, hfz, hnd⟩ := hW
  have hA : DataW.TrodAll enc Try.prog W 0 (fun _ => true) true Try.f3.params.toList args.toList ds p := hA0
  rw [Try.params3] at hA hval
  obtain ⟨v0, vs0, d0, ds0, p0, q0, hargs, rfl, rfl, h0, r0⟩ := trodAll_cons hA
  obtain ⟨rfl, rfl, rfl⟩ := trodAll_nil r0
  obtain rfl : args = #[v0] := by cases args; simp_all
  obtain ⟨rfl, rfl⟩ := trodVars_none hV
  obtain ⟨a0, len0, cap0, rfl⟩ := okWide_slice Try.underlying22 (hval 0 22 v0 rfl rfl)
  have k0 := h0
  have lt0 : ∀ x ∈ p0, x.block < W.heap.size := by obtain ⟨m, hm⟩ := k0; exact DataW.trod_lt m _ _ _ hm
  obtain ⟨z0, w0⟩ : ∃ zs, IsStrs W a0 len0 cap0 zs := by
    obtain ⟨fuel, hf⟩ := h0
    rcases open_strings Try.underlying22 Try.underlying9 (by kernel_rfl) hf with ⟨hcs, _⟩ | ⟨x, l, c, zs, hcs, _, hl, hm, hz, _, hcell, hwz⟩
    · simp [Value.cells] at hcs
      obtain ⟨rfl, rfl, rfl⟩ := hcs
      exact ⟨[], .inl ⟨rfl, rfl, rfl, rfl⟩⟩
    · simp [Value.cells] at hcs
      obtain ⟨rfl, rfl, rfl⟩ := hcs
      exact ⟨zs, .inr ⟨_, rfl, hl, hm, by simpa using hz, hcell, hwz⟩⟩
  clear hA0 hval0
  refine (walk a0 len0 cap0 z0 W w0).mono fun e W' ⟨he, bel⟩ => ?_
  subst he
  exact ⟨_, rfl, _, _, _, [], _, [], hW', trodAll_mk1 (shut_bool Try.underlying4 _), (trodAll_cons_mk (Below.trod laidOut (by kernel_rfl) (of_decide_eq_true (by kernel_rfl)) k0 bel lt0) trodAll_mk0), rfl, bel.frame _, fun h => by cases h⟩
theorem over : Rows.fnExactMerkleRootRow.holds Try.pinned (OpenSpec.ofChange Rows.fnExactMerkleRootSpec) :=
  OpenClaim.holds_of_wide 3 Try.f3 rfl rfl rfl rfl rfl rfl rfl ⟨rfl, rfl, rfl, rfl, rfl⟩ rfl rfl rfl rfl rfl (by kernel_rfl) Try.func3 (by kernel_rfl)
    (of_decide_eq_true (by kernel_rfl)) (by unfold Func.isWrapper; first | (rw [if_pos (by decide +kernel)]; kernel_rfl) | (rw [if_neg (by decide +kernel)]; exact ⟨rfl, rfl⟩))
    (fun os started H enc _ => lifted os started H enc)
theorem proved : Rows.FnExactMerkleRootSaid := over
#print axioms proved
end Go.Proofs.Ytdgepneaeieogaa.fnExactMerkleRoot
