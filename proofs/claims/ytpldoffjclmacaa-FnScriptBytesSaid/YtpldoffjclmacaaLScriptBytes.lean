/- For every code of at most 1<<20 bytes (longer ones are let pass by the law itself): ScriptBytes answers as the model's ScriptBytes, and what it writes is read back by ScriptRead. -/
import Derived.Test.YtpldoffjclmacaaRows
import Derived.Test.YtpldoffjclmacaaYf
import Derived.Test.YtpldoffjclmacaaYl
import Derived.WalkKit
import Derived.WalkSpells
import Derived.ProofKit
import Derived.OpenShut
import Derived.ShutString
import Derived.Below
import Derived.SliceStrings
namespace Go.Proofs.Ytpldoffjclmacaa.fnScriptBytes
open Go.ChangeShapes Go.WideShapes Go.ChangeAt Go.RowKit
open Go.ChangeMaps (open_string shut_string)
set_option maxRecDepth 100000 in
set_option maxHeartbeats 3200000 in
theorem walk (a0 : Option Addr) (len0 cap0 : Nat) (z0 : List Int) (w : World) (w0 : IsRow .u8 w a0 len0 cap0 z0) :
    Calls Try.prog 3 #[.slice a0 len0 cap0] w fun e w' => e = .returned (.bool true) ∧ Below w.heap.size w w' := by
  have hcm := w0.len
  by_cases h : (1048576 : Int) < (len0 : Int)
  · go_enter Try.func3, Try.ntmps3
    go_wp2
    go_ret
    exact ⟨rfl, Below.refl _ _⟩
  go_enter Try.func3, Try.ntmps3
  go_wp2_with fail
  refine (drawScriptBytes_any a0 len0 cap0 z0 _ w0 (by omega)).mono ?_
  rintro e w1 ⟨a, n, cap, l, rfl, ol1, hn, hb1⟩
  clear w0 h hcm
  have hcon1 := fun W h => implScriptBytes_any a n cap l W h (by omega)
  have hcon2 := fun W h => specScriptBytes_any a n cap l W h (by omega)
  cases hok : Jo.ok l
  · obtain ⟨X, HX⟩ : ∃ x, Hid (Jo.bs l = x) := ⟨_, Lib.hid rfl⟩
    simp only [HX.out, hok] at hcon1 hcon2
    have hq : (X.toList == X.toList) = true := by simp
    clear HX hok
    go_wp2_with fail
    refine (hcon1 _ ol1).mono ?_
    rintro e w2 ⟨rfl, hb2⟩
    have ol2 := ol1.below hb2
    replace hb2 := below_aft9 hb1 hb2
    clear hb1 ol1
    go_wp2_with fail
    refine (hcon2 _ ol2).mono ?_
    rintro e w3 ⟨rfl, hb3⟩
    replace hb3 := below_aft9 hb2 hb3
    go_wp2
    go_ret
    exact ⟨rfl, hb3⟩
  · have hrd : Jo.read (Jo.bs l) = some l := by
      have e : Jo.bs l = Jo.bytes l := by unfold Jo.bs; rw [if_pos hok]
      rw [e]; exact Jo.read_bytes hok
    have hsz : (Jo.bs l).size ≤ 1048576 := by
      have e : Jo.bs l = Jo.bytes l := by unfold Jo.bs; rw [if_pos hok]
      obtain ⟨h1, h2, _⟩ := (Jo.ok_iff l).1 hok
      have := Jo.bytes_size h2
      rw [e]; omega
    have HLN := Lib.hid ol1.1
    have hcon3 : Hid (∀ W, Calls Try.prog 11 #[.string (Jo.bs l)] W fun e w' => ∃ a3 c3, e = .returned (.tuple #[.slice a3 n c3, .bool true]) ∧ OL w' a3 n l ∧ Below W.heap.size W w') := Lib.hid fun W => (implScriptRead_any _ W hsz).mono fun e w' h => by
      rcases h with ⟨hl, _⟩ | ⟨l', a3, c3, hl, he, hown, hb⟩
      · rw [hrd] at hl; cases hl
      · rw [hrd] at hl; cases hl
        rw [HLN.out] at he hown
        exact ⟨a3, c3, he, (OL.own hown).2, hb⟩
    obtain ⟨X, HX⟩ : ∃ x, Hid (Jo.bs l = x) := ⟨_, Lib.hid rfl⟩
    simp only [HX.out, hok] at hcon1 hcon2
    rw [HX.out] at hcon3
    have hq : (X.toList == X.toList) = true := by simp
    clear HX hok hrd hsz
    go_wp2_with fail
    refine (hcon1 _ ol1).mono ?_
    rintro e w2 ⟨rfl, hb2⟩
    have ol2 := ol1.below hb2
    replace hb2 := below_aft9 hb1 hb2
    clear hb1 ol1
    go_wp2_with fail
    refine (hcon2 _ ol2).mono ?_
    rintro e w3 ⟨rfl, hb3⟩
    have ol3 := ol2.below hb3
    replace hb3 := below_aft9 hb2 hb3
    clear hb2 ol2
    go_wp2_with fail
    refine (hcon3.out _).mono ?_
    rintro e w4 ⟨a3, c3, rfl, ol34, hb4⟩
    have ol4 := ol3.below hb4
    replace hb4 := below_aft9 hb3 hb4
    clear hb3 ol3
    go_wp2_with fail
    refine (wcOps_any a3 a n c3 cap l _ ol34 ol4 (by omega)).mono ?_
    rintro e w5 ⟨rfl, hb5⟩
    replace hb5 := below_aft9 hb4 hb5
    go_wp2
    go_ret
    exact ⟨rfl, hb5⟩
/-! ### The row's step. -/
theorem own : ownKnob Try.prog.godebug = none := by kernel_rfl
theorem laidOut : laidOutB Try.prog = true := by kernel_rfl
set_option maxRecDepth 100000 in
theorem lifted (os : Os) (started : os.Started) (H : Type) (enc : TypeId × Value → H) :
    ReturnsInHanded {} Try.checked os 3 .any (Rows.fnScriptBytesSpec.pre6 enc Try.prog Try.f3 Rows.fnScriptBytesRow.domain false) (Rows.fnScriptBytesSpec.post enc Try.prog Try.f3 false true false false) := by
  refine returnsInHanded_of_change (C := Try.checked) own started (by kernel_rfl) Try.func3
    (ChangeSpec.witness6 (enc := enc) (C := Try.checked) false ⟨#[], #[.slice none 0 0], []⟩ 8 (by kernel_rfl) (by kernel_rfl) (by kernel_rfl) (by kernel_rfl)) ?_
  intro W base args ds gs before hval0 hW hcnd _
  have hval : ∀ (j : Nat) t v, Try.f3.params[j]? = some t → args[j]? = some v → Value.okWide Try.prog W .any base t v := hval0
  have hW' := hW
  obtain ⟨p, q, hA0, hV, rfl, hfz, hnd⟩ := hW
  have hA : DataW.TrodAll enc Try.prog W 0 (fun _ => true) true Try.f3.params.toList args.toList ds p := hA0
  rw [Try.params3] at hA hval
  obtain ⟨v0, vs0, d0, ds0, p0, q0, hargs, rfl, rfl, h0, r0⟩ := trodAll_cons hA
  obtain ⟨rfl, rfl, rfl⟩ := trodAll_nil r0
  obtain rfl : args = #[v0] := by cases args; simp_all
  obtain ⟨rfl, rfl⟩ := trodVars_none hV
  obtain ⟨a0, len0, cap0, rfl⟩ := okWide_slice Try.underlying22 (hval 0 22 v0 rfl rfl)
  have k0 := h0
  have lt0 : ∀ x ∈ p0, x.block < W.heap.size := by obtain ⟨m, hm⟩ := k0; exact DataW.trod_lt m _ _ _ hm
  obtain ⟨z0, w0⟩ : ∃ zs, IsRow .u8 W a0 len0 cap0 zs := by
    obtain ⟨fuel, hf⟩ := h0
    rcases open_ints Try.underlying22 Try.underlying5 (by kernel_rfl) hf with ⟨hcs, _⟩ | ⟨x, l, c, zs, hcs, _, hl, hm, hz, _, hcell, hwz⟩
    · simp [Value.cells] at hcs
      obtain ⟨rfl, rfl, rfl⟩ := hcs
      exact ⟨[], .inl ⟨rfl, rfl, rfl, rfl⟩⟩
    · simp [Value.cells] at hcs
      obtain ⟨rfl, rfl, rfl⟩ := hcs
      exact ⟨zs, .inr ⟨_, rfl, hl, hm, by simpa using hz, hcell, hwz⟩⟩
  clear hA0 hval0
  refine (walk a0 len0 cap0 z0 W w0).mono fun e W' ⟨he, bel⟩ => ?_
  subst he
  exact ⟨_, rfl, _, _, _, [], _, [], hW', trodAll_mk1 (shut_bool Try.underlying4 _), (trodAll_cons_mk (Below.trod laidOut (by kernel_rfl) (of_decide_eq_true (by kernel_rfl)) k0 bel lt0) trodAll_mk0), rfl, bel.frame _, fun h => by cases h⟩
theorem over : Rows.fnScriptBytesRow.holds Try.pinned (OpenSpec.ofChange Rows.fnScriptBytesSpec) :=
  OpenClaim.holds_of_wide 3 Try.f3 rfl rfl rfl rfl rfl rfl rfl ⟨rfl, rfl, rfl, rfl, rfl⟩ rfl rfl rfl rfl rfl (by kernel_rfl) Try.func3 (by kernel_rfl)
    (of_decide_eq_true (by kernel_rfl)) (by unfold Func.isWrapper; first | (rw [if_pos (by decide +kernel)]; kernel_rfl) | (rw [if_neg (by decide +kernel)]; exact ⟨rfl, rfl⟩))
    (fun os started H enc _ => lifted os started H enc)
theorem proved : Rows.FnScriptBytesSaid := over
#print axioms proved
end Go.Proofs.Ytpldoffjclmacaa.fnScriptBytes
