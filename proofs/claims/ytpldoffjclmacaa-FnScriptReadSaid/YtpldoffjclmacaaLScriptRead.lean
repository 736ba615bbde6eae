/- For every code of at most 1<<20 bytes (longer ones are let pass by the law itself): ScriptRead answers as the model's ScriptRead, and what it reads is written again by ScriptBytes. -/
import Derived.Test.YtpldoffjclmacaaRows
import Derived.Test.YtpldoffjclmacaaYf
import Derived.Test.YtpldoffjclmacaaYl
import Derived.Test.YtpldoffjclmacaaZb
import Derived.WalkKit
import Derived.WalkSpells
import Derived.ProofKit
import Derived.OpenShut
import Derived.ShutString
import Derived.Below
import Derived.SliceStrings
namespace Go.Proofs.Ytpldoffjclmacaa.fnScriptRead
open Go.ChangeShapes Go.WideShapes Go.ChangeAt Go.RowKit
open Go.ChangeMaps (open_string shut_string)
set_option maxRecDepth 100000 in
set_option maxHeartbeats 3200000 in
theorem walk (a0 : Option Addr) (len0 cap0 : Nat) (z0 : List Int) (w : World) (w0 : IsRow .u8 w a0 len0 cap0 z0) :
    Calls Try.prog 4 #[.slice a0 len0 cap0] w fun e w' => e = .returned (.bool true) ∧ Below w.heap.size w w' := by
  have hcm := w0.len
  by_cases h : (1048576 : Int) < (len0 : Int)
  · go_enter Try.func4, Try.ntmps4
    go_wp2
    go_ret
    exact ⟨rfl, Below.refl _ _⟩
  go_enter Try.func4, Try.ntmps4
  go_wp2_with fail
  refine (drawScriptRead_any a0 len0 cap0 z0 _ w0 (by omega)).mono ?_
  rintro e w1 ⟨s, rfl, hs, hb1⟩
  clear w0 h hcm
  have hcon1 := fun W => implScriptRead_any s W (by omega)
  have hcon2 := fun W => specScriptRead_any s W (by omega)
  cases hr : Jo.read s with
  | none =>
    have hc1 : Hid (∀ W, Calls Try.prog 11 #[.string s] W fun e w' => e = .returned (.tuple #[.slice none 0 0, .bool false]) ∧ Below W.heap.size W w') := Lib.hid fun W => (hcon1 W).mono fun e w' h => by
      rcases h with ⟨_, he, hb⟩ | ⟨l, a, cap, hl, _⟩
      · exact ⟨he, hb⟩
      · rw [hr] at hl; cases hl
    have hc2 : Hid (∀ W, Calls Try.prog 14 #[.string s] W fun e w' => e = .returned (.tuple #[.slice none 0 0, .bool false]) ∧ Below W.heap.size W w') := Lib.hid fun W => (hcon2 W).mono fun e w' h => by
      rcases h with ⟨_, he, hb⟩ | ⟨l, a, cap, hl, _⟩
      · exact ⟨he, hb⟩
      · rw [hr] at hl; cases hl
    have HE : Hid (∀ W, OL W none 0 []) := Lib.hid fun W => ⟨rfl, fun h => absurd h (by omega)⟩
    clear hcon1 hcon2 hr hs
    go_wp2_with fail
    refine (hc1.out _).mono ?_
    rintro e w2 ⟨rfl, hb2⟩
    replace hb2 := below_aft9 hb1 hb2
    clear hb1
    go_wp2_with fail
    refine (hc2.out _).mono ?_
    rintro e w3 ⟨rfl, hb3⟩
    replace hb3 := below_aft9 hb2 hb3
    clear hb2
    go_wp2_with fail
    refine (wcOps_any none none 0 0 0 [] _ (HE.out _) (HE.out _) (by omega)).mono ?_
    rintro e w4 ⟨rfl, hb4⟩
    replace hb4 := below_aft9 hb3 hb4
    go_wp2
    go_ret
    exact ⟨rfl, hb4⟩
  | some l =>
    obtain ⟨ht, hok⟩ := Jo.bytes_read hr
    have h40 : l.length ≤ 40 := ((Jo.ok_iff l).1 hok).1
    have htx : Jo.bs l = s := by unfold Jo.bs; rw [if_pos hok, ht]
    obtain ⟨n, HN⟩ : ∃ n, Hid (l.length = n) := ⟨_, Lib.hid rfl⟩
    rw [HN.out] at h40
    have hc1 : Hid (∀ W, Calls Try.prog 11 #[.string s] W fun e w' => ∃ a cap, e = .returned (.tuple #[.slice a n cap, .bool true]) ∧ OL w' a n l ∧ Below W.heap.size W w') := Lib.hid fun W => (hcon1 W).mono fun e w' h => by
      rcases h with ⟨hl, _⟩ | ⟨l', a, cap, hl, he, hown, hb⟩
      · rw [hr] at hl; cases hl
      · rw [hr] at hl; cases hl
        rw [HN.out] at he hown
        exact ⟨a, cap, he, (OL.own hown).2, hb⟩
    have hc2 : Hid (∀ W, Calls Try.prog 14 #[.string s] W fun e w' => ∃ a cap, e = .returned (.tuple #[.slice a n cap, .bool true]) ∧ OL w' a n l ∧ Below W.heap.size W w') := Lib.hid fun W => (hcon2 W).mono fun e w' h => by
      rcases h with ⟨hl, _⟩ | ⟨l', a, cap, hl, he, hown, hb⟩
      · rw [hr] at hl; cases hl
      · rw [hr] at hl; cases hl
        rw [HN.out] at he hown
        exact ⟨a, cap, he, (OL.own hown).2, hb⟩
    have hc3 : Hid (∀ W a cap, OL W a n l → Calls Try.prog 9 #[.slice a n cap] W fun e w' => e = .returned (.tuple #[.string s, .bool true]) ∧ Below W.heap.size W w') := Lib.hid fun W a cap hol => by
      have := implScriptBytes_any a n cap l W hol (by omega)
      rw [htx, hok] at this
      exact this
    have hq : (s.toList == s.toList) = true := by simp
    clear hcon1 hcon2 hr hs ht hok htx HN
    go_wp2_with fail
    refine (hc1.out _).mono ?_
    rintro e w2 ⟨a1, cap1, rfl, ol1, hb2⟩
    replace hb2 := below_aft9 hb1 hb2
    clear hb1
    go_wp2_with fail
    refine (hc2.out _).mono ?_
    rintro e w3 ⟨a2, cap2, rfl, ol2, hb3⟩
    have ol13 := ol1.below hb3
    replace hb3 := below_aft9 hb2 hb3
    clear hb2 ol1
    go_wp2_with fail
    refine (wcOps_any a1 a2 n cap1 cap2 l _ ol13 ol2 (by omega)).mono ?_
    rintro e w4 ⟨rfl, hb4⟩
    have ol14 := ol13.below hb4
    replace hb4 := below_aft9 hb3 hb4
    clear hb3 ol13 ol2
    go_wp2_with fail
    refine (hc3.out _ _ _ ol14).mono ?_
    rintro e w5 ⟨rfl, hb5⟩
    replace hb5 := below_aft9 hb4 hb5
    clear hb4 ol14
    go_wp2
    go_ret
    exact ⟨rfl, hb5⟩
/-! ### The row's step. -/
theorem own : ownKnob Try.prog.godebug = none := by kernel_rfl
theorem laidOut : laidOutB Try.prog = true := by kernel_rfl
set_option maxRecDepth 100000 in
theorem lifted (os : Os) (started : os.Started) (H : Type) (enc : TypeId × Value → H) :
    ReturnsInHanded {} Try.checked os 4 .any (Rows.fnScriptReadSpec.pre6 enc Try.prog Try.f4 Rows.fnScriptReadRow.domain false) (Rows.fnScriptReadSpec.post enc Try.prog Try.f4 false true false false) := by
  refine returnsInHanded_of_change (C := Try.checked) own started (by kernel_rfl) Try.func4
    (ChangeSpec.witness6 (enc := enc) (C := Try.checked) false ⟨#[], #[.slice none 0 0], []⟩ 8 (by kernel_rfl) (by kernel_rfl) (by kernel_rfl) (by kernel_rfl)) ?_
  intro W base args ds gs before hval0 hW hcnd _
  have hval : ∀ (j : Nat) t v, Try.f4.params[j]? = some t → args[j]? = some v → Value.okWide Try.prog W .any base t v := hval0
  have hW' := hW
  obtain ⟨p, q, hA0, hV, rfl, hfz, hnd⟩ := hW
  have hA : DataW.TrodAll enc Try.prog W 0 (fun _ => true) true Try.f4.params.toList args.toList ds p := hA0
  rw [Try.params4] at hA hval
  obtain ⟨v0, vs0, d0, ds0, p0, q0, hargs, rfl, rfl, h0, r0⟩ := trodAll_cons hA
  obtain ⟨rfl, rfl, rfl⟩ := trodAll_nil r0
  obtain rfl : args = #[v0] := by cases args; simp_all
  obtain ⟨rfl, rfl⟩ := trodVars_none hV
  obtain ⟨a0, len0, cap0, rfl⟩ := okWide_slice Try.underlying22 (hval 0 22 v0 rfl rfl)
  have k0 := h0
  have lt0 : ∀ x ∈ p0, x.block < W.heap.size := by obtain ⟨m, hm⟩ := k0; exact DataW.trod_lt m _ _ _ hm
  obtain ⟨z0, w0⟩ : ∃ zs, IsRow .u8 W a0 len0 cap0 zs := by
    obtain ⟨fuel, hf⟩ := h0
    rcases open_ints Try.underlying22 Try.underlying5 (by kernel_rfl) hf with ⟨hcs, _⟩ | ⟨x, l, c, zs, hcs, _, hl, hm, hz, _, hcell, hwz⟩
    · simp [Value.cells] at hcs
      obtain ⟨rfl, rfl, rfl⟩ := hcs
      exact ⟨[], .inl ⟨rfl, rfl, rfl, rfl⟩⟩
    · simp [Value.cells] at hcs
      obtain ⟨rfl, rfl, rfl⟩ := hcs
      exact ⟨zs, .inr ⟨_, rfl, hl, hm, by simpa using hz, hcell, hwz⟩⟩
  clear hA0 hval0
  refine (walk a0 len0 cap0 z0 W w0).mono fun e W' ⟨he, bel⟩ => ?_
  subst he
  exact ⟨_, rfl, _, _, _, [], _, [], hW', trodAll_mk1 (shut_bool Try.underlying4 _), (trodAll_cons_mk (Below.trod laidOut (by kernel_rfl) (of_decide_eq_true (by kernel_rfl)) k0 bel lt0) trodAll_mk0), rfl, bel.frame _, fun h => by cases h⟩
theorem over : Rows.fnScriptReadRow.holds Try.pinned (OpenSpec.ofChange Rows.fnScriptReadSpec) :=
  OpenClaim.holds_of_wide 4 Try.f4 rfl rfl rfl rfl rfl rfl rfl ⟨rfl, rfl, rfl, rfl, rfl⟩ rfl rfl rfl rfl rfl (by kernel_rfl) Try.func4 (by kernel_rfl)
    (of_decide_eq_true (by kernel_rfl)) (by unfold Func.isWrapper; first | (rw [if_pos (by decide +kernel)]; kernel_rfl) | (rw [if_neg (by decide +kernel)]; exact ⟨rfl, rfl⟩))
    (fun os started H enc _ => lifted os started H enc)
theorem proved : Rows.FnScriptReadSaid := over
#print axioms proved
end Go.Proofs.Ytpldoffjclmacaa.fnScriptRead
