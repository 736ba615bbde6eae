/- For every code of at most 1<<20 bytes (longer ones are let pass by the law itself): FromHex reads what the model reads, and HexOf writes what was read back. -/
import Derived.Test.YtegdckdfllkmeabRows
import Derived.Test.YtegdckdfllkmeabHi
import Derived.Test.YtegdckdfllkmeabHd
import Derived.WalkKit
import Derived.WalkSpells
import Derived.ProofKit
import Derived.OpenShut
import Derived.ShutString
import Derived.Below
import Derived.SliceStrings
namespace Go.Proofs.Ytegdckdfllkmeab.fnFromHex
open Go.ChangeShapes Go.WideShapes Go.ChangeAt Go.RowKit
open Go.ChangeMaps (open_string shut_string)
set_option maxRecDepth 100000 in
set_option maxHeartbeats 1600000 in
theorem walk (a0 : Option Addr) (len0 cap0 : Nat) (z0 : List Int) (w : World) (w0 : IsRow .u8 w a0 len0 cap0 z0) :
    Calls Try.prog 6 #[.slice a0 len0 cap0] w fun e w' => e = .returned (.bool true) ∧ Below w.heap.size w w' := by
  have hcm := w0.len
  by_cases h : (1048576 : Int) < (len0 : Int)
  · go_enter Try.func6, Try.ntmps6
    go_wp2
    go_ret
    exact ⟨rfl, Below.refl _ _⟩
  go_enter Try.func6, Try.ntmps6
  go_wp2_with fail
  refine (drawFromHex_any a0 len0 cap0 z0 _ w0 (by omega)).mono ?_
  rintro e w1 ⟨s, rfl, hs, hb1⟩
  clear w0
  go_wp2_with fail
  refine (implFromHex_any s _ (by omega)).mono ?_
  rintro e w2 ⟨v1, rfl, e1, hb2⟩
  by_cases hg : Hx.good s
  · obtain rfl : v1 = Hx.yes s := by
      rcases e1 with ⟨_, e1⟩ | ⟨hn, _⟩
      · exact e1
      · exact absurd hg hn
    have HG := Lib.hid hg
    have HB := Lib.hid (Hx.str_from s hg)
    clear e1 hg
    unfold Hx.yes
    go_wp2_with fail
    refine (specFromHex_any s _ (by omega)).mono ?_
    rintro e w3 ⟨v2, rfl, e2, hb3⟩
    obtain rfl : v2 = Hx.yes s := by
      rcases e2 with ⟨_, e2⟩ | ⟨hn, _⟩
      · exact e2
      · exact absurd HG.out hn
    clear e2
    unfold Hx.yes
    have hsx : (strOfNums (Hx.nums s (s.size / 2))).size ≤ 1048576 := by rw [strOfNums_size, Hx.nums_len]; omega
    have HX : Hid (strOfNums (Hx.of (strOfNums (Hx.nums s (s.size / 2))) (strOfNums (Hx.nums s (s.size / 2))).size) = s) := Lib.hid HB.out
    go_wp2_with fail
    refine (implHexOf_any _ _ hsx).mono ?_
    rw [HX.out]
    rintro e w4 ⟨rfl, hb4⟩
    go_wp2
    go_ret
    exact ⟨rfl, hb1.trans ((hb2.trans ((hb3.trans (hb4.mono hb3.size)).mono hb2.size)).mono hb1.size)⟩
  · obtain rfl : v1 = Hx.no := by
      rcases e1 with ⟨hy, _⟩ | ⟨_, e1⟩
      · exact absurd hy hg
      · exact e1
    have HG := Lib.hid hg
    clear e1 hg
    unfold Hx.no
    go_wp2_with fail
    refine (specFromHex_any s _ (by omega)).mono ?_
    rintro e w3 ⟨v2, rfl, e2, hb3⟩
    obtain rfl : v2 = Hx.no := by
      rcases e2 with ⟨hy, _⟩ | ⟨_, e2⟩
      · exact absurd hy HG.out
      · exact e2
    clear e2
    unfold Hx.no
    go_wp2
    go_ret
    exact ⟨rfl, hb1.trans ((hb2.trans (hb3.mono hb2.size)).mono hb1.size)⟩
/-! ### The row's step. -/
theorem own : ownKnob Try.prog.godebug = none := by kernel_rfl
theorem laidOut : laidOutB Try.prog = true := by kernel_rfl
set_option maxRecDepth 100000 in
theorem lifted (os : Os) (started : os.Started) (H : Type) (enc : TypeId × Value → H) :
    ReturnsInHanded {} Try.checked os 6 .any (Rows.fnFromHexSpec.pre6 enc Try.prog Try.f6 Rows.fnFromHexRow.domain false) (Rows.fnFromHexSpec.post enc Try.prog Try.f6 false true false false) := by
  refine returnsInHanded_of_change (C := Try.checked) own started (by kernel_rfl) Try.func6
    (ChangeSpec.witness6 (enc := enc) (C := Try.checked) false ⟨#[], #[.slice none 0 0], []⟩ 8 (by kernel_rfl) (by kernel_rfl) (by kernel_rfl) (by kernel_rfl)) ?_
  intro W base args ds gs before hval0 hW hcnd _
  have hval : ∀ (j : Nat) t v, Try.f6.params[j]? = some t → args[j]? = some v → Value.okWide Try.prog W .any base t v := hval0
  have hW' := hW
  obtain ⟨p, q, hA0, hV, rfl, hfz, hnd⟩ := hW
  have hA : DataW.TrodAll enc Try.prog W 0 (fun _ => true) true Try.f6.params.toList args.toList ds p := hA0
  rw [Try.params6] at hA hval
  obtain ⟨v0, vs0, d0, ds0, p0, q0, hargs, rfl, rfl, h0, r0⟩ := trodAll_cons hA
  obtain ⟨rfl, rfl, rfl⟩ := trodAll_nil r0
  obtain rfl : args = #[v0] := by cases args; simp_all
  obtain ⟨rfl, rfl⟩ := trodVars_none hV
  obtain ⟨a0, len0, cap0, rfl⟩ := okWide_slice Try.underlying26 (hval 0 26 v0 rfl rfl)
  have k0 := h0
  have lt0 : ∀ x ∈ p0, x.block < W.heap.size := by obtain ⟨m, hm⟩ := k0; exact DataW.trod_lt m _ _ _ hm
  obtain ⟨z0, w0⟩ : ∃ zs, IsRow .u8 W a0 len0 cap0 zs := by
    obtain ⟨fuel, hf⟩ := h0
    rcases open_ints Try.underlying26 Try.underlying5 (by kernel_rfl) hf with ⟨hcs, _⟩ | ⟨x, l, c, zs, hcs, _, hl, hm, hz, _, hcell, hwz⟩
    · simp [Value.cells] at hcs
      obtain ⟨rfl, rfl, rfl⟩ := hcs
      exact ⟨[], .inl ⟨rfl, rfl, rfl, rfl⟩⟩
    · simp [Value.cells] at hcs
      obtain ⟨rfl, rfl, rfl⟩ := hcs
      exact ⟨zs, .inr ⟨_, rfl, hl, hm, by simpa using hz, hcell, hwz⟩⟩
  clear hA0 hval0
  refine (walk a0 len0 cap0 z0 W w0).mono fun e W' ⟨he, bel⟩ => ?_
  subst he
  exact ⟨_, rfl, _, _, _, [], _, [], hW', trodAll_mk1 (shut_bool Try.underlying4 _), (trodAll_cons_mk (Below.trod laidOut (by kernel_rfl) (of_decide_eq_true (by kernel_rfl)) k0 bel lt0) trodAll_mk0), rfl, bel.frame _, fun h => by cases h⟩
theorem over : Rows.fnFromHexRow.holds Try.pinned (OpenSpec.ofChange Rows.fnFromHexSpec) :=
  OpenClaim.holds_of_wide 6 Try.f6 rfl rfl rfl rfl rfl rfl rfl ⟨rfl, rfl, rfl, rfl, rfl⟩ rfl rfl rfl rfl rfl (by kernel_rfl) Try.func6 (by kernel_rfl)
    (of_decide_eq_true (by kernel_rfl)) (by unfold Func.isWrapper; first | (rw [if_pos (by decide +kernel)]; kernel_rfl) | (rw [if_neg (by decide +kernel)]; exact ⟨rfl, rfl⟩))
    (fun os started H enc _ => lifted os started H enc)
theorem proved : Rows.FnFromHexSaid := over
#print axioms proved
end Go.Proofs.Ytegdckdfllkmeab.fnFromHex
