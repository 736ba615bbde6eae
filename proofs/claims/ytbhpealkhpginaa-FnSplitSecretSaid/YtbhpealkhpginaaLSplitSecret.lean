/- For every code of at most 1<<20 bytes (longer ones are let pass by the law itself): SplitSecret answers as the model's SplitSecret; where it answers, it hands back as many shares as it is asked for, and JoinParts of all of them is the secret. -/
import Derived.Test.YtbhpealkhpginaaRows
import Derived.Test.YtbhpealkhpginaaQy
import Derived.Test.YtbhpealkhpginaaDy
import Derived.WalkKit
import Derived.WalkSpells
import Derived.ProofKit
import Derived.OpenShut
import Derived.ShutString
import Derived.Below
import Derived.SliceStrings
namespace Go.Proofs.Ytbhpealkhpginaa.fnSplitSecret
open Go.ChangeShapes Go.WideShapes Go.ChangeAt Go.RowKit
open Go.ChangeMaps (open_string shut_string)
set_option maxRecDepth 100000 in
set_option maxHeartbeats 3200000 in
theorem walk (a0 : Option Addr) (len0 cap0 : Nat) (z0 : List Int) (w : World) (w0 : IsRow .u8 w a0 len0 cap0 z0) :
    Calls Try.prog 3 #[.slice a0 len0 cap0] w fun e w' => e = .returned (.bool true) ∧ Below w.heap.size w w' := by
  have hcm := w0.len
  by_cases h : (1048576 : Int) < (len0 : Int)
  · go_enter Try.func3, Try.ntmps3
    go_wp2
    go_ret
    exact ⟨rfl, Below.refl _ _⟩
  go_enter Try.func3, Try.ntmps3
  go_wp2_with fail
  refine (drawSplitSecret_any a0 len0 cap0 z0 _ w0 (by omega)).mono ?_
  rintro e w1 ⟨s, ws, g, cp, n, rfl, n1, n2, _, _, n3, _, h1, hb1⟩
  clear w0 h hcm
  obtain ⟨m, rfl⟩ := Int.eq_ofNat_of_zero_le (show 0 ≤ n by omega)
  have HI1 := (IR.own h1).2
  have hconI := fun W (h : IR W (some ⟨g, 0, none⟩) ws.length ws) => implSplitSecret_any s (some ⟨g, 0, none⟩) ws.length cp ws (m : Int) W h (by omega)
  have hconS := fun W (h : IR W (some ⟨g, 0, none⟩) ws.length ws) => specSplitSecret_any s (some ⟨g, 0, none⟩) ws.length cp ws (m : Int) W h (by omega)
  clear h1
  cases hok : Po.spOk s ws (m : Int)
  · go_wp2_with fail
    refine (hconI _ HI1).mono ?_
    rintro e w2 hq
    obtain ⟨hb2, rfl⟩ := hq.nope hok
    have HI2 := HI1.below hb2
    replace hb2 := below_after hb1 hb2
    clear hq hb1 HI1 hconI
    go_wp2_with fail
    refine (hconS _ HI2).mono ?_
    rintro e w3 hq
    obtain ⟨hb3, rfl⟩ := hq.nope hok
    replace hb3 := below_after hb2 hb3
    clear hq hb2 HI2 hconS
    go_wp2_with fail
    refine (wcParts_any none none 0 0 0 [] _ (QR.nil _) (QR.nil _) (by omega)).mono ?_
    rintro e w4 ⟨rfl, hb4⟩
    replace hb4 := below_after hb3 hb4
    clear hb3
    go_wp2
    go_ret
    exact ⟨rfl, hb4⟩
  · obtain ⟨j1, j2, _, j4, _⟩ := Po.split_ok hok
    have hJ := fun W g c (h : QR W (some ⟨g, 0, none⟩) m (Po.sh (s :: ws) (Po.to m))) (hc : m ≤ c) => implJoinParts_any (some ⟨g, 0, none⟩) m c _ W h hc (by omega)
    rw [Po.join_yes j1, j1, j2] at hJ
    go_wp2_with fail
    refine (hconI _ HI1).mono ?_
    rintro e w2 hq
    obtain ⟨hb2, g2, cp2, rfl, own2⟩ := hq.yes hok
    have HI2 := HI1.below hb2
    have hcp2 := own_cap own2
    have HQ2 := (QR.own own2).2
    replace hb2 := below_after hb1 hb2
    clear hq hb1 HI1 hconI own2
    go_wp2_with fail
    refine (hconS _ HI2).mono ?_
    rintro e w3 hq
    obtain ⟨hb3, g3, cp3, rfl, own3⟩ := hq.yes hok
    have HQ3 := (QR.own own3).2
    have HQ23 := HQ2.below hb3
    replace hb3 := below_after hb2 hb3
    clear hq hb2 HI2 hconS own3 HQ2
    obtain ⟨L, HL⟩ : ∃ L, Hid (Po.sh (s :: ws) (Po.to m) = L) := ⟨_, Lib.hid rfl⟩
    rw [HL.out] at HQ3 HQ23 hJ
    clear hok HL j1 j2
    go_wp2_with fail
    refine (wcParts_any _ _ m cp2 cp3 L _ HQ23 HQ3 (by omega)).mono ?_
    rintro e w4 ⟨rfl, hb4⟩
    have HQ4 := HQ23.below hb4
    replace hb4 := below_after hb3 hb4
    clear hb3 HQ3 HQ23
    go_wp2_with fail
    refine (hJ _ _ _ HQ4 hcp2).mono ?_
    rintro e w5 ⟨rfl, hb5⟩
    replace hb5 := below_after hb4 hb5
    clear hb4 HQ4 hJ
    go_wp2
    go_ret
    exact ⟨by simp, hb5⟩
/-! ### The row's step. -/
theorem own : ownKnob Try.prog.godebug = none := by kernel_rfl
theorem laidOut : laidOutB Try.prog = true := by kernel_rfl
set_option maxRecDepth 100000 in
theorem lifted (os : Os) (started : os.Started) (H : Type) (enc : TypeId × Value → H) :
    ReturnsInHanded {} Try.checked os 3 .any (Rows.fnSplitSecretSpec.pre6 enc Try.prog Try.f3 Rows.fnSplitSecretRow.domain false) (Rows.fnSplitSecretSpec.post enc Try.prog Try.f3 false true false false) := by
  refine returnsInHanded_of_change (C := Try.checked) own started (by kernel_rfl) Try.func3
    (ChangeSpec.witness6 (enc := enc) (C := Try.checked) false ⟨#[], #[.slice none 0 0], []⟩ 8 (by kernel_rfl) (by kernel_rfl) (by kernel_rfl) (by kernel_rfl)) ?_
  intro W base args ds gs before hval0 hW hcnd _
  have hval : ∀ (j : Nat) t v, Try.f3.params[j]? = some t → args[j]? = some v → Value.okWide Try.prog W .any base t v := hval0
  have hW' := hW
  obtain ⟨p, q, hA0, hV, rfl, hfz, hnd⟩ := hW
  have hA : DataW.TrodAll enc Try.prog W 0 (fun _ => true) true Try.f3.params.toList args.toList ds p := hA0
  rw [Try.params3] at hA hval
  obtain ⟨v0, vs0, d0, ds0, p0, q0, hargs, rfl, rfl, h0, r0⟩ := trodAll_cons hA
  obtain ⟨rfl, rfl, rfl⟩ := trodAll_nil r0
  obtain rfl : args = #[v0] := by cases args; simp_all
  obtain ⟨rfl, rfl⟩ := trodVars_none hV
  obtain ⟨a0, len0, cap0, rfl⟩ := okWide_slice Try.underlying22 (hval 0 22 v0 rfl rfl)
  have k0 := h0
  have lt0 : ∀ x ∈ p0, x.block < W.heap.size := by obtain ⟨m, hm⟩ := k0; exact DataW.trod_lt m _ _ _ hm
  obtain ⟨z0, w0⟩ : ∃ zs, IsRow .u8 W a0 len0 cap0 zs := by
    obtain ⟨fuel, hf⟩ := h0
    rcases open_ints Try.underlying22 Try.underlying5 (by kernel_rfl) hf with ⟨hcs, _⟩ | ⟨x, l, c, zs, hcs, _, hl, hm, hz, _, hcell, hwz⟩
    · simp [Value.cells] at hcs
      obtain ⟨rfl, rfl, rfl⟩ := hcs
      exact ⟨[], .inl ⟨rfl, rfl, rfl, rfl⟩⟩
    · simp [Value.cells] at hcs
      obtain ⟨rfl, rfl, rfl⟩ := hcs
      exact ⟨zs, .inr ⟨_, rfl, hl, hm, by simpa using hz, hcell, hwz⟩⟩
  clear hA0 hval0
  refine (walk a0 len0 cap0 z0 W w0).mono fun e W' ⟨he, bel⟩ => ?_
  subst he
  exact ⟨_, rfl, _, _, _, [], _, [], hW', trodAll_mk1 (shut_bool Try.underlying4 _), (trodAll_cons_mk (Below.trod laidOut (by kernel_rfl) (of_decide_eq_true (by kernel_rfl)) k0 bel lt0) trodAll_mk0), rfl, bel.frame _, fun h => by cases h⟩
theorem over : Rows.fnSplitSecretRow.holds Try.pinned (OpenSpec.ofChange Rows.fnSplitSecretSpec) :=
  OpenClaim.holds_of_wide 3 Try.f3 rfl rfl rfl rfl rfl rfl rfl ⟨rfl, rfl, rfl, rfl, rfl⟩ rfl rfl rfl rfl rfl (by kernel_rfl) Try.func3 (by kernel_rfl)
    (of_decide_eq_true (by kernel_rfl)) (by unfold Func.isWrapper; first | (rw [if_pos (by decide +kernel)]; kernel_rfl) | (rw [if_neg (by decide +kernel)]; exact ⟨rfl, rfl⟩))
    (fun os started H enc _ => lifted os started H enc)
theorem proved : Rows.FnSplitSecretSaid := over
#print axioms proved
end Go.Proofs.Ytbhpealkhpginaa.fnSplitSecret
