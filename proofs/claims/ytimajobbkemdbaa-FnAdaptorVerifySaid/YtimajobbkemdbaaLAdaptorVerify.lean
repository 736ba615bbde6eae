/- For every code of at most 1<<20 bytes (longer ones are let pass by the law itself): AdaptorVerify answers as the model's AdaptorVerify; what is valid becomes a signature just with the secret of the point (the secrets 1 to 39 are tried). -/
import Derived.Test.YtimajobbkemdbaaRows
import Derived.Test.YtimajobbkemdbaaAx
import Derived.Test.YtimajobbkemdbaaDn
import Derived.WalkKit
import Derived.WalkSpells
import Derived.ProofKit
import Derived.OpenShut
import Derived.ShutString
import Derived.Below
import Derived.SliceStrings
namespace Go.Proofs.Ytimajobbkemdbaa.fnAdaptorVerify
open Go.ChangeShapes Go.WideShapes Go.ChangeAt Go.RowKit
open Go.ChangeMaps (open_string shut_string)
set_option maxRecDepth 100000 in
set_option maxHeartbeats 1600000 in
theorem walk (a0 : Option Addr) (len0 cap0 : Nat) (z0 : List Int) (w : World) (w0 : IsRow .u8 w a0 len0 cap0 z0) :
    Calls Try.prog 4 #[.slice a0 len0 cap0] w fun e w' => e = .returned (.bool true) ∧ Below w.heap.size w w' := by
  have hcm := w0.len
  by_cases h : (1048576 : Int) < (len0 : Int)
  · go_enter Try.func4, Try.ntmps4
    go_wp2
    go_ret
    exact ⟨rfl, Below.refl _ _⟩
  go_enter Try.func4, Try.ntmps4
  go_wp2_with fail
  refine (drawAdaptorVerify_any a0 len0 cap0 z0 _ w0 (by omega)).mono ?_
  rintro e w1 ⟨K, R, S, P, t, rfl, ht, hb1⟩
  clear w0 h hcm
  have HA1 : Bk w1.heap.size 26 #[.int .i64 R, .int .i64 S, .int .i64 P] (w1.alloc (.cells #[.int .i64 R, .int .i64 S, .int .i64 P] 26 (0, 0))) := Bk.new _ _ _
  have hc1 := below_alloc hb1 (.cells #[.int .i64 R, .int .i64 S, .int .i64 P] 26 (0, 0))
  clear hb1
  have hcon1 := fun W => implAdaptorVerify_any K R S P t W (by omega)
  have hcon2 := fun W => specAdaptorVerify_any K R S P t W (by omega)
  cases hv : Ad.ver K t R S P
  · rw [hv] at hcon1 hcon2
    clear hv
    obtain ⟨a0, a1, a2⟩ := Bk.c3 HA1
    go_wp2_with fail
    refine (hcon1 _).mono ?_
    rintro e2 w2 ⟨rfl, hb2⟩
    have HA2 := HA1.below hb2
    have hc2 := below_after hc1 hb2
    clear hb2 hc1 HA1
    clear a0 a1 a2
    obtain ⟨a0, a1, a2⟩ := Bk.c3 HA2
    go_wp2_with fail
    refine (hcon2 _).mono ?_
    rintro e3 w3 ⟨rfl, hb3⟩
    have HA3 := HA2.below hb3
    have hc3 := below_after hc2 hb3
    clear hb3 hc2 HA2
    go_wp2
    go_ret
    exact ⟨rfl, hc3⟩
  · rw [hv] at hcon1 hcon2
    have hbec := fun (k : Int) (k0 : 0 ≤ k) => Ad.becomes hv k k0
    obtain ⟨⟨⟨_, hRE, s0, s1⟩, hPE, _⟩, _⟩ := (Ad.ver_iff _ _ _ _ _).mp hv
    have hcon4 := fun W => implGroupMul_any R P W
    rw [Gr.mul_ok hRE hPE, Gr.ok_yes hRE, Gr.ok_yes hPE, show R * P % 2147483579 = Ad.fin R P from rfl] at hcon4
    obtain ⟨F, HF⟩ : ∃ F, Hid (Ad.fin R P = F) := ⟨_, Lib.hid rfl⟩
    rw [HF.out] at hcon4 hbec
    have hB := Lib.hid hbec
    clear hv hRE hPE HF hbec
    obtain ⟨a0, a1, a2⟩ := Bk.c3 HA1
    go_wp2_with fail
    refine (hcon1 _).mono ?_
    rintro e2 w2 ⟨rfl, hb2⟩
    have HA2 := HA1.below hb2
    have hc2 := below_after hc1 hb2
    clear hb2 hc1 HA1
    clear a0 a1 a2
    obtain ⟨a0, a1, a2⟩ := Bk.c3 HA2
    go_wp2_with fail
    refine (hcon2 _).mono ?_
    rintro e3 w3 ⟨rfl, hb3⟩
    have HA3 := HA2.below hb3
    have hc3 := below_after hc2 hb3
    clear hb3 hc2 HA2
    clear a0 a1 a2
    go_wp2
    go_loopw [9] (fun i wr => ∃ k : Int, 1 ≤ k ∧ k ≤ 40 ∧ i = .int .i64 k ∧ Below w3.heap.size w3 wr)
      (fun i _ => 40 - (intOf i).toNat)
    case atStart => exact ⟨1, by omega, by omega, rfl, Below.refl _ _⟩
    case round =>
      obtain ⟨k, k0, k1, rfl, hbel⟩ := hrel
      by_cases hlt : k < 40
      · have hk : Gr.sok k = true := (Gr.sok_iff k).mpr ⟨k0, by omega⟩
        have hcon3 := fun W => implKeyOf_any k W
        rw [Sg.key_ok hk, hk] at hcon3
        have hcon5 := fun W => implVerify_any K F ((S + k) % 1073741789) t W (by omega)
        rw [hB.out k (by omega)] at hcon5
        obtain ⟨G, HG⟩ : ∃ G, Hid (Sg.gp k = G) := ⟨_, Lib.hid rfl⟩
        rw [HG.out] at hcon3 hcon5
        have hw1 : IntKind.i64.wrap (S + k) = S + k := by unfold IntKind.wrap; simp [IntKind.bits, IntKind.signed]; omega
        have hw2 : Int.tmod (S + k) 1073741789 = (S + k) % 1073741789 := Int.tmod_eq_emod_of_nonneg (by omega)
        have HA4 := HA3.below hbel
        clear HG hk
        go_wp2_with fail
        refine (hcon3 _).mono ?_
        rintro e5 w5 ⟨rfl, hb5⟩
        have HA5 := HA4.below hb5
        replace hb5 := below_after hbel hb5
        clear HA4 hbel
        obtain ⟨a0, a1, a2⟩ := Bk.c3 HA5
        go_wp2_with fail
        refine (hcon4 _).mono ?_
        rintro e6 w6 ⟨rfl, hb6⟩
        have HA6 := HA5.below hb6
        replace hb6 := below_after hb5 hb6
        clear HA5 hb5 a0 a1 a2
        have hS6 := Bk.c3 HA6.drew
        go_wp2
        go_region_held3 (fun W => W.cell? ⟨w1.heap.size, 0, none⟩ = some (.int .i64 R) ∧ W.cell? ⟨w1.heap.size, 1, none⟩ = some (.int .i64 S) ∧ W.cell? ⟨w1.heap.size, 2, none⟩ = some (.int .i64 P)) (first | with_reducible exact hS6 | with_reducible exact hS7)
          (first
            | (go_at_call 17; refine (hcon5 _).mono ?_; rintro e7 w7 ⟨rfl, hb7⟩; have HA7 := HA6.drew.below hb7; have hS7 := Bk.c3 HA7; have hb8 := below_after hb6.drew hb7))
        all_goals
          by_cases hg : G = P
          · have hg1 : (G == P) = true := by simpa using hg
            have hg2 : decide (G = P) = true := by simpa using hg
            clear hg
            go_wp2
            go_roundw
            case rel => exact ⟨k + 1, by omega, by omega, by simp, hb8⟩
            case measure => simp [intOf]; omega
          · have hg1 : (G == P) = false := by simpa using hg
            have hg2 : decide (G = P) = false := by simpa using hg
            clear hg
            go_wp2
            go_roundw
            case rel => exact ⟨k + 1, by omega, by omega, by simp, hb8⟩
            case measure => simp [intOf]; omega
      · have hk2 : k = 40 := by omega
        subst hk2
        go_wp2
        go_ret
        exact ⟨rfl, below_after hc3 hbel⟩
/-! ### The row's step. -/
theorem own : ownKnob Try.prog.godebug = none := by kernel_rfl
theorem laidOut : laidOutB Try.prog = true := by kernel_rfl
set_option maxRecDepth 100000 in
theorem lifted (os : Os) (started : os.Started) (H : Type) (enc : TypeId × Value → H) :
    ReturnsInHanded {} Try.checked os 4 .any (Rows.fnAdaptorVerifySpec.pre6 enc Try.prog Try.f4 Rows.fnAdaptorVerifyRow.domain false) (Rows.fnAdaptorVerifySpec.post enc Try.prog Try.f4 false true false false) := by
  refine returnsInHanded_of_change (C := Try.checked) own started (by kernel_rfl) Try.func4
    (ChangeSpec.witness6 (enc := enc) (C := Try.checked) false ⟨#[], #[.slice none 0 0], []⟩ 8 (by kernel_rfl) (by kernel_rfl) (by kernel_rfl) (by kernel_rfl)) ?_
  intro W base args ds gs before hval0 hW hcnd _
  have hval : ∀ (j : Nat) t v, Try.f4.params[j]? = some t → args[j]? = some v → Value.okWide Try.prog W .any base t v := hval0
  have hW' := hW
  obtain ⟨p, q, hA0, hV, rfl, hfz, hnd⟩ := hW
  have hA : DataW.TrodAll enc Try.prog W 0 (fun _ => true) true Try.f4.params.toList args.toList ds p := hA0
  rw [Try.params4] at hA hval
  obtain ⟨v0, vs0, d0, ds0, p0, q0, hargs, rfl, rfl, h0, r0⟩ := trodAll_cons hA
  obtain ⟨rfl, rfl, rfl⟩ := trodAll_nil r0
  obtain rfl : args = #[v0] := by cases args; simp_all
  obtain ⟨rfl, rfl⟩ := trodVars_none hV
  obtain ⟨a0, len0, cap0, rfl⟩ := okWide_slice Try.underlying22 (hval 0 22 v0 rfl rfl)
  have k0 := h0
  have lt0 : ∀ x ∈ p0, x.block < W.heap.size := by obtain ⟨m, hm⟩ := k0; exact DataW.trod_lt m _ _ _ hm
  obtain ⟨z0, w0⟩ : ∃ zs, IsRow .u8 W a0 len0 cap0 zs := by
    obtain ⟨fuel, hf⟩ := h0
    rcases open_ints Try.underlying22 Try.underlying5 (by kernel_rfl) hf with ⟨hcs, _⟩ | ⟨x, l, c, zs, hcs, _, hl, hm, hz, _, hcell, hwz⟩
    · simp [Value.cells] at hcs
      obtain ⟨rfl, rfl, rfl⟩ := hcs
      exact ⟨[], .inl ⟨rfl, rfl, rfl, rfl⟩⟩
    · simp [Value.cells] at hcs
      obtain ⟨rfl, rfl, rfl⟩ := hcs
      exact ⟨zs, .inr ⟨_, rfl, hl, hm, by simpa using hz, hcell, hwz⟩⟩
  clear hA0 hval0
  refine (walk a0 len0 cap0 z0 W w0).mono fun e W' ⟨he, bel⟩ => ?_
  subst he
  exact ⟨_, rfl, _, _, _, [], _, [], hW', trodAll_mk1 (shut_bool Try.underlying4 _), (trodAll_cons_mk (Below.trod laidOut (by kernel_rfl) (of_decide_eq_true (by kernel_rfl)) k0 bel lt0) trodAll_mk0), rfl, bel.frame _, fun h => by cases h⟩
theorem over : Rows.fnAdaptorVerifyRow.holds Try.pinned (OpenSpec.ofChange Rows.fnAdaptorVerifySpec) :=
  OpenClaim.holds_of_wide 4 Try.f4 rfl rfl rfl rfl rfl rfl rfl ⟨rfl, rfl, rfl, rfl, rfl⟩ rfl rfl rfl rfl rfl (by kernel_rfl) Try.func4 (by kernel_rfl)
    (of_decide_eq_true (by kernel_rfl)) (by unfold Func.isWrapper; first | (rw [if_pos (by decide +kernel)]; kernel_rfl) | (rw [if_neg (by decide +kernel)]; exact ⟨rfl, rfl⟩))
    (fun os started H enc _ => lifted os started H enc)
theorem proved : Rows.FnAdaptorVerifySaid := over
#print axioms proved
end Go.Proofs.Ytimajobbkemdbaa.fnAdaptorVerify
