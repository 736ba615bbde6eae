/- For every code of at most 1<<20 bytes (longer ones are let pass by the law itself): Sign answers as the model's Sign; what is signed is valid for the secret's key, and not with the next S. -/
import Derived.Test.YtnjgdbfiebaomaaRows
import Derived.Test.YtnjgdbfiebaomaaSk
import Derived.Test.YtnjgdbfiebaomaaDh
import Derived.WalkKit
import Derived.WalkSpells
import Derived.ProofKit
import Derived.OpenShut
import Derived.ShutString
import Derived.Below
import Derived.SliceStrings
namespace Go.Proofs.Ytnjgdbfiebaomaa.fnSign
open Go.ChangeShapes Go.WideShapes Go.ChangeAt Go.RowKit
open Go.ChangeMaps (open_string shut_string)
set_option maxRecDepth 100000 in
set_option maxHeartbeats 1600000 in
theorem walk (a0 : Option Addr) (len0 cap0 : Nat) (z0 : List Int) (w : World) (w0 : IsRow .u8 w a0 len0 cap0 z0) :
    Calls Try.prog 4 #[.slice a0 len0 cap0] w fun e w' => e = .returned (.bool true) ∧ Below w.heap.size w w' := by
  have hcm := w0.len
  by_cases h : (1048576 : Int) < (len0 : Int)
  · go_enter Try.func4, Try.ntmps4
    go_wp2
    go_ret
    exact ⟨rfl, Below.refl _ _⟩
  go_enter Try.func4, Try.ntmps4
  go_wp2_with fail
  refine (drawSign_any a0 len0 cap0 z0 _ w0 (by omega)).mono ?_
  rintro e w1 ⟨u, t, rfl, u0, u1, ht, hb1⟩
  clear w0 h hcm
  have hq2 := noGuard_sig
  cases hs : Gr.sok u
  · obtain ⟨h1, h2⟩ := Sg.o_no (t := t) hs
    have hcon1 := fun W => implSign_any u t W (by omega)
    have hcon2 := fun W => specSign_any u t W (by omega)
    rw [h1, h2, hs] at hcon1 hcon2
    have hq1 := fun W => eq_sig 0 0 0 0 W
    simp only [beq_self_eq_true, Bool.and_true] at hq1
    clear hs h1 h2
    go_wp2_with fail
    refine (hcon1 _).mono ?_
    rintro e w2 ⟨rfl, hb2⟩
    replace hb2 := below_after hb1 hb2
    clear hb1
    have HX2 : Bk w2.heap.size 31 #[.int .i64 0, .int .i64 0] (w2.alloc (.cells #[.int .i64 0, .int .i64 0] 31 (0, 0))) := Bk.new _ _ _
    go_wp2_with fail
    refine (hcon2 _).mono ?_
    rintro e w3 ⟨rfl, hb3⟩
    have HX3 := (HX2.below hb3).alloc (.cells #[.int .i64 0, .int .i64 0] 31 (0, 0))
    replace hb3 := below_after (below_alloc hb2 _) hb3
    clear hb2
    replace hb3 := below_alloc hb3 (.cells #[.int .i64 0, .int .i64 0] 31 (0, 0))
    obtain ⟨c0, c1⟩ := Bk.c2 HX3
    go_wp2
    go_ret
    exact ⟨rfl, hb3⟩
  · obtain ⟨h1, h2⟩ := Sg.o_yes (t := t) hs
    have hcon1 := fun W => implSign_any u t W (by omega)
    have hcon2 := fun W => specSign_any u t W (by omega)
    have hv := Sg.sign_ver u t hs
    have hn := Sg.ver_next hv
    obtain ⟨_, v0, v1⟩ := Sg.s_bd u t
    have HK := Lib.hid (Sg.key_ok hs)
    have hcon3 := implKeyOf_any u
    rw [HK.out, hs] at hcon3
    rw [h1, h2, hs] at hcon1 hcon2
    obtain ⟨K, HK2⟩ : ∃ K, Hid (Sg.gp u = K) := ⟨_, Lib.hid rfl⟩
    rw [HK2.out] at hcon3 hv hn
    have hcon4 := fun W => implVerify_any K (Sg.sr u t) (Sg.ss u t) t W (by omega)
    have hcon5 := fun W => implVerify_any K (Sg.sr u t) ((Sg.ss u t + 1) % 1073741789) t W (by omega)
    rw [hv] at hcon4
    rw [hn] at hcon5
    obtain ⟨R, HR⟩ : ∃ R, Hid (Sg.sr u t = R) := ⟨_, Lib.hid rfl⟩
    obtain ⟨S, HS⟩ : ∃ S, Hid (Sg.ss u t = S) := ⟨_, Lib.hid rfl⟩
    rw [HR.out, HS.out] at hcon1 hcon2 hcon4 hcon5
    rw [HS.out] at v0 v1
    have hq1 := fun W => eq_sig R S R S W
    simp only [beq_self_eq_true, Bool.and_true] at hq1
    clear hs h1 h2 hv hn HK HK2 HR HS
    go_wp2_with fail
    refine (hcon1 _).mono ?_
    rintro e w2 ⟨rfl, hb2⟩
    replace hb2 := below_after hb1 hb2
    clear hb1
    have HX2 : Bk w2.heap.size 31 #[.int .i64 R, .int .i64 S] (w2.alloc (.cells #[.int .i64 R, .int .i64 S] 31 (0, 0))) := Bk.new _ _ _
    go_wp2_with fail
    refine (hcon2 _).mono ?_
    rintro e w3 ⟨rfl, hb3⟩
    have HX3 := (HX2.below hb3).alloc (.cells #[.int .i64 R, .int .i64 S] 31 (0, 0))
    replace hb3 := below_after (below_alloc hb2 _) hb3
    clear hb2
    replace hb3 := below_alloc hb3 (.cells #[.int .i64 R, .int .i64 S] 31 (0, 0))
    obtain ⟨c0, c1⟩ := Bk.c2 HX3
    go_wp2_with fail
    refine (hcon3 _).mono ?_
    rintro e w4 ⟨rfl, hb4⟩
    have HX4 := HX3.below hb4
    obtain ⟨x0, x1⟩ := Bk.c2 HX4
    replace hb4 := below_after hb3 hb4
    clear hb3
    go_wp2_with fail
    refine (hcon4 _).mono ?_
    rintro e w5 ⟨rfl, hb5⟩
    have HX5 := HX4.below hb5
    obtain ⟨y0, y1⟩ := Bk.c2 HX5
    replace hb5 := below_after hb4 hb5
    clear hb4
    go_wp2_with fail
    refine (hcon5 _).mono ?_
    rintro e w6 ⟨rfl, hb6⟩
    replace hb6 := below_after hb5 hb6
    clear hb5
    go_wp2
    go_ret
    exact ⟨rfl, hb6⟩
/-! ### The row's step. -/
theorem own : ownKnob Try.prog.godebug = none := by kernel_rfl
theorem laidOut : laidOutB Try.prog = true := by kernel_rfl
set_option maxRecDepth 100000 in
theorem lifted (os : Os) (started : os.Started) (H : Type) (enc : TypeId × Value → H) :
    ReturnsInHanded {} Try.checked os 4 .any (Rows.fnSignSpec.pre6 enc Try.prog Try.f4 Rows.fnSignRow.domain false) (Rows.fnSignSpec.post enc Try.prog Try.f4 false true false false) := by
  refine returnsInHanded_of_change (C := Try.checked) own started (by kernel_rfl) Try.func4
    (ChangeSpec.witness6 (enc := enc) (C := Try.checked) false ⟨#[], #[.slice none 0 0], []⟩ 8 (by kernel_rfl) (by kernel_rfl) (by kernel_rfl) (by kernel_rfl)) ?_
  intro W base args ds gs before hval0 hW hcnd _
  have hval : ∀ (j : Nat) t v, Try.f4.params[j]? = some t → args[j]? = some v → Value.okWide Try.prog W .any base t v := hval0
  have hW' := hW
  obtain ⟨p, q, hA0, hV, rfl, hfz, hnd⟩ := hW
  have hA : DataW.TrodAll enc Try.prog W 0 (fun _ => true) true Try.f4.params.toList args.toList ds p := hA0
  rw [Try.params4] at hA hval
  obtain ⟨v0, vs0, d0, ds0, p0, q0, hargs, rfl, rfl, h0, r0⟩ := trodAll_cons hA
  obtain ⟨rfl, rfl, rfl⟩ := trodAll_nil r0
  obtain rfl : args = #[v0] := by cases args; simp_all
  obtain ⟨rfl, rfl⟩ := trodVars_none hV
  obtain ⟨a0, len0, cap0, rfl⟩ := okWide_slice Try.underlying22 (hval 0 22 v0 rfl rfl)
  have k0 := h0
  have lt0 : ∀ x ∈ p0, x.block < W.heap.size := by obtain ⟨m, hm⟩ := k0; exact DataW.trod_lt m _ _ _ hm
  obtain ⟨z0, w0⟩ : ∃ zs, IsRow .u8 W a0 len0 cap0 zs := by
    obtain ⟨fuel, hf⟩ := h0
    rcases open_ints Try.underlying22 Try.underlying5 (by kernel_rfl) hf with ⟨hcs, _⟩ | ⟨x, l, c, zs, hcs, _, hl, hm, hz, _, hcell, hwz⟩
    · simp [Value.cells] at hcs
      obtain ⟨rfl, rfl, rfl⟩ := hcs
      exact ⟨[], .inl ⟨rfl, rfl, rfl, rfl⟩⟩
    · simp [Value.cells] at hcs
      obtain ⟨rfl, rfl, rfl⟩ := hcs
      exact ⟨zs, .inr ⟨_, rfl, hl, hm, by simpa using hz, hcell, hwz⟩⟩
  clear hA0 hval0
  refine (walk a0 len0 cap0 z0 W w0).mono fun e W' ⟨he, bel⟩ => ?_
  subst he
  exact ⟨_, rfl, _, _, _, [], _, [], hW', trodAll_mk1 (shut_bool Try.underlying4 _), (trodAll_cons_mk (Below.trod laidOut (by kernel_rfl) (of_decide_eq_true (by kernel_rfl)) k0 bel lt0) trodAll_mk0), rfl, bel.frame _, fun h => by cases h⟩
theorem over : Rows.fnSignRow.holds Try.pinned (OpenSpec.ofChange Rows.fnSignSpec) :=
  OpenClaim.holds_of_wide 4 Try.f4 rfl rfl rfl rfl rfl rfl rfl ⟨rfl, rfl, rfl, rfl, rfl⟩ rfl rfl rfl rfl rfl (by kernel_rfl) Try.func4 (by kernel_rfl)
    (of_decide_eq_true (by kernel_rfl)) (by unfold Func.isWrapper; first | (rw [if_pos (by decide +kernel)]; kernel_rfl) | (rw [if_neg (by decide +kernel)]; exact ⟨rfl, rfl⟩))
    (fun os started H enc _ => lifted os started H enc)
theorem proved : Rows.FnSignSaid := over
#print axioms proved
end Go.Proofs.Ytnjgdbfiebaomaa.fnSign
