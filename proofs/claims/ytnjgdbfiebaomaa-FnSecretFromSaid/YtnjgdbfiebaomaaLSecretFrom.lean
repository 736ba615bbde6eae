/- For every code of at most 1<<20 bytes (longer ones are let pass by the law itself): SecretFrom answers as the model's SecretFrom, and what it answers is the secret of the key. -/
import Derived.Test.YtnjgdbfiebaomaaRows
import Derived.Test.YtnjgdbfiebaomaaSm5
import Derived.Test.YtnjgdbfiebaomaaDj
import Derived.WalkKit
import Derived.WalkSpells
import Derived.ProofKit
import Derived.OpenShut
import Derived.ShutString
import Derived.Below
import Derived.SliceStrings
namespace Go.Proofs.Ytnjgdbfiebaomaa.fnSecretFrom
open Go.ChangeShapes Go.WideShapes Go.ChangeAt Go.RowKit
open Go.ChangeMaps (open_string shut_string)
set_option maxRecDepth 100000 in
set_option maxHeartbeats 1600000 in
theorem walk (a0 : Option Addr) (len0 cap0 : Nat) (z0 : List Int) (w : World) (w0 : IsRow .u8 w a0 len0 cap0 z0) :
    Calls Try.prog 6 #[.slice a0 len0 cap0] w fun e w' => e = .returned (.bool true) ∧ Below w.heap.size w w' := by
  have hcm := w0.len
  by_cases h : (1048576 : Int) < (len0 : Int)
  · go_enter Try.func6, Try.ntmps6
    go_wp2
    go_ret
    exact ⟨rfl, Below.refl _ _⟩
  go_enter Try.func6, Try.ntmps6
  go_wp2_with fail
  refine (drawSecretFrom_any a0 len0 cap0 z0 _ w0 (by omega)).mono ?_
  rintro e w1 ⟨k1, r1, s1, t1, k2, r2, s2, t2, rfl, ht1, ht2, hb1⟩
  clear w0 h hcm
  have hcon1 := fun W => implSecretFrom_any k1 r1 s1 t1 k2 r2 s2 t2 W (by omega) (by omega)
  have hcon2 := fun W => specSecretFrom_any k1 r1 s1 t1 k2 r2 s2 t2 W (by omega) (by omega)
  have HA0 : Bk w1.heap.size 40 #[.int .i64 k1, .string t1, .int .i64 r1, .int .i64 s1] ((w1.alloc (.cells #[.int .i64 k1, .string t1, .int .i64 r1, .int .i64 s1] 40 (0, 0))).alloc (.cells #[.int .i64 k2, .string t2, .int .i64 r2, .int .i64 s2] 40 (0, 0))) := (Bk.new _ _ _).alloc _
  have HB0 : Bk (w1.heap.size + 1) 40 #[.int .i64 k2, .string t2, .int .i64 r2, .int .i64 s2] ((w1.alloc (.cells #[.int .i64 k1, .string t1, .int .i64 r1, .int .i64 s1] 40 (0, 0))).alloc (.cells #[.int .i64 k2, .string t2, .int .i64 r2, .int .i64 s2] 40 (0, 0))) := Bk.new' _ _ _ _ (by simp)
  have hb0 := below_alloc (below_alloc hb1 (.cells #[.int .i64 k1, .string t1, .int .i64 r1, .int .i64 s1] 40 (0, 0))) (.cells #[.int .i64 k2, .string t2, .int .i64 r2, .int .i64 s2] 40 (0, 0))
  clear hb1
  obtain ⟨X, HX⟩ : ∃ X, Hid (Sg.sec k1 r1 s1 t1 k2 r2 s2 t2 = X) := ⟨_, Lib.hid rfl⟩
  cases ho : Sg.okTwo k1 r1 s1 t1 k2 r2 s2 t2
  · rw [ho, HX.out] at hcon1 hcon2
    clear ho HX
    go_wp2_with fail
    refine (hcon1 _).mono ?_
    rintro x2 w2 ⟨rfl, hb2⟩
    have HA2 := HA0.below hb2
    have HB2 := HB0.below hb2
    replace hb2 := below_after hb0 hb2
    clear HA0 HB0 hb0
    obtain ⟨m20, m21, m22, m23⟩ := Bk.c4 HA2
    obtain ⟨n20, n21, n22, n23⟩ := Bk.c4 HB2
    go_wp2_with fail
    refine (hcon2 _).mono ?_
    rintro x3 w3 ⟨rfl, hb3⟩
    have HA3 := HA2.below hb3
    have HB3 := HB2.below hb3
    replace hb3 := below_after hb2 hb3
    clear HA2 HB2 hb2
    obtain ⟨m30, m31, m32, m33⟩ := Bk.c4 HA3
    obtain ⟨n30, n31, n32, n33⟩ := Bk.c4 HB3
    go_wp2
    go_ret
    exact ⟨rfl, hb3⟩
  · rw [ho, HX.out] at hcon1 hcon2
    obtain ⟨e1, e2, e3, e4, e5⟩ : k1 = k2 ∧ r1 = r2 ∧ Sg.ver k1 t1 r1 s1 = true ∧ Sg.ver k2 t2 r2 s2 = true ∧ Sg.ch r1 k1 t1 ≠ Sg.ch r2 k2 t2 := by
      unfold Sg.okTwo at ho
      simpa [Bool.and_eq_true] using ho
    have hX : X = Sg.two s1 s2 (Sg.ch r1 k1 t1) (Sg.ch r2 k2 t2) := by rw [← HX.out]; unfold Sg.sec; rw [ho]; rfl
    have hk : Sg.gp X = k1 ∧ Gr.sok X = true := by
      rw [hX]
      subst e1; subst e2
      exact Sg.two_key e3 e4 e5
    have hcon3 := implKeyOf_any X
    rw [Sg.key_ok hk.2, hk.1, hk.2] at hcon3
    clear ho HX e1 e2 e3 e4 e5 hX hk
    go_wp2_with fail
    refine (hcon1 _).mono ?_
    rintro x2 w2 ⟨rfl, hb2⟩
    have HA2 := HA0.below hb2
    have HB2 := HB0.below hb2
    replace hb2 := below_after hb0 hb2
    clear HA0 HB0 hb0
    obtain ⟨m20, m21, m22, m23⟩ := Bk.c4 HA2
    obtain ⟨n20, n21, n22, n23⟩ := Bk.c4 HB2
    go_wp2_with fail
    refine (hcon2 _).mono ?_
    rintro x3 w3 ⟨rfl, hb3⟩
    have HA3 := HA2.below hb3
    have HB3 := HB2.below hb3
    replace hb3 := below_after hb2 hb3
    clear HA2 HB2 hb2
    obtain ⟨m30, m31, m32, m33⟩ := Bk.c4 HA3
    obtain ⟨n30, n31, n32, n33⟩ := Bk.c4 HB3
    go_wp2_with fail
    refine (hcon3 _).mono ?_
    rintro x4 w4 ⟨rfl, hb4⟩
    have HA4 := HA3.below hb4
    have HB4 := HB3.below hb4
    replace hb4 := below_after hb3 hb4
    clear HA3 HB3 hb3
    obtain ⟨m40, m41, m42, m43⟩ := Bk.c4 HA4
    obtain ⟨n40, n41, n42, n43⟩ := Bk.c4 HB4
    go_wp2
    go_ret
    exact ⟨rfl, hb4⟩
/-! ### The row's step. -/
theorem own : ownKnob Try.prog.godebug = none := by kernel_rfl
theorem laidOut : laidOutB Try.prog = true := by kernel_rfl
set_option maxRecDepth 100000 in
theorem lifted (os : Os) (started : os.Started) (H : Type) (enc : TypeId × Value → H) :
    ReturnsInHanded {} Try.checked os 6 .any (Rows.fnSecretFromSpec.pre6 enc Try.prog Try.f6 Rows.fnSecretFromRow.domain false) (Rows.fnSecretFromSpec.post enc Try.prog Try.f6 false true false false) := by
  refine returnsInHanded_of_change (C := Try.checked) own started (by kernel_rfl) Try.func6
    (ChangeSpec.witness6 (enc := enc) (C := Try.checked) false ⟨#[], #[.slice none 0 0], []⟩ 8 (by kernel_rfl) (by kernel_rfl) (by kernel_rfl) (by kernel_rfl)) ?_
  intro W base args ds gs before hval0 hW hcnd _
  have hval : ∀ (j : Nat) t v, Try.f6.params[j]? = some t → args[j]? = some v → Value.okWide Try.prog W .any base t v := hval0
  have hW' := hW
  obtain ⟨p, q, hA0, hV, rfl, hfz, hnd⟩ := hW
  have hA : DataW.TrodAll enc Try.prog W 0 (fun _ => true) true Try.f6.params.toList args.toList ds p := hA0
  rw [Try.params6] at hA hval
  obtain ⟨v0, vs0, d0, ds0, p0, q0, hargs, rfl, rfl, h0, r0⟩ := trodAll_cons hA
  obtain ⟨rfl, rfl, rfl⟩ := trodAll_nil r0
  obtain rfl : args = #[v0] := by cases args; simp_all
  obtain ⟨rfl, rfl⟩ := trodVars_none hV
  obtain ⟨a0, len0, cap0, rfl⟩ := okWide_slice Try.underlying22 (hval 0 22 v0 rfl rfl)
  have k0 := h0
  have lt0 : ∀ x ∈ p0, x.block < W.heap.size := by obtain ⟨m, hm⟩ := k0; exact DataW.trod_lt m _ _ _ hm
  obtain ⟨z0, w0⟩ : ∃ zs, IsRow .u8 W a0 len0 cap0 zs := by
    obtain ⟨fuel, hf⟩ := h0
    rcases open_ints Try.underlying22 Try.underlying5 (by kernel_rfl) hf with ⟨hcs, _⟩ | ⟨x, l, c, zs, hcs, _, hl, hm, hz, _, hcell, hwz⟩
    · simp [Value.cells] at hcs
      obtain ⟨rfl, rfl, rfl⟩ := hcs
      exact ⟨[], .inl ⟨rfl, rfl, rfl, rfl⟩⟩
    · simp [Value.cells] at hcs
      obtain ⟨rfl, rfl, rfl⟩ := hcs
      exact ⟨zs, .inr ⟨_, rfl, hl, hm, by simpa using hz, hcell, hwz⟩⟩
  clear hA0 hval0
  refine (walk a0 len0 cap0 z0 W w0).mono fun e W' ⟨he, bel⟩ => ?_
  subst he
  exact ⟨_, rfl, _, _, _, [], _, [], hW', trodAll_mk1 (shut_bool Try.underlying4 _), (trodAll_cons_mk (Below.trod laidOut (by kernel_rfl) (of_decide_eq_true (by kernel_rfl)) k0 bel lt0) trodAll_mk0), rfl, bel.frame _, fun h => by cases h⟩
theorem over : Rows.fnSecretFromRow.holds Try.pinned (OpenSpec.ofChange Rows.fnSecretFromSpec) :=
  OpenClaim.holds_of_wide 6 Try.f6 rfl rfl rfl rfl rfl rfl rfl ⟨rfl, rfl, rfl, rfl, rfl⟩ rfl rfl rfl rfl rfl (by kernel_rfl) Try.func6 (by kernel_rfl)
    (of_decide_eq_true (by kernel_rfl)) (by unfold Func.isWrapper; first | (rw [if_pos (by decide +kernel)]; kernel_rfl) | (rw [if_neg (by decide +kernel)]; exact ⟨rfl, rfl⟩))
    (fun os started H enc _ => lifted os started H enc)
theorem proved : Rows.FnSecretFromSaid := over
#print axioms proved
end Go.Proofs.Ytnjgdbfiebaomaa.fnSecretFrom
