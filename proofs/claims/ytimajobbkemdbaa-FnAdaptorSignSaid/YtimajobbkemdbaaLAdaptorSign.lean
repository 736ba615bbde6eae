/- For every code of at most 1<<20 bytes (longer ones are let pass by the law itself): AdaptorSign answers as the model's AdaptorSign; what it answers is valid as an adaptor signature, and not as a signature, unless the challenges of R and of the product are the same. -/
import Derived.Test.YtimajobbkemdbaaRows
import Derived.Test.YtimajobbkemdbaaAx
import Derived.Test.YtimajobbkemdbaaDn
import Derived.WalkKit
import Derived.WalkSpells
import Derived.ProofKit
import Derived.OpenShut
import Derived.ShutString
import Derived.Below
import Derived.SliceStrings
namespace Go.Proofs.Ytimajobbkemdbaa.fnAdaptorSign
open Go.ChangeShapes Go.WideShapes Go.ChangeAt Go.RowKit
open Go.ChangeMaps (open_string shut_string)
set_option maxRecDepth 100000 in
set_option maxHeartbeats 1600000 in
theorem walk (a0 : Option Addr) (len0 cap0 : Nat) (z0 : List Int) (w : World) (w0 : IsRow .u8 w a0 len0 cap0 z0) :
    Calls Try.prog 3 #[.slice a0 len0 cap0] w fun e w' => e = .returned (.bool true) ∧ Below w.heap.size w w' := by
  have hcm := w0.len
  by_cases h : (1048576 : Int) < (len0 : Int)
  · go_enter Try.func3, Try.ntmps3
    go_wp2
    go_ret
    exact ⟨rfl, Below.refl _ _⟩
  go_enter Try.func3, Try.ntmps3
  go_wp2_with fail
  refine (drawAdaptorSign_any a0 len0 cap0 z0 _ w0 (by omega)).mono ?_
  rintro e w1 ⟨u, k, t, rfl, ht, hb1⟩
  clear w0 h hcm
  have hc1 := hb1
  clear hb1
  have hq2 := noGuard_adaptor
  cases hs : (Gr.sok u && Gr.kok k)
  · have hcon1 := fun W => implAdaptorSign_any u t k W (by omega)
    have hcon2 := fun W => specAdaptorSign_any u t k W (by omega)
    unfold Ad.a0 Ad.a1 Ad.a2 at hcon1 hcon2
    simp only [hs, Bool.false_eq_true, if_false] at hcon1 hcon2
    have hq1 := fun W => eq_adaptor 0 0 0 W
    clear hs
    go_wp2_with fail
    refine (hcon1 _).mono ?_
    rintro e2 w2 ⟨rfl, hb2⟩
    have HX2 : Bk (w2.heap.size) 26 #[.int .i64 0, .int .i64 0, .int .i64 0] _ := Bk.new (w2) 26 #[.int .i64 0, .int .i64 0, .int .i64 0]
    have hc2 := below_alloc (below_after hc1 hb2) (.cells #[.int .i64 0, .int .i64 0, .int .i64 0] 26 (0, 0))
    clear hb2 hc1 
    go_wp2_with fail
    refine (hcon2 _).mono ?_
    rintro e3 w3 ⟨rfl, hb3⟩
    have HX3 := (HX2.below hb3).alloc (.cells #[.int .i64 0, .int .i64 0, .int .i64 0] 26 (0, 0))
    have HY3 : Bk (w3.heap.size) 26 #[.int .i64 0, .int .i64 0, .int .i64 0] _ := Bk.new (w3) 26 #[.int .i64 0, .int .i64 0, .int .i64 0]
    have hc3 := below_alloc (below_after hc2 hb3) (.cells #[.int .i64 0, .int .i64 0, .int .i64 0] 26 (0, 0))
    clear hb3 hc2 HX2
    obtain ⟨c0, c1, c2⟩ := Bk.c3 HX3
    obtain ⟨d0, d1, d2⟩ := Bk.c3 HY3
    go_wp2
    go_ret
    exact ⟨rfl, hc3⟩
  · have hcon1 := fun W => implAdaptorSign_any u t k W (by omega)
    have hcon2 := fun W => specAdaptorSign_any u t k W (by omega)
    unfold Ad.a0 Ad.a1 Ad.a2 at hcon1 hcon2
    simp only [hs, if_true] at hcon1 hcon2
    rw [Bool.and_eq_true] at hs
    obtain ⟨hs1, hs2⟩ := hs
    have hv := Ad.sign_ver u t k hs1 hs2
    have hRE : Gr.E (Sg.sr u t) := Sg.gp_E (by have := Sg.no_bd u t; omega)
    have hKE : Gr.E (Sg.gp u) := ((Sg.kok_iff _).mp (by have := Gr.key_kok hs1; rwa [Sg.key_ok hs1] at this)).1
    have hPE := ((Sg.kok_iff k).mp hs2).1
    have hcon3 := fun W => implKeyOf_any u W
    rw [Sg.key_ok hs1, hs1] at hcon3
    have hcon4 := fun W => implGroupMul_any (Sg.sr u t) k W
    rw [Gr.mul_ok hRE hPE, show Sg.sr u t * k % 2147483579 = Ad.fin (Sg.sr u t) k from rfl] at hcon4
    have hcon5 := fun W => implAdaptorVerify_any (Sg.gp u) (Sg.sr u t) (Ad.ss u t k) k t W (by omega)
    rw [hv] at hcon5
    have hcon6 := fun W => implVerify_any (Sg.gp u) (Sg.sr u t) (Ad.ss u t k) t W (by omega)
    have hcon7 := fun W => implChallenge_yes (Sg.sr u t) (Sg.gp u) t W (Gr.ok_yes hRE) (Gr.ok_yes hKE) (by omega)
    have hcon8 := fun W => implChallenge_yes (Ad.fin (Sg.sr u t) k) (Sg.gp u) t W (Gr.ok_yes (Ad.fin_E hRE hPE)) (Gr.ok_yes hKE) (by omega)
    have hboth : Sg.ver (Sg.gp u) t (Sg.sr u t) (Ad.ss u t k) = true → Sg.ch (Ad.fin (Sg.sr u t) k) (Sg.gp u) t = Sg.ch (Sg.sr u t) (Sg.gp u) t := fun h => (Ad.both hv h).symm
    obtain ⟨O, HO⟩ : ∃ O, Hid ((Gr.ok (Sg.sr u t) && Gr.ok k) = O) := ⟨_, Lib.hid rfl⟩
    rw [HO.out] at hcon4
    clear hv hRE hKE hPE hs1 hs2 HO
    obtain ⟨C2, HC2⟩ : ∃ C, Hid (Sg.ch (Ad.fin (Sg.sr u t) k) (Sg.gp u) t = C) := ⟨_, Lib.hid rfl⟩
    obtain ⟨C1, HC1⟩ : ∃ C, Hid (Sg.ch (Sg.sr u t) (Sg.gp u) t = C) := ⟨_, Lib.hid rfl⟩
    obtain ⟨F, HF⟩ : ∃ F, Hid (Ad.fin (Sg.sr u t) k = F) := ⟨_, Lib.hid rfl⟩
    obtain ⟨V, HV⟩ : ∃ V, Hid (Sg.ver (Sg.gp u) t (Sg.sr u t) (Ad.ss u t k) = V) := ⟨_, Lib.hid rfl⟩
    rw [HC2.out, HC1.out, HV.out] at hboth
    rw [HV.out] at hcon6
    rw [HC1.out] at hcon7
    rw [HC2.out] at hcon8
    rw [HF.out] at hcon4 hcon8
    clear HC2 HC1 HF HV
    obtain ⟨R, HR⟩ : ∃ R, Hid (Sg.sr u t = R) := ⟨_, Lib.hid rfl⟩
    obtain ⟨S, HS⟩ : ∃ S, Hid (Ad.ss u t k = S) := ⟨_, Lib.hid rfl⟩
    obtain ⟨Q, HQ⟩ : ∃ Q, Hid (Sg.gp u = Q) := ⟨_, Lib.hid rfl⟩
    rw [HR.out, HS.out] at hcon1 hcon2
    rw [HQ.out] at hcon3
    rw [HR.out] at hcon4
    rw [HQ.out, HR.out, HS.out] at hcon5 hcon6
    rw [HR.out, HQ.out] at hcon7
    rw [HQ.out] at hcon8
    clear HR HS HQ
    have hq1 := fun W => eq_adaptor R S k W
    go_wp2_with fail
    refine (hcon1 _).mono ?_
    rintro e2 w2 ⟨rfl, hb2⟩
    have HX2 : Bk (w2.heap.size) 26 #[.int .i64 R, .int .i64 S, .int .i64 k] _ := Bk.new (w2) 26 #[.int .i64 R, .int .i64 S, .int .i64 k]
    have hc2 := below_alloc (below_after hc1 hb2) (.cells #[.int .i64 R, .int .i64 S, .int .i64 k] 26 (0, 0))
    clear hb2 hc1 
    go_wp2_with fail
    refine (hcon2 _).mono ?_
    rintro e3 w3 ⟨rfl, hb3⟩
    have HX3 := (HX2.below hb3).alloc (.cells #[.int .i64 R, .int .i64 S, .int .i64 k] 26 (0, 0))
    have HY3 : Bk (w3.heap.size) 26 #[.int .i64 R, .int .i64 S, .int .i64 k] _ := Bk.new (w3) 26 #[.int .i64 R, .int .i64 S, .int .i64 k]
    have hc3 := below_alloc (below_after hc2 hb3) (.cells #[.int .i64 R, .int .i64 S, .int .i64 k] 26 (0, 0))
    clear hb3 hc2 HX2
    obtain ⟨c0, c1, c2⟩ := Bk.c3 HX3
    obtain ⟨d0, d1, d2⟩ := Bk.c3 HY3
    go_wp2_with fail
    refine (hcon3 _).mono ?_
    rintro e4 w4 ⟨rfl, hb4⟩
    have HX4 := HX3.below hb4
    have HY4 := HY3.below hb4
    have hc4 := below_after hc3 hb4
    clear hb4 hc3 HX3 HY3
    clear c0 c1 c2
    clear d0 d1 d2
    obtain ⟨c0, c1, c2⟩ := Bk.c3 HX4
    go_wp2_with fail
    refine (hcon4 _).mono ?_
    rintro e5 w5 ⟨rfl, hb5⟩
    have HX5 := HX4.below hb5
    have hc5 := below_after hc4 hb5
    clear hb5 hc4 HX4
    clear c0 c1 c2
    obtain ⟨c0, c1, c2⟩ := Bk.c3 HX5
    go_wp2_with fail
    refine (hcon5 _).mono ?_
    rintro e6 w6 ⟨rfl, hb6⟩
    have HX6 := HX5.below hb6
    have hc6 := below_after hc5 hb6
    clear hb6 hc5 HX5
    clear c0 c1 c2
    obtain ⟨c0, c1, c2⟩ := Bk.c3 HX6
    cases V
    · go_wp2_with fail
      refine (hcon6 _).mono ?_
      rintro e7 w7 ⟨rfl, hb7⟩
      have HX7 := HX6.below hb7
      have hc7 := below_after hc6 hb7
      clear hb7 hc6 HX6
      clear c0 c1 c2
      obtain ⟨c0, c1, c2⟩ := Bk.c3 HX7
      go_wp2
      go_ret
      exact ⟨rfl, hc7⟩
    · have hE := hboth rfl
      subst hE
      clear hboth
      go_wp2_with fail
      refine (hcon6 _).mono ?_
      rintro e7 w7 ⟨rfl, hb7⟩
      have HX7 := HX6.below hb7
      have hc7 := below_after hc6 hb7
      clear hb7 hc6 HX6
      clear c0 c1 c2
      obtain ⟨c0, c1, c2⟩ := Bk.c3 HX7
      go_wp2_with fail
      refine (hcon7 _).mono ?_
      rintro e8 w8 ⟨rfl, hb8⟩
      have HX8 := HX7.below hb8
      have hc8 := below_after hc7 hb8
      clear hb8 hc7 HX7
      clear c0 c1 c2
      obtain ⟨c0, c1, c2⟩ := Bk.c3 HX8
      go_wp2_with fail
      refine (hcon8 _).mono ?_
      rintro e9 w9 ⟨rfl, hb9⟩
      have HX9 := HX8.below hb9
      have hc9 := below_after hc8 hb9
      clear hb9 hc8 HX8
      clear c0 c1 c2
      obtain ⟨c0, c1, c2⟩ := Bk.c3 HX9
      go_wp2
      go_ret
      exact ⟨rfl, hc9⟩
/-! ### The row's step. -/
theorem own : ownKnob Try.prog.godebug = none := by kernel_rfl
theorem laidOut : laidOutB Try.prog = true := by kernel_rfl
set_option maxRecDepth 100000 in
theorem lifted (os : Os) (started : os.Started) (H : Type) (enc : TypeId × Value → H) :
    ReturnsInHanded {} Try.checked os 3 .any (Rows.fnAdaptorSignSpec.pre6 enc Try.prog Try.f3 Rows.fnAdaptorSignRow.domain false) (Rows.fnAdaptorSignSpec.post enc Try.prog Try.f3 false true false false) := by
  refine returnsInHanded_of_change (C := Try.checked) own started (by kernel_rfl) Try.func3
    (ChangeSpec.witness6 (enc := enc) (C := Try.checked) false ⟨#[], #[.slice none 0 0], []⟩ 8 (by kernel_rfl) (by kernel_rfl) (by kernel_rfl) (by kernel_rfl)) ?_
  intro W base args ds gs before hval0 hW hcnd _
  have hval : ∀ (j : Nat) t v, Try.f3.params[j]? = some t → args[j]? = some v → Value.okWide Try.prog W .any base t v := hval0
  have hW' := hW
  obtain ⟨p, q, hA0, hV, rfl, hfz, hnd⟩ := hW
  have hA : DataW.TrodAll enc Try.prog W 0 (fun _ => true) true Try.f3.params.toList args.toList ds p := hA0
  rw [Try.params3] at hA hval
  obtain ⟨v0, vs0, d0, ds0, p0, q0, hargs, rfl, rfl, h0, r0⟩ := trodAll_cons hA
  obtain ⟨rfl, rfl, rfl⟩ := trodAll_nil r0
  obtain rfl : args = #[v0] := by cases args; simp_all
  obtain ⟨rfl, rfl⟩ := trodVars_none hV
  obtain ⟨a0, len0, cap0, rfl⟩ := okWide_slice Try.underlying22 (hval 0 22 v0 rfl rfl)
  have k0 := h0
  have lt0 : ∀ x ∈ p0, x.block < W.heap.size := by obtain ⟨m, hm⟩ := k0; exact DataW.trod_lt m _ _ _ hm
  obtain ⟨z0, w0⟩ : ∃ zs, IsRow .u8 W a0 len0 cap0 zs := by
    obtain ⟨fuel, hf⟩ := h0
    rcases open_ints Try.underlying22 Try.underlying5 (by kernel_rfl) hf with ⟨hcs, _⟩ | ⟨x, l, c, zs, hcs, _, hl, hm, hz, _, hcell, hwz⟩
    · simp [Value.cells] at hcs
      obtain ⟨rfl, rfl, rfl⟩ := hcs
      exact ⟨[], .inl ⟨rfl, rfl, rfl, rfl⟩⟩
    · simp [Value.cells] at hcs
      obtain ⟨rfl, rfl, rfl⟩ := hcs
      exact ⟨zs, .inr ⟨_, rfl, hl, hm, by simpa using hz, hcell, hwz⟩⟩
  clear hA0 hval0
  refine (walk a0 len0 cap0 z0 W w0).mono fun e W' ⟨he, bel⟩ => ?_
  subst he
  exact ⟨_, rfl, _, _, _, [], _, [], hW', trodAll_mk1 (shut_bool Try.underlying4 _), (trodAll_cons_mk (Below.trod laidOut (by kernel_rfl) (of_decide_eq_true (by kernel_rfl)) k0 bel lt0) trodAll_mk0), rfl, bel.frame _, fun h => by cases h⟩
theorem over : Rows.fnAdaptorSignRow.holds Try.pinned (OpenSpec.ofChange Rows.fnAdaptorSignSpec) :=
  OpenClaim.holds_of_wide 3 Try.f3 rfl rfl rfl rfl rfl rfl rfl ⟨rfl, rfl, rfl, rfl, rfl⟩ rfl rfl rfl rfl rfl (by kernel_rfl) Try.func3 (by kernel_rfl)
    (of_decide_eq_true (by kernel_rfl)) (by unfold Func.isWrapper; first | (rw [if_pos (by decide +kernel)]; kernel_rfl) | (rw [if_neg (by decide +kernel)]; exact ⟨rfl, rfl⟩))
    (fun os started H enc _ => lifted os started H enc)
theorem proved : Rows.FnAdaptorSignSaid := over
#print axioms proved
end Go.Proofs.Ytimajobbkemdbaa.fnAdaptorSign
