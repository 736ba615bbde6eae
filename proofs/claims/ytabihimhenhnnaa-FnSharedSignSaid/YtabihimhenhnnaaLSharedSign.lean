/- For every code of at most 1<<20 bytes (longer ones are let pass by the law itself): SharedSign answers as the model's SharedSign, and what it answers with true is valid for the shared key of the keys of the secrets. -/
import Derived.Test.YtabihimhenhnnaaRows
import Derived.Test.YtabihimhenhnnaaSs
import Derived.Test.YtabihimhenhnnaaSn
import Derived.Test.YtabihimhenhnnaaDz
import Derived.WalkKit
import Derived.WalkSpells
import Derived.ProofKit
import Derived.OpenShut
import Derived.ShutString
import Derived.Below
import Derived.SliceStrings
namespace Go.Proofs.Ytabihimhenhnnaa.fnSharedSign
open Go.ChangeShapes Go.WideShapes Go.ChangeAt Go.RowKit
open Go.ChangeMaps (open_string shut_string)
theorem IR.keptS {w w' : World} {base n : Nat} {e : TypeId} {v : Value} {xs : List Value} (h : w.ownsRow base e 1 v n xs) (hb : Below w.heap.size w w') : w'.ownsRow base e 1 v n xs :=
  h.kept (row := none) ⟨hb.os, hb.tape, hb.output, hb.size, fun k hk _ => hb.block k hk⟩ (Classical.em _)
set_option maxRecDepth 100000 in
set_option maxHeartbeats 3200000 in
theorem walk (a0 : Option Addr) (len0 cap0 : Nat) (z0 : List Int) (w : World) (w0 : IsRow .u8 w a0 len0 cap0 z0) :
    Calls Try.prog 4 #[.slice a0 len0 cap0] w fun e w' => e = .returned (.bool true) ∧ Below w.heap.size w w' := by
  obtain ⟨i0, hi, hz0, hz1, hz2⟩ := info_parts info_int7
  have hcm := w0.len
  by_cases h : (1048576 : Int) < (len0 : Int)
  · go_enter Try.func4, Try.ntmps4
    go_wp2
    go_ret
    exact ⟨rfl, Below.refl _ _⟩
  go_enter Try.func4, Try.ntmps4
  go_wp2_with fail
  refine (drawSharedSign_any a0 len0 cap0 z0 _ w0 (by omega)).mono ?_
  rintro e w1 ⟨us, g, cp, t, rfl, n0, n1, ht, h1, hb1⟩
  clear w0 h hcm n1
  have HI1 := (IR.own h1).2
  have hq2 := noGuard_sig
  obtain ⟨m, hm⟩ : ∃ m, us.length = m := ⟨_, rfl⟩
  have hcon1 := fun W (h : IR W (some ⟨g, 0, none⟩) us.length us) => implSharedSign_any _ us.length cp us t W h (by omega) (by omega)
  have hcon2 := fun W (h : IR W (some ⟨g, 0, none⟩) us.length us) => specSharedSign_any _ us.length cp us t W h (by omega) (by omega)
  clear h1
  cases hs : Sd.sok us
  · obtain ⟨_, h1, h2⟩ := Sd.s_no t hs
    rw [h1, h2, hs] at hcon1 hcon2
    have hq1 := fun W => eq_sig 0 0 0 0 W
    simp only [beq_self_eq_true, Bool.and_true] at hq1
    rw [hm] at hcon1 hcon2 HI1
    rw [hm]
    clear hs h1 h2 hm n0
    go_wp2_with fail
    refine (hcon1 _ HI1).mono ?_
    rintro e w2 ⟨rfl, hb2⟩
    have HI2 := (HI1.below hb2).alloc (.cells #[.int .i64 0, .int .i64 0] 32 (0, 0))
    replace hb2 := below_after hb1 hb2
    clear hb1 HI1
    have HX2 : Bk w2.heap.size 32 #[.int .i64 0, .int .i64 0] (w2.alloc (.cells #[.int .i64 0, .int .i64 0] 32 (0, 0))) := Bk.new _ _ _
    go_wp2_with fail
    refine (hcon2 _ HI2).mono ?_
    rintro e w3 ⟨rfl, hb3⟩
    have HX3 := (HX2.below hb3).alloc (.cells #[.int .i64 0, .int .i64 0] 32 (0, 0))
    replace hb3 := below_after (below_alloc hb2 _) hb3
    clear hb2
    replace hb3 := below_alloc hb3 (.cells #[.int .i64 0, .int .i64 0] 32 (0, 0))
    obtain ⟨c0, c1⟩ := Bk.c2 HX3
    clear HI2 hcon1 hcon2
    go_wp2
    go_ret
    exact ⟨rfl, hb3⟩
  · obtain ⟨h1, h2⟩ := Sd.s_yes t hs
    rw [h1, h2, hs] at hcon1 hcon2
    have hok := Sd.sok_ok hs
    have hres := Sd.res_yes hok
    have hv := Sd.sign_ver t hs
    have HKA := Lib.hid (Sd.kl_all us)
    have HL := Lib.hid (Sd.kl_len us)
    have hcon4 := fun W (a : Option Addr) (c : Nat) (h : IR W a (Sd.keys us).length (Sd.keys us)) => implSharedKey_any a _ c (Sd.keys us) W h (by rw [Sd.keys_len]; omega)
    rw [hok, hres, Sd.keys_len] at hcon4
    obtain ⟨K, HK⟩ : ∃ K, Hid (Sd.key (Sd.keys us) = K) := ⟨_, Lib.hid rfl⟩
    rw [HK.out] at hv hcon4
    have hcon5 := fun W => implVerify_any K (Sd.sr us t) (Sd.ss us t) t W (by omega)
    rw [hv] at hcon5
    obtain ⟨R, HR⟩ : ∃ R, Hid (Sd.sr us t = R) := ⟨_, Lib.hid rfl⟩
    obtain ⟨S, HS⟩ : ∃ S, Hid (Sd.ss us t = S) := ⟨_, Lib.hid rfl⟩
    rw [HR.out, HS.out] at hcon1 hcon2 hcon5
    have hq1 := fun W => eq_sig R S R S W
    simp only [beq_self_eq_true, Bool.and_true] at hq1
    rw [hm] at hcon1 hcon2 HI1 HKA n0 hcon4
    rw [hm]
    have HM := Lib.hid hm
    clear hs h1 h2 hm hok hres hv HK HR HS
    go_wp2_with fail
    refine (hcon1 _ HI1).mono ?_
    rintro e w2 ⟨rfl, hb2⟩
    have HI2 := (HI1.below hb2).alloc (.cells #[.int .i64 R, .int .i64 S] 32 (0, 0))
    replace hb2 := below_after hb1 hb2
    clear hb1 HI1
    have HX2 : Bk w2.heap.size 32 #[.int .i64 R, .int .i64 S] (w2.alloc (.cells #[.int .i64 R, .int .i64 S] 32 (0, 0))) := Bk.new _ _ _
    go_wp2_with fail
    refine (hcon2 _ HI2).mono ?_
    rintro e w3 ⟨rfl, hb3⟩
    have HX3 := (HX2.below hb3).alloc (.cells #[.int .i64 R, .int .i64 S] 32 (0, 0))
    have HI3 := (HI2.below hb3).alloc (.cells #[.int .i64 R, .int .i64 S] 32 (0, 0))
    replace hb3 := below_after (below_alloc hb2 _) hb3
    clear hb2 HX2 HI2 hcon1 hcon2
    replace hb3 := below_alloc hb3 (.cells #[.int .i64 R, .int .i64 S] 32 (0, 0))
    obtain ⟨c0, c1⟩ := Bk.c2 HX3
    clear c0 c1
    have how0 := World.ownsRow_made (e := 3) (size := 1) (w3.alloc (.cells #[.int .i64 R, .int .i64 S] 32 (0, 0))) #[] 0 (Nat.le_refl _) (by decide) rfl
    obtain ⟨W3, hX, hI, hb, hB, how, hs⟩ : ∃ W3, Bk w2.heap.size 32 #[.int .i64 R, .int .i64 S] W3 ∧ IR W3 (some ⟨g, 0, none⟩) m us ∧ Below w.heap.size w W3 ∧ Below W3.heap.size W3 ((w3.alloc (.cells #[.int .i64 R, .int .i64 S] 32 (0, 0))).alloc (.cells #[] 3)) ∧
        ((w3.alloc (.cells #[.int .i64 R, .int .i64 S] 32 (0, 0))).alloc (.cells #[] 3)).ownsRow W3.heap.size 3 1 (.slice (some ⟨W3.heap.size, 0, none⟩) 0 0) 0 [] ∧ W3.heap.size = w3.heap.size + 1 := ⟨_, HX3, HI3, hb3, below_alloc (Below.refl _ _) _, how0, by simp⟩
    obtain ⟨c0, c1⟩ := Bk.c2 HX3
    clear how0 HI3 hb3
    go_wp2
    go_loopw [10, 11] (fun o i wr => ∃ (k g' cp' : Nat), k ≤ m ∧ i = .int .i64 (k : Int) ∧ o = .slice (some ⟨g', 0, none⟩) k cp' ∧ wr.ownsRow W3.heap.size 3 1 (.slice (some ⟨g', 0, none⟩) k cp') k ((Sd.kl us k).map (Value.int .i64)) ∧ Below W3.heap.size W3 wr)
      (fun _ i _ => m - (intOf i).toNat)
    case atStart => exact ⟨0, w3.heap.size + 1, 0, by omega, rfl, rfl, by rw [hs] at how ⊢; exact how, hB⟩
    case round =>
      clear how hB hs HX3 c0 c1 hq1 hq2
      obtain ⟨k, g', cp', hk1, rfl, rfl, hown, hbel⟩ := hrel
      by_cases hlt : k < m
      · obtain ⟨ba, offa, hae, hba, hca⟩ := (hI.below hbel).2 (by omega)
        cases hae
        have c0 := hca k hlt
        rw [Nat.zero_add] at c0
        have HLL : Hid (Sd.kl us (k + 1) = Sd.kl us k ++ [Gr.key (us.getD k 0)]) := Lib.hid rfl
        have hcon := fun W => implKeyOf_any (us.getD k 0) W
        obtain ⟨G, HG⟩ : ∃ K, Hid (Gr.key (us.getD k 0) = K) := ⟨_, Lib.hid rfl⟩
        obtain ⟨B, HB⟩ : ∃ K, Hid (Gr.sok (us.getD k 0) = K) := ⟨_, Lib.hid rfl⟩
        rw [HG.out] at HLL hcon
        rw [HB.out] at hcon
        obtain ⟨V, HV⟩ : ∃ V, Hid (us.getD k 0 = V) := ⟨_, Lib.hid rfl⟩
        rw [HV.out] at c0 hcon
        clear hca HG HB HV hX hI hb HKA HL HM hcon4 hcon5
        go_wp2_with fail
        refine (hcon _).mono ?_
        rintro e w5 ⟨rfl, hb5⟩
        have hown5 := IR.keptS hown hb5
        have hbel5 := below_after hbel hb5
        have hbw := hbel5.size
        clear hown hbel hb5
        go_wp2_with (at_builtin; refine wpList_append_own _ rfl _ _ 23 rfl W3.heap.size 3 i0 (.int .i64 0) 1 8 Try.underlying23 hi hz0 hz1 hz2 rfl (by decide) _ _ _ rfl (hown5.alloc (.cells #[.int .i64 G] 3 (0, 0))) ⟨w5.heap.size, 0, none⟩ 1 1 [.int .i64 G] rfl rfl ?c1 ?c2 ?c3 ?c4 ?c5 ?_)
        case c1 => exact one_new _ _ _
        case c2 => intro u hu; simp at hu; subst hu; rfl
        case c3 => unfold maxLen; omega
        case c4 => omega
        case c5 => simp; omega
        intro v' w6 hown6 hgrow _
        have hb6 : Below W3.heap.size W3 w6 := Below.grown (below_alloc hbel5 (.cells #[.int .i64 G] 3 (0, 0))) hgrow (below_alloc hbel5 (.cells #[.int .i64 G] 3 (0, 0))).size (fun j he => (hown5.lt _ he).1)
        obtain ⟨g5, cp5, rfl⟩ : ∃ g cp, v' = .slice (some ⟨g, 0, none⟩) (k + 1) cp := by
          rcases hown6.2 with ⟨h, h0⟩ | ⟨g, cap, cur, h, _⟩
          · omega
          · exact ⟨_, _, h⟩
        have hown7 : w6.ownsRow W3.heap.size 3 1 (.slice (some ⟨g5, 0, none⟩) (k + 1) cp5) (k + 1) ((Sd.kl us (k + 1)).map (Value.int .i64)) := by
          rw [HLL.out, List.map_append]
          exact hown6
        clear hown6 hgrow hown5 HLL
        go_wp2
        go_roundw
        case rel => exact ⟨k + 1, g5, cp5, by omega, by simp, rfl, hown7, hb6⟩
        case measure => simp [intOf]; omega
      · have hk2 : k = m := by omega
        subst hk2
        rw [HKA.out] at hown
        have hIK := (IR.own hown).2
        have hX5 := hX.below hbel
        have hc5 := below_after hb hbel
        clear hown hbel hI hb hX HKA HL HM
        go_wp2_with fail
        refine (hcon4 _ _ _ hIK).mono ?_
        rintro e w7 ⟨rfl, hb7⟩
        have hX7 := hX5.below hb7
        have hc7 := below_after hc5 hb7
        clear hIK hb7 hc5 hX5 hcon4
        obtain ⟨c0, c1⟩ := Bk.c2 hX7
        go_wp2_with fail
        refine (hcon5 _).mono ?_
        rintro e w8 ⟨rfl, hb8⟩
        have hc8 := below_after hc7 hb8
        clear hb8 hc7 hX7 hcon5
        go_wp2
        go_ret
        exact ⟨rfl, hc8⟩
/-! ### The row's step. -/
theorem own : ownKnob Try.prog.godebug = none := by kernel_rfl
theorem laidOut : laidOutB Try.prog = true := by kernel_rfl
set_option maxRecDepth 100000 in
theorem lifted (os : Os) (started : os.Started) (H : Type) (enc : TypeId × Value → H) :
    ReturnsInHanded {} Try.checked os 4 .any (Rows.fnSharedSignSpec.pre6 enc Try.prog Try.f4 Rows.fnSharedSignRow.domain false) (Rows.fnSharedSignSpec.post enc Try.prog Try.f4 false true false false) := by
  refine returnsInHanded_of_change (C := Try.checked) own started (by kernel_rfl) Try.func4
    (ChangeSpec.witness6 (enc := enc) (C := Try.checked) false ⟨#[], #[.slice none 0 0], []⟩ 8 (by kernel_rfl) (by kernel_rfl) (by kernel_rfl) (by kernel_rfl)) ?_
  intro W base args ds gs before hval0 hW hcnd _
  have hval : ∀ (j : Nat) t v, Try.f4.params[j]? = some t → args[j]? = some v → Value.okWide Try.prog W .any base t v := hval0
  have hW' := hW
  obtain ⟨p, q, hA0, hV, rfl, hfz, hnd⟩ := hW
  have hA : DataW.TrodAll enc Try.prog W 0 (fun _ => true) true Try.f4.params.toList args.toList ds p := hA0
  rw [Try.params4] at hA hval
  obtain ⟨v0, vs0, d0, ds0, p0, q0, hargs, rfl, rfl, h0, r0⟩ := trodAll_cons hA
  obtain ⟨rfl, rfl, rfl⟩ := trodAll_nil r0
  obtain rfl : args = #[v0] := by cases args; simp_all
  obtain ⟨rfl, rfl⟩ := trodVars_none hV
  obtain ⟨a0, len0, cap0, rfl⟩ := okWide_slice Try.underlying22 (hval 0 22 v0 rfl rfl)
  have k0 := h0
  have lt0 : ∀ x ∈ p0, x.block < W.heap.size := by obtain ⟨m, hm⟩ := k0; exact DataW.trod_lt m _ _ _ hm
  obtain ⟨z0, w0⟩ : ∃ zs, IsRow .u8 W a0 len0 cap0 zs := by
    obtain ⟨fuel, hf⟩ := h0
    rcases open_ints Try.underlying22 Try.underlying5 (by kernel_rfl) hf with ⟨hcs, _⟩ | ⟨x, l, c, zs, hcs, _, hl, hm, hz, _, hcell, hwz⟩
    · simp [Value.cells] at hcs
      obtain ⟨rfl, rfl, rfl⟩ := hcs
      exact ⟨[], .inl ⟨rfl, rfl, rfl, rfl⟩⟩
    · simp [Value.cells] at hcs
      obtain ⟨rfl, rfl, rfl⟩ := hcs
      exact ⟨zs, .inr ⟨_, rfl, hl, hm, by simpa using hz, hcell, hwz⟩⟩
  clear hA0 hval0
  refine (walk a0 len0 cap0 z0 W w0).mono fun e W' ⟨he, bel⟩ => ?_
  subst he
  exact ⟨_, rfl, _, _, _, [], _, [], hW', trodAll_mk1 (shut_bool Try.underlying4 _), (trodAll_cons_mk (Below.trod laidOut (by kernel_rfl) (of_decide_eq_true (by kernel_rfl)) k0 bel lt0) trodAll_mk0), rfl, bel.frame _, fun h => by cases h⟩
theorem over : Rows.fnSharedSignRow.holds Try.pinned (OpenSpec.ofChange Rows.fnSharedSignSpec) :=
  OpenClaim.holds_of_wide 4 Try.f4 rfl rfl rfl rfl rfl rfl rfl ⟨rfl, rfl, rfl, rfl, rfl⟩ rfl rfl rfl rfl rfl (by kernel_rfl) Try.func4 (by kernel_rfl)
    (of_decide_eq_true (by kernel_rfl)) (by unfold Func.isWrapper; first | (rw [if_pos (by decide +kernel)]; kernel_rfl) | (rw [if_neg (by decide +kernel)]; exact ⟨rfl, rfl⟩))
    (fun os started H enc _ => lifted os started H enc)
theorem proved : Rows.FnSharedSignSaid := over
#print axioms proved
end Go.Proofs.Ytabihimhenhnnaa.fnSharedSign
