/- For every code of at most 1<<20 bytes (longer ones are let pass by the law itself): OpenMany answers as the model's OpenMany, and the witness opens the shared lock of all the secrets' keys. -/
import Derived.Test.YtoocibabceeagabGreatRows
import Derived.Test.YtoocibabceeagabGreatUl
import Derived.WalkKit
import Derived.WalkSpells
import Derived.ProofKit
import Derived.OpenShut
import Derived.ShutString
import Derived.Below
import Derived.SliceStrings
namespace Go.Proofs.YtoocibabceeagabGreat.fnOpenMany
open Go.ChangeShapes Go.WideShapes Go.ChangeAt Go.RowKit
open Go.ChangeMaps (open_string shut_string)
theorem many_yes {zs : List Int} (h : Wt.manyOk zs = true) : (∀ z ∈ zs, Wt.sec z = true) ∧ 1 ≤ zs.length ∧ zs.length ≤ 5 := by
  unfold Wt.manyOk at h
  simp only [Bool.and_eq_true, decide_eq_true_eq, List.all_eq_true] at h
  exact ⟨h.1, h.2⟩
theorem keys_ok {zs : List Int} (h : Wt.manyOk zs = true) : Lk.manyOk (zs.length : Int) (zs.map Sg.gp) = true := by
  obtain ⟨h1, h2, h3⟩ := many_yes h
  unfold Lk.manyOk Lk.manyLen Lk.manyNeed
  simp only [Bool.and_eq_true, decide_eq_true_eq, List.all_eq_true, List.length_map]
  refine ⟨⟨⟨by omega, by omega⟩, by omega, by omega⟩, fun z hz => ?_⟩
  obtain ⟨y, hy, rfl⟩ := List.mem_map.1 hz
  exact Wt.kok_gp (h1 y hy)
def keysN (zs : List Int) (k : Nat) : List Int := (zs.take k).map Sg.gp
theorem keysN_snoc (zs : List Int) (k : Nat) (h : k < zs.length) : keysN zs (k + 1) = keysN zs k ++ [Sg.gp (zs.getD k 0)] := by
  unfold keysN
  rw [take_snocW zs k h, List.map_append]
  rfl
theorem info_intU : (Tryz.prog.info? 3).map (fun i => (i.zero, i.size, i.bytes)) = some (some (.int .i64 0), 1, 8) := by kernel_rfl
set_option maxRecDepth 100000 in
set_option maxHeartbeats 6400000 in
theorem walk (a0 : Option Addr) (len0 cap0 : Nat) (z0 : List Int) (w : World) (w0 : IsRow .u8 w a0 len0 cap0 z0) :
    Calls Tryz.prog 4 #[.slice a0 len0 cap0] w fun e w' => e = .returned (.bool true) ∧ Below w.heap.size w w' := by
  have hcm := w0.len
  by_cases h : (1048576 : Int) < (len0 : Int)
  · go_enter Tryz.func4, Tryz.ntmps4
    go_wp2
    go_ret
    exact ⟨rfl, Below.refl _ _⟩
  go_enter Tryz.func4, Tryz.ntmps4
  go_wp2_with fail
  refine (drawOpenMany_any a0 len0 cap0 z0 _ w0 (by omega)).mono ?_
  rintro e w1 ⟨zs, gz, cz, t, rfl, hl6, hiz, htz, hb1⟩
  clear w0 h hcm
  have ht : t.size ≤ 1048576 := by omega
  have HZ := Lib.hid hiz
  clear hiz htz
  cases hm : Wt.manyOk zs
  · have HIP := Lib.hid (show ∀ W, IR W (some ⟨gz, 0, none⟩) zs.length zs → Calls Tryz.prog 21 #[.slice (some ⟨gz, 0, none⟩) zs.length cz, .string t] W (WtR [] false W) from fun W h => (implOpenMany_any _ zs.length cz zs t W h (by omega) ht).mono fun e w' h => h.2 hm)
    have HSP := Lib.hid (show ∀ W, IR W (some ⟨gz, 0, none⟩) zs.length zs → Calls Tryz.prog 22 #[.slice (some ⟨gz, 0, none⟩) zs.length cz, .string t] W (WtR [] false W) from fun W h => (OpenMany_eq _ zs.length cz zs t W h (by omega) ht).mono fun e w' h => h.2 hm)
    unfold WtR at HIP HSP
    simp only [List.length_nil] at HIP HSP
    clear hm
    go_wp2_with fail
    refine (HIP.out _ HZ.out).mono ?_
    rintro e w2 ⟨a2, c2, rfl, hx, hown2⟩
    have hb2 := hb1.trans (hx.mono hb1.size)
    have HS2 := Lib.hid (SR.own hown2).2
    replace HZ := Lib.hid (HZ.out.below hx)
    clear hx hown2
    go_wp2_with fail
    refine (HSP.out _ HZ.out).mono ?_
    rintro e w3 ⟨a3, c3, rfl, hx, hown3⟩
    have hb3 := hb2.trans (hx.mono hb2.size)
    have HS3 := Lib.hid (SR.own hown3).2
    replace HS2 := Lib.hid (HS2.out.below hx)
    clear hx hown3 hb2
    go_wp2_with fail
    refine (wcTexts_any a2 a3 0 c2 c3 [] _ HS2.out HS3.out (by omega)).mono ?_
    rintro e w4 ⟨rfl, hx⟩
    have hb4 := hb3.trans (hx.mono hb3.size)
    clear hx hb3
    go_wp2
    go_ret
    exact ⟨rfl, hb4⟩
  obtain ⟨hall, hl1, hl5⟩ := many_yes hm
  have HIP := Lib.hid (show ∀ W, IR W (some ⟨gz, 0, none⟩) zs.length zs → Calls Tryz.prog 21 #[.slice (some ⟨gz, 0, none⟩) zs.length cz, .string t] W (WtR (zs.map fun x => Wt.sig x t) true W) from fun W h => (implOpenMany_any _ zs.length cz zs t W h (by omega) ht).mono fun e w' h => h.1 hm)
  have HSP := Lib.hid (show ∀ W, IR W (some ⟨gz, 0, none⟩) zs.length zs → Calls Tryz.prog 22 #[.slice (some ⟨gz, 0, none⟩) zs.length cz, .string t] W (WtR (zs.map fun x => Wt.sig x t) true W) from fun W h => (OpenMany_eq _ zs.length cz zs t W h (by omega) ht).mono fun e w' h => h.1 hm)
  unfold WtR at HIP HSP
  have hko := keys_ok hm
  have HLM : Hid (∀ W a c, IR W a zs.length (zs.map Sg.gp) → Calls Tryz.prog 23 #[.int .i64 (zs.length : Int), .slice a zs.length c] W (LkY (Lk.many (zs.length : Int) (zs.map Sg.gp)) W)) := Lib.hid fun W a c h => (implLockMany_any (zs.length : Int) a zs.length c (zs.map Sg.gp) W h (by omega)).mono fun _ _ g => LkQ.yes hko g
  unfold LkY at HLM
  have HU := Lib.hid (fun W g c h => unlock_lock (Lk.ok_many' hko) (zs.map fun x => Wt.sig x t) t 0 0 true (Vm.opens_many ⟨t, 0, 0⟩ zs hall hl1 hl5) (fun s hs => by
    obtain ⟨z, _, rfl⟩ := List.mem_map.1 hs
    rw [Wt.sig_size]
    decide) ht g zs.length c (by omega) W h)
  have HALL := Lib.hid hall
  obtain ⟨i0, hi, hz0, hz1, hz2⟩ := info_parts info_intU
  obtain ⟨n, HN⟩ : ∃ n, Hid (zs.length = n) := ⟨_, Lib.hid rfl⟩
  have hnL : (zs.map fun x => Wt.sig x t).length = n := by rw [List.length_map]; exact HN.out
  rw [hnL, HN.out] at HIP HSP
  rw [HN.out] at HLM HU HZ hl1 hl5 hl6
  rw [HN.out]
  obtain ⟨X, HX⟩ : ∃ y, Hid (Jo.bs (Lk.many (n : Int) (zs.map Sg.gp)) = y) := ⟨_, Lib.hid rfl⟩
  rw [HX.out] at HLM HU
  obtain ⟨L, HL⟩ : ∃ L, Hid ((zs.map fun x => Wt.sig x t) = L) := ⟨_, Lib.hid rfl⟩
  rw [HL.out] at HIP HSP HU
  clear hm hall hko hnL HX HL hl6
  go_wp2_with fail
  refine (HIP.out _ HZ.out).mono ?_
  rintro e w2 ⟨a2, c2, rfl, hx, hown2⟩
  have hb2 := hb1.trans (hx.mono hb1.size)
  have HS2 := Lib.hid (SR.own hown2).2
  obtain ⟨g, rfl, _, _⟩ := own_someU hown2 (by omega)
  replace HZ := Lib.hid (HZ.out.below hx)
  clear hx hown2 hb1
  go_wp2_with fail
  refine (HSP.out _ HZ.out).mono ?_
  rintro e w3 ⟨a3, c3, rfl, hx, hown3⟩
  have hb3 := hb2.trans (hx.mono hb2.size)
  have HS3 := Lib.hid (SR.own hown3).2
  replace HS2 := Lib.hid (HS2.out.below hx)
  replace HZ := Lib.hid (HZ.out.below hx)
  clear hx hown3 hb2
  go_wp2_with fail
  refine (wcTexts_any (some ⟨g, 0, none⟩) a3 n c2 c3 L _ HS2.out HS3.out (by omega)).mono ?_
  rintro e w4 ⟨rfl, hx⟩
  have hb4 := hb3.trans (hx.mono hb3.size)
  have HS4 := Lib.hid (HS2.out.below hx)
  replace HZ := Lib.hid (HZ.out.below hx)
  have hwb := hb4.size
  have hown0 : (w4.alloc (.cells #[] 3 (0, 0))).ownsRow w4.heap.size 3 1 (.slice (some ⟨w4.heap.size, 0, none⟩) 0 0) 0 [] := World.ownsRow_made (e := 3) (size := 1) w4 #[] 0 (Nat.le_refl _) (by decide) rfl
  have hb0' : Below w4.heap.size w4 (w4.alloc (.cells #[] 3 (0, 0))) := below_alloc (Below.refl _ _) _
  have HO0 := Lib.hid hown0
  clear hx hb3 HS2 HS3 hown0 HIP HSP
  go_wp2
  go_loopw [10, 11] (fun v i wr => ∃ (k : Nat), k ≤ n ∧ i = .int .i64 (k : Int) ∧ Below w4.heap.size w4 wr ∧ Hid (wr.ownsRow w4.heap.size 3 1 v k ((keysN zs k).map (Value.int .i64))))
    (fun _ i _ => n - (intOf i).toNat)
  case atStart => exact ⟨0, by omega, rfl, hb0', HO0⟩
  case round =>
    obtain ⟨k, hk, rfl, hbel, HOWN⟩ := hrel
    clear hb0' HO0
    obtain ⟨va, vc, rfl⟩ : ∃ va vc, u10 = .slice va k vc := by
      rcases HOWN.out.2 with ⟨h1, h2⟩ | ⟨g, cap', cur, h1, _⟩
      · exact ⟨none, 0, by rw [h1, h2]⟩
      · exact ⟨_, _, h1⟩
    by_cases hlt : k < n
    · obtain ⟨b, off, he, _, hc⟩ := (HZ.out.below hbel).2 (by omega)
      cases he
      have hck := hc k hlt
      rw [Nat.zero_add] at hck
      obtain ⟨x, HX⟩ : ∃ x, Hid (zs.getD k 0 = x) := ⟨_, Lib.hid rfl⟩
      rw [HX.out] at hck
      have hsx : Wt.sec x = true := by
        rw [← HX.out]
        exact HALL.out _ (getD_memI (by rw [HN.out]; exact hlt))
      have hke := fun W => keyOf_sec x hsx W
      obtain ⟨K, HK⟩ : ∃ x', Hid (Sg.gp x = x') := ⟨_, Lib.hid rfl⟩
      rw [HK.out] at hke
      clear hc hsx
      go_wp2_with fail
      refine (hke _).mono ?_
      rintro e w6 ⟨rfl, hx⟩
      have hown2 := HOWN.out.kept (row := none) ⟨hx.os, hx.tape, hx.output, hx.size, fun k hk _ => hx.block k hk⟩ (Classical.em _)
      have hb6 := hbel.trans (hx.mono hbel.size)
      have hsz6 := hb6.size
      clear HOWN hck hx hke
      have S1 := Lib.hid (one_new w6 (.int .i64 K) 3)
      go_wp2_with (at_builtin; refine wpList_append_own _ rfl _ _ 41 rfl w4.heap.size 3 i0 (.int .i64 0) 1 8 Tryz.underlying41 hi hz0 hz1 hz2 rfl (by decide) _ _ _ rfl (hown2.alloc (.cells #[.int .i64 K] 3 (0, 0))) ⟨w6.heap.size, 0, none⟩ 1 1 [.int .i64 K] rfl rfl ?_ ?_ ?_ ?_ ?_ ?_)
      any_goals first | exact S1.out | (intro u hu; simp at hu; subst hu; rfl) | (unfold maxLen; omega) | omega | exact Nat.le_trans hsz6 (by simp) | (simp; omega)
      intro v' w8 hown8 hgrow _
      have hb8 := Below.grown (below_alloc hb6 (.cells #[.int .i64 K] 3 (0, 0))) hgrow (below_alloc hb6 (.cells #[.int .i64 K] 3 (0, 0))).size (fun j he => (hown2.lt j he).1)
      have hown9 : Hid (w8.ownsRow w4.heap.size 3 1 v' (k + 1) ((keysN zs (k + 1)).map (Value.int .i64))) := Lib.hid (by
        rw [keysN_snoc zs k (by rw [HN.out]; exact hlt), List.map_append, HX.out, HK.out]
        exact hown8)
      clear hown2 hgrow hown8 hb6 S1
      go_wp2
      go_roundw
      case rel => exact ⟨k + 1, by omega, by simp, hb8, hown9⟩
      case measure => simp [intOf]; omega
    · obtain rfl : k = n := by omega
      have HTK : Hid (keysN zs k = zs.map Sg.gp) := Lib.hid (by unfold keysN; rw [List.take_of_length_le (by rw [HN.out]; exact Nat.le_refl _)])
      have hown := HOWN.out
      rw [HTK.out] at hown
      have HIR := Lib.hid (IR.own hown).2
      have HS5 := Lib.hid (HS4.out.below hbel)
      have hb5 := hb4.trans (hbel.mono hb4.size)
      clear hown HOWN hbel
      go_wp2_with fail
      refine (HLM.out _ _ _ HIR.out).mono ?_
      rintro e w6 ⟨rfl, hx⟩
      have hb6 := hb5.trans (hx.mono hb5.size)
      have HS6 := Lib.hid (HS5.out.below hx)
      clear hx
      go_wp2_with fail
      refine (HU.out _ _ _ HS6.out).mono ?_
      rintro e w7 ⟨rfl, hx⟩
      have hb7 := hb6.trans (hx.mono hb6.size)
      go_wp2
      go_ret
      exact ⟨rfl, hb7⟩
/-! ### The row's step. -/
theorem own : ownKnob Tryz.prog.godebug = none := by kernel_rfl
theorem laidOut : laidOutB Tryz.prog = true := by kernel_rfl
set_option maxRecDepth 100000 in
theorem lifted (os : Os) (started : os.Started) (H : Type) (enc : TypeId × Value → H) :
    ReturnsInHanded {} Tryz.checked os 4 .any (Rows.fnOpenManySpec.pre6 enc Tryz.prog Tryz.f4 Rows.fnOpenManyRow.domain false) (Rows.fnOpenManySpec.post enc Tryz.prog Tryz.f4 false true false false) := by
  refine returnsInHanded_of_change (C := Tryz.checked) own started (by kernel_rfl) Tryz.func4
    (ChangeSpec.witness6 (enc := enc) (C := Tryz.checked) false ⟨#[], #[.slice none 0 0], []⟩ 8 (by kernel_rfl) (by kernel_rfl) (by kernel_rfl) (by kernel_rfl)) ?_
  intro W base args ds gs before hval0 hW hcnd _
  have hval : ∀ (j : Nat) t v, Tryz.f4.params[j]? = some t → args[j]? = some v → Value.okWide Tryz.prog W .any base t v := hval0
  have hW' := hW
  obtain ⟨p, q, hA0, hV, rfl, hfz, hnd⟩ := hW
  have hA : DataW.TrodAll enc Tryz.prog W 0 (fun _ => true) true Tryz.f4.params.toList args.toList ds p := hA0
  rw [Tryz.params4] at hA hval
  obtain ⟨v0, vs0, d0, ds0, p0, q0, hargs, rfl, rfl, h0, r0⟩ := trodAll_cons hA
  obtain ⟨rfl, rfl, rfl⟩ := trodAll_nil r0
  obtain rfl : args = #[v0] := by cases args; simp_all
  obtain ⟨rfl, rfl⟩ := trodVars_none hV
  obtain ⟨a0, len0, cap0, rfl⟩ := okWide_slice Tryz.underlying22 (hval 0 22 v0 rfl rfl)
  have k0 := h0
  have lt0 : ∀ x ∈ p0, x.block < W.heap.size := by obtain ⟨m, hm⟩ := k0; exact DataW.trod_lt m _ _ _ hm
  obtain ⟨z0, w0⟩ : ∃ zs, IsRow .u8 W a0 len0 cap0 zs := by
    obtain ⟨fuel, hf⟩ := h0
    rcases open_ints Tryz.underlying22 Tryz.underlying5 (by kernel_rfl) hf with ⟨hcs, _⟩ | ⟨x, l, c, zs, hcs, _, hl, hm, hz, _, hcell, hwz⟩
    · simp [Value.cells] at hcs
      obtain ⟨rfl, rfl, rfl⟩ := hcs
      exact ⟨[], .inl ⟨rfl, rfl, rfl, rfl⟩⟩
    · simp [Value.cells] at hcs
      obtain ⟨rfl, rfl, rfl⟩ := hcs
      exact ⟨zs, .inr ⟨_, rfl, hl, hm, by simpa using hz, hcell, hwz⟩⟩
  clear hA0 hval0
  refine (walk a0 len0 cap0 z0 W w0).mono fun e W' ⟨he, bel⟩ => ?_
  subst he
  exact ⟨_, rfl, _, _, _, [], _, [], hW', trodAll_mk1 (shut_bool Tryz.underlying4 _), (trodAll_cons_mk (Below.trod laidOut (by kernel_rfl) (of_decide_eq_true (by kernel_rfl)) k0 bel lt0) trodAll_mk0), rfl, bel.frame _, fun h => by cases h⟩
theorem over : Rows.fnOpenManyRow.holds Tryz.pinned (OpenSpec.ofChange Rows.fnOpenManySpec) :=
  OpenClaim.holds_of_wide 4 Tryz.f4 rfl rfl rfl rfl rfl rfl rfl ⟨rfl, rfl, rfl, rfl, rfl⟩ rfl rfl rfl rfl rfl (by kernel_rfl) Tryz.func4 (by kernel_rfl)
    (of_decide_eq_true (by kernel_rfl)) (by unfold Func.isWrapper; first | (rw [if_pos (by decide +kernel)]; kernel_rfl) | (rw [if_neg (by decide +kernel)]; exact ⟨rfl, rfl⟩))
    (fun os started H enc _ => lifted os started H enc)
theorem proved : Rows.FnOpenManySaid := over
#print axioms proved
end Go.Proofs.YtoocibabceeagabGreat.fnOpenMany
