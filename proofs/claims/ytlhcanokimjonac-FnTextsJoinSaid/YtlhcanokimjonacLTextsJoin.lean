/- For every two codes of at most 1<<20 bytes each (longer ones are let pass by the law itself): the encoding of two lists, one behind the other, is what the model writes, and consists of their number and of the encodings of both lists without their numbers. -/
import Derived.Test.YtlhcanokimjonacRows
import Derived.Test.YtlhcanokimjonacDt
import Derived.Test.YtlhcanokimjonacTe
import Derived.WalkKit
import Derived.WalkSpells
import Derived.ProofKit
import Derived.OpenShut
import Derived.ShutString
import Derived.Below
import Derived.SliceStrings
namespace Go.Proofs.Ytlhcanokimjonac.fnTextsJoin
open Go.ChangeShapes Go.WideShapes Go.ChangeAt Go.RowKit
open Go.ChangeMaps (open_string shut_string)
set_option maxRecDepth 100000 in
set_option maxHeartbeats 1000000 in
theorem walk (a0 : Option Addr) (len0 cap0 : Nat) (z0 : List Int) (a1 : Option Addr) (len1 cap1 : Nat) (z1 : List Int) (w : World) (w0 : IsRow .u8 w a0 len0 cap0 z0) (w1 : IsRow .u8 w a1 len1 cap1 z1) :
    Calls Try.prog 5 #[.slice a0 len0 cap0, .slice a1 len1 cap1] w fun e w' => e = .returned (.bool true) ∧ Below w.heap.size w w' := by
  have hcm := w0.len
  have hcm1 := w1.len
  by_cases h : (1048576 : Int) < (len0 : Int)
  · go_enter Try.func5, Try.ntmps5
    go_wp2
    go_ret
    exact ⟨rfl, Below.refl _ _⟩
  by_cases h' : (1048576 : Int) < (len1 : Int)
  · go_enter Try.func5, Try.ntmps5
    go_wp2
    go_ret
    exact ⟨rfl, Below.refl _ _⟩
  obtain ⟨i0, hi, hz0, hz1, hz2⟩ := info_parts info_str
  go_enter Try.func5, Try.ntmps5
  go_wp2_with fail
  refine (drawEncodeTexts_any a0 len0 cap0 z0 _ w0 (by omega)).mono ?_
  rintro e v1 ⟨sa, ga, ca, rfl, hma, hza, hb1, howna⟩
  have HW1 := Lib.hid (w1.below hb1)
  clear w0 w1
  go_wp2_with fail
  refine (drawEncodeTexts_any a1 len1 cap1 z1 _ HW1.out (by omega)).mono ?_
  rintro e v2 ⟨sb, gb, cb, rfl, hmb, hzb, hb2, hownb⟩
  have hsa := (SR.own howna).2.below hb2
  have hsb := (SR.own hownb).2
  have hbA := hb1.trans (hb2.mono hb1.size)
  clear HW1 howna hownb hb1 hb2
  have HSA := Lib.hid hsa
  have HSB := Lib.hid hsb
  have HZA := Lib.hid hza
  have HZB := Lib.hid hzb
  clear hsa hsb hza hzb
  have hst : ∀ ss : List ByteArray, ∀ u ∈ ss.map Value.string, u.oneCell' = true := by
    intro ss u hu
    obtain ⟨t, _, rfl⟩ := List.mem_map.1 hu
    rfl
  have HST := Lib.hid hst
  clear hst
  go_wp2_with (at_builtin; refine wpList_append_own _ rfl _ _ 22 rfl v2.heap.size 9 i0 (.string ByteArray.empty) 1 16 Try.underlying22 hi hz0 hz1 hz2 rfl (by decide) (.slice (some ⟨v2.heap.size, 0, none⟩) 0 0) 0 [] rfl (World.ownsRow_made (e := 9) (size := 1) v2 #[] 0 (Nat.le_refl _) (by decide) rfl) ⟨ga, 0, none⟩ sa.length ca (sa.map Value.string) rfl (by simp) (HSA.out.alloc _).news (HST.out sa) ?c3 ?c4 ?c5 ?_)
  case c3 => unfold maxLen; omega
  case c4 => omega
  case c5 => simp
  intro x3 v3 hown3 hgrow3 _
  have hG3 : v2.grownBy v3 none := gtrans_own (World.grownBy_alloc _ _ _) hgrow3 (fun j he => by cases he; exact Nat.le_refl _)
  have HSB3 := Lib.hid (HSB.out.grown hG3 (fun _ _ _ _ => by simp))
  clear hgrow3
  go_wp2_with (at_builtin; refine wpList_append_own _ rfl _ _ 22 rfl v2.heap.size 9 i0 (.string ByteArray.empty) 1 16 Try.underlying22 hi hz0 hz1 hz2 rfl (by decide) x3 sa.length (sa.map Value.string) rfl hown3 ⟨gb, 0, none⟩ sb.length cb (sb.map Value.string) rfl (by simp) HSB3.out.news (HST.out sb) ?c3 ?c4 ?c5 ?_)
  case c3 => unfold maxLen; omega
  case c4 => omega
  case c5 => exact hG3.size
  intro x4 v4 hown4 hgrow4 _
  have hG4 : v2.grownBy v4 none := gtrans_own hG3 hgrow4 (fun j he => (hown3.lt _ he).1)
  have HSA4 := Lib.hid (HSA.out.grown hG4 (fun _ _ _ _ => by simp))
  have HSB4 := Lib.hid (HSB.out.grown hG4 (fun _ _ _ _ => by simp))
  obtain ⟨sc, HSC⟩ : ∃ sc, Hid (sa ++ sb = sc) := ⟨_, Lib.hid rfl⟩
  have hlen : sc.length = sa.length + sb.length := by rw [← HSC.out]; exact List.length_append
  obtain ⟨ax, cx, rfl⟩ : ∃ a cp, x4 = .slice a sc.length cp := by
    rw [hlen]
    rcases hown4.2 with ⟨h, h0⟩ | ⟨g, cap, cur, h, _⟩
    · exact ⟨none, 0, by rw [h, h0]⟩
    · exact ⟨_, _, h⟩
  have hown5 : v4.ownsRow v2.heap.size 9 1 (.slice ax sc.length cx) sc.length (sc.map Value.string) := by
    rw [hlen, ← HSC.out, List.map_append]
    rw [hlen] at hown4
    exact hown4
  have HSL4 := Lib.hid (SR.own hown5).2
  have hbB := Below.grown hbA hG4 hbA.size (fun j hj => by cases hj)
  have HF : Hid (En.fit sc 40) := Lib.hid ⟨fun s hs => by
    rw [← HSC.out] at hs
    rcases List.mem_append.1 hs with h | h
    · have := HZA.out s h; omega
    · have := HZB.out s h; omega, by omega⟩
  have HFA : Hid (En.fit sa 40) := Lib.hid ⟨fun s hs => by have := HZA.out s hs; omega, by omega⟩
  have HFB : Hid (En.fit sb 40) := Lib.hid ⟨fun s hs => by have := HZB.out s hs; omega, by omega⟩
  have hyes : ∀ (a : Option Addr) (cp : Nat) (ss : List ByteArray) (W : World), SR W a ss.length ss → En.fit ss 40 → Calls Try.prog 13 #[.slice a ss.length cp] W fun e w' => e = .returned (.tuple #[.string (En.texts ss), .bool true]) ∧ Below W.heap.size W w' := by
    intro a cp ss W hs hf
    refine (implEncodeTexts_any a ss.length cp ss W hs (by have := hf.2; omega)).mono ?_
    rintro e w5 ⟨hor, hb5⟩
    rcases hor with ⟨_, h⟩ | ⟨h, _⟩
    · exact ⟨h, hb5⟩
    · exact absurd hf h
  have HY := Lib.hid hyes
  clear hyes hown3 hown4 hown5 hgrow4 hG3 hG4 HSB3 HSA HSB hbA HST
  have h12 : sc.length ≤ 12 := by omega
  have HL := Lib.hid hlen
  clear hlen
  obtain ⟨X, HX⟩ : ∃ X, Hid (En.texts sc = X) := ⟨_, Lib.hid rfl⟩
  obtain ⟨S, HS⟩ : ∃ X, Hid (En.texts sa = X) := ⟨_, Lib.hid rfl⟩
  obtain ⟨T, HT⟩ : ∃ X, Hid (En.texts sb = X) := ⟨_, Lib.hid rfl⟩
  go_wp2_with fail
  refine (HY.out ax cx sc _ HSL4.out HF.out).mono ?_
  rw [HX.out]
  rintro e v5 ⟨rfl, hb5⟩
  have HSL5 := Lib.hid (HSL4.out.below hb5)
  have HSA5 := Lib.hid (HSA4.out.below hb5)
  have HSB5 := Lib.hid (HSB4.out.below hb5)
  have hbC := hbB.trans (hb5.mono hbB.size)
  clear hb5 hbB
  go_wp2_with fail
  refine (specEncodeTexts_ok ax _ cx sc _ HSL5.out HF.out).mono ?_
  rw [HX.out]
  rintro e v6 ⟨rfl, hb6⟩
  have HSA6 := Lib.hid (HSA5.out.below hb6)
  have HSB6 := Lib.hid (HSB5.out.below hb6)
  have hbD := hbC.trans (hb6.mono hbC.size)
  clear hb6 hbC
  go_wp2_with fail
  refine (HY.out _ ca sa _ HSA6.out HFA.out).mono ?_
  rw [HS.out]
  rintro e v7 ⟨rfl, hb7⟩
  have HSB7 := Lib.hid (HSB6.out.below hb7)
  have hbE := hbD.trans (hb7.mono hbD.size)
  clear hb7 hbD
  go_wp2_with fail
  refine (HY.out _ cb sb _ HSB7.out HFB.out).mono ?_
  rw [HT.out]
  rintro e v8 ⟨rfl, hb8⟩
  have hbF := hbE.trans (hb8.mono hbE.size)
  clear hb8 hbE
  obtain ⟨N, HN⟩ : ∃ X, Hid (En.num sc.length = X) := ⟨_, Lib.hid rfl⟩
  obtain ⟨CA, HCA⟩ : ∃ X, Hid (En.cat sa = X) := ⟨_, Lib.hid rfl⟩
  obtain ⟨CB, HCB⟩ : ∃ X, Hid (En.cat sb = X) := ⟨_, Lib.hid rfl⟩
  have HDA : Hid (En.decA S = .tuple #[.int .i64 sa.length, .string CA, .bool true]) := Lib.hid (by
    rw [← HS.out, ← HCA.out]
    exact En.decA_some (En.dec_num _ _ (by omega) (by omega)))
  have HDB : Hid (En.decA T = .tuple #[.int .i64 sb.length, .string CB, .bool true]) := Lib.hid (by
    rw [← HT.out, ← HCB.out]
    exact En.decA_some (En.dec_num _ _ (by omega) (by omega)))
  have zN : N.size ≤ 5 := by rw [← HN.out]; exact En.size_num _
  have zA : CA.size ≤ 30000 := by
    have := En.cat_size sa HFA.out.1
    rw [← HCA.out]; omega
  have zB : CB.size ≤ 30000 := by
    have := En.cat_size sb HFB.out.1
    rw [← HCB.out]; omega
  have hadd1 : ∀ W, (Op.stringOp .add N CA).run Try.prog W = .ok (.string (N ++ CA)) W := fun W => run_string_add_sum (P := Try.prog) W _ _ (by omega)
  have hadd2 : ∀ W, (Op.stringOp .add (N ++ CA) CB).run Try.prog W = .ok (.string X) W := fun W => by
    have h := run_string_add_sum (P := Try.prog) W (N ++ CA) CB (by rw [ByteArray.size_append]; omega)
    rw [h]
    have hX : X = N ++ CA ++ CB := by
      rw [← HX.out, ← HN.out, ← HCA.out, ← HCB.out, ByteArray.append_assoc, ← En.cat_append, HSC.out]
      rfl
    rw [hX]
  clear zN zA zB HX HS HT HCA HCB HSC HSL4 HSA4 HSB4 HSL5 HSA5 HSB5 HSA6 HSB6 HSB7 HF HFA HFB HZA HZB HY
  go_wp2_with fail
  refine (implEncodeNum_ok sc.length _ (by omega) (by omega)).mono ?_
  rw [HN.out]
  rintro e v9 ⟨rfl, hb9⟩
  have hbG := hbF.trans (hb9.mono hbF.size)
  clear hb9 hbF
  go_wp2_with fail
  refine (implDecodeNum_any S _).mono ?_
  rw [HDA.out]
  rintro e v10 ⟨rfl, hb10⟩
  have hbH := hbG.trans (hb10.mono hbG.size)
  clear hb10 hbG
  go_wp2_with fail
  refine (implDecodeNum_any T _).mono ?_
  rw [HDB.out]
  rintro e v11 ⟨rfl, hb11⟩
  have hbI := hbH.trans (hb11.mono hbH.size)
  clear hb11 hbH
  go_wp2
  go_ret
  exact ⟨rfl, hbI⟩
/-! ### The row's step. -/
theorem own : ownKnob Try.prog.godebug = none := by kernel_rfl
theorem laidOut : laidOutB Try.prog = true := by kernel_rfl
set_option maxRecDepth 100000 in
theorem lifted (os : Os) (started : os.Started) (H : Type) (enc : TypeId × Value → H) :
    ReturnsInHanded {} Try.checked os 5 .any (Rows.fnTextsJoinSpec.pre6 enc Try.prog Try.f5 Rows.fnTextsJoinRow.domain false) (Rows.fnTextsJoinSpec.post enc Try.prog Try.f5 false true false false) := by
  refine returnsInHanded_of_change (C := Try.checked) own started (by kernel_rfl) Try.func5
    (ChangeSpec.witness6 (enc := enc) (C := Try.checked) false ⟨#[], #[.slice none 0 0, .slice none 0 0], []⟩ 8 (by kernel_rfl) (by kernel_rfl) (by kernel_rfl) (by kernel_rfl)) ?_
  intro W base args ds gs before hval0 hW hcnd _
  have hval : ∀ (j : Nat) t v, Try.f5.params[j]? = some t → args[j]? = some v → Value.okWide Try.prog W .any base t v := hval0
  have hW' := hW
  obtain ⟨p, q, hA0, hV, rfl, hfz, hnd⟩ := hW
  have hA : DataW.TrodAll enc Try.prog W 0 (fun _ => true) true Try.f5.params.toList args.toList ds p := hA0
  rw [Try.params5] at hA hval
  obtain ⟨v0, vs0, d0, ds0, p0, q0, hargs, rfl, rfl, h0, r0⟩ := trodAll_cons hA
  obtain ⟨v1, vs1, d1, ds1, p1, q1, rfl, rfl, rfl, h1, r1⟩ := trodAll_cons r0
  obtain ⟨rfl, rfl, rfl⟩ := trodAll_nil r1
  obtain rfl : args = #[v0, v1] := by cases args; simp_all
  obtain ⟨rfl, rfl⟩ := trodVars_none hV
  obtain ⟨a0, len0, cap0, rfl⟩ := okWide_slice Try.underlying28 (hval 0 28 v0 rfl rfl)
  have k0 := h0
  have lt0 : ∀ x ∈ p0, x.block < W.heap.size := by obtain ⟨m, hm⟩ := k0; exact DataW.trod_lt m _ _ _ hm
  obtain ⟨z0, w0⟩ : ∃ zs, IsRow .u8 W a0 len0 cap0 zs := by
    obtain ⟨fuel, hf⟩ := h0
    rcases open_ints Try.underlying28 Try.underlying5 (by kernel_rfl) hf with ⟨hcs, _⟩ | ⟨x, l, c, zs, hcs, _, hl, hm, hz, _, hcell, hwz⟩
    · simp [Value.cells] at hcs
      obtain ⟨rfl, rfl, rfl⟩ := hcs
      exact ⟨[], .inl ⟨rfl, rfl, rfl, rfl⟩⟩
    · simp [Value.cells] at hcs
      obtain ⟨rfl, rfl, rfl⟩ := hcs
      exact ⟨zs, .inr ⟨_, rfl, hl, hm, by simpa using hz, hcell, hwz⟩⟩
  obtain ⟨a1, len1, cap1, rfl⟩ := okWide_slice Try.underlying28 (hval 1 28 v1 rfl rfl)
  have k1 := h1
  have lt1 : ∀ x ∈ p1, x.block < W.heap.size := by obtain ⟨m, hm⟩ := k1; exact DataW.trod_lt m _ _ _ hm
  obtain ⟨z1, w1⟩ : ∃ zs, IsRow .u8 W a1 len1 cap1 zs := by
    obtain ⟨fuel, hf⟩ := h1
    rcases open_ints Try.underlying28 Try.underlying5 (by kernel_rfl) hf with ⟨hcs, _⟩ | ⟨x, l, c, zs, hcs, _, hl, hm, hz, _, hcell, hwz⟩
    · simp [Value.cells] at hcs
      obtain ⟨rfl, rfl, rfl⟩ := hcs
      exact ⟨[], .inl ⟨rfl, rfl, rfl, rfl⟩⟩
    · simp [Value.cells] at hcs
      obtain ⟨rfl, rfl, rfl⟩ := hcs
      exact ⟨zs, .inr ⟨_, rfl, hl, hm, by simpa using hz, hcell, hwz⟩⟩
  clear hA0 hval0
  refine (walk a0 len0 cap0 z0 a1 len1 cap1 z1 W w0 w1).mono fun e W' ⟨he, bel⟩ => ?_
  subst he
  exact ⟨_, rfl, _, _, _, [], _, [], hW', trodAll_mk1 (shut_bool Try.underlying4 _), (trodAll_cons_mk (Below.trod laidOut (by kernel_rfl) (of_decide_eq_true (by kernel_rfl)) k0 bel lt0) (trodAll_cons_mk (Below.trod laidOut (by kernel_rfl) (of_decide_eq_true (by kernel_rfl)) k1 bel lt1) trodAll_mk0)), rfl, bel.frame _, fun h => by cases h⟩
theorem over : Rows.fnTextsJoinRow.holds Try.pinned (OpenSpec.ofChange Rows.fnTextsJoinSpec) :=
  OpenClaim.holds_of_wide 5 Try.f5 rfl rfl rfl rfl rfl rfl rfl ⟨rfl, rfl, rfl, rfl, rfl⟩ rfl rfl rfl rfl rfl (by kernel_rfl) Try.func5 (by kernel_rfl)
    (of_decide_eq_true (by kernel_rfl)) (by unfold Func.isWrapper; first | (rw [if_pos (by decide +kernel)]; kernel_rfl) | (rw [if_neg (by decide +kernel)]; exact ⟨rfl, rfl⟩))
    (fun os started H enc _ => lifted os started H enc)
theorem proved : Rows.FnTextsJoinSaid := over
#print axioms proved
end Go.Proofs.Ytlhcanokimjonac.fnTextsJoin
