/- For every two codes of at most 1<<20 bytes: no encoding of a number begins the encoding of another one, and EncodeNum encodes as the model does. -/
import Derived.Test.YtegdckdfllkmeabRows
import Derived.Test.YtegdckdfllkmeabNum
import Derived.Test.YtegdckdfllkmeabDr
import Derived.WalkKit
import Derived.WalkSpells
import Derived.ProofKit
import Derived.OpenShut
import Derived.ShutString
import Derived.Below
import Derived.SliceStrings
namespace Go.Proofs.Ytegdckdfllkmeab.fnPrefixFree
open Go.ChangeShapes Go.WideShapes Go.ChangeAt Go.RowKit
open Go.ChangeMaps (open_string shut_string)
/-- If an encoding begins with another one, the numbers are the same. -/
theorem prefix_eq (n m : Int) (h0 : 0 ≤ n) (h1 : n ≤ 4294967295) (g0 : 0 ≤ m) (g1 : m ≤ 4294967295) (h : (En.num m).extract 0 (En.num n).size = En.num n) : n = m := by
  have e : En.num n ++ (En.num m).extract (En.num n).size (En.num m).size = En.num m := by
    have e2 : (En.num m).extract 0 (En.num n).size ++ (En.num m).extract (En.num n).size (En.num m).size = En.num m := by
      rw [ByteArray.extract_append_extract]
      simp
    rw [h] at e2
    exact e2
  have d1 := En.dec_num n ((En.num m).extract (En.num n).size (En.num m).size) h0 h1
  have d2 := En.dec_num m ByteArray.empty g0 g1
  rw [e] at d1
  rw [ByteArray.append_empty] at d2
  rw [d2] at d1
  simp only [Option.some.injEq, Prod.mk.injEq] at d1
  exact d1.1.symm
set_option maxRecDepth 100000 in
set_option maxHeartbeats 16000000 in
theorem walk (a0 : Option Addr) (len0 cap0 : Nat) (z0 : List Int) (a1 : Option Addr) (len1 cap1 : Nat) (z1 : List Int) (w : World) (w0 : IsRow .u8 w a0 len0 cap0 z0) (w1 : IsRow .u8 w a1 len1 cap1 z1) :
    Calls Try.prog 7 #[.slice a0 len0 cap0, .slice a1 len1 cap1] w fun e w' => e = .returned (.bool true) ∧ Below w.heap.size w w' := by
  have hl0 := w0.len
  have hl1 := w1.len
  by_cases h : (1048576 : Int) < (len0 : Int)
  · go_enter Try.func7, Try.ntmps7
    go_wp2
    go_ret
    exact ⟨rfl, Below.refl _ _⟩
  by_cases g : (1048576 : Int) < (len1 : Int)
  · go_enter Try.func7, Try.ntmps7
    go_wp2
    go_ret
    exact ⟨rfl, Below.refl _ _⟩
  go_enter Try.func7, Try.ntmps7
  go_wp2_with fail
  refine (drawEncodeNum_any a0 len0 cap0 z0 _ w0 (by omega)).mono ?_
  rintro e u1 ⟨n, rfl, n0, n1, hb1⟩
  have w1' := w1.below hb1
  go_wp2_with fail
  refine (drawEncodeNum_any a1 len1 cap1 z1 _ w1' (by omega)).mono ?_
  rintro e u2 ⟨m, rfl, m0, m1, hc2⟩
  have hb2 := hb1.trans (hc2.mono hb1.size)
  clear hc2 w1' w1 w0 hb1
  by_cases hn : 0 ≤ n ∧ n ≤ 4294967295
  · obtain ⟨h0n, h1n⟩ := hn
    by_cases hm : 0 ≤ m ∧ m ≤ 4294967295
    · obtain ⟨h0m, h1m⟩ := hm
      by_cases heq : n = m
      · subst heq
        have hq : (n == n) = true := by simp
        go_wp2_with fail
        refine (implEncodeNum_ok n _ h0n h1n).mono ?_
        rintro e u3 ⟨rfl, hc3⟩
        have hb3 := hb2.trans (hc3.mono hb2.size)
        clear hc3 hb2
        go_wp2_with fail
        refine (implEncodeNum_ok n _ h0n h1n).mono ?_
        rintro e u4 ⟨rfl, hc4⟩
        have hb4 := hb3.trans (hc4.mono hb3.size)
        clear hc4 hb3
        go_wp2_with fail
        refine (specEncodeNum_ok n _ h0n h1n).mono ?_
        rintro e u5 ⟨rfl, hc5⟩
        have hb5 := hb4.trans (hc5.mono hb4.size)
        clear hc5 hb4
        go_wp2_with fail
        refine (specEncodeNum_ok n _ h0n h1n).mono ?_
        rintro e u6 ⟨rfl, hc6⟩
        have hb6 := hb5.trans (hc6.mono hb5.size)
        clear hc6 hb5
        go_wp2
        go_ret
        exact ⟨rfl, hb6⟩
      have hq : (n == m) = false := by simpa using heq
      by_cases hlt : ((En.num m).size : Int) < ((En.num n).size : Int)
      · clear heq
        go_wp2_with fail
        refine (implEncodeNum_ok n _ h0n h1n).mono ?_
        rintro e u3 ⟨rfl, hc3⟩
        have hb3 := hb2.trans (hc3.mono hb2.size)
        clear hc3 hb2
        go_wp2_with fail
        refine (implEncodeNum_ok m _ h0m h1m).mono ?_
        rintro e u4 ⟨rfl, hc4⟩
        have hb4 := hb3.trans (hc4.mono hb3.size)
        clear hc4 hb3
        go_wp2_with fail
        refine (specEncodeNum_ok n _ h0n h1n).mono ?_
        rintro e u5 ⟨rfl, hc5⟩
        have hb5 := hb4.trans (hc5.mono hb4.size)
        clear hc5 hb4
        go_wp2_with fail
        refine (specEncodeNum_ok m _ h0m h1m).mono ?_
        rintro e u6 ⟨rfl, hc6⟩
        have hb6 := hb5.trans (hc6.mono hb5.size)
        clear hc6 hb5
        go_wp2
        go_ret
        exact ⟨rfl, hb6⟩
      · have hd : (((En.num m).extract 0 (En.num n).size).toList == (En.num n).toList) = false := by
          rw [beq_eq_false_iff_ne]
          intro e
          rw [ByteArray.toList_eq, ByteArray.toList_eq] at e
          exact heq (prefix_eq n m h0n h1n h0m h1m (ByteArray.ext (Array.toList_inj.1 e)))
        clear heq
        go_wp2_with fail
        refine (implEncodeNum_ok n _ h0n h1n).mono ?_
        rintro e u3 ⟨rfl, hc3⟩
        have hb3 := hb2.trans (hc3.mono hb2.size)
        clear hc3 hb2
        go_wp2_with fail
        refine (implEncodeNum_ok m _ h0m h1m).mono ?_
        rintro e u4 ⟨rfl, hc4⟩
        have hb4 := hb3.trans (hc4.mono hb3.size)
        clear hc4 hb3
        go_wp2_with fail
        refine (specEncodeNum_ok n _ h0n h1n).mono ?_
        rintro e u5 ⟨rfl, hc5⟩
        have hb5 := hb4.trans (hc5.mono hb4.size)
        clear hc5 hb4
        go_wp2_with fail
        refine (specEncodeNum_ok m _ h0m h1m).mono ?_
        rintro e u6 ⟨rfl, hc6⟩
        have hb6 := hb5.trans (hc6.mono hb5.size)
        clear hc6 hb5
        go_wp2
        go_ret
        exact ⟨rfl, hb6⟩
    · replace hm : m < 0 ∨ 4294967295 < m := by omega
      go_wp2_with fail
      refine (implEncodeNum_ok n _ h0n h1n).mono ?_
      rintro e u3 ⟨rfl, hc3⟩
      have hb3 := hb2.trans (hc3.mono hb2.size)
      clear hc3 hb2
      go_wp2_with fail
      refine (implEncodeNum_no m _ hm).mono ?_
      rintro e u4 ⟨rfl, hc4⟩
      have hb4 := hb3.trans (hc4.mono hb3.size)
      clear hc4 hb3
      go_wp2_with fail
      refine (specEncodeNum_ok n _ h0n h1n).mono ?_
      rintro e u5 ⟨rfl, hc5⟩
      have hb5 := hb4.trans (hc5.mono hb4.size)
      clear hc5 hb4
      go_wp2_with fail
      refine (specEncodeNum_no m _ hm).mono ?_
      rintro e u6 ⟨rfl, hc6⟩
      have hb6 := hb5.trans (hc6.mono hb5.size)
      clear hc6 hb5
      go_wp2
      go_ret
      exact ⟨rfl, hb6⟩
  · replace hn : n < 0 ∨ 4294967295 < n := by omega
    by_cases hm : 0 ≤ m ∧ m ≤ 4294967295
    · obtain ⟨h0m, h1m⟩ := hm
      go_wp2_with fail
      refine (implEncodeNum_no n _ hn).mono ?_
      rintro e u3 ⟨rfl, hc3⟩
      have hb3 := hb2.trans (hc3.mono hb2.size)
      clear hc3 hb2
      go_wp2_with fail
      refine (implEncodeNum_ok m _ h0m h1m).mono ?_
      rintro e u4 ⟨rfl, hc4⟩
      have hb4 := hb3.trans (hc4.mono hb3.size)
      clear hc4 hb3
      go_wp2_with fail
      refine (specEncodeNum_no n _ hn).mono ?_
      rintro e u5 ⟨rfl, hc5⟩
      have hb5 := hb4.trans (hc5.mono hb4.size)
      clear hc5 hb4
      go_wp2_with fail
      refine (specEncodeNum_ok m _ h0m h1m).mono ?_
      rintro e u6 ⟨rfl, hc6⟩
      have hb6 := hb5.trans (hc6.mono hb5.size)
      clear hc6 hb5
      go_wp2
      go_ret
      exact ⟨rfl, hb6⟩
    · replace hm : m < 0 ∨ 4294967295 < m := by omega
      go_wp2_with fail
      refine (implEncodeNum_no n _ hn).mono ?_
      rintro e u3 ⟨rfl, hc3⟩
      have hb3 := hb2.trans (hc3.mono hb2.size)
      clear hc3 hb2
      go_wp2_with fail
      refine (implEncodeNum_no m _ hm).mono ?_
      rintro e u4 ⟨rfl, hc4⟩
      have hb4 := hb3.trans (hc4.mono hb3.size)
      clear hc4 hb3
      go_wp2_with fail
      refine (specEncodeNum_no n _ hn).mono ?_
      rintro e u5 ⟨rfl, hc5⟩
      have hb5 := hb4.trans (hc5.mono hb4.size)
      clear hc5 hb4
      go_wp2_with fail
      refine (specEncodeNum_no m _ hm).mono ?_
      rintro e u6 ⟨rfl, hc6⟩
      have hb6 := hb5.trans (hc6.mono hb5.size)
      clear hc6 hb5
      go_wp2
      go_ret
      exact ⟨rfl, hb6⟩
/-! ### The row's step. -/
theorem own : ownKnob Try.prog.godebug = none := by kernel_rfl
theorem laidOut : laidOutB Try.prog = true := by kernel_rfl
set_option maxRecDepth 100000 in
theorem lifted (os : Os) (started : os.Started) (H : Type) (enc : TypeId × Value → H) :
    ReturnsInHanded {} Try.checked os 7 .any (Rows.fnPrefixFreeSpec.pre6 enc Try.prog Try.f7 Rows.fnPrefixFreeRow.domain false) (Rows.fnPrefixFreeSpec.post enc Try.prog Try.f7 false true false false) := by
  refine returnsInHanded_of_change (C := Try.checked) own started (by kernel_rfl) Try.func7
    (ChangeSpec.witness6 (enc := enc) (C := Try.checked) false ⟨#[], #[.slice none 0 0, .slice none 0 0], []⟩ 8 (by kernel_rfl) (by kernel_rfl) (by kernel_rfl) (by kernel_rfl)) ?_
  intro W base args ds gs before hval0 hW hcnd _
  have hval : ∀ (j : Nat) t v, Try.f7.params[j]? = some t → args[j]? = some v → Value.okWide Try.prog W .any base t v := hval0
  have hW' := hW
  obtain ⟨p, q, hA0, hV, rfl, hfz, hnd⟩ := hW
  have hA : DataW.TrodAll enc Try.prog W 0 (fun _ => true) true Try.f7.params.toList args.toList ds p := hA0
  rw [Try.params7] at hA hval
  obtain ⟨v0, vs0, d0, ds0, p0, q0, hargs, rfl, rfl, h0, r0⟩ := trodAll_cons hA
  obtain ⟨v1, vs1, d1, ds1, p1, q1, rfl, rfl, rfl, h1, r1⟩ := trodAll_cons r0
  obtain ⟨rfl, rfl, rfl⟩ := trodAll_nil r1
  obtain rfl : args = #[v0, v1] := by cases args; simp_all
  obtain ⟨rfl, rfl⟩ := trodVars_none hV
  obtain ⟨a0, len0, cap0, rfl⟩ := okWide_slice Try.underlying26 (hval 0 26 v0 rfl rfl)
  have k0 := h0
  have lt0 : ∀ x ∈ p0, x.block < W.heap.size := by obtain ⟨m, hm⟩ := k0; exact DataW.trod_lt m _ _ _ hm
  obtain ⟨z0, w0⟩ : ∃ zs, IsRow .u8 W a0 len0 cap0 zs := by
    obtain ⟨fuel, hf⟩ := h0
    rcases open_ints Try.underlying26 Try.underlying5 (by kernel_rfl) hf with ⟨hcs, _⟩ | ⟨x, l, c, zs, hcs, _, hl, hm, hz, _, hcell, hwz⟩
    · simp [Value.cells] at hcs
      obtain ⟨rfl, rfl, rfl⟩ := hcs
      exact ⟨[], .inl ⟨rfl, rfl, rfl, rfl⟩⟩
    · simp [Value.cells] at hcs
      obtain ⟨rfl, rfl, rfl⟩ := hcs
      exact ⟨zs, .inr ⟨_, rfl, hl, hm, by simpa using hz, hcell, hwz⟩⟩
  obtain ⟨a1, len1, cap1, rfl⟩ := okWide_slice Try.underlying26 (hval 1 26 v1 rfl rfl)
  have k1 := h1
  have lt1 : ∀ x ∈ p1, x.block < W.heap.size := by obtain ⟨m, hm⟩ := k1; exact DataW.trod_lt m _ _ _ hm
  obtain ⟨z1, w1⟩ : ∃ zs, IsRow .u8 W a1 len1 cap1 zs := by
    obtain ⟨fuel, hf⟩ := h1
    rcases open_ints Try.underlying26 Try.underlying5 (by kernel_rfl) hf with ⟨hcs, _⟩ | ⟨x, l, c, zs, hcs, _, hl, hm, hz, _, hcell, hwz⟩
    · simp [Value.cells] at hcs
      obtain ⟨rfl, rfl, rfl⟩ := hcs
      exact ⟨[], .inl ⟨rfl, rfl, rfl, rfl⟩⟩
    · simp [Value.cells] at hcs
      obtain ⟨rfl, rfl, rfl⟩ := hcs
      exact ⟨zs, .inr ⟨_, rfl, hl, hm, by simpa using hz, hcell, hwz⟩⟩
  clear hA0 hval0
  refine (walk a0 len0 cap0 z0 a1 len1 cap1 z1 W w0 w1).mono fun e W' ⟨he, bel⟩ => ?_
  subst he
  exact ⟨_, rfl, _, _, _, [], _, [], hW', trodAll_mk1 (shut_bool Try.underlying4 _), (trodAll_cons_mk (Below.trod laidOut (by kernel_rfl) (of_decide_eq_true (by kernel_rfl)) k0 bel lt0) (trodAll_cons_mk (Below.trod laidOut (by kernel_rfl) (of_decide_eq_true (by kernel_rfl)) k1 bel lt1) trodAll_mk0)), rfl, bel.frame _, fun h => by cases h⟩
theorem over : Rows.fnPrefixFreeRow.holds Try.pinned (OpenSpec.ofChange Rows.fnPrefixFreeSpec) :=
  OpenClaim.holds_of_wide 7 Try.f7 rfl rfl rfl rfl rfl rfl rfl ⟨rfl, rfl, rfl, rfl, rfl⟩ rfl rfl rfl rfl rfl (by kernel_rfl) Try.func7 (by kernel_rfl)
    (of_decide_eq_true (by kernel_rfl)) (by unfold Func.isWrapper; first | (rw [if_pos (by decide +kernel)]; kernel_rfl) | (rw [if_neg (by decide +kernel)]; exact ⟨rfl, rfl⟩))
    (fun os started H enc _ => lifted os started H enc)
theorem proved : Rows.FnPrefixFreeSaid := over
#print axioms proved
end Go.Proofs.Ytegdckdfllkmeab.fnPrefixFree
