/- For every code of at most 1<<20 bytes (longer ones are let pass by the law itself): SignText answers as the model's SignText; the message does not change with the input's witness. -/
import Derived.Test.YtcbpdibkindnfaaRows
import Derived.Test.YtcbpdibkindnfaaVe
import Derived.Test.YtcbpdibkindnfaaVd
import Derived.WalkKit
import Derived.WalkSpells
import Derived.ProofKit
import Derived.OpenShut
import Derived.ShutString
import Derived.Below
import Derived.SliceStrings
namespace Go.Proofs.Ytcbpdibkindnfaa.fnSignText
open Go.ChangeShapes Go.WideShapes Go.ChangeAt Go.RowKit
open Go.ChangeMaps (open_string shut_string)
set_option maxRecDepth 100000 in
set_option maxHeartbeats 6400000 in
theorem walk (a0 : Option Addr) (len0 cap0 : Nat) (z0 : List Int) (w : World) (w0 : IsRow .u8 w a0 len0 cap0 z0) :
    Calls Try.prog 6 #[.slice a0 len0 cap0] w fun e w' => e = .returned (.bool true) ∧ Below w.heap.size w w' := by
  have hcm := w0.len
  by_cases h : (1048576 : Int) < (len0 : Int)
  · go_enter Try.func6, Try.ntmps6
    go_wp2
    go_ret
    exact ⟨rfl, Below.refl _ _⟩
  go_enter Try.func6, Try.ntmps6
  go_wp2_with fail
  refine (drawSignText_any a0 len0 cap0 z0 _ w0 (by omega)).mono ?_
  rintro e w1 ⟨a, n, c, b, m, d, t, i, k, s, rfl, HT, HC, HS, HZ, hb1⟩
  clear w0 h hcm
  obtain ⟨ok, hok⟩ : ∃ x, Tr.signOk t i k s = x := ⟨_, rfl⟩
  obtain ⟨Y, hY⟩ : ∃ x, (if Tr.signOk t i k s = true then Tr.sign t i k s else ⟨#[]⟩) = x := ⟨_, rfl⟩
  have H1 := Lib.hid (fun W h => implSignText_any w.heap.size a n c b m d t i k s W h HC.out HS.out HZ.out)
  have H2 := Lib.hid (fun W h => SignText_any w.heap.size a n c b m d t i k s W h HS.out HZ.out)
  simp only [hY] at H1 H2
  simp only [hok] at H1 H2
  have HW := Lib.hid (fun W g h hg => implWithOne w.heap.size a n c b m d t i g W h HC.out HS.out hg)
  obtain ⟨U, hU⟩ : ∃ x, Tr.getO (t.withOk i [Tr.oth]) = x := ⟨_, rfl⟩
  obtain ⟨IS, hIS⟩ : ∃ x, (t.withOk i [Tr.oth]).isSome = x := ⟨_, rfl⟩
  obtain ⟨UY, hUY⟩ : ∃ x, (if Tr.signOk U i k s = true then Tr.sign U i k s else ⟨#[]⟩) = x := ⟨_, rfl⟩
  obtain ⟨UK, hUK⟩ : ∃ x, Tr.signOk U i k s = x := ⟨_, rfl⟩
  have hfin0 : ok = true → IS = true → UK = true ∧ UY = Y := by
    intro q1 q2
    subst hok hIS
    obtain ⟨r1, r2, r3, r4, _, r5, _⟩ := Tr.with_core q2
    rw [hU] at r1 r2 r3 r4
    have hsU : Tr.signOk U i k s = true := by
      unfold Tr.signOk at q1 ⊢
      rw [r1, r4]
      simp only [Bool.and_eq_true] at q1 ⊢
      exact ⟨by first | rfl | trivial, q1.2⟩
    rw [← hUK, ← hUY, ← hY, hsU, q1, if_pos rfl, if_pos rfl, r3]
    exact ⟨rfl, rfl⟩
  have HFIN := Lib.hid hfin0
  clear hfin0
  have hUS : U.small := by
    rw [← hU]
    exact (Tr.getO_fitV (Tr.with_okV t i _)).small
  have H4 := Lib.hid (fun lo a n c b m d W (h : TrR lo W a n b m U) hc => implSignText_any lo a n c b m d U i k s W h hc hUS HZ.out)
  simp only [hUY] at H4
  simp only [hUK] at H4
  unfold AnsW at HW
  simp only [hU, hIS] at HW
  clear hY hok HC HS HZ hU hIS hUY hUK hUS
  obtain ⟨AF, hAF⟩ : ∃ x, Hid (t.after = x) := ⟨_, Lib.hid rfl⟩
  obtain ⟨NT, hNT⟩ : ∃ x, Hid (t.note = x) := ⟨_, Lib.hid rfl⟩
  obtain ⟨AG, hAG⟩ : ∃ x, Hid (U.after = x) := ⟨_, Lib.hid rfl⟩
  obtain ⟨NU, hNU⟩ : ∃ x, Hid (U.note = x) := ⟨_, Lib.hid rfl⟩
  simp only [hAF.out, hNT.out] at H1 H2 HW
  simp only [hAG.out, hNU.out] at H4 HW
  rw [hAF.out, hNT.out]
  clear hAF hNT hAG hNU
  have hB1 := hb1.alloc hb1.size (.cells #[.slice a n c, .slice b m d, .int .i64 AF, .string NT] 26 (0, 0))
  have v1 : Bk w1.heap.size 26 #[.slice a n c, .slice b m d, .int .i64 AF, .string NT] (w1.alloc (.cells #[.slice a n c, .slice b m d, .int .i64 AF, .string NT] 26 (0, 0))) := Bk.new _ _ _
  have HT1 := Lib.hid (HT.out.alloc (.cells #[.slice a n c, .slice b m d, .int .i64 AF, .string NT] 26 (0, 0)))
  have hcs := H1.out _ HT1.out
  obtain ⟨c0, c1, c2, c3⟩ := Bk.c4 v1
  clear HT hb1
  go_wp2_with fail
  refine hcs.mono ?_
  rintro e w2 ⟨rfl, hx⟩
  have hB2 := hB1.trans (hx.mono hB1.size)
  have v2 := v1.below hx
  have HT2 := Lib.hid (HT1.out.below hx)
  have hcs := H2.out _ HT2.out
  clear c0 c1 c2 c3 hx hB1 v1 HT1
  obtain ⟨c0, c1, c2, c3⟩ := Bk.c4 v2
  go_wp2_with fail
  refine hcs.mono ?_
  rintro e w3 ⟨rfl, hx⟩
  have hB3 := hB2.trans (hx.mono hB2.size)
  have v3 := v2.below hx
  have HT3 := Lib.hid (HT2.out.below hx)
  clear c0 c1 c2 c3 hx hB2 v2 HT2 hcs
  obtain ⟨c0, c1, c2, c3⟩ := Bk.c4 v3
  have hYY : (Y.toList == Y.toList) = true := by simp
  cases ok
  · have hd0 : Hid (0 = 0) := Lib.hid rfl
    go_wp2
    go_ret
    exact ⟨rfl, hB3⟩
  have hB3a := hB3.alloc hB3.size (.cells #[.string Tr.oth] 9 (0, 0))
  have v3a := v3.alloc (.cells #[.string Tr.oth] 9 (0, 0))
  have hcs := HW.out (w3.alloc (.cells #[.string Tr.oth] 9 (0, 0))) w3.heap.size (HT3.out.alloc _) (heap_alloc_new w3 _)
  clear HT3
  go_wp2_with fail
  refine hcs.mono ?_
  rintro e w4 ⟨a4, n4, c4, b4, m4, d4, rfl, HT4, HC4, hx⟩
  have hB4 := hB3a.trans (hx.mono hB3a.size)
  clear hx hcs c0 c1 c2 c3 v3 v3a hB3 hB3a
  have hB4a := hB4.alloc hB4.size (.cells #[.slice a4 n4 c4, .slice b4 m4 d4, .int .i64 AG, .string NU] 26 (0, 0))
  have v4 : Bk w4.heap.size 26 #[.slice a4 n4 c4, .slice b4 m4 d4, .int .i64 AG, .string NU] (w4.alloc (.cells #[.slice a4 n4 c4, .slice b4 m4 d4, .int .i64 AG, .string NU] 26 (0, 0))) := Bk.new _ _ _
  have hcs := H4.out _ a4 n4 c4 b4 m4 d4 _ (HT4.out.alloc (.cells #[.slice a4 n4 c4, .slice b4 m4 d4, .int .i64 AG, .string NU] 26 (0, 0))) HC4.out
  obtain ⟨c0, c1, c2, c3⟩ := Bk.c4 v4
  clear HT4 hB4
  go_wp2_with fail
  refine hcs.mono ?_
  rintro e w5 ⟨rfl, hx⟩
  have hB5 := hB4a.trans (hx.mono hB4a.size)
  clear hx hcs c0 c1 c2 c3 v4 hB4a
  cases IS
  · go_wp2
    go_ret
    exact ⟨rfl, hB5⟩
  · obtain ⟨rfl, rfl⟩ := HFIN.out (by first | trivial | rfl) (by first | trivial | rfl)
    go_wp2
    go_ret
    exact ⟨rfl, hB5⟩
/-! ### The row's step. -/
theorem own : ownKnob Try.prog.godebug = none := by kernel_rfl
theorem laidOut : laidOutB Try.prog = true := by kernel_rfl
set_option maxRecDepth 100000 in
theorem lifted (os : Os) (started : os.Started) (H : Type) (enc : TypeId × Value → H) :
    ReturnsInHanded {} Try.checked os 6 .any (Rows.fnSignTextSpec.pre6 enc Try.prog Try.f6 Rows.fnSignTextRow.domain false) (Rows.fnSignTextSpec.post enc Try.prog Try.f6 false true false false) := by
  refine returnsInHanded_of_change (C := Try.checked) own started (by kernel_rfl) Try.func6
    (ChangeSpec.witness6 (enc := enc) (C := Try.checked) false ⟨#[], #[.slice none 0 0], []⟩ 8 (by kernel_rfl) (by kernel_rfl) (by kernel_rfl) (by kernel_rfl)) ?_
  intro W base args ds gs before hval0 hW hcnd _
  have hval : ∀ (j : Nat) t v, Try.f6.params[j]? = some t → args[j]? = some v → Value.okWide Try.prog W .any base t v := hval0
  have hW' := hW
  obtain ⟨p, q, hA0, hV, rfl, hfz, hnd⟩ := hW
  have hA : DataW.TrodAll enc Try.prog W 0 (fun _ => true) true Try.f6.params.toList args.toList ds p := hA0
  rw [Try.params6] at hA hval
  obtain ⟨v0, vs0, d0, ds0, p0, q0, hargs, rfl, rfl, h0, r0⟩ := trodAll_cons hA
  obtain ⟨rfl, rfl, rfl⟩ := trodAll_nil r0
  obtain rfl : args = #[v0] := by cases args; simp_all
  obtain ⟨rfl, rfl⟩ := trodVars_none hV
  obtain ⟨a0, len0, cap0, rfl⟩ := okWide_slice Try.underlying22 (hval 0 22 v0 rfl rfl)
  have k0 := h0
  have lt0 : ∀ x ∈ p0, x.block < W.heap.size := by obtain ⟨m, hm⟩ := k0; exact DataW.trod_lt m _ _ _ hm
  obtain ⟨z0, w0⟩ : ∃ zs, IsRow .u8 W a0 len0 cap0 zs := by
    obtain ⟨fuel, hf⟩ := h0
    rcases open_ints Try.underlying22 Try.underlying5 (by kernel_rfl) hf with ⟨hcs, _⟩ | ⟨x, l, c, zs, hcs, _, hl, hm, hz, _, hcell, hwz⟩
    · simp [Value.cells] at hcs
      obtain ⟨rfl, rfl, rfl⟩ := hcs
      exact ⟨[], .inl ⟨rfl, rfl, rfl, rfl⟩⟩
    · simp [Value.cells] at hcs
      obtain ⟨rfl, rfl, rfl⟩ := hcs
      exact ⟨zs, .inr ⟨_, rfl, hl, hm, by simpa using hz, hcell, hwz⟩⟩
  clear hA0 hval0
  refine (walk a0 len0 cap0 z0 W w0).mono fun e W' ⟨he, bel⟩ => ?_
  subst he
  exact ⟨_, rfl, _, _, _, [], _, [], hW', trodAll_mk1 (shut_bool Try.underlying4 _), (trodAll_cons_mk (Below.trod laidOut (by kernel_rfl) (of_decide_eq_true (by kernel_rfl)) k0 bel lt0) trodAll_mk0), rfl, bel.frame _, fun h => by cases h⟩
theorem over : Rows.fnSignTextRow.holds Try.pinned (OpenSpec.ofChange Rows.fnSignTextSpec) :=
  OpenClaim.holds_of_wide 6 Try.f6 rfl rfl rfl rfl rfl rfl rfl ⟨rfl, rfl, rfl, rfl, rfl⟩ rfl rfl rfl rfl rfl (by kernel_rfl) Try.func6 (by kernel_rfl)
    (of_decide_eq_true (by kernel_rfl)) (by unfold Func.isWrapper; first | (rw [if_pos (by decide +kernel)]; kernel_rfl) | (rw [if_neg (by decide +kernel)]; exact ⟨rfl, rfl⟩))
    (fun os started H enc _ => lifted os started H enc)
theorem proved : Rows.FnSignTextSaid := over
#print axioms proved
end Go.Proofs.Ytcbpdibkindnfaa.fnSignText
