/- For every code of at most 1<<20 bytes (longer ones are let pass by the law itself): TxId answers as the model's TxId; the id of a valid transaction is the digest of its core. -/
import Derived.Test.YtedjbikphdflhaaRows
import Derived.Test.YtedjbikphdflhaaUz
import Derived.Test.YtedjbikphdflhaaTu
import Derived.WalkKit
import Derived.WalkSpells
import Derived.ProofKit
import Derived.OpenShut
import Derived.ShutString
import Derived.Below
import Derived.SliceStrings
namespace Go.Proofs.Ytedjbikphdflhaa.fnTxId
open Go.ChangeShapes Go.WideShapes Go.ChangeAt Go.RowKit
open Go.ChangeMaps (open_string shut_string)
set_option maxRecDepth 100000 in
set_option maxHeartbeats 3200000 in
theorem walk (a0 : Option Addr) (len0 cap0 : Nat) (z0 : List Int) (w : World) (w0 : IsRow .u8 w a0 len0 cap0 z0) :
    Calls Try.prog 5 #[.slice a0 len0 cap0] w fun e w' => e = .returned (.bool true) ∧ Below w.heap.size w w' := by
  have hcm := w0.len
  by_cases h : (1048576 : Int) < (len0 : Int)
  · go_enter Try.func5, Try.ntmps5
    go_wp2
    go_ret
    exact ⟨rfl, Below.refl _ _⟩
  go_enter Try.func5, Try.ntmps5
  go_wp2_with fail
  refine (drawTxId_any a0 len0 cap0 z0 _ w0 (by omega)).mono ?_
  rintro e w1 ⟨a, n, c, b, m, d, t, rfl, HT, HC, HS, hb1⟩
  clear w0 h hcm
  obtain ⟨ok, hok⟩ : ∃ x, t.ok = x := ⟨_, rfl⟩
  obtain ⟨Y, hY⟩ : ∃ x, (if t.ok = true then Tr.enc false t else ⟨#[]⟩) = x := ⟨_, rfl⟩
  obtain ⟨I, hI⟩ : ∃ x, t.id = x := ⟨_, rfl⟩
  have hIok : (ok = true → 0 ≤ I ∧ Dg.of Y = I) ∧ (ok = false → I < 0) := by
    subst hok
    subst hI
    subst hY
    unfold Tr.id
    constructor
    · intro h1; rw [if_pos h1, if_pos h1]; exact ⟨(Dg.of_bd _).1, rfl⟩
    · intro h1; rw [h1, if_neg (by decide)]; decide
  have hYs : Hid (Y.size ≤ 9223372036854775807) := Lib.hid (by
    subst hY
    by_cases h1 : t.ok = true
    · rw [if_pos h1]
      have := Tr.enc_size false (Tr.ok_mid h1)
      omega
    · rw [if_neg h1]
      decide)
  have H1 := Lib.hid (fun W h => implTxId_any w.heap.size a n c b m d t W h HC.out HS.out)
  have H2 := Lib.hid (fun W h => specTxId_any w.heap.size a n c b m d t W h HS.out)
  have H4 := Lib.hid (fun W h => implTxCore_any w.heap.size a n c b m d t W h HC.out HS.out)
  simp only [hY] at H4
  simp only [hI] at H1 H2
  simp only [hok] at H4
  clear hY hI hok HC HS
  obtain ⟨AF, hAF⟩ : ∃ x, Hid (t.after = x) := ⟨_, Lib.hid rfl⟩
  obtain ⟨NT, hNT⟩ : ∃ x, Hid (t.note = x) := ⟨_, Lib.hid rfl⟩
  simp only [hAF.out, hNT.out] at H1 H2 H4
  rw [hAF.out, hNT.out]
  clear hAF hNT
  have hB1 := hb1.alloc hb1.size (.cells #[.slice a n c, .slice b m d, .int .i64 AF, .string NT] 26 (0, 0))
  have v1 : Bk w1.heap.size 26 #[.slice a n c, .slice b m d, .int .i64 AF, .string NT] (w1.alloc (.cells #[.slice a n c, .slice b m d, .int .i64 AF, .string NT] 26 (0, 0))) := Bk.new _ _ _
  have HT1 := Lib.hid (HT.out.alloc (.cells #[.slice a n c, .slice b m d, .int .i64 AF, .string NT] 26 (0, 0)))
  have hcs := H1.out _ HT1.out
  obtain ⟨c0, c1, c2, c3⟩ := Bk.c4 v1
  clear HT hb1
  go_wp2_with fail
  refine hcs.mono ?_
  rintro e w2 ⟨rfl, hx⟩
  have hB2 := hB1.trans (hx.mono hB1.size)
  have v2 := v1.below hx
  have HT2 := Lib.hid (HT1.out.below hx)
  have hcs := H2.out _ HT2.out
  clear c0 c1 c2 c3 hx hB1 v1 HT1
  obtain ⟨c0, c1, c2, c3⟩ := Bk.c4 v2
  go_wp2_with fail
  refine hcs.mono ?_
  rintro e w3 ⟨rfl, hx⟩
  have hB3 := hB2.trans (hx.mono hB2.size)
  have v3 := v2.below hx
  have HT3 := Lib.hid (HT2.out.below hx)
  have hcs := H4.out _ HT3.out
  clear c0 c1 c2 c3 hx hB2 v2 HT2
  cases ok
  · have hI0 := hIok.2 rfl
    have hn : ¬ (0 : Int) ≤ I := by omega
    have hd : decide ((0 : Int) ≤ I) = false := decide_eq_false hn
    clear hcs
    go_wp2
    go_ret
    exact ⟨rfl, hB3⟩
  · obtain ⟨hI0, hI1⟩ := hIok.1 rfl
    have hd : decide ((0 : Int) ≤ I) = true := decide_eq_true hI0
    obtain ⟨c0, c1, c2, c3⟩ := Bk.c4 v3
    go_wp2_with fail
    refine hcs.mono ?_
    rintro e w4 ⟨rfl, hx⟩
    have hB4 := hB3.trans (hx.mono hB3.size)
    clear c0 c1 c2 c3 hx hB3 v3 HT3 hcs
    have hcd := implDigest_any Y w4 hYs.out
    rw [hI1] at hcd
    go_wp2_with fail
    refine hcd.mono ?_
    rintro e w5 ⟨rfl, hx⟩
    have hB5 := hB4.trans (hx.mono hB4.size)
    clear hx hB4 hcd
    go_wp2
    go_ret
    refine ⟨?_, hB5⟩
    simp
/-! ### The row's step. -/
theorem own : ownKnob Try.prog.godebug = none := by kernel_rfl
theorem laidOut : laidOutB Try.prog = true := by kernel_rfl
set_option maxRecDepth 100000 in
theorem lifted (os : Os) (started : os.Started) (H : Type) (enc : TypeId × Value → H) :
    ReturnsInHanded {} Try.checked os 5 .any (Rows.fnTxIdSpec.pre6 enc Try.prog Try.f5 Rows.fnTxIdRow.domain false) (Rows.fnTxIdSpec.post enc Try.prog Try.f5 false true false false) := by
  refine returnsInHanded_of_change (C := Try.checked) own started (by kernel_rfl) Try.func5
    (ChangeSpec.witness6 (enc := enc) (C := Try.checked) false ⟨#[], #[.slice none 0 0], []⟩ 8 (by kernel_rfl) (by kernel_rfl) (by kernel_rfl) (by kernel_rfl)) ?_
  intro W base args ds gs before hval0 hW hcnd _
  have hval : ∀ (j : Nat) t v, Try.f5.params[j]? = some t → args[j]? = some v → Value.okWide Try.prog W .any base t v := hval0
  have hW' := hW
  obtain ⟨p, q, hA0, hV, rfl, hfz, hnd⟩ := hW
  have hA : DataW.TrodAll enc Try.prog W 0 (fun _ => true) true Try.f5.params.toList args.toList ds p := hA0
  rw [Try.params5] at hA hval
  obtain ⟨v0, vs0, d0, ds0, p0, q0, hargs, rfl, rfl, h0, r0⟩ := trodAll_cons hA
  obtain ⟨rfl, rfl, rfl⟩ := trodAll_nil r0
  obtain rfl : args = #[v0] := by cases args; simp_all
  obtain ⟨rfl, rfl⟩ := trodVars_none hV
  obtain ⟨a0, len0, cap0, rfl⟩ := okWide_slice Try.underlying22 (hval 0 22 v0 rfl rfl)
  have k0 := h0
  have lt0 : ∀ x ∈ p0, x.block < W.heap.size := by obtain ⟨m, hm⟩ := k0; exact DataW.trod_lt m _ _ _ hm
  obtain ⟨z0, w0⟩ : ∃ zs, IsRow .u8 W a0 len0 cap0 zs := by
    obtain ⟨fuel, hf⟩ := h0
    rcases open_ints Try.underlying22 Try.underlying5 (by kernel_rfl) hf with ⟨hcs, _⟩ | ⟨x, l, c, zs, hcs, _, hl, hm, hz, _, hcell, hwz⟩
    · simp [Value.cells] at hcs
      obtain ⟨rfl, rfl, rfl⟩ := hcs
      exact ⟨[], .inl ⟨rfl, rfl, rfl, rfl⟩⟩
    · simp [Value.cells] at hcs
      obtain ⟨rfl, rfl, rfl⟩ := hcs
      exact ⟨zs, .inr ⟨_, rfl, hl, hm, by simpa using hz, hcell, hwz⟩⟩
  clear hA0 hval0
  refine (walk a0 len0 cap0 z0 W w0).mono fun e W' ⟨he, bel⟩ => ?_
  subst he
  exact ⟨_, rfl, _, _, _, [], _, [], hW', trodAll_mk1 (shut_bool Try.underlying4 _), (trodAll_cons_mk (Below.trod laidOut (by kernel_rfl) (of_decide_eq_true (by kernel_rfl)) k0 bel lt0) trodAll_mk0), rfl, bel.frame _, fun h => by cases h⟩
theorem over : Rows.fnTxIdRow.holds Try.pinned (OpenSpec.ofChange Rows.fnTxIdSpec) :=
  OpenClaim.holds_of_wide 5 Try.f5 rfl rfl rfl rfl rfl rfl rfl ⟨rfl, rfl, rfl, rfl, rfl⟩ rfl rfl rfl rfl rfl (by kernel_rfl) Try.func5 (by kernel_rfl)
    (of_decide_eq_true (by kernel_rfl)) (by unfold Func.isWrapper; first | (rw [if_pos (by decide +kernel)]; kernel_rfl) | (rw [if_neg (by decide +kernel)]; exact ⟨rfl, rfl⟩))
    (fun os started H enc _ => lifted os started H enc)
theorem proved : Rows.FnTxIdSaid := over
#print axioms proved
end Go.Proofs.Ytedjbikphdflhaa.fnTxId
