/- For every list of coins that holds together at most 1<<20 elements and bytes as the law counts them (longer ones are let pass by the law itself) and all two numbers, CoinsFind of the program answers as the model's CoinsFind and leaves the list as it was. -/
import Derived.Test.YtohameoomlehlabRows
import Derived.Test.YtohameoomlehlabCn
import Derived.Test.YtohameoomlehlabCy
import Derived.WalkKit
import Derived.WalkSpells
import Derived.ProofKit
import Derived.OpenShut
import Derived.ShutString
import Derived.Below
import Derived.SliceStrings
namespace Go.Proofs.Ytohameoomlehlab.fnExactCoinsFind
open Go.ChangeShapes Go.WideShapes Go.ChangeAt Go.RowKit
open Go.ChangeMaps (open_string shut_string)
set_option maxRecDepth 100000 in
set_option maxHeartbeats 6400000 in
theorem walk (a : Option Addr) (len cap : Nat) (l0 : List Co) (t : Int) (htw : (Lit.int .i64 t).wf = true) (o : Int) (how : (Lit.int .i64 o).wf = true) (w : World) (w0 : IsCoin w a len cap l0) :
    Calls Try.prog 4 #[.slice a len cap, .int .i64 t, .int .i64 o] w fun e w' => e = .returned (.bool true) ∧ Below w.heap.size w w' := by
  obtain ⟨hlc, hcm, hcl, hlk⟩ := w0
  have HSZ := szCoinS_any 0 a len cap l0 1048576 w hcl (by omega) (by omega) (by omega) hlk
  have HCL := Lib.hid hcl
  clear hcl hlk
  go_enter Try.func4, Try.ntmps4
  go_wp2_with fail
  refine HSZ.mono ?_
  rintro e w1 ⟨v, rfl, hv, hB1⟩
  clear HSZ
  by_cases hneg : v < 0
  · clear hv
    go_wp2
    go_ret
    exact ⟨rfl, hB1⟩
  obtain ⟨hv1, hl1, hl2⟩ := hv.resolve_left hneg
  have HLK : Hid (∀ x ∈ l0, x.lock.size ≤ 1048576) := Lib.hid (CB.lolock (by rw [HCL.out.lenC]; exact hl2))
  have HTO : Hid (∀ W, Below w.heap.size w W → Calls Try.prog 13 #[.slice a len cap] W fun e w' => ∃ g, e = .returned (.slice (some ⟨g, 0, none⟩) len len) ∧ Hid (CoL 0 w' (some ⟨g, 0, none⟩) len l0) ∧ Below W.heap.size W w') := Lib.hid fun W hW => (toCoinS_any 0 a len cap l0 W (HCL.out.below hW) hl1).mono fun e w' q => ⟨W.heap.size, q.1, Lib.hid (q.2.1.out.ol HCL.out.lenC (Nat.zero_le _)), q.2.2⟩
  have HEQ := Lib.hid (fun W a b (h1 : CoL 0 W a len l0) (h2 : CoL 0 W b len l0) => eqCoinS_any 0 0 a b len len len l0 W h1 h2 (by omega))
  have H1 := Lib.hid (fun W g (h : CoL 0 W (some ⟨g, 0, none⟩) len l0) => CoinsFind_any 0 (some ⟨g, 0, none⟩) len len l0 t o W h (by omega))
  have H2 := Lib.hid (fun W g (h : CoL 0 W (some ⟨g, 0, none⟩) len l0) => implCoinsFind_any 0 (some ⟨g, 0, none⟩) len len l0 t o W h (Nat.le_refl _) hl1 HLK.out ⟨bounds_i64 htw, bounds_i64 how⟩)
  obtain ⟨X, hX⟩ : ∃ x, Co.get (Co.find l0 t o) = x := ⟨_, rfl⟩
  obtain ⟨IS, hIS⟩ : ∃ x, (Co.find l0 t o).isSome = x := ⟨_, rfl⟩
  simp only [hX, hIS] at H1 H2
  unfold CoA at H1 H2
  obtain ⟨tx, out, amt, lock, ht, rew⟩ := X
  simp only at H1 H2
  have HEC := Lib.hid (fun W => eqCoin_any tx out amt lock ht rew W)
  clear hX hIS hv hv1 hl2 HLK HCL hlc hcm
  have hcs := HTO.out w1 hB1
  go_wp2_with fail
  refine hcs.mono ?_
  rintro e w2 ⟨g2, rfl, HC2, hx⟩
  have hB2 := hB1.trans (hx.mono hB1.size)
  have hcs := H1.out w2 _ HC2.out
  clear hx hB1 HC2
  go_wp2_with fail
  refine hcs.mono ?_
  rintro e w3 ⟨rfl, hx⟩
  have hB3 := (hB2.trans (hx.mono hB2.size)).alloc (Nat.le_trans hB2.size hx.size) (.cells #[.int .i64 tx, .int .i64 out, .int .i64 amt, .string lock, .int .i64 ht, .bool rew] 30 (0, 0))
  have v3 : Bk w3.heap.size 30 #[.int .i64 tx, .int .i64 out, .int .i64 amt, .string lock, .int .i64 ht, .bool rew] (w3.alloc (.cells #[.int .i64 tx, .int .i64 out, .int .i64 amt, .string lock, .int .i64 ht, .bool rew] 30 (0, 0))) := Bk.new _ _ _
  have hcs := HTO.out _ hB3
  clear hx hB2
  go_wp2_with fail
  refine hcs.mono ?_
  rintro e w4 ⟨g4, rfl, HC4, hx⟩
  have hB4 := hB3.trans (hx.mono hB3.size)
  have v4 := v3.below hx
  have hcs := H2.out w4 _ HC4.out
  clear hx hB3 v3
  go_wp2_with fail
  refine hcs.mono ?_
  rintro e w5 ⟨rfl, hx⟩
  have hB5 := (hB4.trans (hx.mono hB4.size)).alloc (Nat.le_trans hB4.size hx.size) (.cells #[.int .i64 tx, .int .i64 out, .int .i64 amt, .string lock, .int .i64 ht, .bool rew] 30 (0, 0))
  have v5 := (v4.below hx).alloc (.cells #[.int .i64 tx, .int .i64 out, .int .i64 amt, .string lock, .int .i64 ht, .bool rew] 30 (0, 0))
  have u5 : Bk w5.heap.size 30 #[.int .i64 tx, .int .i64 out, .int .i64 amt, .string lock, .int .i64 ht, .bool rew] (w5.alloc (.cells #[.int .i64 tx, .int .i64 out, .int .i64 amt, .string lock, .int .i64 ht, .bool rew] 30 (0, 0))) := Bk.new _ _ _
  have HC5 := Lib.hid (HC4.out.below (hx.alloc hx.size (.cells #[.int .i64 tx, .int .i64 out, .int .i64 amt, .string lock, .int .i64 ht, .bool rew] 30 (0, 0))))
  obtain ⟨c0, c1, c2, c3, c4, c5⟩ := Bk.c6 v5
  obtain ⟨d0, d1, d2, d3, d4, d5⟩ := Bk.c6 u5
  have hcs := HEC.out (w5.alloc (.cells #[.int .i64 tx, .int .i64 out, .int .i64 amt, .string lock, .int .i64 ht, .bool rew] 30 (0, 0)))
  clear hx hB4 HC4 v4 v5 u5
  go_wp2_with fail
  refine hcs.mono ?_
  rintro e w6 ⟨rfl, hx⟩
  clear c0 c1 c2 c3 c4 c5 d0 d1 d2 d3 d4 d5
  have hB6 := hB5.trans (hx.mono hB5.size)
  have HC6 := Lib.hid (HC5.out.below hx)
  clear hx hB5 HC5 hcs H1 H2
  cases IS <;>
  (have hcs := HTO.out w6 hB6
   go_wp2_with fail
   refine hcs.mono ?_
   rintro e w7 ⟨g7, rfl, HC7, hx⟩
   have hB7 := hB6.trans (hx.mono hB6.size)
   have HC8 := Lib.hid (HC6.out.below hx)
   have hcs := HEQ.out w7 _ _ HC8.out HC7.out
   clear hx hB6 HC6 HTO HEC
   go_wp2_with fail
   refine hcs.mono ?_
   rintro e w8 ⟨rfl, hx⟩
   have hB8 := hB7.trans (hx.mono hB7.size)
   clear hx hB7 HC7 HC8 hcs HEQ
   go_wp2
   go_ret
   exact ⟨rfl, hB8⟩)
/-! ### The row's step. -/
theorem own : ownKnob Try.prog.godebug = none := by kernel_rfl
theorem laidOut : laidOutB Try.prog = true := by kernel_rfl
set_option maxRecDepth 100000 in
theorem lifted (os : Os) (started : os.Started) (H : Type) (enc : TypeId × Value → H) :
    ReturnsInHanded {} Try.checked os 4 .any (Rows.fnExactCoinsFindSpec.pre6 enc Try.prog Try.f4 Rows.fnExactCoinsFindRow.domain false) (Rows.fnExactCoinsFindSpec.post enc Try.prog Try.f4 false true false false) := by
  refine returnsInHanded_of_change (C := Try.checked) own started (by kernel_rfl) Try.func4
    (ChangeSpec.witness6 (enc := enc) (C := Try.checked) false ⟨#[], #[.slice none 0 0, .int .i64 0, .int .i64 0], []⟩ 8 (by kernel_rfl) (by kernel_rfl) (by kernel_rfl) (by kernel_rfl)) ?_
  intro W base args ds gs before hval0 hW hcnd _
  have hval : ∀ (j : Nat) t v, Try.f4.params[j]? = some t → args[j]? = some v → Value.okWide Try.prog W .any base t v := hval0
  have hW' := hW
  obtain ⟨p, q, hA0, hV, rfl, hfz, hnd⟩ := hW
  have hA : DataW.TrodAll enc Try.prog W 0 (fun _ => true) true Try.f4.params.toList args.toList ds p := hA0
  rw [Try.params4] at hA hval
  obtain ⟨v0, vs0, d0, ds0, p0, q0, hargs, rfl, rfl, h0, r0⟩ := trodAll_cons hA
  obtain ⟨v1, vs1, d1, ds1, p1, q1, rfl, rfl, rfl, h1, r1⟩ := trodAll_cons r0
  obtain ⟨v2, vs2, d2, ds2, p2, q2, rfl, rfl, rfl, h2, r2⟩ := trodAll_cons r1
  obtain ⟨rfl, rfl, rfl⟩ := trodAll_nil r2
  obtain rfl : args = #[v0, v1, v2] := by cases args; simp_all
  obtain ⟨rfl, rfl⟩ := trodVars_none hV
  obtain ⟨a0, len0, cap0, rfl⟩ := okWide_slice Try.underlying22 (hval 0 22 v0 rfl rfl)
  have k0 := h0
  have lt0 : ∀ x ∈ p0, x.block < W.heap.size := by obtain ⟨m, hm⟩ := k0; exact DataW.trod_lt m _ _ _ hm
  obtain ⟨z0, w0⟩ : ∃ l, IsCoin W a0 len0 cap0 l := by
    obtain ⟨fuel, hf⟩ := h0
    exact open_coins (by simpa [Value.cells] using hf)
  obtain ⟨a1, rfl, rfl, rfl, w1⟩ := open_int Try.underlying3 (hval 1 3 v1 rfl rfl) h1
  obtain ⟨a2, rfl, rfl, rfl, w2⟩ := open_int Try.underlying3 (hval 2 3 v2 rfl rfl) h2
  clear hA0 hval0
  refine (walk a0 len0 cap0 z0 a1 w1 a2 w2 W w0).mono fun e W' ⟨he, bel⟩ => ?_
  subst he
  exact ⟨_, rfl, _, _, _, [], _, [], hW', trodAll_mk1 (shut_bool Try.underlying4 _), (trodAll_cons_mk (Below.trod laidOut (by kernel_rfl) (of_decide_eq_true (by kernel_rfl)) k0 bel lt0) (trodAll_cons_mk (shut_int Try.underlying3 w1) (trodAll_cons_mk (shut_int Try.underlying3 w2) trodAll_mk0))), rfl, bel.frame _, fun h => by cases h⟩
theorem over : Rows.fnExactCoinsFindRow.holds Try.pinned (OpenSpec.ofChange Rows.fnExactCoinsFindSpec) :=
  OpenClaim.holds_of_wide 4 Try.f4 rfl rfl rfl rfl rfl rfl rfl ⟨rfl, rfl, rfl, rfl, rfl⟩ rfl rfl rfl rfl rfl (by kernel_rfl) Try.func4 (by kernel_rfl)
    (of_decide_eq_true (by kernel_rfl)) (by unfold Func.isWrapper; first | (rw [if_pos (by decide +kernel)]; kernel_rfl) | (rw [if_neg (by decide +kernel)]; exact ⟨rfl, rfl⟩))
    (fun os started H enc _ => lifted os started H enc)
theorem proved : Rows.FnExactCoinsFindSaid := over
#print axioms proved
end Go.Proofs.Ytohameoomlehlab.fnExactCoinsFind
