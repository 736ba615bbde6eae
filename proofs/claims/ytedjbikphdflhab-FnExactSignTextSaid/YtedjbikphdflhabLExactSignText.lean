/- For every transaction that holds together at most 1<<20 elements and bytes as the law counts them (larger ones are let pass by the law itself), every two numbers and every string of at most 1<<20 bytes, SignText of the program answers as the model's SignText, and leaves the transaction as it was. -/
import Derived.Test.YtedjbikphdflhabRows
import Derived.Test.YtedjbikphdflhabTu
import Derived.Test.YtedjbikphdflhabTw
import Derived.WalkKit
import Derived.WalkSpells
import Derived.ProofKit
import Derived.OpenShut
import Derived.ShutString
import Derived.Below
import Derived.SliceStrings
namespace Go.Proofs.Ytedjbikphdflhab.fnExactSignText
open Go.ChangeShapes Go.WideShapes Go.ChangeAt Go.RowKit
open Go.ChangeMaps (open_string shut_string)
theorem trR2 {base : Nat} {w : World} {a b : Option Addr} {n c m d : Nat} {ll : List (Tr.In × Value)} {t : Tr} (hI : OwnI base w (.slice a n c) ll) (hO : OwnO base w (.slice b m d) t.outs) (hf : ll.map Prod.fst = t.ins) : TrR base w a n b m t := by
  have h := hI.trR (af := 0) (nt := ⟨#[]⟩) hO
  exact ⟨hf ▸ h.ins, h.outs⟩
set_option maxRecDepth 100000 in
set_option maxHeartbeats 3200000 in
theorem walk (a : Option Addr) (n c : Nat) (b : Option Addr) (m d : Nat) (t : Tr) (i : Int) (_ : (Lit.int .i64 i).wf = true) (k : Int) (_ : (Lit.int .i64 k).wf = true) (s : ByteArray) (_ : s.size ≤ maxLen) (w : World) (w0 : IsTx w a n b m t) :
    Calls Try.prog 8 #[.agg #[.slice a n c, .slice b m d, .int .i64 t.after, .string t.note], .int .i64 i, .int .i64 k, .string s] w fun e w' => e = .returned (.bool true) ∧ Below w.heap.size w w' := by
  obtain ⟨hT, hr⟩ := w0
  by_cases hbig : (1048576 : Int) < (s.size : Int)
  · go_enter Try.func8, Try.ntmps8
    go_wp2
    go_ret
    exact ⟨rfl, (Below.refl _ _).alloc (Nat.le_refl _) _⟩
  obtain ⟨Z, HZ⟩ : ∃ x, Hid ((if Tr.signOk t i k s = true then Tr.sign t i k s else ⟨#[]⟩) = x) := ⟨_, Lib.hid rfl⟩
  obtain ⟨T, HT⟩ : ∃ x, Hid ((Tr.signOk t i k s) = x) := ⟨_, Lib.hid rfl⟩
  have HCspec : Hid (∀ lo W g1 g2, t.small → TrR lo W (some ⟨g1, 0, none⟩) n (some ⟨g2, 0, none⟩) m t → Calls Try.prog 25 #[.agg #[.slice (some ⟨g1, 0, none⟩) n n, .slice (some ⟨g2, 0, none⟩) m m, .int .i64 t.after, .string t.note], .int .i64 i, .int .i64 k, .string s] W fun e w' => e = .returned (.tuple #[.string Z, .bool T]) ∧ Below W.heap.size W w') := Lib.hid fun lo W g1 g2 hs hW => by
    have := SignText_any lo (some ⟨g1, 0, none⟩) n n (some ⟨g2, 0, none⟩) m m t i k s W hW hs (by omega)
    rw [HZ.out, HT.out] at this
    exact this
  have HCimpl : Hid (∀ lo W g1 g2, t.small → TrR lo W (some ⟨g1, 0, none⟩) n (some ⟨g2, 0, none⟩) m t → Calls Try.prog 26 #[.agg #[.slice (some ⟨g1, 0, none⟩) n n, .slice (some ⟨g2, 0, none⟩) m m, .int .i64 t.after, .string t.note], .int .i64 i, .int .i64 k, .string s] W fun e w' => e = .returned (.tuple #[.string Z, .bool T]) ∧ Below W.heap.size W w') := Lib.hid fun lo W g1 g2 hs hW => by
    have := implSignText_any lo (some ⟨g1, 0, none⟩) n n (some ⟨g2, 0, none⟩) m m t i k s W hW (Nat.le_refl _) hs (by omega)
    rw [HZ.out, HT.out] at this
    exact this
  have vA0 : Bk w.heap.size 25 #[.slice a n c, .slice b m d, .int .i64 t.after, .string t.note] (w.alloc (.cells #[.slice a n c, .slice b m d, .int .i64 t.after, .string t.note] 25 (0, 0))) := Bk.new _ _ _
  have hb0 : Below w.heap.size w (w.alloc (.cells #[.slice a n c, .slice b m d, .int .i64 t.after, .string t.note] 25 (0, 0))) := (Below.refl _ _).alloc (Nat.le_refl _) _
  have hcs := szTx_any 0 a n c b m d t 1048576 _ (hT.below hb0) hr (by omega) (by omega)
  have HTO : Hid (t.small → ∀ W, Below w.heap.size w W → Calls Try.prog 12 #[.agg #[.slice a n c, .slice b m d, .int .i64 t.after, .string t.note]] W (ToTxQ n m t W)) := Lib.hid fun hs W h => toTx_any 0 a n c b m d t W (hT.below h) hs
  obtain ⟨c0, c1, c2, c3⟩ := Bk.c4 vA0
  have hqS : (Z.toList == Z.toList) = true := by simp
  have hqT : (T == T) = true := by simp
  clear hT hr HZ HT
  go_enter Try.func8, Try.ntmps8
  go_wp2_with fail
  refine hcs.mono ?_
  rintro e w1 ⟨v, rfl, hv, hx⟩
  have hb1 := hb0.trans (hx.mono hb0.size)
  have vA1 := vA0.below hx
  obtain ⟨d0, d1, d2, d3⟩ := Bk.c4 vA1
  clear hx hcs c0 c1 c2 c3 vA0 hb0
  by_cases hneg : v < 0
  · clear hv
    go_wp2
    go_ret
    exact ⟨rfl, hb1⟩
  have HS := Lib.hid (hv.resolve_left hneg).2
  clear hv
  go_wp2_with fail
  refine (HTO.out HS.out _ hb1).mono ?_
  rintro e w2 ⟨g1, g2, l1, rfl, hf1, hi1, ho1, _, hx⟩
  have hb2 := hb1.trans (hx.mono hb1.size)
  have vA2 := vA1.below hx
  obtain ⟨e0, e1, e2, e3⟩ := Bk.c4 vA2
  have hc2 := HCspec.out _ w2 g1 g2 HS.out (trR2 hi1 ho1 hf1.out)
  clear hx hi1 ho1 hf1 d0 d1 d2 d3 vA1 hb1
  go_wp2_with fail
  refine hc2.mono ?_
  rintro e w3 ⟨rfl, hx⟩
  have hb3 := hb2.trans (hx.mono hb2.size)
  have vA3 := vA2.below hx
  obtain ⟨f0, f1, f2, f3⟩ := Bk.c4 vA3
  clear hx hc2 e0 e1 e2 e3 vA2 hb2
  go_wp2_with fail
  refine (HTO.out HS.out _ hb3).mono ?_
  rintro e w4 ⟨g3, g4, l3, rfl, hf3, hi3, ho3, _, hx⟩
  have hb4 := hb3.trans (hx.mono hb3.size)
  have HX4 := Lib.hid (trR2 hi3 ho3 hf3.out)
  have vA4 := (vA3.below hx).alloc (.cells #[.slice (some ⟨g3, 0, none⟩) n n, .slice (some ⟨g4, 0, none⟩) m m, .int .i64 t.after, .string t.note] 31 (0, 0))
  have hb5 := hb4.alloc hb4.size (.cells #[.slice (some ⟨g3, 0, none⟩) n n, .slice (some ⟨g4, 0, none⟩) m m, .int .i64 t.after, .string t.note] 31 (0, 0))
  have vD4 : Bk w4.heap.size 31 #[.slice (some ⟨g3, 0, none⟩) n n, .slice (some ⟨g4, 0, none⟩) m m, .int .i64 t.after, .string t.note] (w4.alloc (.cells #[.slice (some ⟨g3, 0, none⟩) n n, .slice (some ⟨g4, 0, none⟩) m m, .int .i64 t.after, .string t.note] 31 (0, 0))) := Bk.new _ _ _
  have HX5 := Lib.hid (HX4.out.alloc (.cells #[.slice (some ⟨g3, 0, none⟩) n n, .slice (some ⟨g4, 0, none⟩) m m, .int .i64 t.after, .string t.note] 31 (0, 0)))
  obtain ⟨k0, k1, k2, k3⟩ := Bk.c4 vD4
  have hc5 := HCimpl.out _ _ g3 g4 HS.out HX5.out
  clear hx hi3 ho3 hf3 f0 f1 f2 f3 vA3 hb3 hb4 HX4
  go_wp2_with fail
  refine hc5.mono ?_
  rintro e w6 ⟨rfl, hx⟩
  have hb6 := hb5.trans (hx.mono hb5.size)
  have vA6 := vA4.below hx
  have vD6 := vD4.below hx
  have HX6 := Lib.hid (HX5.out.below hx)
  have hS0 : (w6.drew.cell? ⟨w4.heap.size, 0, none⟩ = some (.slice (some ⟨g3, 0, none⟩) n n) ∧ w6.drew.cell? ⟨w4.heap.size, 1, none⟩ = some (.slice (some ⟨g4, 0, none⟩) m m) ∧ w6.drew.cell? ⟨w4.heap.size, 2, none⟩ = some (.int .i64 t.after) ∧ w6.drew.cell? ⟨w4.heap.size, 3, none⟩ = some (.string t.note)) ∧ (w6.drew.cell? ⟨w.heap.size, 0, none⟩ = some (.slice a n c) ∧ w6.drew.cell? ⟨w.heap.size, 1, none⟩ = some (.slice b m d) ∧ w6.drew.cell? ⟨w.heap.size, 2, none⟩ = some (.int .i64 t.after) ∧ w6.drew.cell? ⟨w.heap.size, 3, none⟩ = some (.string t.note)) := ⟨Bk.c4 vD6.drew, Bk.c4 vA6.drew⟩
  obtain ⟨m0, m1, m2, m3⟩ := Bk.c4 vD6
  obtain ⟨p0, p1, p2, p3⟩ := Bk.c4 vA6
  clear hx hc5 k0 k1 k2 k3 vA4 vD4 hb5 HX5
  go_wp2
  clear m0 m1 m2 m3 p0 p1 p2 p3
  go_region_held3 (fun W => (W.cell? ⟨w4.heap.size, 0, none⟩ = some (.slice (some ⟨g3, 0, none⟩) n n) ∧ W.cell? ⟨w4.heap.size, 1, none⟩ = some (.slice (some ⟨g4, 0, none⟩) m m) ∧ W.cell? ⟨w4.heap.size, 2, none⟩ = some (.int .i64 t.after) ∧ W.cell? ⟨w4.heap.size, 3, none⟩ = some (.string t.note)) ∧ (W.cell? ⟨w.heap.size, 0, none⟩ = some (.slice a n c) ∧ W.cell? ⟨w.heap.size, 1, none⟩ = some (.slice b m d) ∧ W.cell? ⟨w.heap.size, 2, none⟩ = some (.int .i64 t.after) ∧ W.cell? ⟨w.heap.size, 3, none⟩ = some (.string t.note))) (first | with_reducible exact hS0 | with_reducible exact hS1 | with_reducible exact hS2)
    (first
      | (go_at_call 12; refine (HTO.out HS.out _ hb6.drew).mono ?_; rintro e w7 ⟨g5, g6, l5, rfl, hf5, hi5, ho5, _, hx7⟩; have hb7 := hb6.drew.trans (hx7.mono hb6.drew.size); have hS1 : (w7.cell? ⟨w4.heap.size, 0, none⟩ = some (.slice (some ⟨g3, 0, none⟩) n n) ∧ w7.cell? ⟨w4.heap.size, 1, none⟩ = some (.slice (some ⟨g4, 0, none⟩) m m) ∧ w7.cell? ⟨w4.heap.size, 2, none⟩ = some (.int .i64 t.after) ∧ w7.cell? ⟨w4.heap.size, 3, none⟩ = some (.string t.note)) ∧ (w7.cell? ⟨w.heap.size, 0, none⟩ = some (.slice a n c) ∧ w7.cell? ⟨w.heap.size, 1, none⟩ = some (.slice b m d) ∧ w7.cell? ⟨w.heap.size, 2, none⟩ = some (.int .i64 t.after) ∧ w7.cell? ⟨w.heap.size, 3, none⟩ = some (.string t.note)) := ⟨Bk.c4 (vD6.drew.below hx7), Bk.c4 (vA6.drew.below hx7)⟩; have hcE := eqTx_any _ _ _ _ n _ _ m _ n _ m t w7 (HX6.out.drew.below hx7) (trR2 hi5 ho5 hf5.out) HS.out)
      | (go_at_call 14; refine hcE.mono ?_; rintro e w8 ⟨rfl, hx8⟩; have hb8 := hb7.trans (hx8.mono hb7.size); have hS2 : (w8.cell? ⟨w4.heap.size, 0, none⟩ = some (.slice (some ⟨g3, 0, none⟩) n n) ∧ w8.cell? ⟨w4.heap.size, 1, none⟩ = some (.slice (some ⟨g4, 0, none⟩) m m) ∧ w8.cell? ⟨w4.heap.size, 2, none⟩ = some (.int .i64 t.after) ∧ w8.cell? ⟨w4.heap.size, 3, none⟩ = some (.string t.note)) ∧ (w8.cell? ⟨w.heap.size, 0, none⟩ = some (.slice a n c) ∧ w8.cell? ⟨w.heap.size, 1, none⟩ = some (.slice b m d) ∧ w8.cell? ⟨w.heap.size, 2, none⟩ = some (.int .i64 t.after) ∧ w8.cell? ⟨w.heap.size, 3, none⟩ = some (.string t.note)) := ⟨Bk.c4 ((vD6.drew.below hx7).below hx8), Bk.c4 ((vA6.drew.below hx7).below hx8)⟩))
  go_wp2
  go_ret
  exact ⟨rfl, hb8⟩
/-! ### The row's step. -/
theorem own : ownKnob Try.prog.godebug = none := by kernel_rfl
theorem laidOut : laidOutB Try.prog = true := by kernel_rfl
set_option maxRecDepth 100000 in
theorem lifted (os : Os) (started : os.Started) (H : Type) (enc : TypeId × Value → H) :
    ReturnsInHanded {} Try.checked os 8 .any (Rows.fnExactSignTextSpec.pre6 enc Try.prog Try.f8 Rows.fnExactSignTextRow.domain false) (Rows.fnExactSignTextSpec.post enc Try.prog Try.f8 false true false false) := by
  refine returnsInHanded_of_change (C := Try.checked) own started (by kernel_rfl) Try.func8
    (ChangeSpec.witness6 (enc := enc) (C := Try.checked) false ⟨#[], #[.agg #[.slice none 0 0, .slice none 0 0, .int .i64 0, .string ByteArray.empty], .int .i64 0, .int .i64 0, .string ByteArray.empty], []⟩ 8 (by kernel_rfl) (by kernel_rfl) (by kernel_rfl) (by kernel_rfl)) ?_
  intro W base args ds gs before hval0 hW hcnd _
  have hval : ∀ (j : Nat) t v, Try.f8.params[j]? = some t → args[j]? = some v → Value.okWide Try.prog W .any base t v := hval0
  have hW' := hW
  obtain ⟨p, q, hA0, hV, rfl, hfz, hnd⟩ := hW
  have hA : DataW.TrodAll enc Try.prog W 0 (fun _ => true) true Try.f8.params.toList args.toList ds p := hA0
  rw [Try.params8] at hA hval
  obtain ⟨v0, vs0, d0, ds0, p0, q0, hargs, rfl, rfl, h0, r0⟩ := trodAll_cons hA
  obtain ⟨v1, vs1, d1, ds1, p1, q1, rfl, rfl, rfl, h1, r1⟩ := trodAll_cons r0
  obtain ⟨v2, vs2, d2, ds2, p2, q2, rfl, rfl, rfl, h2, r2⟩ := trodAll_cons r1
  obtain ⟨v3, vs3, d3, ds3, p3, q3, rfl, rfl, rfl, h3, r3⟩ := trodAll_cons r2
  obtain ⟨rfl, rfl, rfl⟩ := trodAll_nil r3
  obtain rfl : args = #[v0, v1, v2, v3] := by cases args; simp_all
  obtain ⟨rfl, rfl⟩ := trodVars_none hV
  obtain ⟨tA0, tN0, tC0, tB0, tM0, tK0, tT0, rfl, w0⟩ := open_tx (hval 0 25 v0 rfl rfl) h0
  have k0 := h0
  have lt0 : ∀ x ∈ p0, x.block < W.heap.size := by obtain ⟨m, hm⟩ := k0; exact DataW.trod_lt m _ _ _ hm
  obtain ⟨a1, rfl, rfl, rfl, w1⟩ := open_int Try.underlying3 (hval 1 3 v1 rfl rfl) h1
  obtain ⟨a2, rfl, rfl, rfl, w2⟩ := open_int Try.underlying3 (hval 2 3 v2 rfl rfl) h2
  obtain ⟨a3, rfl, rfl, rfl, w3⟩ := open_string Try.underlying9 (hval 3 9 v3 rfl rfl) h3
  clear hA0 hval0
  refine (walk tA0 tN0 tC0 tB0 tM0 tK0 tT0 a1 w1 a2 w2 a3 w3 W w0).mono fun e W' ⟨he, bel⟩ => ?_
  subst he
  exact ⟨_, rfl, _, _, _, [], _, [], hW', trodAll_mk1 (shut_bool Try.underlying4 _), (trodAll_cons_mk (Below.trod laidOut (by kernel_rfl) (of_decide_eq_true (by kernel_rfl)) k0 bel lt0) (trodAll_cons_mk (shut_int Try.underlying3 w1) (trodAll_cons_mk (shut_int Try.underlying3 w2) (trodAll_cons_mk (shut_string Try.underlying9 w3) trodAll_mk0)))), rfl, bel.frame _, fun h => by cases h⟩
theorem over : Rows.fnExactSignTextRow.holds Try.pinned (OpenSpec.ofChange Rows.fnExactSignTextSpec) :=
  OpenClaim.holds_of_wide 8 Try.f8 rfl rfl rfl rfl rfl rfl rfl ⟨rfl, rfl, rfl, rfl, rfl⟩ rfl rfl rfl rfl rfl (by kernel_rfl) Try.func8 (by kernel_rfl)
    (of_decide_eq_true (by kernel_rfl)) (by unfold Func.isWrapper; first | (rw [if_pos (by decide +kernel)]; kernel_rfl) | (rw [if_neg (by decide +kernel)]; exact ⟨rfl, rfl⟩))
    (fun os started H enc _ => lifted os started H enc)
theorem proved : Rows.FnExactSignTextSaid := over
#print axioms proved
end Go.Proofs.Ytedjbikphdflhab.fnExactSignText
