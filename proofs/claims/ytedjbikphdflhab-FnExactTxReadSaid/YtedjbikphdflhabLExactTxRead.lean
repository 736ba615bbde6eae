/- For every string of at most 1<<20 bytes (longer ones are let pass by the law itself), TxRead of the program answers as the model's TxRead, and hands back a transaction that shares no memory with what another call hands back. -/
import Derived.Test.YtedjbikphdflhabRows
import Derived.Test.YtedjbikphdflhabUq
import Derived.Test.YtedjbikphdflhabUu
import Derived.Test.YtedjbikphdflhabTn
import Derived.Test.YtedjbikphdflhabTl
import Derived.WalkKit
import Derived.WalkSpells
import Derived.ProofKit
import Derived.OpenShut
import Derived.ShutString
import Derived.Below
import Derived.SliceStrings
namespace Go.Proofs.Ytedjbikphdflhab.fnExactTxRead
open Go.ChangeShapes Go.WideShapes Go.ChangeAt Go.RowKit
open Go.ChangeMaps (open_string shut_string)
set_option maxRecDepth 100000 in
set_option maxHeartbeats 3200000 in
theorem walk (s : ByteArray) (_ : s.size ≤ maxLen) (w : World) :
    Calls Try.prog 5 #[.string s] w fun e w' => e = .returned (.bool true) ∧ Below w.heap.size w w' := by
  by_cases h : (1048576 : Int) < (s.size : Int)
  · go_enter Try.func5, Try.ntmps5
    go_wp2
    go_ret
    exact ⟨rfl, Below.refl _ _⟩
  have hfit : (Tr.getO (Tr.read s)).fit := by
    cases hr : Tr.read s with
    | none => exact Tr.fit_none
    | some t => exact Tr.ok_fit (Tr.enc_read hr).2
  obtain ⟨T, hT⟩ : ∃ x, Tr.getO (Tr.read s) = x := ⟨_, rfl⟩
  obtain ⟨N, hN⟩ : ∃ x, T.ins.length = x := ⟨_, rfl⟩
  obtain ⟨M, hM⟩ : ∃ x, T.outs.length = x := ⟨_, rfl⟩
  obtain ⟨AF, hA⟩ : ∃ x, T.after = x := ⟨_, rfl⟩
  obtain ⟨NT, hS⟩ : ∃ x, T.note = x := ⟨_, rfl⟩
  obtain ⟨ok, hk⟩ : ∃ x, (Tr.read s).isSome = x := ⟨_, rfl⟩
  have hc1 : Hid (∀ W, Calls Try.prog 17 #[.string s] W (AnsQ N M T AF NT ok W)) := Lib.hid fun W => (TxRead_over tx_any s W).mono fun e w' q => q.ans.own hT hN hM hA hS hk
  have hc2 : Hid (∀ W, Calls Try.prog 18 #[.string s] W (AnsQD N M T AF NT ok W)) := Lib.hid fun W => (implTxRead_any s W).mono fun e w' q => q.own hT hN hM hA hS hk
  rw [hT] at hfit
  have HS := Lib.hid hfit.small
  have HFEW := Lib.hid (Tr.few hfit hN hM)
  have HEQ : Hid (∀ (lo lo' : Nat) (W : World) (a b a' b' : Option Addr) (c d c' d' : Nat), TrR lo W a N b M T → TrR lo' W a' N b' M T → Calls Try.prog 14 #[.agg #[.slice a N c, .slice b M d, .int .i64 AF, .string NT], .agg #[.slice a' N c', .slice b' M d', .int .i64 AF, .string NT]] W fun e w' => e = .returned (.bool true) ∧ Below W.heap.size W w') := Lib.hid fun lo lo' W a b a' b' c d c' d' q1 q2 => by
    have := eqTx_any lo lo' a N c b M d a' c' b' d' T W q1 q2 HS.out
    rw [hA, hS] at this
    exact this
  clear hT hN hM hA hS hk hfit
  go_enter Try.func5, Try.ntmps5
  go_wp2_with fail
  refine (hc1.out _).mono ?_
  rintro e w1 ⟨a, c, b, d, l0, rfl, hb1, H1⟩
  have vA1 : Bk w1.heap.size 31 #[.slice a N c, .slice b M d, .int .i64 AF, .string NT] (w1.alloc (.cells #[.slice a N c, .slice b M d, .int .i64 AF, .string NT] 31 (0, 0))) := Bk.new _ _ _
  have hB1 := hb1.alloc hb1.size (.cells #[.slice a N c, .slice b M d, .int .i64 AF, .string NT] 31 (0, 0))
  have HU1 := Lib.hid H1.out.up
  have hw0 : w.heap.size ≤ w1.heap.size := hb1.size
  have HX1 := Lib.hid (H1.out.alloc (.cells #[.slice a N c, .slice b M d, .int .i64 AF, .string NT] 31 (0, 0)))
  have hs1 : (w1.alloc (.cells #[.slice a N c, .slice b M d, .int .i64 AF, .string NT] 31 (0, 0))).heap.size = w1.heap.size + 1 := by simp
  have hcI := hc2.out (w1.alloc (.cells #[.slice a N c, .slice b M d, .int .i64 AF, .string NT] 31 (0, 0)))
  clear hb1 H1
  go_wp2_with fail
  refine hcI.mono ?_
  rintro e w2 ⟨a2, c2, b2, d2, l, rfl, hx, H2, HD⟩
  have vA2 := (vA1.below hx).alloc (.cells #[.slice a2 N c2, .slice b2 M d2, .int .i64 AF, .string NT] 31 (0, 0))
  have vB2 : Bk w2.heap.size 31 #[.slice a2 N c2, .slice b2 M d2, .int .i64 AF, .string NT] (w2.alloc (.cells #[.slice a2 N c2, .slice b2 M d2, .int .i64 AF, .string NT] 31 (0, 0))) := Bk.new _ _ _
  have hB2 := (hB1.trans (hx.mono hB1.size)).alloc (Nat.le_trans hB1.size hx.size) (.cells #[.slice a2 N c2, .slice b2 M d2, .int .i64 AF, .string NT] 31 (0, 0))
  have HU2 := Lib.hid H2.out.up
  have HX2 := Lib.hid ((HX1.out.below hx).alloc (.cells #[.slice a2 N c2, .slice b2 M d2, .int .i64 AF, .string NT] 31 (0, 0)))
  have HG2 := Lib.hid (H2.out.alloc (.cells #[.slice a2 N c2, .slice b2 M d2, .int .i64 AF, .string NT] 31 (0, 0)))
  have hs2 : w1.heap.size + 1 ≤ w2.heap.size := by have := hx.size; omega
  have hs2' : (w2.alloc (.cells #[.slice a2 N c2, .slice b2 M d2, .int .i64 AF, .string NT] 31 (0, 0))).heap.size = w2.heap.size + 1 := by simp
  have HF : Hid (∀ x ∈ l, x.1.wit.length ≤ 24) := Lib.hid fun x hx => HFEW.out.2.2 x.1 (by rw [← H2.out.1]; exact List.mem_map_of_mem hx)
  have HMK : Hid (Tr.mkE 1 l ≤ 1 + (N : Int) * 26) := Lib.hid (by have h1 := Tr.mkE_few l HF.out 1; rw [H2.out.2.1] at h1; exact h1)
  have hcE := HEQ.out _ _ _ a2 b2 a b c2 d2 c d HG2.out.trR HX2.out.trR
  obtain ⟨e0, e1, e2, e3⟩ := Bk.c4 vA2
  obtain ⟨f0, f1, f2, f3⟩ := Bk.c4 vB2
  clear hx vA1 hB1 H2 HX1 hcI HF
  go_wp2_with fail
  refine hcE.mono ?_
  rintro e w3 ⟨rfl, hx⟩
  have vA3 := vA2.below hx
  have vB3 := vB2.below hx
  have hB3 := hB2.trans (hx.mono hB2.size)
  have HX3 := Lib.hid (HX2.out.below hx)
  have HG3 := Lib.hid (HG2.out.below hx)
  have hs3 : w2.heap.size + 1 ≤ w3.heap.size := by have := hx.size; omega
  have hcM := mark_has AF NT HG3.out HD.out HU2.out (by omega) HS.out
  obtain ⟨K, hK⟩ : ∃ K, Hid (Tr.mkE 1 l + 2 * (M : Int) = K) := ⟨_, Lib.hid rfl⟩
  have hK0 : 1 ≤ K := by have h1 := Tr.mkE_le l 1; have := hK.out; omega
  have hE : Tr.mkE 1 l ≤ 1000 := by have h1 := HMK.out; have h2 := HFEW.out.1; omega
  have hK1 : K ≤ 2000 := by have h1 := hE; have h2 := HFEW.out.2.1; have := hK.out; omega
  rw [hK.out] at hcM
  have HE := Lib.hid hE
  clear e0 e1 e2 e3 f0 f1 f2 f3 hx vA2 vB2 hB2 HX2 HG2 hcE hs2' HMK hE
  obtain ⟨e0, e1, e2, e3⟩ := Bk.c4 vA3
  obtain ⟨f0, f1, f2, f3⟩ := Bk.c4 vB3
  go_wp2_with fail
  refine hcM.mono ?_
  rintro e w4 ⟨rfl, HM4, hsg⟩
  have vA4 := vA3.seg hsg.out (.inl (by omega))
  have vB4 := vB3.seg hsg.out (.inr (Nat.le_refl _))
  have hw1 : w.heap.size ≤ (w1.alloc (.cells #[.slice a N c, .slice b M d, .int .i64 AF, .string NT] 31 (0, 0))).heap.size := by omega
  have hB4 := hB3.trans (hsg.out.below (N := w.heap.size) hw1 hB3.size)
  have HX4 := Lib.hid (HX3.out.segLo hsg.out (HU1.out.mono (by omega)))
  have hs4 : w3.heap.size ≤ w4.heap.size := hsg.out.size
  have hcH := held_has AF NT HM4.out HE.out HFEW.out.1 HFEW.out.2.1
  rw [hK.out] at hcH
  clear e0 e1 e2 e3 f0 f1 f2 f3 hsg vA3 vB3 hB3 HX3 HG3 hcM hs1
  obtain ⟨e0, e1, e2, e3⟩ := Bk.c4 vA4
  obtain ⟨f0, f1, f2, f3⟩ := Bk.c4 vB4
  go_wp2_with fail
  refine hcH.mono ?_
  rintro e w5 ⟨rfl, hx⟩
  have vA5 := vA4.below hx
  have vB5 := vB4.below hx
  have hB5 := hB4.trans (hx.mono hB4.size)
  have HX5 := Lib.hid (HX4.out.below hx)
  have HM5 := Lib.hid (HM4.out.below hx)
  clear e0 e1 e2 e3 f0 f1 f2 f3 hx vA4 vB4 hB4 HX4 HM4 hcH
  go_wp2_with fail
  refine (hc2.out _).mono ?_
  rintro e w6 ⟨a6, c6, b6, d6, l6, rfl, hx, H6, _⟩
  have vA6 := (vA5.below hx).alloc (.cells #[.slice a6 N c6, .slice b6 M d6, .int .i64 AF, .string NT] 31 (0, 0))
  have vB6 := (vB5.below hx).alloc (.cells #[.slice a6 N c6, .slice b6 M d6, .int .i64 AF, .string NT] 31 (0, 0))
  have vC6 : Bk w6.heap.size 31 #[.slice a6 N c6, .slice b6 M d6, .int .i64 AF, .string NT] (w6.alloc (.cells #[.slice a6 N c6, .slice b6 M d6, .int .i64 AF, .string NT] 31 (0, 0))) := Bk.new _ _ _
  have hB6 := (hB5.trans (hx.mono hB5.size)).alloc (Nat.le_trans hB5.size hx.size) (.cells #[.slice a6 N c6, .slice b6 M d6, .int .i64 AF, .string NT] 31 (0, 0))
  have HX6 := Lib.hid ((HX5.out.below hx).alloc (.cells #[.slice a6 N c6, .slice b6 M d6, .int .i64 AF, .string NT] 31 (0, 0)))
  have HM6 := Lib.hid ((HM5.out.below hx).alloc (.cells #[.slice a6 N c6, .slice b6 M d6, .int .i64 AF, .string NT] 31 (0, 0)))
  have HC6 := Lib.hid (H6.out.alloc (.cells #[.slice a6 N c6, .slice b6 M d6, .int .i64 AF, .string NT] 31 (0, 0)))
  have hcE := HEQ.out _ _ _ a6 b6 a b c6 d6 c d HC6.out.trR HX6.out.trR
  obtain ⟨e0, e1, e2, e3⟩ := Bk.c4 vA6
  obtain ⟨f0, f1, f2, f3⟩ := Bk.c4 vC6
  clear hx vA5 vB5 hB5 HX5 HM5 H6
  go_wp2_with fail
  refine hcE.mono ?_
  rintro e w7 ⟨rfl, hx⟩
  have vB7 := vB6.below hx
  have hB7 := hB6.trans (hx.mono hB6.size)
  have HM7 := Lib.hid (HM6.out.below hx)
  have hcH := held_has AF NT HM7.out HE.out HFEW.out.1 HFEW.out.2.1
  rw [hK.out] at hcH
  clear e0 e1 e2 e3 f0 f1 f2 f3 hx vA6 vB6 vC6 hB6 HX6 HM6 HC6 hcE
  obtain ⟨f0, f1, f2, f3⟩ := Bk.c4 vB7
  go_wp2_with fail
  refine hcH.mono ?_
  rintro e w8 ⟨rfl, hx⟩
  have hB8 := hB7.trans (hx.mono hB7.size)
  clear f0 f1 f2 f3 hx vB7 hB7 HM7 hcH
  go_wp2
  go_ret
  exact ⟨rfl, hB8⟩
/-! ### The row's step. -/
theorem own : ownKnob Try.prog.godebug = none := by kernel_rfl
set_option maxRecDepth 100000 in
theorem lifted (os : Os) (started : os.Started) (H : Type) (enc : TypeId × Value → H) :
    ReturnsInHanded {} Try.checked os 5 .any (Rows.fnExactTxReadSpec.pre6 enc Try.prog Try.f5 Rows.fnExactTxReadRow.domain false) (Rows.fnExactTxReadSpec.post enc Try.prog Try.f5 false true false false) := by
  refine returnsInHanded_of_change (C := Try.checked) own started (by kernel_rfl) Try.func5
    (ChangeSpec.witness6 (enc := enc) (C := Try.checked) false ⟨#[], #[.string ByteArray.empty], []⟩ 8 (by kernel_rfl) (by kernel_rfl) (by kernel_rfl) (by kernel_rfl)) ?_
  intro W base args ds gs before hval0 hW hcnd _
  have hval : ∀ (j : Nat) t v, Try.f5.params[j]? = some t → args[j]? = some v → Value.okWide Try.prog W .any base t v := hval0
  have hW' := hW
  obtain ⟨p, q, hA0, hV, rfl, hfz, hnd⟩ := hW
  have hA : DataW.TrodAll enc Try.prog W 0 (fun _ => true) true Try.f5.params.toList args.toList ds p := hA0
  rw [Try.params5] at hA hval
  obtain ⟨v0, vs0, d0, ds0, p0, q0, hargs, rfl, rfl, h0, r0⟩ := trodAll_cons hA
  obtain ⟨rfl, rfl, rfl⟩ := trodAll_nil r0
  obtain rfl : args = #[v0] := by cases args; simp_all
  obtain ⟨rfl, rfl⟩ := trodVars_none hV
  obtain ⟨a0, rfl, rfl, rfl, w0⟩ := open_string Try.underlying9 (hval 0 9 v0 rfl rfl) h0
  clear hA0 hval0
  refine (walk a0 w0 W).mono fun e W' ⟨he, bel⟩ => ?_
  subst he
  exact ⟨_, rfl, _, _, _, [], _, [], hW', trodAll_mk1 (shut_bool Try.underlying4 _), (trodAll_cons_mk (shut_string Try.underlying9 w0) trodAll_mk0), rfl, bel.frame _, fun h => by cases h⟩
theorem over : Rows.fnExactTxReadRow.holds Try.pinned (OpenSpec.ofChange Rows.fnExactTxReadSpec) :=
  OpenClaim.holds_of_wide 5 Try.f5 rfl rfl rfl rfl rfl rfl rfl ⟨rfl, rfl, rfl, rfl, rfl⟩ rfl rfl rfl rfl rfl (by kernel_rfl) Try.func5 (by kernel_rfl)
    (of_decide_eq_true (by kernel_rfl)) (by unfold Func.isWrapper; first | (rw [if_pos (by decide +kernel)]; kernel_rfl) | (rw [if_neg (by decide +kernel)]; exact ⟨rfl, rfl⟩))
    (fun os started H enc _ => lifted os started H enc)
theorem proved : Rows.FnExactTxReadSaid := over
#print axioms proved
end Go.Proofs.Ytedjbikphdflhab.fnExactTxRead
