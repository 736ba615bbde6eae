/-
  Contracts of the laws' marks of transactions: heldInS, heldOutS, markTx, heldTx.
-/
import Derived.Test.YtedjbikphdflhabUs
import Derived.Deep.RegionWith
namespace Go.Proofs.Ytedjbikphdflhab
open Go.RowKit

set_option maxRecDepth 100000 in
set_option maxHeartbeats 3200000 in
theorem heldInS_any (lo : Nat) (a : Option Addr) (n c : Nat) (l : List (Tr.In × Value)) (k : Int) (w : World) (h : InL lo w a n ((Tr.mkI k l).map Prod.fst)) (h0 : 1 ≤ k) (h1 : Tr.mkE k l ≤ 1000) (hn : n ≤ 1048576) :
    Calls Try.prog 56 #[.slice a n c, .int .i64 k] w fun e w' => e = .returned (.int .i64 (Tr.mkE k l)) ∧ Below w.heap.size w w' := by
  have HL : Hid (l.length = n) := Lib.hid (by have := h.1; rwa [List.length_map, Tr.mkI_length] at this)
  have HH := Lib.hid h
  have HE := Lib.hid h1
  clear h h1
  go_enter Try.func56, Try.ntmps56
  go_wp2
  go_loopw [1, 5] (fun v i wr => ∃ j : Nat, j ≤ n ∧ i = .int .i64 (j : Int) ∧ ∃ (K : Int) (l1 l2 : List (Tr.In × Value)), v = .int .i64 K ∧ Hid (l1.length = j) ∧ Hid (Tr.mkE k l1 = K) ∧ Hid (l1 ++ l2 = l) ∧ 1 ≤ K ∧ K ≤ 1000 ∧ Below w.heap.size w wr)
    (fun _ i _ => n - (intOf i).toNat)
  case atStart => exact ⟨0, by omega, rfl, k, [], l, rfl, Lib.hid rfl, Lib.hid rfl, Lib.hid rfl, h0, by have h1 := HE.out; have h2 := Tr.mkE_le l k; omega, Below.refl _ _⟩
  case round =>
    obtain ⟨j, hj, rfl, K, l1, l2, rfl, hl1, hK, hll, hK0, hK1, hbel⟩ := hrel
    by_cases hlt : j < n
    · have hlen : l1.length + l2.length = n := by
        have e1 := congrArg List.length hll.out
        rw [HL.out] at e1
        simpa using e1
      rw [hl1.out] at hlen
      obtain ⟨⟨⟨tx, out, wit⟩, v⟩, l3, rfl⟩ : ∃ y l3, l2 = y :: l3 := by
        cases l2 with
        | nil => simp at hlen; omega
        | cons y l3 => exact ⟨y, l3, rfl⟩
      obtain ⟨r, hr⟩ : ∃ r, Hid (wit.length = r) := ⟨_, Lib.hid rfl⟩
      have hat := Tr.mkI_at l1 l3 (⟨tx, out, wit⟩, v) k j hl1.out
      rw [hll.out, hK.out] at hat
      simp only [hr.out] at hat
      obtain ⟨g, off, rfl, _, _, hc⟩ := (HH.out.below hbel).2 (by omega)
      obtain ⟨wa, wc, q0, q1, q2, q3, _⟩ := hc j hlt
      rw [hat] at q0 q1 q2 q3
      simp only [Mk.marks_length] at q0 q1 q2 q3
      have hend : K + 1 + 1 + (r : Int) ≤ 1000 := by
        have h1 := HE.out
        rw [← hll.out, Tr.mkE_append, hK.out] at h1
        simp only [Tr.mkE, hr.out] at h1
        have h2 := Tr.mkE_le l3 (K + 1 + 1 + (r : Int))
        omega
      have hcs := heldStringS_any wa r wc (Mk.marks (K + 1 + 1) r) (K + 1 + 1) wr q3 (fun i hi => Mk.marks_getD _ _ _ hi) (by omega) (by omega) (by omega)
      clear hat hc q3 hlen
      go_wp2_with fail
      refine hcs.mono ?_
      rintro e w3 ⟨rfl, hb3⟩
      have hb4 := hbel.trans (hb3.mono hbel.size)
      clear hcs q0 q1 q2 hb3
      go_wp2
      go_roundw
      case rel =>
        refine ⟨j + 1, by omega, by simp, K + 1 + 1 + (r : Int), l1 ++ [((⟨tx, out, wit⟩ : Tr.In), v)], l3, rfl, Lib.hid (by simp [hl1.out]), Lib.hid ?_, Lib.hid (by rw [← hll.out]; simp), by omega, hend, hb4⟩
        rw [Tr.mkE_append, hK.out]
        simp only [Tr.mkE, hr.out]
      case measure => simp [intOf]; omega
    · have hjn : j = n := by omega
      have hl2 : l2 = [] := by
        have e1 := congrArg List.length hll.out
        rw [HL.out, List.length_append, hl1.out] at e1
        exact List.eq_nil_of_length_eq_zero (by omega)
      subst hl2
      have hl1l : l1 = l := by have := hll.out; rwa [List.append_nil] at this
      subst hl1l
      have HJ := Lib.hid hjn
      clear hjn
      go_wp2
      go_ret
      exact ⟨by rw [hK.out]; rfl, hbel⟩
set_option maxRecDepth 100000 in
set_option maxHeartbeats 3200000 in
theorem heldOutS_any (lo : Nat) (a : Option Addr) (n c : Nat) (k : Int) (w : World) (h : OuL lo w a n (Tr.mkO k n)) (h0 : 1 ≤ k) (h1 : k ≤ 1000000) (hn : n ≤ 1048576) :
    Calls Try.prog 57 #[.slice a n c, .int .i64 k] w fun e w' => e = .returned (.int .i64 (k + 2 * (n : Int))) ∧ Below w.heap.size w w' := by
  have HH := Lib.hid h
  clear h
  go_enter Try.func57, Try.ntmps57
  go_wp2
  go_loopw [1, 5] (fun v i wr => ∃ j : Nat, j ≤ n ∧ i = .int .i64 (j : Int) ∧ v = .int .i64 (k + 2 * (j : Int)) ∧ Below w.heap.size w wr)
    (fun _ i _ => n - (intOf i).toNat)
  case atStart => exact ⟨0, by omega, rfl, by simp, Below.refl _ _⟩
  case round =>
    obtain ⟨j, hj, rfl, rfl, hbel⟩ := hrel
    by_cases hlt : j < n
    · obtain ⟨K, hK⟩ : ∃ K, Hid (k + 2 * (j : Int) = K) := ⟨_, Lib.hid rfl⟩
      have hK1 : 1 ≤ K := by have := hK.out; omega
      have hK2 : K ≤ 10000000 := by have := hK.out; omega
      have hat := Tr.mkO_at k n j hlt
      rw [hK.out] at hat
      obtain ⟨g, off, rfl, _, hgb, hc⟩ := (HH.out.below hbel).2 (by omega)
      obtain ⟨q0, q1⟩ := hc j hlt
      rw [hat] at q0 q1
      rw [hK.out]
      clear hat hc
      go_wp2
      go_region_with (go_at_call 72; go_must (refine (markTextW_any (K + 1) _ (by omega) (by omega)).mono ?_); go_must (rintro e w2 ⟨rfl, hb2⟩); have hck2 : w2.cell? ⟨g, off + j * 2 + 1, none⟩ = some (.string (Mk.mark (K + 1))) := (World.cell?_of_block (w := wr.drew) (a := ⟨g, off + j * 2 + 1, none⟩) (hb2.block g hgb)).trans q1)
      all_goals
        go_wp2
        go_roundw
        case rel => exact ⟨j + 1, by omega, by simp, by have := hK.out; simp; omega, hbel.drew.trans (hb2.mono hbel.size)⟩
        case measure => simp [intOf]; omega
    · have hn2 : j = n := by omega
      subst hn2
      go_wp2
      go_ret
      exact ⟨rfl, hbel⟩
set_option maxRecDepth 100000 in
set_option maxHeartbeats 3200000 in
theorem markTx_any (base hi : Nat) (a : Option Addr) (n c : Nat) (b : Option Addr) (m d : Nat) (af : Int) (nt : ByteArray) (l : List (Tr.In × Value)) (outs : List Tr.Out) (k : Int) (w : World) (h : OwnI base w (.slice a n c) l) (ho : OwnO base w (.slice b m d) outs) (hl : l.length = n) (hm : outs.length = m) (hd : DistW l) (hu : UpI hi (.slice a n c) l) (huo : ∀ q, (Value.slice b m d).ownBlock = some q → q < hi) (hhi : hi ≤ w.heap.size) (h0 : 1 ≤ k) (h1 : k ≤ 1000) (hn : n ≤ 1048576) (hmm : m ≤ 1048576) (hz : ∀ x ∈ l, x.1.wit.length ≤ 1048576) :
    Calls Try.prog 19 #[.agg #[.slice a n c, .slice b m d, .int .i64 af, .string nt], .int .i64 k] w fun e w' => e = .returned (.int .i64 (Tr.mkE k l + 2 * (m : Int))) ∧ OwnI base w' (.slice a n c) (Tr.mkI k l) ∧ OwnO base w' (.slice b m d) (Tr.mkO (Tr.mkE k l) m) ∧ Seg base hi w w' := by
  have hb0 : Below w.heap.size w (w.alloc (.cells #[.slice a n c, .slice b m d, .int .i64 af, .string nt] 31 (0, 0))) := (Below.refl _ _).alloc (Nat.le_refl _) _
  have v0 : Bk w.heap.size 31 #[.slice a n c, .slice b m d, .int .i64 af, .string nt] (w.alloc (.cells #[.slice a n c, .slice b m d, .int .i64 af, .string nt] 31 (0, 0))) := Bk.new _ _ _
  have hcI := markInS_any base hi a n c l k _ (h.belQ hb0) hl hd hu h0 (by omega) hn hz
  have HO1 := Lib.hid (ho.below13 hb0)
  have HUO : Hid (∀ q, (Value.slice b m d).ownBlock = some q → base ≤ q ∧ q < hi) := Lib.hid fun q hq => ⟨(World.ownsRow.lt ho q hq).1, huo q hq⟩
  obtain ⟨K, hK⟩ : ∃ K, Hid (Tr.mkE k l = K) := ⟨_, Lib.hid rfl⟩
  have hK0 : 1 ≤ K := by have h1 := Tr.mkE_le l k; have h2 := hK.out; omega
  have hK1 : K ≤ 2000000000000 := by have h1 := Tr.mkE_up l hz k; have h2 := hK.out; omega
  rw [hK.out] at hcI
  rw [hK.out]
  obtain ⟨c0, c1, c2, c3⟩ := Bk.c4 v0
  have HM := Lib.hid hm
  clear h ho hl hm hd hz hu huo
  go_enter Try.func19, Try.ntmps19
  go_wp2_with fail
  refine hcI.mono ?_
  rintro e w1 ⟨rfl, hI1, hsg1, hko1⟩
  have v1 := v0.seg hsg1 (.inr hhi)
  obtain ⟨d0, d1, d2, d3⟩ := Bk.c4 v1
  have hO1 : OwnO base w1 (.slice b m d) outs := hko1 _ _ _ _ HO1.out
  have hcO := markOutS_any base b m d outs K w1 hO1 HM.out hK0 (by omega) hmm
  have HX : Hid (OwnI base w1 (.slice a n c) (Tr.mkI k l) ∧ OwnO base w1 (.slice b m d) outs ∧ Seg base hi w w1) := Lib.hid ⟨hI1, hO1, (Seg.of_below hb0).trans hsg1⟩
  clear hcI c0 c1 c2 c3 hI1 hsg1 hko1 hO1 HO1 v0 hb0
  go_wp2_with fail
  refine hcO.mono ?_
  rintro e w2 ⟨rfl, hO2, hg2⟩
  have HN : Hid (OwnI base w2 (.slice a n c) (Tr.mkI k l) ∧ OwnO base w2 (.slice b m d) (Tr.mkO K m) ∧ Seg base hi w w2) := by
    obtain ⟨x1, x2, x3⟩ := HX.out
    refine Lib.hid ⟨⟨own_typesG x1.1 x2 (by decide) hg2, fun y hy => ⟨(x1.2 y hy).1, own_typesG (x1.2 y hy).2 x2 (by decide) hg2⟩⟩, hO2, x3.trans (Seg.of_grown hg2 HUO.out)⟩
  clear hcO hO2 hg2 HX v1 d0 d1 d2 d3
  go_wp2
  go_ret
  exact ⟨rfl, HN.out.1, HN.out.2.1, HN.out.2.2⟩
set_option maxRecDepth 100000 in
set_option maxHeartbeats 3200000 in
theorem heldTx_any (base : Nat) (a : Option Addr) (n c : Nat) (b : Option Addr) (m d : Nat) (af : Int) (nt : ByteArray) (l : List (Tr.In × Value)) (k : Int) (w : World) (h : OwnI base w (.slice a n c) (Tr.mkI k l)) (ho : OwnO base w (.slice b m d) (Tr.mkO (Tr.mkE k l) m)) (hl : l.length = n) (h0 : 1 ≤ k) (h1 : Tr.mkE k l ≤ 1000) (hn : n ≤ 1048576) (hmm : m ≤ 1000) :
    Calls Try.prog 20 #[.agg #[.slice a n c, .slice b m d, .int .i64 af, .string nt], .int .i64 k] w fun e w' => e = .returned (.int .i64 (Tr.mkE k l + 2 * (m : Int))) ∧ Below w.heap.size w w' := by
  have hb0 : Below w.heap.size w (w.alloc (.cells #[.slice a n c, .slice b m d, .int .i64 af, .string nt] 31 (0, 0))) := (Below.refl _ _).alloc (Nat.le_refl _) _
  have v0 : Bk w.heap.size 31 #[.slice a n c, .slice b m d, .int .i64 af, .string nt] (w.alloc (.cells #[.slice a n c, .slice b m d, .int .i64 af, .string nt] 31 (0, 0))) := Bk.new _ _ _
  obtain ⟨a', c', he, hI⟩ := h.inL
  rw [Tr.mkI_length, hl] at he hI
  cases he
  obtain ⟨b', d', he, hO⟩ := ho.ouL
  rw [Tr.mkO_length] at he hO
  cases he
  have hcI := heldInS_any base a n c l k _ (hI.below hb0) h0 h1 hn
  have HO := Lib.hid (hO.below hb0)
  have hK1 : Tr.mkE k l ≤ 1000 := h1
  have hK0 : 1 ≤ Tr.mkE k l := by have h1 := Tr.mkE_le l k; omega
  obtain ⟨K, hK⟩ : ∃ K, Hid (Tr.mkE k l = K) := ⟨_, Lib.hid rfl⟩
  rw [hK.out] at hcI HO hK0 hK1
  rw [hK.out]
  obtain ⟨c0, c1, c2, c3⟩ := Bk.c4 v0
  clear h ho hl h1 hI hO
  go_enter Try.func20, Try.ntmps20
  go_wp2_with fail
  refine hcI.mono ?_
  rintro e w1 ⟨rfl, hx⟩
  have v1 := v0.below hx
  have hb1 := hb0.trans (hx.mono hb0.size)
  obtain ⟨d0, d1, d2, d3⟩ := Bk.c4 v1
  have hcO := heldOutS_any base b m d K w1 (HO.out.below hx) hK0 (by omega) (by omega)
  clear hcI c0 c1 c2 c3 HO v0 hb0 hx
  go_wp2_with fail
  refine hcO.mono ?_
  rintro e w2 ⟨rfl, hx⟩
  have hb2 := hb1.trans (hx.mono hb1.size)
  clear hcO hx v1 d0 d1 d2 d3
  go_wp2
  go_ret
  exact ⟨rfl, hb2⟩
end Go.Proofs.Ytedjbikphdflhab
