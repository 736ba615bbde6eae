/-
  Contracts of the model: l13Copy.
-/
import Derived.Test.YtcbpdibkindnfaaTq
namespace Go.Proofs.Ytcbpdibkindnfaa
open Go.RowKit

/-- A transaction whose rows the call owns. -/
def CopyQ (n m : Nat) (t : Tr) (w : World) (e : Ending) (w' : World) : Prop :=
  ∃ a2 c2 b2 d2 ll, e = .returned (.agg #[.slice a2 n c2, .slice b2 m d2, .int .i64 t.after, .string t.note]) ∧ Hid (ll.map Prod.fst = t.ins) ∧ OwnI w.heap.size w' (.slice a2 n c2) ll ∧ OwnO w.heap.size w' (.slice b2 m d2) t.outs ∧ Hid (DistW ll) ∧ Below w.heap.size w w'
theorem OwnW.belQ {base : Nat} {w w' : World} {x : Tr.In × Value} (h : OwnW base w x) (hb : Below w.heap.size w w') : OwnW base w' x := ⟨h.1, own_belQ h.2 hb⟩
set_option maxRecDepth 100000 in
set_option maxHeartbeats 3200000 in
theorem l13Copy_any (lo : Nat) (a : Option Addr) (n c : Nat) (b : Option Addr) (m d : Nat) (t : Tr) (w : World) (h : TrR lo w a n b m t) (hn : n ≤ 1048576) (hm : m ≤ 1048576) (hz : ∀ x ∈ t.ins, x.wit.length ≤ 1048576) :
    Calls Try.prog 54 #[.agg #[.slice a n c, .slice b m d, .int .i64 t.after, .string t.note]] w (CopyQ n m t w) := by
  obtain ⟨i0, hi, hz0, hz1, hz2⟩ := info_parts info_in13
  obtain ⟨o0, ho, hp0, hp1, hp2⟩ := info_parts info_out13
  obtain ⟨s0, hs, ht0, ht1, ht2⟩ := info_parts (P := Try.prog) (e := 9) (z := .string ByteArray.empty) (size := 1) (bytes := 16) (by kernel_rfl)
  have HL := Lib.hid h.ins.1
  have HM := Lib.hid h.outs.1
  have HH := Lib.hid h
  have HZ := Lib.hid hz
  have vT0 : Bk w.heap.size 26 #[.slice a n c, .slice b m d, .int .i64 t.after, .string t.note] (((w.alloc (.cells #[.slice a n c, .slice b m d, .int .i64 t.after, .string t.note] 26 (0, 0))).alloc (.cells #[.slice none 0 0, .slice none 0 0, .int .i64 0, .string ⟨#[]⟩] 26 (0, 0))).alloc (.cells #[.slice none 0 0, .slice none 0 0, .int .i64 t.after, .string t.note] 26 (0, 0))) := ((Bk.new _ _ _).alloc _).alloc _
  have vT1 : Bk (w.heap.size + 1) 26 #[.slice none 0 0, .slice none 0 0, .int .i64 0, .string ⟨#[]⟩] (((w.alloc (.cells #[.slice a n c, .slice b m d, .int .i64 t.after, .string t.note] 26 (0, 0))).alloc (.cells #[.slice none 0 0, .slice none 0 0, .int .i64 0, .string ⟨#[]⟩] 26 (0, 0))).alloc (.cells #[.slice none 0 0, .slice none 0 0, .int .i64 t.after, .string t.note] 26 (0, 0))) := (Bk.new' _ _ _ _ (by simp)).alloc _
  have vT2 : Bk (w.heap.size + 1 + 1) 26 #[.slice none 0 0, .slice none 0 0, .int .i64 t.after, .string t.note] (((w.alloc (.cells #[.slice a n c, .slice b m d, .int .i64 t.after, .string t.note] 26 (0, 0))).alloc (.cells #[.slice none 0 0, .slice none 0 0, .int .i64 0, .string ⟨#[]⟩] 26 (0, 0))).alloc (.cells #[.slice none 0 0, .slice none 0 0, .int .i64 t.after, .string t.note] 26 (0, 0))) := Bk.new' _ _ _ _ (by simp)
  have hb0 : Below w.heap.size w (((w.alloc (.cells #[.slice a n c, .slice b m d, .int .i64 t.after, .string t.note] 26 (0, 0))).alloc (.cells #[.slice none 0 0, .slice none 0 0, .int .i64 0, .string ⟨#[]⟩] 26 (0, 0))).alloc (.cells #[.slice none 0 0, .slice none 0 0, .int .i64 t.after, .string t.note] 26 (0, 0))) := (((Below.refl _ _).alloc (Nat.le_refl _) _).alloc (by simp) _).alloc (by simp; omega) _
  clear h hz
  unfold CopyQ
  go_enter Try.func54, Try.ntmps54
  go_wp2
  go_loopw [4] (fun iv wr => ∃ k : Nat, k ≤ n ∧ iv = .int .i64 (k : Int) ∧ (∃ (l : List (Tr.In × Value)) (a2 : Option Addr) (c2 : Nat), Hid (l.map Prod.fst = t.ins.take k) ∧ Hid (l.length = k) ∧ Hid (∀ x ∈ l, OwnW w.heap.size wr x) ∧ Hid (wr.ownsRow w.heap.size 45 3 (.slice a2 k c2) k (Tr.ics l)) ∧ Hid (DistW l) ∧ Bk (w.heap.size + 1 + 1) 26 #[.slice a2 k c2, .slice none 0 0, .int .i64 t.after, .string t.note] wr) ∧ Bk w.heap.size 26 #[.slice a n c, .slice b m d, .int .i64 t.after, .string t.note] wr ∧ Bk (w.heap.size + 1) 26 #[.slice none 0 0, .slice none 0 0, .int .i64 0, .string ⟨#[]⟩] wr ∧ Below w.heap.size w wr)
    (fun iv _ => n - (intOf iv).toNat)
  case atStart => exact ⟨0, by omega, rfl, ⟨[], none, 0, Lib.hid rfl, Lib.hid rfl, Lib.hid (by intro x hx; cases hx), Lib.hid ⟨rfl, .inl ⟨rfl, rfl⟩⟩, Lib.hid DistW.nil, vT2⟩, vT0, vT1, hb0⟩
  case round =>
    obtain ⟨k, hk, rfl, ⟨l, a2, c2, hfst, hll, hws, how, hdi, vD⟩, vB, vR, hbel⟩ := hrel
    clear vT0 vT1 vT2 hb0
    by_cases hlt : k < n
    · obtain ⟨wq, hwq⟩ : ∃ x, x = wr := ⟨wr, rfl⟩
      subst hwq
      obtain ⟨g, off, rfl, _, _, hc⟩ := HH.out.ins.2 (by omega)
      obtain ⟨wa, wc, q0, q1, q2, q3, _⟩ := hc k hlt
      have hkl : k < t.ins.length := by have := HL.out; omega
      have hzk := HZ.out _ (Tr.inAt_mem hkl)
      have HTK0 : Hid (∀ x, Tr.inAt t.ins k = x → t.ins.take (k + 1) = t.ins.take k ++ [x]) := Lib.hid fun x hx => by
        rw [List.take_add_one, Tr.inAt_get hkl, hx]
        rfl
      obtain ⟨x, HX⟩ : ∃ x, Hid (Tr.inAt t.ins k = x) := ⟨_, Lib.hid rfl⟩
      rw [HX.out] at q0 q1 q2 q3 hzk
      have HTK := Lib.hid (HTK0.out x HX.out)
      obtain ⟨tx, out, wit⟩ := x
      simp only at q0 q1 q2 q3 hzk
      obtain ⟨r, hr⟩ : ∃ r, Hid (wit.length = r) := ⟨_, Lib.hid rfl⟩
      rw [hr.out] at q2 q3 hzk
      have hgw : Hid (∀ W, Below w.heap.size w W → W.cell? ⟨g, off + k * 3, none⟩ = some (.int .i64 tx) ∧ W.cell? ⟨g, off + k * 3 + 1, none⟩ = some (.int .i64 out) ∧ W.cell? ⟨g, off + k * 3 + 2, none⟩ = some (.slice wa r wc)) := Lib.hid fun W hW => ⟨cell_belQ hW q0, cell_belQ hW q1, cell_belQ hW q2⟩
      obtain ⟨e0, e1, e2⟩ := hgw.out wq hbel
      obtain ⟨e0', e1', e2'⟩ := hgw.out wq.drew hbel.drew
      obtain ⟨d0, d1, d2, d3⟩ := Bk.c4 vB
      obtain ⟨d0', d1', d2', d3'⟩ := Bk.c4 vB.drew
      have hb0 := hbel.drew.alloc (by have := hbel.size; simpa using this) (.cells #[.int .i64 tx, .int .i64 out, .slice none 0 0] 45 (0, 0))
      have hbx : Below wq.heap.size wq (wq.drew.alloc (.cells #[.int .i64 tx, .int .i64 out, .slice none 0 0] 45 (0, 0))) := (Below.refl _ _).drew.alloc (by simp) _
      have vX0 : Bk wq.heap.size 45 #[.int .i64 tx, .int .i64 out, .slice none 0 0] (wq.drew.alloc (.cells #[.int .i64 tx, .int .i64 out, .slice none 0 0] 45 (0, 0))) := Bk.new' _ _ _ _ (by simp)
      have hbZ : Below w.heap.size w (wq.alloc (.cells #[.int .i64 0, .int .i64 0, .slice none 0 0] 45 (0, 0))) := hbel.alloc hbel.size _
      obtain ⟨z0, z1, z2⟩ := hgw.out (wq.alloc (.cells #[.int .i64 0, .int .i64 0, .slice none 0 0] 45 (0, 0))).drew hbZ.drew
      obtain ⟨z3, z4, z5, z6⟩ := Bk.c4 (vB.alloc (.cells #[.int .i64 0, .int .i64 0, .slice none 0 0] 45 (0, 0))).drew
      clear hc q0 q1 q2 HTK0
      go_wp2
      go_region
      all_goals
        clear e0 e1 e2 e0' e1' e2' d0 d1 d2 d3 d0' d1' d2' d3'
        go_wp2
        go_loopw [6] (fun iv wr => ∃ (j : Nat) (aw : Option Addr) (cw : Nat), j ≤ r ∧ iv = .int .i64 (j : Int) ∧ Bk wq.heap.size 45 #[.int .i64 tx, .int .i64 out, .slice aw j cw] wr ∧ Hid (wr.ownsRow wq.heap.size 9 1 (.slice aw j cw) j ((wit.take j).map Value.string)) ∧ Below wq.heap.size wq wr)
          (fun iv _ => r - (intOf iv).toNat)
        case atStart => exact ⟨0, none, 0, by omega, rfl, vX0, Lib.hid ⟨rfl, .inl ⟨rfl, rfl⟩⟩, hbx⟩
        case round =>
          obtain ⟨j, aw, cw, hj, rfl, vX, hwo, hbw⟩ := hrel
          clear vX0 hbx hb0
          have hbW := below_aft13 hbel hbw
          obtain ⟨f0, f1, f2⟩ := hgw.out wr hbW
          obtain ⟨f0', f1', f2'⟩ := hgw.out wr.drew hbW.drew
          obtain ⟨g0, g1, g2, g3⟩ := Bk.c4 (vB.below hbw)
          obtain ⟨g0', g1', g2', g3'⟩ := Bk.c4 (vB.below hbw).drew
          obtain ⟨x0, x1, x2⟩ := c3q vX
          obtain ⟨x0', x1', x2'⟩ := c3q vX.drew
          have hx2' := vX.drew.fro 2
          by_cases hlj : j < r
          · obtain ⟨gw, ofw, rfl, _, hcw⟩ := q3.2 (by omega)
            have k0 := cell_belQ hbW (hcw j hlj)
            have k0' := cell_belQ hbW.drew (hcw j hlj)
            have hjl : j < wit.length := by have := hr.out; omega
            have HWK0 : Hid (∀ s, wit.getD j ByteArray.empty = s → (wit.take (j + 1)).map Value.string = (wit.take j).map Value.string ++ [.string s]) := Lib.hid fun s hs => by
              rw [List.take_add_one, List.getElem?_eq_getElem hjl, List.map_append]
              rw [List.getD_eq_getElem?_getD, List.getElem?_eq_getElem hjl] at hs
              simp only [Option.getD_some] at hs
              rw [hs]
              rfl
            obtain ⟨s, hsw⟩ : ∃ s, Hid (wit.getD j ByteArray.empty = s) := ⟨_, Lib.hid rfl⟩
            rw [hsw.out] at k0 k0'
            have HWK := Lib.hid (HWK0.out s hsw.out)
            have hww : wq.heap.size ≤ wr.heap.size := hbw.size
            have vXA := vX.alloc (.cells #[.string s] 9)
            obtain ⟨_, _, xb2⟩ := c3q vXA.drew
            clear hcw HWK0
            go_wp2
            clear x0 x1 x2 x0' x1' f0 f1 f2 f0' f1' g0 g1 g2 g3 g1' g2' g3' k0 hx2'
            go_region_law (first
              | (refine step_append_own rfl _ _ 35 rfl wq.heap.size 9 s0 (.string ByteArray.empty) 1 16 Try.underlying35 hs ht0 ht1 ht2 rfl (by decide) (.slice aw j cw) j ((wit.take j).map Value.string) rfl (by exact (own_drewQ (hwo.out.alloc _))) ⟨wr.heap.size, 0, none⟩ 1 1 [.string s] rfl rfl (by exact (one_newQ wr _ _ _ rfl)) (by intro u hu; simp at hu; subst hu; rfl) (by unfold maxLen; omega) (by omega) (by simp; omega) (fun v' w5 hown5 hg5 => ?_)
                 obtain ⟨a5, c5, rfl⟩ := own_shape13 hown5
                 have vX5 := vXA.drew.gb13 hg5 (own_bk13 hwo.out vX (by decide))
                 obtain ⟨_, _, y2⟩ := c3q vX5
                 have fy2 := vX5.fro 2))
            all_goals
              have vX6 := vX5.set 2 (.slice a5 (j + 1) c5)
              have hbN := (Below.grown ((hbw.alloc hww (.cells #[.string s] 9)).drew) hg5 (by simp; omega) (fun q he => (hwo.out.lt q he).1)).setCell (p := ⟨wq.heap.size, 2, none⟩) (Nat.le_refl _) (.slice a5 (j + 1) c5)
              have HWO := Lib.hid (own_grownQ hown5 vX5 (by decide) (grownBy_set w5 wq.heap.size 2 (.slice a5 (j + 1) c5)))
              rw [← HWK.out] at HWO
              clear hown5 hg5 vX5 vXA vX hwo hbw hbW k0' x2' f2' g0' xb2 y2 fy2
              go_wp2
              go_roundw
              case rel => exact ⟨j + 1, a5, c5, by omega, by simp, vX6, HWO, hbN⟩
              case measure => simp [intOf]; omega
          · have HJR : Hid (j = r) := Lib.hid (by omega)
            have hown : wr.ownsRow wq.heap.size 9 1 (.slice aw j cw) j (wit.map Value.string) := by
              have h1 := hwo.out
              rw [List.take_of_length_le (by rw [hr.out, HJR.out]; exact Nat.le_refl _)] at h1
              exact h1
            have HW1 : Hid (∀ y ∈ l, OwnW w.heap.size wr y) := Lib.hid fun y hy => (hws.out y hy).belQ hbw
            have HNW : Hid (OwnW w.heap.size wr (⟨tx, out, wit⟩, .slice aw j cw)) := Lib.hid ⟨⟨aw, cw, by simp only; rw [hr.out, HJR.out]⟩, by simp only; rw [hr.out, ← HJR.out]; exact ownsRow_base hown hbel.size⟩
            have HD2 : Hid (DistW (l ++ [(⟨tx, out, wit⟩, .slice aw j cw)])) := Lib.hid (hdi.out.push fun y hy => own_later (hws.out y hy).2 hown (Nat.le_refl _))
            have how1 := own_belQ how.out hbw
            have u0 := vB.below hbw
            have u1 := vR.below hbw
            have u2 := vD.below hbw
            obtain ⟨p0, p1, p2, p3⟩ := Bk.c4 u2
            have hsz := hbW.size
            clear hown hwo x0' x1' x2' hx2' f0' f1' f2' g0' g1' g2' g3' q3 hgw
            go_wp2_with (at_builtin; refine wpList_append_own _ rfl _ _ 23 rfl w.heap.size 45 i0 (.agg #[.int .i64 0, .int .i64 0, .slice none 0 0]) 3 40 Try.underlying23 hi hz0 hz1 hz2 rfl (by decide) _ _ _ rfl (how1.alloc _) ⟨wr.heap.size, 0, none⟩ 1 1 [.int .i64 tx, .int .i64 out, .slice aw j cw] rfl rfl ?_ ?_ ?_ ?_ ?_ ?_)
            any_goals first
              | exact three_new13 _ _ _ _ _ _ rfl
              | (intro u hu; simp at hu; rcases hu with rfl | rfl | rfl <;> rfl)
              | (unfold maxLen; omega)
              | omega
              | (simp; omega)
            intro v' w5 hown5 hg5 _
            obtain ⟨a5, c5, rfl⟩ := own_shape13 hown5
            have v0 := (u0.alloc (.cells #[.int .i64 tx, .int .i64 out, .slice aw j cw] 45)).gb13 hg5 (own_bk13 how1 u0 (by decide))
            have v1 := (u1.alloc (.cells #[.int .i64 tx, .int .i64 out, .slice aw j cw] 45)).gb13 hg5 (own_bk13 how1 u1 (by decide))
            have v2 := (u2.alloc (.cells #[.int .i64 tx, .int .i64 out, .slice aw j cw] 45)).gb13 hg5 (own_bk13 how1 u2 (by decide))
            have hb5 := Below.grown (hbW.alloc hsz (.cells #[.int .i64 tx, .int .i64 out, .slice aw j cw] 45)) hg5 (by simp; omega) (fun q he => (how1.lt q he).1)
            have t0 := v0.oset (w.heap.size + 1 + 1) 0 (.slice a5 (k + 1) c5) (by omega)
            have t1 := v1.oset (w.heap.size + 1 + 1) 0 (.slice a5 (k + 1) c5) (by omega)
            have t2 := v2.set 0 (.slice a5 (k + 1) c5)
            have hb6 := hb5.setCell (p := ⟨w.heap.size + 1 + 1, 0, none⟩) (by simp only; omega) (.slice a5 (k + 1) c5)
            have HOW2 : Hid ((w5.setCell ⟨w.heap.size + 1 + 1, 0, none⟩ (.slice a5 (k + 1) c5)).ownsRow w.heap.size 45 3 (.slice a5 (k + 1) c5) (k + 1) (Tr.ics (l ++ [((⟨tx, out, wit⟩ : Tr.In), Value.slice aw j cw)]))) := Lib.hid (by
              rw [Tr.ics_append]
              exact own_grownQ hown5 v2 (by decide) (grownBy_set _ _ _ _))
            have HF2 : Hid ((l ++ [((⟨tx, out, wit⟩ : Tr.In), Value.slice aw j cw)]).map Prod.fst = t.ins.take (k + 1)) := Lib.hid (by
              rw [List.map_append, hfst.out, HTK.out]
              rfl)
            have HL2 : Hid ((l ++ [((⟨tx, out, wit⟩ : Tr.In), Value.slice aw j cw)]).length = k + 1) := Lib.hid (by rw [List.length_append, hll.out]; rfl)
            have HWS2 : Hid (∀ y ∈ l ++ [((⟨tx, out, wit⟩ : Tr.In), Value.slice aw j cw)], OwnW w.heap.size (w5.setCell ⟨w.heap.size + 1 + 1, 0, none⟩ (.slice a5 (k + 1) c5)) y) := Lib.hid fun y hy => by
              have hk : ∀ y : Tr.In × Value, OwnW w.heap.size wr y → OwnW w.heap.size (w5.setCell ⟨w.heap.size + 1 + 1, 0, none⟩ (.slice a5 (k + 1) c5)) y := fun y hy =>
                ⟨hy.1, own_grownQ ((hy.2.alloc (.cells #[.int .i64 tx, .int .i64 out, .slice aw j cw] 45)).kept hg5 (own_types13 hy.2 how1 (by decide))) v2 (by decide) (grownBy_set _ _ _ _)⟩
              rcases List.mem_append.1 hy with hy | hy
              · exact hk y (HW1.out y hy)
              · rw [List.mem_singleton] at hy
                subst hy
                exact hk _ HNW.out
            obtain ⟨b0, b1, b2, b3⟩ := Bk.c4 v2
            obtain ⟨f0, f1, f2, f3⟩ := Bk.f4 v2
            clear u0 u1 u2 how1 hown5 hg5 v0 v1 v2 hb5 hfst hws how hdi hbel hbw hbW p0 p1 p2 p3 HTK HW1 HNW vX vB vR vD g0 g1 g2 g3 x0 x1 x2 hll
            go_wp2
            go_roundw
            case rel => exact ⟨k + 1, by omega, by simp, ⟨_, a5, c5, HF2, HL2, HWS2, HOW2, HD2, t2⟩, t0, t1, hb6⟩
            case measure => simp [intOf]; omega
    · have hk2 : k = n := by omega
      rw [hk2] at how vD
      have HOI : Hid (OwnI w.heap.size wr (.slice a2 n c2) l) := Lib.hid ⟨by rw [hll.out, hk2]; exact how.out, hws.out⟩
      have HF : Hid (l.map Prod.fst = t.ins) := Lib.hid (by rw [hfst.out, hk2, ← HL.out, List.take_length])
      obtain ⟨d0, d1, d2, d3⟩ := Bk.c4 vB
      clear hfst hll hws how hk2
      go_wp2
      clear d0 d1 d2 d3 hlt hk
      go_loopw [7] (fun iv wz => ∃ (j : Nat) (b2 : Option Addr) (e2 : Nat), j ≤ m ∧ iv = .int .i64 (j : Int) ∧ Hid (OwnI w.heap.size wz (.slice a2 n c2) l) ∧ Hid (wz.ownsRow w.heap.size 66 2 (.slice b2 j e2) j (Tr.ocs (t.outs.take j))) ∧ Bk (w.heap.size + 1 + 1) 26 #[.slice a2 n c2, .slice b2 j e2, .int .i64 t.after, .string t.note] wz ∧ Bk w.heap.size 26 #[.slice a n c, .slice b m d, .int .i64 t.after, .string t.note] wz ∧ Bk (w.heap.size + 1) 26 #[.slice none 0 0, .slice none 0 0, .int .i64 0, .string ⟨#[]⟩] wz ∧ Below w.heap.size w wz)
        (fun iv _ => m - (intOf iv).toNat)
      case atStart => exact ⟨0, none, 0, by omega, rfl, HOI, Lib.hid ⟨rfl, .inl ⟨rfl, rfl⟩⟩, vD, vB, vR, hbel⟩
      case round =>
        obtain ⟨j, b2, e2, hj, rfl, HOI2, hoo, vD2, vB2, vR2, hbel2⟩ := hrel
        clear HOI vD vB vR hbel
        obtain ⟨d0, d1, d2, d3⟩ := Bk.c4 vB2
        by_cases hlj : j < m
        · obtain ⟨g, off, rfl, _, _, hc⟩ := HH.out.outs.2 (by omega)
          obtain ⟨q0, q1⟩ := hc j hlj
          have hjl : j < t.outs.length := by have := HM.out; omega
          have HTK0 : Hid (∀ x, Tr.outAt t.outs j = x → t.outs.take (j + 1) = t.outs.take j ++ [x]) := Lib.hid fun x hx => by
            rw [List.take_add_one, Tr.outAt_get hjl, hx]
            rfl
          obtain ⟨x, HX⟩ : ∃ x, Hid (Tr.outAt t.outs j = x) := ⟨_, Lib.hid rfl⟩
          rw [HX.out] at q0 q1
          have HTK := Lib.hid (HTK0.out x HX.out)
          obtain ⟨am, lk⟩ := x
          simp only at q0 q1
          have k0 := cell_belQ hbel2 q0
          have k1 := cell_belQ hbel2 q1
          have k0' := cell_belQ hbel2.drew q0
          have k1' := cell_belQ hbel2.drew q1
          obtain ⟨d0', d1', d2', d3'⟩ := Bk.c4 vB2.drew
          have hww : w.heap.size ≤ wr.heap.size := hbel2.size
          have vDA := vD2.alloc (.cells #[.int .i64 am, .string lk] 66)
          obtain ⟨_, n1, _, _⟩ := Bk.c4 vD2.drew
          obtain ⟨_, p1', _, _⟩ := Bk.c4 vDA.drew
          clear hc q0 q1 HTK0
          go_wp2
          clear d0 d1 d2 d3 d0' d2' d3' k0 k1
          go_region_law (first
            | (refine step_append_own rfl _ _ 24 rfl w.heap.size 66 o0 (.agg #[.int .i64 0, .string ⟨#[]⟩]) 2 24 Try.underlying24 ho hp0 hp1 hp2 rfl (by decide) (.slice b2 j e2) j (Tr.ocs (t.outs.take j)) rfl (by exact (own_drewQ (hoo.out.alloc _))) ⟨wr.heap.size, 0, none⟩ 1 1 [.int .i64 am, .string lk] rfl rfl (by exact (two_newQ wr _ _ _ _ rfl)) (by intro u hu; simp at hu; rcases hu with rfl | rfl <;> rfl) (by unfold maxLen; omega) (by omega) (by simp; omega) (fun v' w5 hown5 hg5 => ?_)
               obtain ⟨a5, c5, rfl⟩ := own_shape13 hown5
               have vD5 := vDA.drew.gb13 hg5 (own_bk13 hoo.out vD2 (by decide))
               obtain ⟨_, y1, _, _⟩ := Bk.c4 vD5
               have fy1 := vD5.fro 1))
          all_goals
            have vD6 := vD5.set 1 (.slice a5 (j + 1) c5)
            have vB5 := ((vB2.alloc (.cells #[.int .i64 am, .string lk] 66)).drew.gb13 hg5 (own_bk13 hoo.out vB2 (by decide))).oset (w.heap.size + 1 + 1) 1 (.slice a5 (j + 1) c5) (by omega)
            have vR5 := ((vR2.alloc (.cells #[.int .i64 am, .string lk] 66)).drew.gb13 hg5 (own_bk13 hoo.out vR2 (by decide))).oset (w.heap.size + 1 + 1) 1 (.slice a5 (j + 1) c5) (by omega)
            have hbN := (Below.grown ((hbel2.alloc hww (.cells #[.int .i64 am, .string lk] 66)).drew) hg5 (by simp; omega) (fun q he => (hoo.out.lt q he).1)).setCell (p := ⟨w.heap.size + 1 + 1, 1, none⟩) (by simp only; omega) (.slice a5 (j + 1) c5)
            have HOO := Lib.hid (own_grownQ hown5 vD5 (by decide) (grownBy_set w5 (w.heap.size + 1 + 1) 1 (.slice a5 (j + 1) c5)))
            rw [show Tr.ocs (t.outs.take j) ++ [.int .i64 am, .string lk] = Tr.ocs (t.outs.take (j + 1)) by rw [HTK.out, Tr.ocs_append]; rfl] at HOO
            have hO2 : OwnO w.heap.size (wr.alloc (.cells #[.int .i64 am, .string lk] 66)).drew (.slice b2 j e2) (t.outs.take j) := by
              unfold OwnO
              rw [List.length_take, show min j t.outs.length = j by omega]
              exact hoo.out.alloc _
            have HOI5 := Lib.hid (((show OwnI w.heap.size (wr.alloc (.cells #[.int .i64 am, .string lk] 66)).drew (.slice a2 n c2) l from HOI2.out.alloc _).keptO13 hO2 hg5).set13 (i := 1) (u := .slice a5 (j + 1) c5) vD5)
            clear hown5 hg5 vD5 vDA vD2 vB2 vR2 hoo HOI2 hO2 hbel2 k0' k1' d1' n1 p1' y1 fy1
            go_wp2
            go_roundw
            case rel => exact ⟨j + 1, a5, c5, by omega, by simp, HOI5, HOO, vD6, vB5, vR5, hbN⟩
            case measure => simp [intOf]; omega
        · have hjm : j = m := by omega
          subst hjm
          have hR := vR2.store4 (.slice a2 n c2) (.slice b2 j e2) (.int .i64 t.after) (.string t.note)
          have HB := Lib.hid (below_store4 hbel2 (w.heap.size + 1) (by omega) (.slice a2 n c2) (.slice b2 j e2) (.int .i64 t.after) (.string t.note))
          have HO : Hid (OwnO w.heap.size wr (.slice b2 j e2) t.outs) := Lib.hid (by
            have h1 := hoo.out
            rw [show t.outs.take j = t.outs by rw [← HM.out, List.take_length]] at h1
            unfold OwnO
            rw [HM.out]
            exact h1)
          have HOI9 := Lib.hid ((((HOI2.out.set13 (i := 0) (u := .slice a2 n c2) vR2).set13 (i := 1) (u := .slice b2 j e2) (vR2.set 0 _)).set13 (i := 2) (u := .int .i64 t.after) ((vR2.set 0 _).set 1 _)).set13 (i := 3) (u := .string t.note) (((vR2.set 0 _).set 1 _).set 2 _))
          have HOO9 := Lib.hid (OwnO.set13 (OwnO.set13 (OwnO.set13 (OwnO.set13 HO.out (i := 0) (u := .slice a2 n c2) vR2) (i := 1) (u := .slice b2 j e2) (vR2.set 0 _)) (i := 2) (u := .int .i64 t.after) ((vR2.set 0 _).set 1 _)) (i := 3) (u := .string t.note) (((vR2.set 0 _).set 1 _).set 2 _))
          have HR := Lib.hid hR
          obtain ⟨x0, x1, x2, x3⟩ := Bk.c4 vD2
          obtain ⟨y0, y1, y2, y3⟩ := Bk.c4 vR2
          obtain ⟨f0, f1, f2, f3⟩ := Bk.f4 vR2
          clear hR hoo HO HOI2 vD2 vB2 vR2 hbel2
          go_wp2
          refine bodyPost_ret (results_cell_row (P := Try.prog) rfl _ _ (w.heap.size + 1) 26 _ (0, 0) _ rfl HR.out.held Try.underlying26 rfl (by kernel_rfl)) rfl ?_
          exact ⟨a2, c2, b2, e2, l, rfl, HF, HOI9.out, HOO9.out, hdi, HB.out⟩

end Go.Proofs.Ytcbpdibkindnfaa
