/-
  The program's coins: one more, one less, the sum.
-/
import Derived.Test.YtohameoomlehlabGa
namespace Go.Proofs.Ytohameoomlehlab
open Go.RowKit Go.Maps

theorem Co.add_if {l : List Co} (hl : Co.lok l = true) (x : Co) : Co.add l x = if (x.ok && ((Co.pick l x.tx x.out).isNone && !decide (l.length = 80))) = true then some (Co.put l (Co.at_ l x.tx x.out) x) else none := by
  have hg := (Co.good_iff l).1 hl
  cases ho : x.ok with
  | false => rw [Co.add_no2 ho]; rfl
  | true =>
    by_cases h80 : l.length = 80
    · rw [Co.add_no3 h80, decide_eq_true h80]
      cases (Co.pick l x.tx x.out).isNone <;> rfl
    · cases hh : Co.has l x.tx x.out with
      | true => rw [Co.add_no4 hh, Co.pick_has hg hh]; rfl
      | false => rw [Co.add_yes hl ho h80 hh, Co.pick_not hg hh, decide_eq_false h80]; rfl
theorem Co.add_goodG {l : List Co} (hl : Co.lok l = true) {x : Co} (h : (x.ok && ((Co.pick l x.tx x.out).isNone && !decide (l.length = 80))) = true) : Co.Good (Co.put l (Co.at_ l x.tx x.out) x) := by
  have hg := (Co.good_iff l).1 hl
  simp only [Bool.and_eq_true, Bool.not_eq_true', decide_eq_false_iff_not] at h
  obtain ⟨h1, h2, h3⟩ := h
  have hh : Co.has l x.tx x.out = false := by
    cases hh : Co.has l x.tx x.out with
    | false => rfl
    | true => rw [Co.pick_has hg hh] at h2; cases h2
  have := hg.len
  exact (Co.put_good hg ((Co.ok_iff x).1 h1) (by omega) hh).1
theorem CoAA.mkC {l l2 : List Co} {ok ok2 : Bool} {w : World} {e : Ending} {w' : World} {v : Value} (he : e = .returned (.tuple #[v, .bool ok2])) (HL : Hid (l = l2)) (HK : Hid (ok = ok2)) (HO : Hid (OwnC w.heap.size w' v l2)) (hb : Below w.heap.size w w') : CoAA l ok w e w' := by
  rw [HL.out, HK.out]
  exact ⟨v, he, HO, hb⟩
set_option maxRecDepth 100000 in
set_option maxHeartbeats 800000 in
theorem implCoinsAdd_any (lo : Nat) (a : Option Addr) (n c : Nat) (l : List Co) (tx out amt : Int) (lock : ByteArray) (ht : Int) (rew : Bool) (w : World) (h : CoL lo w a n l) (hcap : n ≤ c) (hn : n ≤ 1048576) (hs : ∀ x ∈ l, x.lock.size ≤ 1048576) (hz : lock.size ≤ 1048576) (hi : Co.In tx out) :
    Calls Try.prog 22 #[.slice a n c, .agg #[.int .i64 tx, .int .i64 out, .int .i64 amt, .string lock, .int .i64 ht, .bool rew]] w (CoAA ((Co.add l ⟨tx, out, amt, lock, ht, rew⟩).getD []) (Co.add l ⟨tx, out, amt, lock, ht, rew⟩).isSome w) := by
  have hb0 : Below w.heap.size w (w.alloc (.cells #[.int .i64 tx, .int .i64 out, .int .i64 amt, .string lock, .int .i64 ht, .bool rew] 30 (0, 0))) := (Below.refl _ _).alloc (Nat.le_refl _) _
  have v0 : Bk w.heap.size 30 #[.int .i64 tx, .int .i64 out, .int .i64 amt, .string lock, .int .i64 ht, .bool rew] (w.alloc (.cells #[.int .i64 tx, .int .i64 out, .int .i64 amt, .string lock, .int .i64 ht, .bool rew] 30 (0, 0))) := Bk.new _ _ _
  cases hl : Co.lok l with
  | false =>
    rw [Co.add_no1 hl]
    have hc := coinMapOf_no lo a n c l _ (h.alloc (.cells #[.int .i64 tx, .int .i64 out, .int .i64 amt, .string lock, .int .i64 ht, .bool rew] 30 (0, 0))) hcap hn hs hl
    clear h hs hl hcap v0
    go_enter Try.func22, Try.ntmps22
    go_wp2_with fail
    refine hc.mono ?_
    rintro e w1 ⟨rfl, hx⟩
    have hb1 := hb0.trans (hx.mono hb0.size)
    clear hc hb0 hx
    go_wp2
    go_ret2
    exact ⟨_, rfl, Lib.hid (OwnC.nilC _ _), hb1⟩
  | true =>
    have HIF := Lib.hid (Co.add_if hl ⟨tx, out, amt, lock, ht, rew⟩)
    have HGD := Lib.hid (fun h => Co.add_goodG hl (x := ⟨tx, out, amt, lock, ht, rew⟩) h)
    have HPM := Lib.hid (Co.put_perm l (Co.at_ l tx out) ⟨tx, out, amt, lock, ht, rew⟩)
    have hc := coinMapOf_yes lo a n c l _ (h.alloc (.cells #[.int .i64 tx, .int .i64 out, .int .i64 amt, .string lock, .int .i64 ht, .bool rew] 30 (0, 0))) hcap hn hs hl
    clear h hs hl hcap
    go_enter Try.func22, Try.ntmps22
    go_wp2_with fail
    refine hc.mono ?_
    rintro e w1 ⟨B, rfl, hB, HM, hx⟩
    have v1 := v0.below hx
    have hb1 := hb0.trans (hx.mono hb0.size)
    have hwB : w.heap.size ≤ B := by simp at hB; omega
    have hca := add_any B n w.heap.size l tx out amt lock ht rew w1 HM.out hn hwB hi (by omega)
    obtain ⟨c0, c1, c2, c3, c4, c5⟩ := Bk.c6 v1
    clear hc v0 hb0 hx hB
    go_wp2_with fail
    refine hca.mono ?_
    rintro e w2 ⟨rfl, hm2, hb2⟩
    have hb3 := hb1.trans hb2
    simp only at hm2
    have HM2 := Lib.hid hm2
    clear hca v1 hb1 hb2 hm2 c0 c1 c2 c3 c4 c5
    obtain ⟨r, HR⟩ : ∃ r, Hid ((Co.ok ⟨tx, out, amt, lock, ht, rew⟩ && ((Co.pick l tx out).isNone && !decide (l.length = 80))) = r) := ⟨_, Lib.hid rfl⟩
    simp only [HR.out]
    cases r
    · have HA : Hid (Co.add l ⟨tx, out, amt, lock, ht, rew⟩ = none) := Lib.hid (by rw [HIF.out]; simp only [HR.out]; rfl)
      go_wp2
      go_ret2
      exact CoAA.mkC rfl (Lib.hid (by rw [HA.out]; rfl)) (Lib.hid (by rw [HA.out]; rfl)) (Lib.hid (OwnC.nilC _ _)) hb3
    · have HA : Hid (Co.add l ⟨tx, out, amt, lock, ht, rew⟩ = some (Co.put l (Co.at_ l tx out) ⟨tx, out, amt, lock, ht, rew⟩)) := Lib.hid (by rw [HIF.out]; simp only [HR.out]; rfl)
      have hio := inOrder_any B (n + 1) (l ++ [⟨tx, out, amt, lock, ht, rew⟩]) (Co.put l (Co.at_ l tx out) ⟨tx, out, amt, lock, ht, rew⟩) w2 (HM2.out HR.out) (HGD.out HR.out) HPM.out
      go_wp2_with fail
      refine hio.mono ?_
      rintro e w3 ⟨v, rfl, HO, hb4⟩
      have hb5 := hb3.trans (hb4.mono hb3.size)
      have HO2 := Lib.hid (OwnC.base HO.out hb3.size)
      clear hio hb3 hb4 HO
      go_wp2
      go_ret2
      exact CoAA.mkC rfl (Lib.hid (by rw [HA.out]; rfl)) (Lib.hid (by rw [HA.out]; rfl)) HO2 hb5
theorem CoSA.mkC {l l2 : List Co} {x x2 : Co} {ok ok2 : Bool} {w : World} {e : Ending} {w' : World} {v : Value} (he : e = .returned (.tuple #[v, .agg #[.int .i64 x2.tx, .int .i64 x2.out, .int .i64 x2.amt, .string x2.lock, .int .i64 x2.ht, .bool x2.rew], .bool ok2])) (HL : Hid (l = l2)) (HX : Hid (x = x2)) (HK : Hid (ok = ok2)) (HO : Hid (OwnC w.heap.size w' v l2)) (hb : Below w.heap.size w w') : CoSA l x ok w e w' := by
  rw [HL.out, HX.out, HK.out]
  exact ⟨v, he, HO, hb⟩
theorem Bk.set6o {D B : Nat} {t : TypeId} {cs : Array Value} {w : World} (h : Bk D t cs w) (hne : D ≠ B) (v0 v1 v2 v3 v4 v5 : Value) : Bk D t cs ((((((w.setCell ⟨B, 0, none⟩ v0).setCell ⟨B, 1, none⟩ v1).setCell ⟨B, 2, none⟩ v2).setCell ⟨B, 3, none⟩ v3).setCell ⟨B, 4, none⟩ v4).setCell ⟨B, 5, none⟩ v5) :=
  ⟨((gtrans6 w B v0 v1 v2 v3 v4 v5).block D h.lt (fun e => hne (Option.some.inj e))).trans h.held⟩
set_option maxRecDepth 100000 in
set_option maxHeartbeats 1600000 in
theorem implCoinsSpend_any (lo : Nat) (a : Option Addr) (n c : Nat) (l : List Co) (t o : Int) (w : World) (h : CoL lo w a n l) (hcap : n ≤ c) (hn : n ≤ 1048576) (hs : ∀ x ∈ l, x.lock.size ≤ 1048576) (hi : Co.In t o) :
    Calls Try.prog 26 #[.slice a n c, .int .i64 t, .int .i64 o] w (CoSA ((Co.spend l t o).map Prod.fst |>.getD []) (Co.get ((Co.spend l t o).map Prod.snd)) (Co.spend l t o).isSome w) := by
  have hb0 : Below w.heap.size w (w.alloc (.cells #[.int .i64 0, .int .i64 0, .int .i64 0, .string ⟨#[]⟩, .int .i64 0, .bool false] 30 (0, 0))) := (Below.refl _ _).alloc (Nat.le_refl _) _
  have v0 : Bk w.heap.size 30 #[.int .i64 0, .int .i64 0, .int .i64 0, .string ⟨#[]⟩, .int .i64 0, .bool false] (w.alloc (.cells #[.int .i64 0, .int .i64 0, .int .i64 0, .string ⟨#[]⟩, .int .i64 0, .bool false] 30 (0, 0))) := Bk.new _ _ _
  cases hl : Co.lok l with
  | false =>
    have HSN := Lib.hid (Co.spend_none (Co.find_no1 (t := t) (o := o) hl))
    have hc := coinMapOf_no lo a n c l _ (h.alloc (.cells #[.int .i64 0, .int .i64 0, .int .i64 0, .string ⟨#[]⟩, .int .i64 0, .bool false] 30 (0, 0))) hcap hn hs hl
    clear h hs hl hcap
    go_enter Try.func26, Try.ntmps26
    go_wp2_with fail
    refine hc.mono ?_
    rintro e w1 ⟨rfl, hx⟩
    have v1 := v0.below hx
    have hb1 := hb0.trans (hx.mono hb0.size)
    have hR := v1.store6 (.int .i64 0) (.int .i64 0) (.int .i64 0) (.string ⟨#[]⟩) (.int .i64 0) (.bool false)
    have hb2 := below_set6 hb1 (B := w.heap.size) (Nat.le_refl _) (.int .i64 0) (.int .i64 0) (.int .i64 0) (.string ⟨#[]⟩) (.int .i64 0) (.bool false)
    obtain ⟨c0, c1, c2, c3, c4, c5⟩ := Bk.c6 v1
    obtain ⟨f0, f1, f2, f3, f4, f5⟩ := Bk.f6 v1
    clear hc v0 hb0 hx hb1
    go_wp2
    refine bodyPost_ret (results_rowC3 (P := Try.prog) rfl _ _ w.heap.size 30 _ (0, 0) _ rfl hR.held Try.underlying30 rfl (by kernel_rfl)) rfl ?_
    exact CoSA.mkC (x2 := ⟨0, 0, 0, ⟨#[]⟩, 0, false⟩) rfl (Lib.hid (by rw [HSN.out]; rfl)) (Lib.hid (by rw [HSN.out]; rfl)) (Lib.hid (by rw [HSN.out]; rfl)) (Lib.hid (OwnC.nilC _ _)) hb2
  | true =>
    have HPF := Lib.hid (Co.pick_find hl t o)
    have HG := Lib.hid ((Co.good_iff l).1 hl)
    have hc := coinMapOf_yes lo a n c l _ (h.alloc (.cells #[.int .i64 0, .int .i64 0, .int .i64 0, .string ⟨#[]⟩, .int .i64 0, .bool false] 30 (0, 0))) hcap hn hs hl
    clear h hs hl hcap
    go_enter Try.func26, Try.ntmps26
    go_wp2_with fail
    refine hc.mono ?_
    rintro e w1 ⟨B, rfl, hB, HM, hx⟩
    have v1 := v0.below hx
    have hb1 := hb0.trans (hx.mono hb0.size)
    have hwB : w.heap.size + 1 ≤ B := by simp at hB; omega
    have hcs := spend_any B n (w.heap.size + 1) l t o w1 HM.out hwB hi
    clear hc v0 hb0 hx hB
    go_wp2_with fail
    refine hcs.mono ?_
    rintro e w2 ⟨rfl, hm2, hb2⟩
    have HM2 := Lib.hid hm2
    have v2 : Bk w.heap.size 30 #[.int .i64 0, .int .i64 0, .int .i64 0, .string ⟨#[]⟩, .int .i64 0, .bool false] w2 := ⟨(hb2.block _ (by omega)).trans v1.held⟩
    have hb3 := hb1.trans (hb2.mono (by omega))
    obtain ⟨y, HY⟩ : ∃ y, Hid (Co.get (Co.pick l t o) = y) := ⟨_, Lib.hid rfl⟩
    rw [HY.out]
    obtain ⟨p, HP⟩ : ∃ p, Hid ((Co.pick l t o).isSome = p) := ⟨_, Lib.hid rfl⟩
    rw [HP.out]
    obtain ⟨y0, y1, y2, y3, y4, y5⟩ := y
    simp only [Co.val]
    have v3 := v2.alloc (.cells #[.int .i64 y0, .int .i64 y1, .int .i64 y2, .string y3, .int .i64 y4, .bool y5] 30 (0, 0))
    have u3 := Bk.new w2 30 #[.int .i64 y0, .int .i64 y1, .int .i64 y2, .string y3, .int .i64 y4, .bool y5]
    have hb4 := hb3.alloc hb3.size (.cells #[.int .i64 y0, .int .i64 y1, .int .i64 y2, .string y3, .int .i64 y4, .bool y5] 30 (0, 0))
    have hne : w2.heap.size ≠ w.heap.size := by have := v2.lt; omega
    have HLT2 := Lib.hid v2.lt
    clear hcs v1 hb1 hb2 hm2 v2
    cases p
    · have HSN : Hid (Co.spend l t o = none) := Lib.hid (Co.spend_none (by
        rw [← HPF.out]
        cases hq : Co.pick l t o with
        | none => rfl
        | some z => have := HP.out; rw [hq] at this; cases this))
      have hR := v3.store6 (.int .i64 0) (.int .i64 0) (.int .i64 0) (.string ⟨#[]⟩) (.int .i64 0) (.bool false)
      have hb5 := below_set6 hb4 (B := w.heap.size) (Nat.le_refl _) (.int .i64 0) (.int .i64 0) (.int .i64 0) (.string ⟨#[]⟩) (.int .i64 0) (.bool false)
      obtain ⟨c0, c1, c2, c3, c4, c5⟩ := Bk.c6 v3
      obtain ⟨f0, f1, f2, f3, f4, f5⟩ := Bk.f6 v3
      clear v3 u3 hb4 hb3
      go_wp2
      refine bodyPost_ret (results_rowC3 (P := Try.prog) rfl _ _ w.heap.size 30 _ (0, 0) _ rfl hR.held Try.underlying30 rfl (by kernel_rfl)) rfl ?_
      exact CoSA.mkC (x2 := ⟨0, 0, 0, ⟨#[]⟩, 0, false⟩) rfl (Lib.hid (by rw [HSN.out]; rfl)) (Lib.hid (by rw [HSN.out]; rfl)) (Lib.hid (by rw [HSN.out]; rfl)) (Lib.hid (OwnC.nilC _ _)) hb5
    · have HPS : Hid (Co.pick l t o = some ⟨y0, y1, y2, y3, y4, y5⟩) := Lib.hid (by
        have h1 := HP.out
        have h2 := HY.out
        cases hq : Co.pick l t o with
        | none => rw [hq] at h1; cases h1
        | some z => rw [hq] at h2; unfold Co.get at h2; simp only [Option.getD_some] at h2; rw [h2])
      have HHAS : Hid (Co.has l t o = true) := Lib.hid (by
        cases hq : Co.has l t o with
        | true => rfl
        | false => have := Co.pick_not HG.out hq; rw [HPS.out] at this; cases this)
      have HSS : Hid (Co.spend l t o = some (Co.cut l (Co.at_ l t o), ⟨y0, y1, y2, y3, y4, y5⟩)) := Lib.hid (Co.spend_some (by rw [← HPF.out]; exact HPS.out))
      have HGC : Hid (Co.Good (Co.cut l (Co.at_ l t o))) := Lib.hid (Co.cut_good HG.out ((Co.has_iff _ _ _).1 HHAS.out).1).1
      have HM3 : Hid (CM (w2.alloc (.cells #[.int .i64 y0, .int .i64 y1, .int .i64 y2, .string y3, .int .i64 y4, .bool y5] 30 (0, 0))).drew B n (Co.cut l (Co.at_ l t o))) := Lib.hid (by
        have := HM2.out _ HPS.out
        rw [Co.drop_cut HG.out HHAS.out] at this
        exact (this.alloc _).drew)
      have hio := inOrder_any B n _ _ _ HM3.out HGC.out (List.Perm.refl _)
      have hS0 : ((w2.alloc (.cells #[.int .i64 y0, .int .i64 y1, .int .i64 y2, .string y3, .int .i64 y4, .bool y5] 30 (0, 0))).drew.cell? ⟨w2.heap.size, 0, none⟩ = some (.int .i64 y0) ∧ (w2.alloc (.cells #[.int .i64 y0, .int .i64 y1, .int .i64 y2, .string y3, .int .i64 y4, .bool y5] 30 (0, 0))).drew.cell? ⟨w2.heap.size, 1, none⟩ = some (.int .i64 y1) ∧ (w2.alloc (.cells #[.int .i64 y0, .int .i64 y1, .int .i64 y2, .string y3, .int .i64 y4, .bool y5] 30 (0, 0))).drew.cell? ⟨w2.heap.size, 2, none⟩ = some (.int .i64 y2) ∧ (w2.alloc (.cells #[.int .i64 y0, .int .i64 y1, .int .i64 y2, .string y3, .int .i64 y4, .bool y5] 30 (0, 0))).drew.cell? ⟨w2.heap.size, 3, none⟩ = some (.string y3) ∧ (w2.alloc (.cells #[.int .i64 y0, .int .i64 y1, .int .i64 y2, .string y3, .int .i64 y4, .bool y5] 30 (0, 0))).drew.cell? ⟨w2.heap.size, 4, none⟩ = some (.int .i64 y4) ∧ (w2.alloc (.cells #[.int .i64 y0, .int .i64 y1, .int .i64 y2, .string y3, .int .i64 y4, .bool y5] 30 (0, 0))).drew.cell? ⟨w2.heap.size, 5, none⟩ = some (.bool y5)) := Bk.c6 u3.drew
      have hb4d := hb4.drew
      have v3d := v3.drew
      have u3d := u3.drew
      obtain ⟨f0, f1, f2, f3, f4, f5⟩ := Bk.f6 v3d
      clear v3 u3 hb4 hb3 HM3
      go_wp2
      go_region_held3 (fun W => (W.cell? ⟨w2.heap.size, 0, none⟩ = some (.int .i64 y0) ∧ W.cell? ⟨w2.heap.size, 1, none⟩ = some (.int .i64 y1) ∧ W.cell? ⟨w2.heap.size, 2, none⟩ = some (.int .i64 y2) ∧ W.cell? ⟨w2.heap.size, 3, none⟩ = some (.string y3) ∧ W.cell? ⟨w2.heap.size, 4, none⟩ = some (.int .i64 y4) ∧ W.cell? ⟨w2.heap.size, 5, none⟩ = some (.bool y5))) (first | with_reducible exact hS0 | with_reducible exact hS1 | with_reducible exact hS2)
        (first | (go_at_call 44; refine hio.mono ?_; rintro e w3 ⟨v, rfl, HO, hx3⟩; have v4 := v3d.below hx3; have u4 := u3d.below hx3; have hS1 := Bk.c6 u4; obtain ⟨k0, k1, k2, k3, k4, k5⟩ := Bk.c6 v4; obtain ⟨m0, m1, m2, m3, m4, m5⟩ := Bk.f6 v4; have hb5 := hb4d.trans (hx3.mono hb4d.size); have hR := v4.store6 (.int .i64 y0) (.int .i64 y1) (.int .i64 y2) (.string y3) (.int .i64 y4) (.bool y5); have hS2 := Bk.c6 (u4.set6o hne (.int .i64 y0) (.int .i64 y1) (.int .i64 y2) (.string y3) (.int .i64 y4) (.bool y5)); have hb6 := below_set6 hb5 (B := w.heap.size) (Nat.le_refl _) (.int .i64 y0) (.int .i64 y1) (.int .i64 y2) (.string y3) (.int .i64 y4) (.bool y5); have HO2 := Lib.hid (OwnC.set6 (OwnC.base (base' := w2.heap.size) HO.out (by simp)) (B := w.heap.size) (by have := HLT2.out; omega) (.int .i64 y0) (.int .i64 y1) (.int .i64 y2) (.string y3) (.int .i64 y4) (.bool y5))))
      go_wp2
      refine bodyPost_ret (results_rowC3 (P := Try.prog) rfl _ _ w.heap.size 30 _ (0, 0) _ rfl hR.held Try.underlying30 rfl (by kernel_rfl)) rfl ?_
      exact CoSA.mkC (x2 := ⟨y0, y1, y2, y3, y4, y5⟩) rfl (Lib.hid (by rw [HSS.out]; rfl)) (Lib.hid (by rw [HSS.out]; rfl)) (Lib.hid (by rw [HSS.out]; rfl)) (Lib.hid (OwnC.base HO2.out (by have := HLT2.out; omega))) hb6
set_option maxRecDepth 100000 in
set_option maxHeartbeats 800000 in
theorem implCoinsSum_any (lo : Nat) (a : Option Addr) (n c : Nat) (l : List Co) (w : World) (h : CoL lo w a n l) (hcap : n ≤ c) (hn : n ≤ 1048576) (hs : ∀ x ∈ l, x.lock.size ≤ 1048576) :
    Calls Try.prog 28 #[.slice a n c] w fun e w' => e = .returned (.int .i64 (Co.total l)) ∧ Below w.heap.size w w' := by
  have hc0 := implCoinsOk_any lo a n c l w h hcap hn hs
  have HTO : Hid (Co.total l = if Co.lok l = true then Co.sum l else -1) := Lib.hid rfl
  have HL := Lib.hid h.1
  have HH := Lib.hid h
  have HGG := Lib.hid (Co.good_iff l)
  obtain ⟨K, hK⟩ : ∃ x, Co.lok l = x := ⟨_, rfl⟩
  rw [hK] at hc0 HTO HGG
  clear hK h hs
  cases K
  · rw [HTO.out]
    clear HH HL HTO HGG
    go_enter Try.func28, Try.ntmps28
    go_wp2_with fail
    refine hc0.mono ?_
    rintro e w1 ⟨rfl, hb⟩
    go_wp2
    go_ret
    exact ⟨rfl, hb⟩
  have HT : Hid (Co.sum (l.take n) = Co.sum l) := Lib.hid (by rw [← HL.out, List.take_length])
  have HG : Hid (∀ x ∈ l, 1 ≤ x.amt ∧ x.amt ≤ 1000000) := Lib.hid (fun x hx => (Co.good_mem (HGG.out.1 rfl) x hx).amt)
  rw [HTO.out, if_pos rfl, ← HT.out]
  clear HTO HGG
  go_enter Try.func28, Try.ntmps28
  go_wp2_with fail
  refine hc0.mono ?_
  rintro e w1 ⟨rfl, hb⟩
  clear hc0
  go_wp2
  go_loopw [3, 11] (fun s i wr => ∃ k : Nat, k ≤ n ∧ i = .int .i64 (k : Int) ∧ s = .int .i64 (Co.sum (l.take k)) ∧ Below w.heap.size w wr)
    (fun _ i _ => n - (intOf i).toNat)
  case atStart => exact ⟨0, by omega, rfl, by simp [Co.sum], hb⟩
  case round =>
    clear hb
    obtain ⟨k, hk, rfl, rfl, hbel⟩ := hrel
    by_cases hlt : k < n
    · obtain ⟨g, off, rfl, _, hgw, hc⟩ := (HH.out.below hbel).2 (by omega)
      obtain ⟨e0, e1, e2, e3, e4, e5⟩ := hc k hlt
      have hkl : k < l.length := by rw [HL.out]; exact hlt
      have HS := Lib.hid (Co.sum_take hkl)
      have hx := HG.out _ (Co.nth_mem hkl)
      have hs := Co.sum_bd (l := l.take k) (fun x hx => HG.out x (List.mem_of_mem_take hx))
      rw [List.length_take, Nat.min_eq_left (Nat.le_of_lt hkl)] at hs
      obtain ⟨y, HX⟩ : ∃ x, Hid (Co.nth l k = x) := ⟨_, Lib.hid rfl⟩
      rw [HX.out] at e0 e1 e2 e3 e4 e5 hx HS
      obtain ⟨y0, y1, x, y3, y4, y5⟩ := y
      simp only at e0 e1 e2 e3 e4 e5 hx HS
      obtain ⟨S, HSS⟩ : ∃ x, Hid (Co.sum (l.take k) = x) := ⟨_, Lib.hid rfl⟩
      rw [HSS.out] at hs ⊢
      obtain ⟨hs0, hs1⟩ := hs
      obtain ⟨hx0, hx1⟩ := hx
      have hw1 : IntKind.i64.wrap (S + x) = S + x := IntWalk.i64_in _ (by omega)
      have hb2 := hbel.alloc hbel.size (.cells #[.int .i64 y0, .int .i64 y1, .int .i64 x, .string y3, .int .i64 y4, .bool y5] 30 (0, 0))
      clear hc HG HH
      go_wp2
      go_roundw
      case rel => exact ⟨k + 1, by omega, by simp, by rw [HS.out, HSS.out], hb2⟩
      case measure => simp [intOf]; omega
    · have hkn : k = n := by omega
      have HKN := Lib.hid hkn
      obtain ⟨S, HSS⟩ : ∃ x, Hid (Co.sum (l.take k) = x) := ⟨_, Lib.hid rfl⟩
      rw [HSS.out]
      clear HG HH hkn
      go_wp2
      go_ret
      exact ⟨by rw [← HKN.out, HSS.out]; rfl, hbel⟩
end Go.Proofs.Ytohameoomlehlab
