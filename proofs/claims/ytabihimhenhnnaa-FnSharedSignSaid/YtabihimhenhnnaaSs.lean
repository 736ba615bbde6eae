/-
  Contracts of chapter 7: SharedSign; of the program.
-/
import Derived.Test.YtabihimhenhnnaaSr
import Derived.Test.YtabihimhenhnnaaSt
import Derived.Deep.RegionHeld3
namespace Go.Proofs.Ytabihimhenhnnaa
open Go.RowKit

set_option maxRecDepth 100000 in
set_option maxHeartbeats 3200000 in
theorem implSharedSign_any (a : Option Addr) (len cap : Nat) (us : List Int) (t : ByteArray) (w : World) (h : IR w a len us) (hm : len ≤ 9223372036854775807) (ht : t.size ≤ 1048576) :
    Calls Try.prog 12 #[.slice a len cap, .string t] w fun e w' => e = .returned (.tuple #[.agg #[.int .i64 (Sd.s0 us t), .int .i64 (Sd.s1 us t)], .bool (Sd.sok us)]) ∧ Below w.heap.size w w' := by
  have hl := h.1
  have hmf := makeFunc_run7
  have e1 : ∀ args w, (callFunc 30 args).run Try.prog w = .ok (.enter 30 args) w := enters_of Try.func30 (by kernel_rfl) rfl
  have e2 : ∀ args w, (callFunc 32 args).run Try.prog w = .ok (.enter 32 args) w := enters_of Try.func32 (by kernel_rfl) rfl
  have HK0 : Bk w.heap.size 23 #[.slice a len cap] (((w.alloc (.cells #[.slice a len cap] 23 (0, 0))).alloc (.cells #[.string t] 9 (0, 0))).alloc (.cells #[.int .i64 0, .int .i64 0] 32 (0, 0))) := ((Bk.new w _ _).alloc _).alloc _
  have HT0 : Bk (w.heap.size + 1) 9 #[.string t] (((w.alloc (.cells #[.slice a len cap] 23 (0, 0))).alloc (.cells #[.string t] 9 (0, 0))).alloc (.cells #[.int .i64 0, .int .i64 0] 32 (0, 0))) := (Bk.new' _ _ _ _ (by simp)).alloc _
  have HZ0 : Bk (w.heap.size + 1 + 1) 32 #[.int .i64 0, .int .i64 0] (((w.alloc (.cells #[.slice a len cap] 23 (0, 0))).alloc (.cells #[.string t] 9 (0, 0))).alloc (.cells #[.int .i64 0, .int .i64 0] 32 (0, 0))) := Bk.new' _ _ _ _ (by simp)
  have hb0 : Below w.heap.size w (((w.alloc (.cells #[.slice a len cap] 23 (0, 0))).alloc (.cells #[.string t] 9 (0, 0))).alloc (.cells #[.int .i64 0, .int .i64 0] 32 (0, 0))) := below_alloc (below_alloc (below_alloc (Below.refl _ _) _) _) _
  obtain ⟨w0, Hw0⟩ : ∃ w0, Hid (((w.alloc (.cells #[.slice a len cap] 23 (0, 0))).alloc (.cells #[.string t] 9 (0, 0))).alloc (.cells #[.int .i64 0, .int .i64 0] 32 (0, 0)) = w0) := ⟨_, Lib.hid rfl⟩
  rw [Hw0.out] at HK0 HT0 HZ0 hb0
  have h0 := h.below hb0
  have hcon1 := gather_any 30 #[.pointer (some ⟨w.heap.size, 0, none⟩)] len (fun j => us.getD j 0) (Sd.keys us) (fun j => Gr.sok (us.getD j 0)) w0 hm (by rw [Sd.keys_len]; exact hl) e1
    (fun j hj hk => by rw [Sd.keys_get us j (by omega)]; exact Sd.kok_lt (Gr.key_kok hk))
    (fun j b W hj hb hbl hP => (fillSign_any j b w.heap.size a len cap us W hj ⟨(hb.block _ HK0.lt).trans HK0.held⟩ (h0.below hb) hP).mono fun e w' q => ⟨q.1, by unfold Pt.raw; rw [Sd.keys_get us j (by omega)]; exact q.2.1, q.2.2⟩)
  clear h h0 HK0 e1
  go_enter Try.func12, Try.ntmps12
  go_wp2_with fail
  rw [Hw0.out]
  refine hcon1.mono ?_
  rintro e3 w1 ⟨hb1, ⟨rfl, hno⟩ | ⟨g, bs, rfl, hg, hr, hok, hL, hB, hC⟩⟩
  · have HN := Lib.hid (Sd.s_no t (Sd.sok_no hl hno))
    have HZ1 := HZ0.below hb1
    have hc1 := below_after hb0 hb1
    clear hcon1 hno hl hb0 hb1 Hw0 HZ0 HT0 e2
    obtain ⟨z0, z1⟩ := Bk.c2 HZ1
    obtain ⟨f0, f1⟩ := HZ1.f2
    have HX3 := Bk.store2 HZ1 (.int .i64 0) (.int .i64 0)
    have hc3 := below_store2 hc1 (w.heap.size + 1 + 1) (by omega) (.int .i64 0) (.int .i64 0)
    clear HZ1 hc1
    go_wp2
    refine bodyPost_ret (results_cell_row2 (P := Try.prog) rfl _ _ (w.heap.size + 1 + 1) 32 _ (0, 0) _ rfl HX3.held Try.underlying32 rfl (by kernel_rfl)) rfl ?_
    exact ⟨by rw [HN.out.1, HN.out.2.1, HN.out.2.2]; rfl, hc3⟩
  have hsg : Sd.sgood us us.length = true := Sd.sgood_all us us.length (fun j hj => hok j (by omega))
  have hkl : (Sd.keys us).length = len := by rw [Sd.keys_len]; exact hl
  have hgd := Sd.good_keys us hsg
  have hcon2 := sharedKeyOf_any g len bs (fun j => us.getD j 0) (Sd.keys us) w1 hkl hr.2 hL hC (fun j hj => Sd.kok_bd hgd j (by omega))
  obtain ⟨r1, r2⟩ := Sd.res_eq (ks := Sd.keys us) (by omega) hgd
  rw [r1, r2] at hcon2
  have hse := Sd.sok_eq hsg
  have HZ1 := HZ0.below hb1
  have HT1 := HT0.below hb1
  have hc1 := below_after hb0 hb1
  clear hcon1 hok HZ0 HT0 hb0 hb1 Hw0 r1 r2
  cases hk : Sd.ok (Sd.keys us)
  · have HN := Lib.hid (Sd.s_no t (hse.trans hk))
    rw [hk, Sd.res_no hk] at hcon2
    clear hsg hgd hse hk hL hB hC hr hg HT1 e2 hl hkl
    go_wp2_with fail
    refine hcon2.mono ?_
    rintro e4 w2 ⟨rfl, hb2⟩
    have HZ2 := HZ1.below hb2
    have hc2 := below_after hc1 hb2
    clear HZ1 hc1 hb2 hcon2
    obtain ⟨z0, z1⟩ := Bk.c2 HZ2
    obtain ⟨f0, f1⟩ := HZ2.f2
    have HX3 := Bk.store2 HZ2 (.int .i64 0) (.int .i64 0)
    have hc3 := below_store2 hc2 (w.heap.size + 1 + 1) (by omega) (.int .i64 0) (.int .i64 0)
    clear HZ2 hc2
    go_wp2
    refine bodyPost_ret (results_cell_row2 (P := Try.prog) rfl _ _ (w.heap.size + 1 + 1) 32 _ (0, 0) _ rfl HX3.held Try.underlying32 rfl (by kernel_rfl)) rfl ?_
    exact ⟨by rw [HN.out.1, HN.out.2.1, HN.out.2.2]; rfl, hc3⟩
  · obtain ⟨s1, s2⟩ := Sd.s_yes t (hse.trans hk)
    have HN : Hid (Sd.sok us = true ∧ Sd.s0 us t = Sd.sr us t ∧ Sd.s1 us t = Sd.ss us t) := Lib.hid ⟨hse.trans hk, s1, s2⟩
    rw [hk, Sd.res_yes hk] at hcon2
    have hkk := Sg.kok_ok (Sd.key_kok hk)
    obtain ⟨nb0, nb1⟩ := Sd.ns_bd us t len
    obtain ⟨xb0, xb1⟩ := Sd.xs_bd us len
    have HNS : Hid (Sd.ns us t us.length = Sd.ns us t len) := Lib.hid (by rw [hl])
    have hro : Gr.ok (Sd.sr us t) = true := Gr.ok_yes (Sg.gp_E (by rw [HNS.out]; exact nb0))
    have hconB : ∀ W, Calls Try.prog 36 #[.agg #[.int .i64 (Sd.ns us t len), .int .i64 1073741789]] W fun x w' => x = .returned (.agg #[.int .i64 (Sd.sr us t), .int .i64 2147483579]) ∧ Below W.heap.size W w' := fun W => by
      have := basePower_any (Sd.ns us t len) 1073741789 W (by omega)
      rw [← HNS.out] at this ⊢
      exact this
    have hconC : ∀ W, Calls Try.prog 38 #[.int .i64 (Sd.sr us t), .int .i64 (Sd.key (Sd.keys us)), .string t] W fun x w' => x = .returned (.int .i64 (Sd.sc us t)) ∧ Below W.heap.size W w' := fun W => implChallenge_yes (Sd.sr us t) (Sd.key (Sd.keys us)) t W hro hkk ht
    obtain ⟨cb0, cb1⟩ : 0 ≤ Sd.sc us t ∧ Sd.sc us t < 1073741789 := Sg.ch_bd _ _ _
    have hconA : ∀ W, Calls Try.prog 37 #[.agg #[.int .i64 (Sd.ns us t len), .int .i64 1073741789], .int .i64 (Sd.sc us t), .agg #[.int .i64 (Sd.xs us len), .int .i64 1073741789]] W fun x w' => x = .returned (.agg #[.int .i64 (Sd.ss us t), .int .i64 1073741789]) ∧ Below W.heap.size W w' := fun W => by
      have := answer_any (Sd.ns us t len) (Sd.sc us t) (Sd.xs us len) W nb0 nb1 cb0 cb1 xb0 xb1
      unfold Sd.ss
      rw [hl]
      exact this
    have HUB : Hid (∀ j, j < len → 1 ≤ us.getD j 0 ∧ us.getD j 0 < 1073741789) := Lib.hid fun j hj => (Gr.sok_iff _).mp (Sd.sgood_at us _ hsg j (by omega))
    have HW : Hid (∀ w2, Below w1.heap.size w1 w2 → ∀ w3, w3 = (w2.alloc (.cells #[.int .i64 0, .int .i64 1073741789] 50 (0, 0))).alloc (.cells #[.int .i64 0, .int .i64 1073741789] 50 (0, 0)) →
        Calls Try.prog 31 #[.slice (some ⟨g, 0, none⟩) len len, .func (.func 32) #[] #[.pointer (some ⟨w2.heap.size, 0, none⟩), .pointer (some ⟨w.heap.size + 1, 0, none⟩), .pointer (some ⟨w2.heap.size + 1, 0, none⟩)]] w3 fun e w' => e = .returned (.tuple #[]) ∧
          Bk w2.heap.size 50 #[.int .i64 (Sd.ns us t len), .int .i64 1073741789] w' ∧ Bk (w2.heap.size + 1) 50 #[.int .i64 (Sd.xs us len), .int .i64 1073741789] w' ∧ Below w2.heap.size w2 w') := Lib.hid fun w2 hb2 w3 h3 => by
      have HA : Bk w2.heap.size 50 #[.int .i64 0, .int .i64 1073741789] w3 := by rw [h3]; exact (Bk.new w2 _ _).alloc _
      have HB : Bk (w2.heap.size + 1) 50 #[.int .i64 0, .int .i64 1073741789] w3 := by rw [h3]; exact Bk.new' _ _ _ _ (by simp)
      have hb3 : Below w2.heap.size w2 w3 := by rw [h3]; exact below_alloc (below_alloc (Below.refl _ _) _) _
      have hT2 := HT1.below hb2
      have hC2 : PC len bs (Pt.wtd (fun j => us.getD j 0) (Sd.keys us)) w2 := hC.below (fun j hj => hC.lt j hj) hb2
      have hL2 : PL g len bs w2 := hL.below (by obtain ⟨L, q, _⟩ := hL; exact q.lt) hb2
      refine walk_any 32 _ g len bs (fun j W => Bk w2.heap.size 50 #[.int .i64 (Sd.ns us t j), .int .i64 1073741789] W ∧ Bk (w2.heap.size + 1) 50 #[.int .i64 (Sd.xs us j), .int .i64 1073741789] W ∧ Below w2.heap.size w2 W) w3 (by omega) e2 ?_ ?_ ⟨HA, HB, hb3⟩
      · intro j W hj hI
        exact (hL2.below (by obtain ⟨L, q, _⟩ := hL2; exact q.lt) hI.2.2).cell j hj
      · rintro j W hj ⟨hI1, hI2, hI3⟩
        obtain ⟨v0, v1⟩ := HUB.out j hj
        have hp := hC2.below (fun j hj => hC2.lt j hj) hI3 j hj
        obtain ⟨u0, u1⟩ := Sd.wt_bd (Sd.keys us) j
        obtain ⟨a0, a1⟩ := Sd.ns_bd us t j
        obtain ⟨b0, b1⟩ := Sd.xs_bd us j
        refine (signStep_any (bs j) w2.heap.size (w.heap.size + 1) (w2.heap.size + 1) (us.getD j 0) ((Sd.keys us).getD j 0) (Sd.wt (Sd.keys us) j) (Sd.ns us t j) (Sd.xs us j) t W (by omega) (by omega) (by omega) u1 a0 a1 b0 b1 ht w2.heap.size (hC2.lt j hj) (Nat.le_refl _) (by omega) (by omega) hp ⟨(hI3.block _ hT2.lt).trans hT2.held⟩ hI1 hI2).mono ?_
        rintro e w' ⟨rfl, q1, q2, q3⟩
        exact ⟨rfl, q1, q2, hI3.trans q3⟩
    obtain ⟨K, HK⟩ : ∃ K, Hid (Sd.key (Sd.keys us) = K) := ⟨_, Lib.hid rfl⟩
    obtain ⟨R, HR⟩ : ∃ R, Hid (Sd.sr us t = R) := ⟨_, Lib.hid rfl⟩
    obtain ⟨S, HS⟩ : ∃ S, Hid (Sd.ss us t = S) := ⟨_, Lib.hid rfl⟩
    obtain ⟨C, HCC⟩ : ∃ C, Hid (Sd.sc us t = C) := ⟨_, Lib.hid rfl⟩
    obtain ⟨A, HA⟩ : ∃ A, Hid (Sd.ns us t len = A) := ⟨_, Lib.hid rfl⟩
    obtain ⟨X, HX⟩ : ∃ X, Hid (Sd.xs us len = X) := ⟨_, Lib.hid rfl⟩
    rw [HK.out] at hcon2 hconC
    rw [HR.out] at hconB hconC HN
    rw [HCC.out] at hconC hconA
    rw [HA.out] at hconB hconA HW
    rw [HX.out] at hconA HW
    rw [HS.out] at hconA HN
    have hf1 := field_n R 2147483579
    have hf2 := field_n S 1073741789
    clear hsg hgd hse hk hL hB hC hr hg e2 hl hkl s1 s2 hkk hro nb0 nb1 xb0 xb1 cb0 cb1 HNS HUB HK HR HS HCC HA HX
    go_wp2_with fail
    refine hcon2.mono ?_
    rintro e4 w2 ⟨rfl, hb2⟩
    have HZ2 := HZ1.below hb2
    have HT2 := HT1.below hb2
    have hc2 := below_after hc1 hb2
    have hwc := HW.out w2 hb2 _ rfl
    clear HZ1 HT1 hc1 hb2 hcon2 HW
    go_wp2_with fail
    refine hwc.mono ?_
    rintro e5 w4 ⟨rfl, HA4, HB4, hb4⟩
    have HZ4 := HZ2.below hb4
    have HT4 := HT2.below hb4
    have hc4 := below_after hc2 hb4
    have lz := HZ2.lt
    have lt2 := HT2.lt
    clear HZ2 HT2 hb4 hwc
    obtain ⟨a40, a41⟩ := Bk.c2 HA4
    go_wp2_with fail
    refine (hconB _).mono ?_
    rintro e6 w5 ⟨rfl, hb5⟩
    have HA5 := HA4.below hb5
    have HB5 := HB4.below hb5
    have HZ5 := HZ4.below hb5
    have HT5 := HT4.below hb5
    have hc5 := below_after hc4 hb5
    clear HA4 HB4 HZ4 HT4 hc4 hb5 a40 a41 hconB
    have hSof : ∀ W, Bk w2.heap.size 50 #[.int .i64 A, .int .i64 1073741789] W → Bk (w.heap.size + 1) 9 #[.string t] W → Bk (w2.heap.size + 1) 50 #[.int .i64 X, .int .i64 1073741789] W → W.cell? ⟨w2.heap.size, 0, none⟩ = some (.int .i64 A) ∧ W.cell? ⟨w2.heap.size, 1, none⟩ = some (.int .i64 1073741789) ∧ W.cell? ⟨w.heap.size + 1, 0, none⟩ = some (.string t) ∧ W.cell? ⟨w2.heap.size + 1, 0, none⟩ = some (.int .i64 X) ∧ W.cell? ⟨w2.heap.size + 1, 1, none⟩ = some (.int .i64 1073741789) := fun W h1 h2 h3 => ⟨h1.cell 0, h1.cell 1, h2.cell 0, h3.cell 0, h3.cell 1⟩
    have hS5 := hSof _ HA5.drew HT5.drew HB5.drew
    go_wp2
    go_region_held3 (fun W => W.cell? ⟨w2.heap.size, 0, none⟩ = some (.int .i64 A) ∧ W.cell? ⟨w2.heap.size, 1, none⟩ = some (.int .i64 1073741789) ∧ W.cell? ⟨w.heap.size + 1, 0, none⟩ = some (.string t) ∧ W.cell? ⟨w2.heap.size + 1, 0, none⟩ = some (.int .i64 X) ∧ W.cell? ⟨w2.heap.size + 1, 1, none⟩ = some (.int .i64 1073741789)) (first | with_reducible exact hS5 | with_reducible exact hS6 | with_reducible exact hS7 | with_reducible exact hS8)
      (first
        | (go_at_call 38; refine (hconC w5.drew).mono ?_; rintro e7 w6 ⟨rfl, hb6⟩; have HA6 := HA5.drew.below hb6; have HB6 := HB5.drew.below hb6; have HT6 := HT5.drew.below hb6; have HZ6 := HZ5.drew.below hb6; have hS6 := hSof _ HA6 HT6 HB6; have hc6 := below_after hc5.drew hb6)
        | (go_at_call 37; refine (hconA w6).mono ?_; rintro e8 w7 ⟨rfl, hb7⟩; have HA7 := HA6.below hb7; have HB7 := HB6.below hb7; have HT7 := HT6.below hb7; have HZ7 := HZ6.below hb7; have hS7 := hSof _ HA7 HT7 HB7; have hc7 := below_after hc6 hb7; obtain ⟨z0, z1⟩ := Bk.c2 HZ7; obtain ⟨f0, f1⟩ := HZ7.f2; have HZ8 := Bk.store2 HZ7 (.int .i64 R) (.int .i64 S); have hS8 := hSof _ (Bk.other2 HA7 (w.heap.size + 1 + 1) (by omega) (.int .i64 R) (.int .i64 S)) (Bk.other2 HT7 (w.heap.size + 1 + 1) (by omega) (.int .i64 R) (.int .i64 S)) (Bk.other2 HB7 (w.heap.size + 1 + 1) (by omega) (.int .i64 R) (.int .i64 S)); have hc8 := below_store2 hc7 (w.heap.size + 1 + 1) (by omega) (.int .i64 R) (.int .i64 S)))
    all_goals
      go_wp2
      refine bodyPost_ret (results_cell_row2 (P := Try.prog) rfl _ _ (w.heap.size + 1 + 1) 32 _ (0, 0) _ rfl HZ8.held Try.underlying32 rfl (by kernel_rfl)) rfl ?_
      exact ⟨by rw [HN.out.1, HN.out.2.1, HN.out.2.2]; rfl, hc8⟩
end Go.Proofs.Ytabihimhenhnnaa
