/-
  The shared lock of the model, whole.
-/
import Derived.Test.YtoocibabceeagaaZj
import Derived.Test.YtoocibabceeagaaSm
namespace Go.Proofs.Ytoocibabceeagaa
open Go.RowKit

set_option maxRecDepth 100000 in
set_option maxHeartbeats 3200000 in
theorem LockMany_eq (need : Int) (a : Option Addr) (len cap : Nat) (zs : List Int) (w : World) (hz : IR w a len zs) (hlen : len ≤ 9223372036854775807) :
    Calls Try.prog 24 #[.int .i64 need, .slice a len cap] w fun e w' => (Lk.manyOk need zs = true → LkR (Lk.many need zs) w e w') ∧ (Lk.manyOk need zs = false → LkN w e w') := by
  obtain ⟨i0, hi, hz0, hz1, hz2⟩ := info_parts info_op
  have hzl := hz.1
  have HZ := Lib.hid hz
  have HL := Lib.hid hzl
  have hc1 := fun W => l6In_any (len : Int) 1 5 W
  have hc2 := fun W => l6In_any need 1 (len : Int) W
  have hmo : Lk.manyOk need zs = (Lk.manyLen len && Lk.manyNeed need len && zs.all Gr.kok) := by unfold Lk.manyOk; rw [hzl]
  obtain ⟨f1, HF1⟩ : ∃ f, Hid (Lk.manyLen len = f) := ⟨_, Lib.hid rfl⟩
  obtain ⟨f2, HF2⟩ : ∃ f, Hid (Lk.manyNeed need len = f) := ⟨_, Lib.hid rfl⟩
  have e1 : (decide ((1 : Int) ≤ (len : Int)) && decide ((len : Int) ≤ 5)) = f1 := HF1.out
  have e2 : (decide ((1 : Int) ≤ need) && decide (need ≤ (len : Int))) = f2 := HF2.out
  rw [e1] at hc1
  rw [e2] at hc2
  rw [HF1.out, HF2.out] at hmo
  obtain ⟨ok, HOK⟩ : ∃ x, Hid (Lk.manyOk need zs = x) := ⟨_, Lib.hid rfl⟩
  rw [HOK.out] at hmo ⊢
  have HMO := Lib.hid hmo
  clear hz hzl e1 e2 hmo
  cases f1
  · have HN : Hid (ok = false) := Lib.hid (by rw [HMO.out]; rfl)
    go_enter Try.func24, Try.ntmps24
    go_wp2_with fail
    refine (hc1 _).mono ?_
    rintro e w1 ⟨rfl, rfl⟩
    go_wp2
    go_ret2
    exact ⟨(fun h => by rw [HN.out] at h; cases h), fun _ => ⟨rfl, Below.refl _ _⟩⟩
  have hl5 : 1 ≤ len ∧ len ≤ 5 := by
    have := HF1.out
    unfold Lk.manyLen at this
    simp at this
    omega
  cases f2
  · have HN : Hid (ok = false) := Lib.hid (by rw [HMO.out]; rfl)
    go_enter Try.func24, Try.ntmps24
    go_wp2_with fail
    refine (hc1 _).mono ?_
    rintro e w1 ⟨rfl, rfl⟩
    go_wp2_with fail
    refine (hc2 _).mono ?_
    rintro e w2 ⟨rfl, rfl⟩
    go_wp2
    go_ret2
    exact ⟨(fun h => by rw [HN.out] at h; cases h), fun _ => ⟨rfl, Below.refl _ _⟩⟩
  have hown0 : (w.alloc (.cells #[] 54 (0, 0))).ownsRow w.heap.size 54 4 (.slice (some ⟨w.heap.size, 0, none⟩) 0 0) 0 [] := World.ownsRow_made (e := 54) (size := 4) w #[] 0 (Nat.le_refl _) (by decide) rfl
  have hb0 : Below w.heap.size w (w.alloc (.cells #[] 54 (0, 0))) := below_alloc (Below.refl _ _) _
  have HO0 := Lib.hid hown0
  clear hown0
  go_enter Try.func24, Try.ntmps24
  go_wp2_with fail
  refine (hc1 _).mono ?_
  rintro e w1 ⟨rfl, rfl⟩
  go_wp2_with fail
  refine (hc2 _).mono ?_
  rintro e w2 ⟨rfl, rfl⟩
  clear hc1 hc2
  go_wp2
  go_loopw [6, 7] (fun v i wr => ∃ (k g cp : Nat), k ≤ len ∧ i = .int .i64 (k : Int) ∧ v = .slice (some ⟨g, 0, none⟩) k cp ∧ Hid (∀ j, j < k → Gr.kok (zs.getD j 0) = true) ∧ Below w.heap.size w wr ∧ Hid (wr.ownsRow w.heap.size 54 4 (.slice (some ⟨g, 0, none⟩) k cp) k (Jo.cells (Lk.pre zs k))))
    (fun _ i _ => len - (intOf i).toNat)
  case atStart => exact ⟨0, w.heap.size, 0, by omega, rfl, rfl, Lib.hid (fun j hj => absurd hj (by omega)), hb0, HO0⟩
  case round =>
    obtain ⟨k, g, cp, hk, rfl, rfl, HV, hbel, HOWN⟩ := hrel
    clear hb0 HO0
    by_cases hlt : k < len
    · obtain ⟨b, off, rfl, _, hc⟩ := (HZ.out.below hbel).2 (by omega)
      have hck := hc k hlt
      obtain ⟨x, HX⟩ : ∃ x, Hid (zs.getD k 0 = x) := ⟨_, Lib.hid rfl⟩
      rw [HX.out] at hck
      have hcon1 := fun W => specKeyOk_any x W
      obtain ⟨f, HF⟩ : ∃ f, Hid (Gr.kok x = f) := ⟨_, Lib.hid rfl⟩
      rw [HF.out] at hcon1
      clear hc
      cases f
      · have HN : Hid (ok = false) := Lib.hid (by rw [HMO.out, Lk.all_no (zs := zs) (k := k) (by rw [HL.out]; exact hlt) (by rw [HX.out]; exact HF.out)]; rfl)
        go_wp2_with fail
        refine (hcon1 _).mono ?_
        rintro e w1 ⟨rfl, hw1⟩
        rw [hw1]
        clear hw1
        go_wp2
        go_ret2
        exact ⟨(fun h => by rw [HN.out] at h; cases h), fun _ => ⟨rfl, hbel⟩⟩
      · obtain ⟨r0, r1⟩ := Gr.kok_bd HF.out
        have hcon2 := fun W => l12Push_any x W r0 r1
        obtain ⟨t, HT⟩ : ∃ t, Hid (Dg.bytes x = t) := ⟨_, Lib.hid rfl⟩
        rw [HT.out] at hcon2
        clear r0 r1
        go_wp2_with fail
        refine (hcon1 _).mono ?_
        rintro e w1 ⟨rfl, hw1⟩
        rw [hw1]
        clear hw1
        go_wp2_with fail
        refine (hcon2 _).mono ?_
        rintro e w2 ⟨rfl, hb2⟩
        have hown2 := HOWN.out.kept (row := none) ⟨hb2.os, hb2.tape, hb2.output, hb2.size, fun k hk _ => hb2.block k hk⟩ (.inr (by simp [Value.ownBlock]))
        have hb3 := hbel.trans (hb2.mono hbel.size)
        have hsz3 := hb3.size
        clear HOWN hck hb2
        have S1 := Lib.hid (four_newZ w2 (.int .i64 0) (.int .i64 0) (.int .i64 0) (.string t) 54 w2.heap.size rfl)
        go_wp2_with (at_builtin; refine wpList_append_own _ rfl _ _ 39 rfl w.heap.size 54 i0 (.agg #[.int .i64 0, .int .i64 0, .int .i64 0, .string ⟨#[]⟩]) 4 40 Try.underlying39 hi hz0 hz1 hz2 rfl (by decide) _ _ _ rfl (hown2.alloc (.cells #[.int .i64 0, .int .i64 0, .int .i64 0, .string t] 54 (0, 0))) ⟨w2.heap.size, 0, none⟩ 1 1 [.int .i64 0, .int .i64 0, .int .i64 0, .string t] rfl rfl ?_ ?_ ?_ ?_ ?_ ?_)
        any_goals first | exact S1.out | (intro u hu; simp at hu; rcases hu with rfl | rfl | rfl | rfl <;> rfl) | (unfold maxLen; omega) | omega | exact Nat.le_trans hsz3 (by simp) | (simp; omega)
        intro v' w8 hown8 hgrow _
        have hb8 := Below.grown (below_alloc hb3 (.cells #[.int .i64 0, .int .i64 0, .int .i64 0, .string t] 54 (0, 0))) hgrow (below_alloc hb3 (.cells #[.int .i64 0, .int .i64 0, .int .i64 0, .string t] 54 (0, 0))).size (fun j he => (hown2.lt j he).1)
        obtain ⟨g8, cp8, rfl⟩ : ∃ g cp, v' = .slice (some ⟨g, 0, none⟩) (k + 1) cp := by
          rcases hown8.2 with ⟨h, h0⟩ | ⟨g, cap, cur, h, _⟩
          · omega
          · exact ⟨_, _, h⟩
        have hown9 : Hid (w8.ownsRow w.heap.size 54 4 (.slice (some ⟨g8, 0, none⟩) (k + 1) cp8) (k + 1) (Jo.cells (Lk.pre zs (k + 1)))) := Lib.hid (by
          rw [Lk.pre_snoc zs k (by rw [HL.out]; exact hlt), Jo.cells_append, HX.out]
          unfold Lk.push
          rw [HT.out]
          exact hown8)
        have HV2 : Hid (∀ j, j < k + 1 → Gr.kok (zs.getD j 0) = true) := Lib.hid fun j hj => by
          by_cases hjk : j = k
          · rw [hjk, HX.out]; exact HF.out
          · exact HV.out j (by omega)
        clear hown2 hgrow hown8 hb3 S1
        go_wp2
        go_roundw
        case rel => exact ⟨k + 1, g8, cp8, by omega, by simp, by simp, HV2, hb8, hown9⟩
        case measure => simp [intOf]; omega
    · obtain rfl : k = len := by omega
      have HN : Hid (ok = true) := Lib.hid (by rw [HMO.out, Lk.all_yes (zs := zs) (fun j hj => HV.out j (by rw [← HL.out]; exact hj))]; rfl)
      have hown2 := HOWN.out
      have hsz3 := hbel.size
      clear HOWN hlt
      have S1 := Lib.hid (four_newZ wr (.int .i64 12) (.int .i64 need) (.int .i64 (k : Int)) (.string ⟨#[]⟩) 54 wr.heap.size rfl)
      go_wp2_with (at_builtin; refine wpList_append_own _ rfl _ _ 39 rfl w.heap.size 54 i0 (.agg #[.int .i64 0, .int .i64 0, .int .i64 0, .string ⟨#[]⟩]) 4 40 Try.underlying39 hi hz0 hz1 hz2 rfl (by decide) _ _ _ rfl (hown2.alloc (.cells #[.int .i64 12, .int .i64 need, .int .i64 (k : Int), .string ⟨#[]⟩] 54 (0, 0))) ⟨wr.heap.size, 0, none⟩ 1 1 [.int .i64 12, .int .i64 need, .int .i64 (k : Int), .string ⟨#[]⟩] rfl rfl ?_ ?_ ?_ ?_ ?_ ?_)
      any_goals first | exact S1.out | (intro u hu; simp at hu; rcases hu with rfl | rfl | rfl | rfl <;> rfl) | (unfold maxLen; omega) | omega | exact Nat.le_trans hsz3 (by simp) | (simp; omega)
      intro v' w8 hown8 hgrow _
      have hb8 := Below.grown (below_alloc hbel (.cells #[.int .i64 12, .int .i64 need, .int .i64 (k : Int), .string ⟨#[]⟩] 54 (0, 0))) hgrow (below_alloc hbel (.cells #[.int .i64 12, .int .i64 need, .int .i64 (k : Int), .string ⟨#[]⟩] 54 (0, 0))).size (fun j he => (hown2.lt j he).1)
      obtain ⟨g8, cp8, rfl⟩ : ∃ g cp, v' = .slice (some ⟨g, 0, none⟩) (k + 1) cp := by
        rcases hown8.2 with ⟨h, h0⟩ | ⟨g, cap, cur, h, _⟩
        · omega
        · exact ⟨_, _, h⟩
      have ol : OL w8 (some ⟨g8, 0, none⟩) (k + 1) (Lk.many need zs) := (OL.own (by
        unfold Lk.many
        rw [Jo.cells_append, HL.out]
        exact hown8)).2
      have hcon := fun W h => l12Lock_eq (some ⟨g8, 0, none⟩) (k + 1) cp8 (Lk.many need zs) W h (by omega)
      unfold LkR at hcon
      obtain ⟨X, HX⟩ : ∃ x, Hid (Jo.bs (Lk.many need zs) = x) := ⟨_, Lib.hid rfl⟩
      obtain ⟨f, HF⟩ : ∃ x, Hid (Jo.ok (Lk.many need zs) = x) := ⟨_, Lib.hid rfl⟩
      rw [HX.out, HF.out] at hcon
      have HC := Lib.hid hcon
      have HOL := Lib.hid ol
      clear hown2 hgrow hown8 S1 hcon ol
      go_wp2_with fail
      refine (HC.out _ HOL.out).mono ?_
      rintro e wz ⟨rfl, hbz⟩
      have hbq := hb8.trans (hbz.mono hb8.size)
      clear hb8 hbz
      go_wp2
      go_ret2
      exact ⟨fun _ => ⟨by rw [HX.out, HF.out]; rfl, hbq⟩, (fun h => by rw [HN.out] at h; cases h)⟩
end Go.Proofs.Ytoocibabceeagaa
