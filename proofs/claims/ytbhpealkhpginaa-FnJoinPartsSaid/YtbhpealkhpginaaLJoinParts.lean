/- For every code of at most 1<<20 bytes (longer ones are let pass by the law itself): JoinParts answers as the model's JoinParts, and the same of the shares in the opposite order. -/
import Derived.Test.YtbhpealkhpginaaRows
import Derived.Test.YtbhpealkhpginaaQi
import Derived.Test.YtbhpealkhpginaaDy
import Derived.WalkKit
import Derived.WalkSpells
import Derived.ProofKit
import Derived.OpenShut
import Derived.ShutString
import Derived.Below
import Derived.SliceStrings
namespace Go.Proofs.Ytbhpealkhpginaa.fnJoinParts
open Go.ChangeShapes Go.WideShapes Go.ChangeAt Go.RowKit
open Go.ChangeMaps (open_string shut_string)
set_option maxRecDepth 100000 in
set_option maxHeartbeats 3200000 in
theorem walk (a0 : Option Addr) (len0 cap0 : Nat) (z0 : List Int) (w : World) (w0 : IsRow .u8 w a0 len0 cap0 z0) :
    Calls Try.prog 4 #[.slice a0 len0 cap0] w fun e w' => e = .returned (.bool true) ∧ Below w.heap.size w w' := by
  obtain ⟨j0, hj, hy0, hy1, hy2⟩ := info_parts info_part
  have hcm := w0.len
  by_cases h : (1048576 : Int) < (len0 : Int)
  · go_enter Try.func4, Try.ntmps4
    go_wp2
    go_ret
    exact ⟨rfl, Below.refl _ _⟩
  go_enter Try.func4, Try.ntmps4
  go_wp2_with fail
  refine (drawJoinParts_any a0 len0 cap0 z0 _ w0 (by omega)).mono ?_
  rintro e w1 ⟨l, g, cp, rfl, n0, _, h1, hb1⟩
  clear w0 h hcm
  have HQ1 := (QR.own h1).2
  have hcp := own_cap h1
  have hcon1 := fun W (h : QR W (some ⟨g, 0, none⟩) l.length l) => implJoinParts_any _ l.length cp l W h hcp (by omega)
  have hcon2 := fun W (h : QR W (some ⟨g, 0, none⟩) l.length l) => specJoinParts_any _ l.length cp l W h
  obtain ⟨m, hm⟩ : ∃ m, l.length = m := ⟨_, rfl⟩
  have HM := Lib.hid hm
  clear h1
  cases hok : Po.ok l
  · rw [Po.join_no hok, hok, hm] at hcon1 hcon2
    rw [hm] at HQ1
    rw [hm]
    clear hok hm n0
    go_wp2_with fail
    refine (hcon1 _ HQ1).mono ?_
    rintro e w2 ⟨rfl, hb2⟩
    have HQ2 := HQ1.below hb2
    replace hb2 := below_after hb1 hb2
    clear hb1 HQ1
    go_wp2_with fail
    refine (hcon2 _ HQ2).mono ?_
    rintro e w3 ⟨rfl, hb3⟩
    replace hb3 := below_after hb2 hb3
    clear hb2 HQ2 hcon1 hcon2
    go_wp2
    go_ret
    exact ⟨rfl, hb3⟩
  · obtain ⟨k1, k2⟩ := Po.bk_ok hok
    have HV := Po.join_yes hok
    have hcon3 := fun W (a : Option Addr) (c : Nat) (h : QR W a (Po.bk l l.length).length (Po.bk l l.length)) (hc : (Po.bk l l.length).length ≤ c) => implJoinParts_any a _ c (Po.bk l l.length) W h hc (by rw [Po.bk_len]; omega)
    rw [Po.join_yes k1, k1, k2, Po.bk_len] at hcon3
    rw [HV, hok] at hcon1 hcon2
    obtain ⟨K, HK⟩ : ∃ K, Hid (Po.val l 0 = K) := ⟨_, Lib.hid rfl⟩
    rw [HK.out, hm] at hcon1 hcon2 hcon3
    rw [hm] at HQ1 n0
    rw [hm]
    have hm1 := ((Po.ok_iff l).mp hok).1.1
    rw [hm] at hm1
    clear hok hm HV HK k1 k2
    go_wp2_with fail
    refine (hcon1 _ HQ1).mono ?_
    rintro e w2 ⟨rfl, hb2⟩
    have HQ2 := HQ1.below hb2
    replace hb2 := below_after hb1 hb2
    clear hb1 HQ1
    go_wp2_with fail
    refine (hcon2 _ HQ2).mono ?_
    rintro e w3 ⟨rfl, hb3⟩
    have HQ3 := HQ2.below hb3
    replace hb3 := below_after hb2 hb3
    clear hb2 HQ2 hcon1 hcon2
    have hown0 := World.ownsRow_made (e := 35) (size := 2) w3 #[] 0 (Nat.le_refl _) (by decide) rfl
    have hB := below_alloc (Below.refl w3.heap.size w3) (.cells #[] 35)
    obtain ⟨B2, hB2⟩ : ∃ B, Hid (B = w3.heap.size) := ⟨_, Lib.hid rfl⟩
    rw [← hB2.out] at hown0 hB
    go_wp2
    go_loopw [9, 10] (fun o i wr => ∃ (t g5 cp5 : Nat), t ≤ m ∧ i = .int .i64 ((m : Int) - 1 - (t : Int)) ∧ o = .slice (some ⟨g5, 0, none⟩) t cp5 ∧ wr.ownsRow B2 35 2 (.slice (some ⟨g5, 0, none⟩) t cp5) t (Po.enc (Po.bk l t)) ∧ Below B2 w3 wr)
      (fun _ i _ => (intOf i + 1).toNat)
    case atStart => exact ⟨0, B2, 0, by omega, by simp, by rw [hB2.out], hown0, hB⟩
    case round =>
      clear hown0 hB
      obtain ⟨t, g5, cp5, ht, rfl, rfl, hown, hbel⟩ := hrel
      have hbel3 := hbel
      rw [hB2.out] at hbel3
      have HQ4 := HQ3.below hbel3
      have hlo := hown.lt _ rfl
      by_cases hlt : t < m
      · obtain ⟨q, hq⟩ : ∃ q : Nat, q = m - 1 - t := ⟨_, rfl⟩
        have hqi : (m : Int) - 1 - (t : Int) = (q : Int) := by omega
        have hqm : q < m := by omega
        have hnx : Hid ((m : Int) - 1 - ((t + 1 : Nat) : Int) = (q : Int) - 1) := Lib.hid (by omega)
        rw [hqi]
        obtain ⟨b, off, he, hb, hcc⟩ := HQ4.2 (by omega)
        cases he
        obtain ⟨d0, d1⟩ := hcc q hqm
        simp only [Nat.zero_add] at d0 d1
        have HL : Hid (Po.bk l (t + 1) = Po.bk l t ++ [(Po.X l q, Po.Y l q)]) := Lib.hid (by rw [hq, ← HM.out]; rfl)
        obtain ⟨V, HV⟩ : ∃ V, Hid (Po.X l q = V) := ⟨_, Lib.hid rfl⟩
        obtain ⟨Y, HY⟩ : ∃ V, Hid (Po.Y l q = V) := ⟨_, Lib.hid rfl⟩
        rw [HV.out] at d0 HL
        rw [HY.out] at d1 HL
        have hal := hbel.alloc (by omega) (.cells #[.int .i64 V, .int .i64 Y] 35 (0, 0))
        clear hcc HV HY hbel hbel3 HQ4 HQ3 hb3 hb hq hqi hcon3
        go_wp2_with (at_builtin; refine wpList_append_own _ rfl _ _ 26 rfl B2 35 j0 (.agg #[.int .i64 0, .int .i64 0]) 2 16 Try.underlying26 hj hy0 hy1 hy2 rfl (by decide) _ _ _ rfl (hown.alloc (.cells #[.int .i64 V, .int .i64 Y] 35 (0, 0))) ⟨wr.heap.size, 0, none⟩ 1 1 [.int .i64 V, .int .i64 Y] rfl rfl ?_ ?_ ?_ ?_ ?_ ?_)
        any_goals first | (exact two_new _ _ _ _ _ (by simp)) | (exact ⟨rfl, rfl⟩) | (intro u hu; simp at hu; rcases hu with h | h <;> (subst h; rfl)) | omega | (unfold maxLen; omega) | (simp; omega)
        intro v' w7 hown7 hgrow _
        have hb7 := Below.grown hal hgrow (by simp; omega) (fun j he => (hown.lt _ he).1)
        obtain ⟨g6, cp6, rfl⟩ : ∃ g cp, v' = .slice (some ⟨g, 0, none⟩) (t + 1) cp := by
          rcases hown7.2 with ⟨h, h0⟩ | ⟨g, cap, cur, h, _⟩
          · omega
          · exact ⟨_, _, h⟩
        have hown8 : w7.ownsRow B2 35 2 (.slice (some ⟨g6, 0, none⟩) (t + 1) cp6) (t + 1) (Po.enc (Po.bk l (t + 1))) := by
          rw [HL.out, Po.enc_append]
          exact hown7
        clear hown7 hgrow hown HL hal
        go_wp2
        go_roundw
        case rel => exact ⟨t + 1, g6, cp6, by omega, by rw [hnx.out], rfl, hown8, hb7⟩
        case measure => simp [intOf]
      · have ht2 : t = m := by omega
        have hneg : (m : Int) - 1 - (t : Int) = -1 := by omega
        rw [hneg]
        rw [ht2] at hown
        have hQB := (QR.own hown).2
        have hcB := own_cap hown
        have hc4 := below_after hb3 hbel3
        rw [ht2]
        clear hown hbel hbel3 HQ4 HQ3 hb3 ht2 hneg hlt ht
        go_wp2_with fail
        refine (hcon3 _ _ _ hQB hcB).mono ?_
        rintro e w8 ⟨rfl, hb8⟩
        have hc8 := below_after hc4 hb8
        clear hb8 hc4 hQB hcon3
        go_wp2
        go_ret
        exact ⟨rfl, hc8⟩
/-! ### The row's step. -/
theorem own : ownKnob Try.prog.godebug = none := by kernel_rfl
theorem laidOut : laidOutB Try.prog = true := by kernel_rfl
set_option maxRecDepth 100000 in
theorem lifted (os : Os) (started : os.Started) (H : Type) (enc : TypeId × Value → H) :
    ReturnsInHanded {} Try.checked os 4 .any (Rows.fnJoinPartsSpec.pre6 enc Try.prog Try.f4 Rows.fnJoinPartsRow.domain false) (Rows.fnJoinPartsSpec.post enc Try.prog Try.f4 false true false false) := by
  refine returnsInHanded_of_change (C := Try.checked) own started (by kernel_rfl) Try.func4
    (ChangeSpec.witness6 (enc := enc) (C := Try.checked) false ⟨#[], #[.slice none 0 0], []⟩ 8 (by kernel_rfl) (by kernel_rfl) (by kernel_rfl) (by kernel_rfl)) ?_
  intro W base args ds gs before hval0 hW hcnd _
  have hval : ∀ (j : Nat) t v, Try.f4.params[j]? = some t → args[j]? = some v → Value.okWide Try.prog W .any base t v := hval0
  have hW' := hW
  obtain ⟨p, q, hA0, hV, rfl, hfz, hnd⟩ := hW
  have hA : DataW.TrodAll enc Try.prog W 0 (fun _ => true) true Try.f4.params.toList args.toList ds p := hA0
  rw [Try.params4] at hA hval
  obtain ⟨v0, vs0, d0, ds0, p0, q0, hargs, rfl, rfl, h0, r0⟩ := trodAll_cons hA
  obtain ⟨rfl, rfl, rfl⟩ := trodAll_nil r0
  obtain rfl : args = #[v0] := by cases args; simp_all
  obtain ⟨rfl, rfl⟩ := trodVars_none hV
  obtain ⟨a0, len0, cap0, rfl⟩ := okWide_slice Try.underlying22 (hval 0 22 v0 rfl rfl)
  have k0 := h0
  have lt0 : ∀ x ∈ p0, x.block < W.heap.size := by obtain ⟨m, hm⟩ := k0; exact DataW.trod_lt m _ _ _ hm
  obtain ⟨z0, w0⟩ : ∃ zs, IsRow .u8 W a0 len0 cap0 zs := by
    obtain ⟨fuel, hf⟩ := h0
    rcases open_ints Try.underlying22 Try.underlying5 (by kernel_rfl) hf with ⟨hcs, _⟩ | ⟨x, l, c, zs, hcs, _, hl, hm, hz, _, hcell, hwz⟩
    · simp [Value.cells] at hcs
      obtain ⟨rfl, rfl, rfl⟩ := hcs
      exact ⟨[], .inl ⟨rfl, rfl, rfl, rfl⟩⟩
    · simp [Value.cells] at hcs
      obtain ⟨rfl, rfl, rfl⟩ := hcs
      exact ⟨zs, .inr ⟨_, rfl, hl, hm, by simpa using hz, hcell, hwz⟩⟩
  clear hA0 hval0
  refine (walk a0 len0 cap0 z0 W w0).mono fun e W' ⟨he, bel⟩ => ?_
  subst he
  exact ⟨_, rfl, _, _, _, [], _, [], hW', trodAll_mk1 (shut_bool Try.underlying4 _), (trodAll_cons_mk (Below.trod laidOut (by kernel_rfl) (of_decide_eq_true (by kernel_rfl)) k0 bel lt0) trodAll_mk0), rfl, bel.frame _, fun h => by cases h⟩
theorem over : Rows.fnJoinPartsRow.holds Try.pinned (OpenSpec.ofChange Rows.fnJoinPartsSpec) :=
  OpenClaim.holds_of_wide 4 Try.f4 rfl rfl rfl rfl rfl rfl rfl ⟨rfl, rfl, rfl, rfl, rfl⟩ rfl rfl rfl rfl rfl (by kernel_rfl) Try.func4 (by kernel_rfl)
    (of_decide_eq_true (by kernel_rfl)) (by unfold Func.isWrapper; first | (rw [if_pos (by decide +kernel)]; kernel_rfl) | (rw [if_neg (by decide +kernel)]; exact ⟨rfl, rfl⟩))
    (fun os started H enc _ => lifted os started H enc)
theorem proved : Rows.FnJoinPartsSaid := over
#print axioms proved
end Go.Proofs.Ytbhpealkhpginaa.fnJoinParts
