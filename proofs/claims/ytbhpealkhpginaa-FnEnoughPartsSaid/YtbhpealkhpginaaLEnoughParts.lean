/- For every two codes of at most 1<<20 bytes (longer ones are let pass by the law itself): SplitSecret answers as the model's SplitSecret; where it answers, JoinParts of those shares that the second code picks is the secret, if there are as many of them as the polynomial has coefficients. -/
import Derived.Test.YtbhpealkhpginaaRows
import Derived.Test.YtbhpealkhpginaaQy
import Derived.Test.YtbhpealkhpginaaDy
import Derived.WalkKit
import Derived.WalkSpells
import Derived.ProofKit
import Derived.OpenShut
import Derived.ShutString
import Derived.Below
import Derived.SliceStrings
namespace Go.Proofs.Ytbhpealkhpginaa.fnEnoughParts
open Go.ChangeShapes Go.WideShapes Go.ChangeAt Go.RowKit
open Go.ChangeMaps (open_string shut_string)
theorem row_at {w : World} {k : IntKind} {a : Option Addr} {len cap : Nat} {zs : List Int} (h : IsRow k w a len cap zs) (i : Nat) (hi : i < len) : ∃ b off, a = some ⟨b, off, none⟩ ∧ b < w.heap.size ∧ w.cell? ⟨b, off + i, none⟩ = some (.int k (zs.getD i 0)) ∧ (Lit.int k (zs.getD i 0)).wf = true := by
  rcases h with ⟨_, h0, _, _⟩ | ⟨x, hx, hl, hm, hz, hc, hw⟩
  · omega
  · obtain ⟨b, off, rfl, hcc⟩ := ints_at hc (by omega)
    exact ⟨b, off, hx, World.block_lt_of_cell? w ⟨b, off + i, none⟩ (hcc i (by omega)), hcc i (by omega), hw _ (by rw [List.getD_eq_getElem?_getD, List.getElem?_eq_getElem (by omega : i < zs.length)]; exact List.getElem_mem _)⟩
theorem enough {s : Int} {ws : List Int} {m : Nat} {f : Nat → Bool} (h : Po.spOk s ws (m : Int) = true) (hq : ws.length + 1 ≤ (Po.sub f m).length) : Po.ok (Po.sh (s :: ws) (Po.sub f m)) = true ∧ Po.val (Po.sh (s :: ws) (Po.sub f m)) 0 = s := by
  obtain ⟨_, _, hs, hm, hl⟩ := Po.split_ok h
  obtain ⟨hg, hle⟩ := Po.sub_gro f m
  refine ⟨Po.sh_ok (m := (m : Int)) hg (by omega) ⟨by omega, by omega⟩, ?_⟩
  rw [Po.sh_val (m := (m : Int)) hg (by omega) ⟨by omega, by omega⟩ (by rw [List.length_cons]; omega)]
  exact Po.hv_zero s ws hs.1 hs.2
theorem sub_yes {f : Nat → Bool} {k : Nat} (cs : List Int) (h : f k = true) : Po.sh cs (Po.sub f (k + 1)) = Po.sh cs (Po.sub f k) ++ [((k : Int) + 1, Po.hv cs ((k : Int) + 1))] ∧ (Po.sub f (k + 1)).length = (Po.sub f k).length + 1 := by
  have : Po.sub f (k + 1) = Po.sub f k ++ [(k : Int) + 1] := if_pos h
  rw [this]
  exact ⟨Po.sh_app _ _ _, by rw [List.length_append]; rfl⟩
theorem sub_no {f : Nat → Bool} {k : Nat} (h : f k = false) : Po.sub f (k + 1) = Po.sub f k := if_neg (by simp [h])
set_option maxRecDepth 100000 in
set_option maxHeartbeats 6400000 in
theorem walk (a0 : Option Addr) (len0 cap0 : Nat) (z0 : List Int) (a1 : Option Addr) (len1 cap1 : Nat) (z1 : List Int) (w : World) (w0 : IsRow .u8 w a0 len0 cap0 z0) (w1' : IsRow .u8 w a1 len1 cap1 z1) :
    Calls Try.prog 7 #[.slice a0 len0 cap0, .slice a1 len1 cap1] w fun e w' => e = .returned (.bool true) ∧ Below w.heap.size w w' := by
  obtain ⟨j0, hj, hy0, hy1, hy2⟩ := info_parts info_part
  have hcm := w0.len
  have hcm1 := w1'.len
  by_cases h : (1048576 : Int) < (len0 : Int)
  · go_enter Try.func7, Try.ntmps7
    go_wp2
    go_ret
    exact ⟨rfl, Below.refl _ _⟩
  by_cases h' : (1048576 : Int) < (len1 : Int)
  · go_enter Try.func7, Try.ntmps7
    go_wp2
    go_ret
    exact ⟨rfl, Below.refl _ _⟩
  have hlong0 : decide ((1048576 : Int) < (len0 : Int)) = false := decide_eq_false h
  have hlong1 : decide ((1048576 : Int) < (len1 : Int)) = false := decide_eq_false h'
  have HR0 := Lib.hid w1'
  clear w1'
  go_enter Try.func7, Try.ntmps7
  go_wp2_with fail
  refine (drawSplitSecret_any a0 len0 cap0 z0 _ w0 (by omega)).mono ?_
  rintro e w1 ⟨s, ws, g, cp, n, rfl, n1, n2, _, _, n3, _, h1, hb1⟩
  clear w0 h hcm hlong0 h' hcm1 hlong1
  obtain ⟨m, rfl⟩ := Int.eq_ofNat_of_zero_le (show 0 ≤ n by omega)
  have HI1 := (IR.own h1).2
  have hconI := fun W (h : IR W (some ⟨g, 0, none⟩) ws.length ws) => implSplitSecret_any s (some ⟨g, 0, none⟩) ws.length cp ws (m : Int) W h (by omega)
  have hconS := fun W (h : IR W (some ⟨g, 0, none⟩) ws.length ws) => specSplitSecret_any s (some ⟨g, 0, none⟩) ws.length cp ws (m : Int) W h (by omega)
  clear h1
  cases hok : Po.spOk s ws (m : Int)
  · clear HR0
    go_wp2_with fail
    refine (hconI _ HI1).mono ?_
    rintro e w2 hq
    obtain ⟨hb2, rfl⟩ := hq.nope hok
    have HI2 := HI1.below hb2
    replace hb2 := below_after hb1 hb2
    clear hq hb1 HI1 hconI
    go_wp2_with fail
    refine (hconS _ HI2).mono ?_
    rintro e w3 hq
    obtain ⟨hb3, rfl⟩ := hq.nope hok
    replace hb3 := below_after hb2 hb3
    clear hq hb2 HI2 hconS
    go_wp2_with fail
    refine (wcParts_any none none 0 0 0 [] _ (QR.nil _) (QR.nil _) (by omega)).mono ?_
    rintro e w4 ⟨rfl, hb4⟩
    replace hb4 := below_after hb3 hb4
    clear hb3
    go_wp2_with fail
    refine (wcParts_any none none 0 0 0 [] _ (QR.nil _) (QR.nil _) (by omega)).mono ?_
    rintro e w5 ⟨rfl, hb5⟩
    replace hb5 := below_after hb4 hb5
    clear hb4
    go_wp2
    go_ret
    exact ⟨rfl, hb5⟩
  · obtain ⟨_, _, _, j4, _⟩ := Po.split_ok hok
    have HOK := Lib.hid hok
    go_wp2_with fail
    refine (hconI _ HI1).mono ?_
    rintro e w2 hq
    obtain ⟨hb2, g2, cp2, rfl, own2⟩ := hq.yes hok
    have HI2 := HI1.below hb2
    have HQ2 := (QR.own own2).2
    replace hb2 := below_after hb1 hb2
    clear hq hb1 HI1 hconI own2
    go_wp2_with fail
    refine (hconS _ HI2).mono ?_
    rintro e w3 hq
    obtain ⟨hb3, g3, cp3, rfl, own3⟩ := hq.yes hok
    have HQ3 := (QR.own own3).2
    have HQ23 := HQ2.below hb3
    replace hb3 := below_after hb2 hb3
    clear hq hb2 HI2 hconS own3 HQ2 hok
    go_wp2_with fail
    refine (wcParts_any _ _ m cp2 cp3 _ _ HQ23 HQ3 (by omega)).mono ?_
    rintro e w4 ⟨rfl, hb4⟩
    have HQ4 := Lib.hid (HQ23.below hb4)
    replace hb4 := below_after hb3 hb4
    clear hb3 HQ3 HQ23
    have HR4 := Lib.hid (HR0.out.below hb4)
    obtain ⟨f, HF⟩ : ∃ f : Nat → Bool, Hid (∀ i, f i = (decide (len1 ≤ i) || (z1.getD i 0 % 2 == 0))) := ⟨_, Lib.hid fun i => rfl⟩
    have hown0 := World.ownsRow_made (e := 35) (size := 2) w4 #[] 0 (Nat.le_refl _) (by decide) rfl
    have hB := below_alloc (Below.refl w4.heap.size w4) (.cells #[] 35)
    obtain ⟨B2, hB2⟩ : ∃ B, Hid (B = w4.heap.size) := ⟨_, Lib.hid rfl⟩
    rw [← hB2.out] at hown0 hB
    clear HR0
    go_wp2
    go_loopw [12, 13] (fun o i wr => ∃ (k q g5 cp5 : Nat), k ≤ m ∧ i = .int .i64 (k : Int) ∧ o = .slice (some ⟨g5, 0, none⟩) q cp5 ∧ Hid (q = (Po.sub f k).length) ∧ q ≤ k ∧ wr.ownsRow B2 35 2 (.slice (some ⟨g5, 0, none⟩) q cp5) q (Po.enc (Po.sh (s :: ws) (Po.sub f k))) ∧ Below B2 w4 wr)
      (fun _ i _ => m - (intOf i).toNat)
    case atStart => exact ⟨0, 0, B2, 0, by omega, rfl, by rw [hB2.out], Lib.hid rfl, by omega, hown0, hB⟩
    case round =>
      clear hown0 hB
      obtain ⟨k, q, g5, cp5, hk, rfl, rfl, hq0, hqk, hown, hbel⟩ := hrel
      have hbel3 := hbel
      rw [hB2.out] at hbel3
      by_cases hlt : k < m
      · have hlo := hown.lt _ rfl
        obtain ⟨b, off, he, hb, hcc⟩ := (HQ4.out.below hbel3).2 (by omega)
        cases he
        obtain ⟨d0, d1⟩ := hcc k hlt
        obtain ⟨e0, e1⟩ := Po.sh_X (s :: ws) (Po.to m) k (by rw [Po.to_len]; exact hlt)
        rw [Po.to_get m k hlt] at e0 e1
        rw [e0] at d0
        rw [e1] at d1
        simp only [Nat.zero_add] at d0 d1
        have HSY := Lib.hid (fun h : f k = true => sub_yes (s :: ws) h)
        have HSN := Lib.hid (fun h : f k = false => sub_no h)
        have HFk := Lib.hid (HF.out k)
        have HR3 := Lib.hid (HR4.out.below hbel3)
        obtain ⟨V, HV⟩ : ∃ K, Hid (Po.hv (s :: ws) ((k : Int) + 1) = K) := ⟨_, Lib.hid rfl⟩
        rw [HV.out] at d1 HSY
        clear hcc e0 e1 HV hb hbel3 HQ4 HR4 HF hb4 HOK
        by_cases hl1 : len1 ≤ k
        · have hd1 : decide ((len1 : Int) ≤ (k : Int)) = true := by simp; omega
          have hd2 : decide (len1 ≤ k) = true := by simp; omega
          have HY := Lib.hid (HSY.out (by rw [HFk.out, hd2]; rfl))
          clear HSY HSN HFk
          have hal := hbel.alloc (by omega) (.cells #[.int .i64 ((k : Int) + 1), .int .i64 V] 35 (0, 0))
          clear hbel HR3
          go_wp2_with (at_builtin; refine wpList_append_own _ rfl _ _ 26 rfl B2 35 j0 (.agg #[.int .i64 0, .int .i64 0]) 2 16 Try.underlying26 hj hy0 hy1 hy2 rfl (by decide) _ _ _ rfl (hown.alloc (.cells #[.int .i64 ((k : Int) + 1), .int .i64 V] 35 (0, 0))) ⟨wr.heap.size, 0, none⟩ 1 1 [.int .i64 ((k : Int) + 1), .int .i64 V] rfl rfl ?_ ?_ ?_ ?_ ?_ ?_)
          any_goals first | (exact two_new _ _ _ _ _ (by simp)) | (exact ⟨rfl, rfl⟩) | (intro u hu; simp at hu; rcases hu with h | h <;> (subst h; rfl)) | omega | (unfold maxLen; omega) | (simp; omega)
          intro v' w7 hown7 hgrow _
          have hb7 := Below.grown hal hgrow (by simp; omega) (fun j he => (hown.lt _ he).1)
          obtain ⟨g6, cp6, rfl⟩ : ∃ g cp, v' = .slice (some ⟨g, 0, none⟩) (q + 1) cp := by
            rcases hown7.2 with ⟨h, h0⟩ | ⟨g, cap, cur, h, _⟩
            · omega
            · exact ⟨_, _, h⟩
          have hown8 : w7.ownsRow B2 35 2 (.slice (some ⟨g6, 0, none⟩) (q + 1) cp6) (q + 1) (Po.enc (Po.sh (s :: ws) (Po.sub f (k + 1)))) := by
            rw [HY.out.1, Po.enc_append]
            exact hown7
          have HL8 : Hid (q + 1 = (Po.sub f (k + 1)).length) := Lib.hid (by rw [HY.out.2, ← hq0.out])
          clear hown7 hgrow hown hal HY
          go_wp2
          go_roundw
          case rel => exact ⟨k + 1, q + 1, g6, cp6, by omega, by simp, rfl, HL8, by omega, hown8, hb7⟩
          case measure => simp [intOf]; omega
        · have hd1 : decide ((len1 : Int) ≤ (k : Int)) = false := by simp; omega
          have hd2 : decide (len1 ≤ k) = false := by simp; omega
          obtain ⟨b1, off1, rfl, _, cz, hwf⟩ := row_at HR3.out k (by omega)
          have hbz := wf_u8 hwf
          obtain ⟨z, HZ⟩ : ∃ K, Hid (z1.getD k 0 = K) := ⟨_, Lib.hid rfl⟩
          rw [HZ.out] at cz hbz HFk
          have ht : Int.tmod z 2 = z % 2 := Int.tmod_eq_emod_of_nonneg hbz.1
          clear hwf HZ
          by_cases hz : z % 2 = 0
          · have hz2 : (z % 2 == 0) = true := by simp [hz]
            have HY := Lib.hid (HSY.out (by rw [HFk.out, hz2, Bool.or_true]))
            clear HSY HSN HFk
            have hal := hbel.alloc (by omega) (.cells #[.int .i64 ((k : Int) + 1), .int .i64 V] 35 (0, 0))
            clear hbel HR3
            go_wp2_with (at_builtin; refine wpList_append_own _ rfl _ _ 26 rfl B2 35 j0 (.agg #[.int .i64 0, .int .i64 0]) 2 16 Try.underlying26 hj hy0 hy1 hy2 rfl (by decide) _ _ _ rfl (hown.alloc (.cells #[.int .i64 ((k : Int) + 1), .int .i64 V] 35 (0, 0))) ⟨wr.heap.size, 0, none⟩ 1 1 [.int .i64 ((k : Int) + 1), .int .i64 V] rfl rfl ?_ ?_ ?_ ?_ ?_ ?_)
            any_goals first | (exact two_new _ _ _ _ _ (by simp)) | (exact ⟨rfl, rfl⟩) | (intro u hu; simp at hu; rcases hu with h | h <;> (subst h; rfl)) | omega | (unfold maxLen; omega) | (simp; omega)
            intro v' w7 hown7 hgrow _
            have hb7 := Below.grown hal hgrow (by simp; omega) (fun j he => (hown.lt _ he).1)
            obtain ⟨g6, cp6, rfl⟩ : ∃ g cp, v' = .slice (some ⟨g, 0, none⟩) (q + 1) cp := by
              rcases hown7.2 with ⟨h, h0⟩ | ⟨g, cap, cur, h, _⟩
              · omega
              · exact ⟨_, _, h⟩
            have hown8 : w7.ownsRow B2 35 2 (.slice (some ⟨g6, 0, none⟩) (q + 1) cp6) (q + 1) (Po.enc (Po.sh (s :: ws) (Po.sub f (k + 1)))) := by
              rw [HY.out.1, Po.enc_append]
              exact hown7
            have HL8 : Hid (q + 1 = (Po.sub f (k + 1)).length) := Lib.hid (by rw [HY.out.2, ← hq0.out])
            clear hown7 hgrow hown hal HY
            go_wp2
            go_roundw
            case rel => exact ⟨k + 1, q + 1, g6, cp6, by omega, by simp, rfl, HL8, by omega, hown8, hb7⟩
            case measure => simp [intOf]; omega
          · have hz2 : (z % 2 == 0) = false := by simp [hz]
            have hz3 : decide (z % 2 = 0) = false := by simp [hz]
            have HN := Lib.hid (HSN.out (by rw [HFk.out, hd2, hz2]; rfl))
            have HL8 : Hid (q = (Po.sub f (k + 1)).length) := Lib.hid (by rw [HN.out]; exact hq0.out)
            clear HSY HSN HFk HR3
            go_wp2
            go_roundw
            case rel => exact ⟨k + 1, q, g5, cp5, by omega, by simp, rfl, HL8, by omega, by rw [HN.out]; exact hown, hbel⟩
            case measure => simp [intOf]; omega
      · have hk2 : k = m := by omega
        subst hk2
        have hQB := Lib.hid (QR.own hown).2
        have hcB := own_cap hown
        have hc4 := below_after hb4 hbel3
        have hJ := Lib.hid (fun W h => implJoinParts_any (some ⟨g5, 0, none⟩) q cp5 (Po.sh (s :: ws) (Po.sub f k)) W h hcB (by omega))
        have HE := Lib.hid (fun h : ws.length + 1 ≤ q => enough (f := f) HOK.out (by rw [← hq0.out]; exact h))
        obtain ⟨VJ, HVJ⟩ : ∃ K, Hid (Po.join (Po.sh (s :: ws) (Po.sub f k)) = K) := ⟨_, Lib.hid rfl⟩
        obtain ⟨F, HFF⟩ : ∃ K, Hid (Po.ok (Po.sh (s :: ws) (Po.sub f k)) = K) := ⟨_, Lib.hid rfl⟩
        rw [HVJ.out, HFF.out] at hJ
        have HFV : Hid (ws.length + 1 ≤ q → F = true ∧ VJ = s) := Lib.hid (fun h => by
          obtain ⟨h1, h2⟩ := HE.out h
          exact ⟨by rw [← HFF.out]; exact h1, by rw [← HVJ.out, Po.join_yes h1]; exact h2⟩)
        clear hown hbel hbel3 HQ4 HR4 HF HOK HVJ HFF HE hb4 hq0
        by_cases hlen : ws.length + 1 ≤ q
        · obtain ⟨rfl, rfl⟩ := HFV.out hlen
          have hd1 : decide ((q : Int) < (ws.length : Int) + 1) = false := by simp; omega
          clear HFV
          go_wp2_with fail
          refine (hJ.out _ hQB.out).mono ?_
          rintro e w8 ⟨rfl, hb8⟩
          have hc8 := below_after hc4 hb8
          clear hb8 hc4 hQB hJ
          go_wp2
          go_ret
          exact ⟨by simp, hc8⟩
        · have hd1 : decide ((q : Int) < (ws.length : Int) + 1) = true := by simp; omega
          clear HFV
          go_wp2_with fail
          refine (hJ.out _ hQB.out).mono ?_
          rintro e w8 ⟨rfl, hb8⟩
          have hc8 := below_after hc4 hb8
          clear hb8 hc4 hQB hJ
          go_wp2
          go_ret
          exact ⟨by simp, hc8⟩
/-! ### The row's step. -/
theorem own : ownKnob Try.prog.godebug = none := by kernel_rfl
theorem laidOut : laidOutB Try.prog = true := by kernel_rfl
set_option maxRecDepth 100000 in
theorem lifted (os : Os) (started : os.Started) (H : Type) (enc : TypeId × Value → H) :
    ReturnsInHanded {} Try.checked os 7 .any (Rows.fnEnoughPartsSpec.pre6 enc Try.prog Try.f7 Rows.fnEnoughPartsRow.domain false) (Rows.fnEnoughPartsSpec.post enc Try.prog Try.f7 false true false false) := by
  refine returnsInHanded_of_change (C := Try.checked) own started (by kernel_rfl) Try.func7
    (ChangeSpec.witness6 (enc := enc) (C := Try.checked) false ⟨#[], #[.slice none 0 0, .slice none 0 0], []⟩ 8 (by kernel_rfl) (by kernel_rfl) (by kernel_rfl) (by kernel_rfl)) ?_
  intro W base args ds gs before hval0 hW hcnd _
  have hval : ∀ (j : Nat) t v, Try.f7.params[j]? = some t → args[j]? = some v → Value.okWide Try.prog W .any base t v := hval0
  have hW' := hW
  obtain ⟨p, q, hA0, hV, rfl, hfz, hnd⟩ := hW
  have hA : DataW.TrodAll enc Try.prog W 0 (fun _ => true) true Try.f7.params.toList args.toList ds p := hA0
  rw [Try.params7] at hA hval
  obtain ⟨v0, vs0, d0, ds0, p0, q0, hargs, rfl, rfl, h0, r0⟩ := trodAll_cons hA
  obtain ⟨v1, vs1, d1, ds1, p1, q1, rfl, rfl, rfl, h1, r1⟩ := trodAll_cons r0
  obtain ⟨rfl, rfl, rfl⟩ := trodAll_nil r1
  obtain rfl : args = #[v0, v1] := by cases args; simp_all
  obtain ⟨rfl, rfl⟩ := trodVars_none hV
  obtain ⟨a0, len0, cap0, rfl⟩ := okWide_slice Try.underlying22 (hval 0 22 v0 rfl rfl)
  have k0 := h0
  have lt0 : ∀ x ∈ p0, x.block < W.heap.size := by obtain ⟨m, hm⟩ := k0; exact DataW.trod_lt m _ _ _ hm
  obtain ⟨z0, w0⟩ : ∃ zs, IsRow .u8 W a0 len0 cap0 zs := by
    obtain ⟨fuel, hf⟩ := h0
    rcases open_ints Try.underlying22 Try.underlying5 (by kernel_rfl) hf with ⟨hcs, _⟩ | ⟨x, l, c, zs, hcs, _, hl, hm, hz, _, hcell, hwz⟩
    · simp [Value.cells] at hcs
      obtain ⟨rfl, rfl, rfl⟩ := hcs
      exact ⟨[], .inl ⟨rfl, rfl, rfl, rfl⟩⟩
    · simp [Value.cells] at hcs
      obtain ⟨rfl, rfl, rfl⟩ := hcs
      exact ⟨zs, .inr ⟨_, rfl, hl, hm, by simpa using hz, hcell, hwz⟩⟩
  obtain ⟨a1, len1, cap1, rfl⟩ := okWide_slice Try.underlying22 (hval 1 22 v1 rfl rfl)
  have k1 := h1
  have lt1 : ∀ x ∈ p1, x.block < W.heap.size := by obtain ⟨m, hm⟩ := k1; exact DataW.trod_lt m _ _ _ hm
  obtain ⟨z1, w1⟩ : ∃ zs, IsRow .u8 W a1 len1 cap1 zs := by
    obtain ⟨fuel, hf⟩ := h1
    rcases open_ints Try.underlying22 Try.underlying5 (by kernel_rfl) hf with ⟨hcs, _⟩ | ⟨x, l, c, zs, hcs, _, hl, hm, hz, _, hcell, hwz⟩
    · simp [Value.cells] at hcs
      obtain ⟨rfl, rfl, rfl⟩ := hcs
      exact ⟨[], .inl ⟨rfl, rfl, rfl, rfl⟩⟩
    · simp [Value.cells] at hcs
      obtain ⟨rfl, rfl, rfl⟩ := hcs
      exact ⟨zs, .inr ⟨_, rfl, hl, hm, by simpa using hz, hcell, hwz⟩⟩
  clear hA0 hval0
  refine (walk a0 len0 cap0 z0 a1 len1 cap1 z1 W w0 w1).mono fun e W' ⟨he, bel⟩ => ?_
  subst he
  exact ⟨_, rfl, _, _, _, [], _, [], hW', trodAll_mk1 (shut_bool Try.underlying4 _), (trodAll_cons_mk (Below.trod laidOut (by kernel_rfl) (of_decide_eq_true (by kernel_rfl)) k0 bel lt0) (trodAll_cons_mk (Below.trod laidOut (by kernel_rfl) (of_decide_eq_true (by kernel_rfl)) k1 bel lt1) trodAll_mk0)), rfl, bel.frame _, fun h => by cases h⟩
theorem over : Rows.fnEnoughPartsRow.holds Try.pinned (OpenSpec.ofChange Rows.fnEnoughPartsSpec) :=
  OpenClaim.holds_of_wide 7 Try.f7 rfl rfl rfl rfl rfl rfl rfl ⟨rfl, rfl, rfl, rfl, rfl⟩ rfl rfl rfl rfl rfl (by kernel_rfl) Try.func7 (by kernel_rfl)
    (of_decide_eq_true (by kernel_rfl)) (by unfold Func.isWrapper; first | (rw [if_pos (by decide +kernel)]; kernel_rfl) | (rw [if_neg (by decide +kernel)]; exact ⟨rfl, rfl⟩))
    (fun os started H enc _ => lifted os started H enc)
theorem proved : Rows.FnEnoughPartsSaid := over
#print axioms proved
end Go.Proofs.Ytbhpealkhpginaa.fnEnoughParts
