import Derived.Test.YtoocibabceeagabGreatWn
import Derived.Test.YtoocibabceeagabGreatWj
/-
  Contracts of the model: l11Fits, RunScript.
-/
namespace Go.Proofs.YtoocibabceeagabGreat
open Go.RowKit

set_option maxRecDepth 100000 in
set_option maxHeartbeats 1600000 in
theorem l11Fits_any (a : Option Addr) (n c : Nat) (ss : List ByteArray) (w : World) (h : SR w a n ss) (hm : n ≤ 9223372036854775807) (hz : ∀ s ∈ ss, s.size ≤ 9223372036854775807) :
    Calls Tryz.prog 163 #[.slice a n c] w fun e w' => e = .returned (.bool (decide (Vm.fits ss))) ∧ w' = w := by
  have hl := h.1
  go_enter Tryz.func163, Tryz.ntmps163
  go_wp2
  go_loopw [3] (fun i wr => wr = w ∧ ∃ k : Nat, k ≤ n ∧ i = .int .i64 (k : Int) ∧ ∀ j, j < k → (ss.getD j ByteArray.empty).size ≤ 80)
    (fun i _ => n - (intOf i).toNat)
  case atStart => exact ⟨rfl, 0, by omega, rfl, fun j hj => absurd hj (by omega)⟩
  case round =>
    obtain ⟨rfl, k, hk, rfl, hj⟩ := hrel
    by_cases hlt : k < n
    · obtain ⟨g, off, rfl, _, hc⟩ := h.2 (by omega)
      have hck := hc k hlt
      have HJ := Lib.hid hj
      have hmem : ss.getD k ByteArray.empty ∈ ss := getD_mem (by omega)
      have hzk := hz _ hmem
      clear hj hc h hz
      obtain ⟨t, HT⟩ : ∃ t, Hid (ss.getD k ByteArray.empty = t) := ⟨_, Lib.hid rfl⟩
      rw [HT.out] at hck hmem hzk
      by_cases hv : 80 < t.size
      · have HF : Hid (decide (Vm.fits ss) = false) := Lib.hid (decide_eq_false (fun g => by have := g.2 t hmem; omega))
        have hv2 : decide ((80 : Int) < (t.size : Int)) = true := decide_eq_true (by omega)
        clear hv hmem
        go_wp2
        go_ret
        exact ⟨by rw [HF.out]; rfl, rfl⟩
      · have hv2 : decide ((80 : Int) < (t.size : Int)) = false := decide_eq_false (by omega)
        have HV := Lib.hid hv
        clear hv hmem
        go_wp2
        go_roundw
        case rel =>
          refine ⟨trivial, k + 1, by omega, by simp, fun j hj => ?_⟩
          by_cases hjk : j < k
          · exact HJ.out j hjk
          · rw [show j = k by omega, HT.out]; exact Nat.le_of_not_lt HV.out
        case measure => simp [intOf]; omega
    · have hk2 : k = n := by omega
      have HF : Hid (decide (Vm.fits ss) = decide ((n : Int) ≤ 24)) := Lib.hid (by
        rw [decide_eq_decide]
        unfold Vm.fits
        constructor
        · intro g; have := g.1; omega
        · intro g
          refine ⟨by omega, fun s hs => ?_⟩
          obtain ⟨j, hjl, hje⟩ := List.getElem_of_mem hs
          have := hj j (by omega)
          rw [List.getD_eq_getElem?_getD, List.getElem?_eq_getElem hjl] at this
          simpa [hje] using this)
      clear hj h hz
      go_wp2
      go_ret
      exact ⟨by rw [HF.out]; rfl, rfl⟩
theorem nestAny (c : Int) (base D : Nat) (s : List ByteArray) (br : List Bool) (w : World) (h : MSs base D s br 0 w) (hb : base ≤ w.heap.size) (hs : Vm.fits s) (hc : 6 ≤ c ∧ c ≤ 8) (hbr : br.length ≤ 4) (hne : c = 7 ∨ c = 8 → br ≠ []) :
    Calls Tryz.prog 164 #[.pointer (some ⟨D, 0, none⟩), .int .i64 c] w (SsP base D (Vm.cond c s br) w) := by
  rcases (show c = 6 ∨ c = 7 ∨ c = 8 by omega) with rfl | rfl | rfl
  · cases hl : Vm.live br
    · exact nest6_skip base D s br w h hb hbr hl
    · exact nest6_live base D s br w h hb hbr hs hl
  · exact nest7_any base D s br w h hbr (hne (.inl rfl))
  · exact nest8_any base D s br w h hbr (hne (.inr rfl))
theorem stepMAny (base D : Nat) (E : Vm) (x : Jo) (s : List ByteArray) (br : List Bool) (w : World) (h : MSs base D s br 0 w) (hb : base ≤ w.heap.size) (hs : Vm.fits s) (hc : ¬ (6 ≤ x.c ∧ x.c ≤ 8)) (hf : Jo.fld x = true) (ht : E.t.size ≤ 1048576) :
    Calls Tryz.prog 166 #[.pointer (some ⟨D, 0, none⟩), x.val, .agg #[.string E.t, .int .i64 E.h, .int .i64 E.a]] w (SsP base D (Vm.fin br (Vm.act E x s)) w) := by
  have h14 : 0 ≤ x.c ∧ x.c ≤ 14 := by
    unfold Jo.fld at hf
    simp only [Bool.and_eq_true, decide_eq_true_eq] at hf
    exact hf.1
  rcases (show x.c = 0 ∨ x.c = 1 ∨ x.c = 2 ∨ x.c = 3 ∨ x.c = 4 ∨ x.c = 5 ∨ x.c = 9 ∨ x.c = 10 ∨ x.c = 11 ∨ x.c = 12 ∨ x.c = 13 ∨ x.c = 14 by omega) with e | e | e | e | e | e | e | e | e | e | e | e
  · exact stepM0_any base D E x s br w h hb hs e
  · exact stepM1_any base D E x s br w h hb hs e
  · exact stepM2_any base D E x s br w h hb hs e
  · exact stepM3_any base D E x s br w h hb hs e
  · exact stepM4_any base D E x s br w h hb hs e
  · exact stepM5_any base D E x s br w h hb hs e
  · exact stepM9_any base D E x s br w h hb hs e
  · exact stepM10_any base D E x s br w h hb hs e
  · exact stepM11_any base D E x s br w h hb hs e ht
  · exact stepM12_any base D E x s br w h hb hs e hf ht
  · exact stepM13_any base D E x s br w h hb hs e
  · exact stepM14_any base D E x s br w h hb hs e
/-- How far the model's run has come. -/
def MoI (base D : Nat) (E : Vm) (l : List Jo) (R : Except Int (List ByteArray × List Bool)) (w : World) : Prop :=
  (∃ s br, MSs base D s br 0 w ∧ Vm.fits s ∧ Vm.go E l s br = R ∧ ∃ st, Jo.nest st l = some [] ∧ st.length = br.length ∧ st.length ≤ 4) ∨
  (∃ s br q, q ≠ 0 ∧ MSs base D s br q w ∧ R = .error q)
theorem MoI.next {base D : Nat} {E : Vm} {x : Jo} {l : List Jo} {R : Except Int (List ByteArray × List Bool)} {s : List ByteArray} {br : List Bool} {st : List Bool} {w : World} (hgo : Vm.go E (x :: l) s br = R) (hf : Jo.fld x = true) (hs : Vm.fits s) (hn : Jo.nest st (x :: l) = some []) (hl : st.length = br.length) (h4 : st.length ≤ 4)
    (hm : match Vm.step E x s br with
      | .ok m => MSs base D m.1 m.2 0 w
      | .error c => ∃ s' br', MSs base D s' br' c w) : MoI base D E l R w := by
  obtain ⟨st2, h1, h2⟩ := Jo.nest_next hn
  cases hst : Vm.step E x s br with
  | ok m =>
    rw [hst] at hm
    exact .inl ⟨m.1, m.2, hm, Vm.step_fits hf hs hst, Vm.go_next hgo hst, st2, h2, Vm.step_nest h1 hl hst, Jo.step_len h1 h4⟩
  | error c =>
    rw [hst] at hm
    obtain ⟨s', br', hm⟩ := hm
    have := Vm.step_err hst
    exact .inr ⟨s', br', c, by omega, hm, Vm.go_stop hgo hst⟩
set_option maxRecDepth 100000 in
set_option maxHeartbeats 6400000 in
theorem specRunScript_any (a b : Option Addr) (len cap n c : Nat) (l : List Jo) (ss : List ByteArray) (E : Vm) (w : World) (h : OL w a len l) (hm : len ≤ 9223372036854775807) (hs : SR w b n ss) (hn : n ≤ 9223372036854775807) (hz : ∀ s ∈ ss, s.size ≤ 9223372036854775807) (ht : E.t.size ≤ 1048576) :
    Calls Tryz.prog 118 #[.slice a len cap, .slice b n c, .agg #[.string E.t, .int .i64 E.h, .int .i64 E.a]] w (RsP E l ss w) := by
  have hE : Bk w.heap.size 35 #[.string E.t, .int .i64 E.h, .int .i64 E.a] (w.alloc (.cells #[.string E.t, .int .i64 E.h, .int .i64 E.a] 35 (0, 0))) := Bk.new _ _ _
  have hb0 : Below w.heap.size w (w.alloc (.cells #[.string E.t, .int .i64 E.h, .int .i64 E.a] 35 (0, 0))) := (Below.refl _ _).alloc (Nat.le_refl _) _
  have h0 := h.alloc (.cells #[.string E.t, .int .i64 E.h, .int .i64 E.a] 35 (0, 0))
  have s0 := hs.alloc (.cells #[.string E.t, .int .i64 E.h, .int .i64 E.a] 35 (0, 0))
  cases hok : Jo.ok l
  · have hr := Vm.run_bad (E := E) (l := l) (ss := ss) (fun g => by rw [hok] at g; cases g.1)
    have hcon := specScriptOk_any a len cap l _ h0 hm
    rw [hok] at hcon
    have HR := Lib.hid hr
    clear hr hok h0 s0 h hs
    go_enter Tryz.func118, Tryz.ntmps118
    go_wp2_with fail
    refine hcon.mono ?_
    rintro e w1 ⟨rfl, hb1⟩
    go_wp2
    go_ret2
    exact RsP.nil0 HR.out (below_aft9 hb0 hb1)
  · by_cases hft : Vm.fits ss
    · obtain ⟨R, HRR⟩ : ∃ R, Hid (Vm.go E l ss.reverse [] = R) := ⟨_, Lib.hid rfl⟩
      obtain ⟨i0, hi, hz0, hz1, hz2⟩ := info_parts info_str
      have hcon := specScriptOk_any a len cap l _ h0 hm
      rw [hok] at hcon
      have hq : decide (Vm.fits ss) = true := decide_eq_true hft
      have HOK := Lib.hid hok
      have HFT := Lib.hid hft
      have hn24 := hft.1
      have hsl := hs.1
      have hlen := h.1
      have hl40 := ((Jo.ok_iff l).1 hok).1
      have HS0 := Lib.hid hs
      have HO0 := Lib.hid h
      clear hok hft hs h
      go_enter Tryz.func118, Tryz.ntmps118
      go_wp2_with fail
      refine hcon.mono ?_
      rintro e w1 ⟨rfl, hb1⟩
      have hE1 := hE.below hb1
      have bb1 := below_aft9 hb0 hb1
      have hst := l11Fits_any b n c ss w1 (s0.below hb1) hn hz
      rw [hq] at hst
      clear s0 h0 hE hb1 hcon hq hb0
      go_wp2_with fail
      refine hst.mono ?_
      rintro e w2 ⟨rfl, rfl⟩
      clear hst hz
      have hMS : MSs w.heap.size w2.heap.size [] [] 0 (w2.alloc (.cells #[.slice none 0 0, .slice none 0 0, .int .i64 0] 177 (0, 0))) :=
        ⟨.slice none 0 0, .slice none 0 0, bb1.size, Bk.new _ _ _, World.ownsRow_nil _ _ _ _, World.ownsRow_nil _ _ _ _⟩
      have hE2 := hE1.alloc (.cells #[.slice none 0 0, .slice none 0 0, .int .i64 0] 177 (0, 0))
      have bb2 := bb1.alloc bb1.size (.cells #[.slice none 0 0, .slice none 0 0, .int .i64 0] 177 (0, 0))
      have hEDne : w.heap.size ≠ w2.heap.size := by have := hE1.lt; omega
      have HMS := Lib.hid hMS
      have HE2 := Lib.hid hE2
      have HB2 := Lib.hid bb2
      obtain ⟨D, HD⟩ : ∃ D, Hid (w2.heap.size = D) := ⟨_, Lib.hid rfl⟩
      rw [HD.out] at HMS hEDne
      clear hMS hE2 bb2 hE1 bb1
      go_wp2
      rw [HD.out]
      go_loopw [9] (fun i wr => ∃ k : Nat, k ≤ n ∧ i = .int .i64 (k : Int) ∧ MSs w.heap.size D (ss.take k).reverse [] 0 wr ∧ Bk w.heap.size 35 #[.string E.t, .int .i64 E.h, .int .i64 E.a] wr ∧ Below w.heap.size w wr)
        (fun i _ => n - (intOf i).toNat)
      case atStart => exact ⟨0, by omega, rfl, HMS.out, HE2.out, HB2.out⟩
      case round =>
        obtain ⟨k, hk, rfl, hMr, hEr, hbel⟩ := hrel
        by_cases hlt : k < n
        · obtain ⟨g, off, hgo, hgl, hcl⟩ := HS0.out.2 (by omega)
          have hck := (hbel.cell (p := ⟨g, off + k, none⟩) hgl).trans (hcl k hlt)
          subst hgo
          obtain ⟨x, HX⟩ : ∃ x, Hid (ss.getD k ByteArray.empty = x) := ⟨_, Lib.hid rfl⟩
          rw [HX.out] at hck
          have hckd : wr.drew.cell? ⟨g, off + k, none⟩ = some (.string x) := hck
          obtain ⟨vi, vb, hM⟩ := hMr
          have htk : (ss.take (k + 1)).reverse = x :: (ss.take k).reverse := by
            rw [List.take_add_one, List.getElem?_eq_getElem (by omega), List.reverse_append, ← HX.out, List.getD_eq_getElem?_getD, List.getElem?_eq_getElem (by omega)]
            rfl
          have htl : (ss.take k).reverse.length = k := by simp; omega
          obtain ⟨T, HT⟩ : ∃ T, Hid ((ss.take k).reverse = T) := ⟨_, Lib.hid rfl⟩
          rw [HT.out] at hM htk htl
          have HTK := Lib.hid htk
          obtain ⟨ai, ci, rfl, hcap9, hmax9⟩ := own_slice hM.its
          rw [htl] at hM
          obtain ⟨d0, d1, d2⟩ := hM.drew.cells
          have mm0 := (hM.alloc (.cells #[.string x] 9)).cells.1
          have hits : wr.drew.ownsRow w.heap.size 9 1 (.slice ai k ci) k (T.reverse.map Value.string) := by have := hM.its; rw [htl] at this; exact this
          have hMd := hM.drew
          have hbs := hbel.size
          clear htk hcl
          go_wp2
          go_region_law (first
            | (refine step_append_own rfl _ _ 25 rfl w.heap.size 9 i0 (.string ByteArray.empty) 1 16 Tryz.underlying25 hi hz0 hz1 hz2 rfl (by decide) _ _ _ rfl (by exact hits.alloc _) ⟨wr.heap.size, 0, none⟩ 1 1 [.string x] rfl rfl (one_new wr.drew _ _) (by intro u hu; simp at hu; subst hu; rfl) (by unfold maxLen; omega) (by omega) (by simp; omega) (fun v5 w5 hown5 hg5 => ?_)
               obtain ⟨a5, c5, rfl, _⟩ := own_slice hown5
               have hg6 : wr.drew.grownBy w5 (Value.slice ai k ci).ownBlock := grownBy_trans' (World.grownBy_alloc _ _ _) hg5
               have k1 := hMd.setI (s' := x :: T) (v' := .slice a5 (k + 1) c5) hg6 (by rw [List.length_cons, htl, List.reverse_cons, List.map_append]; exact hown5)
               have e0 := (k1.2.cell 0).trans rfl
               have f0 := k1.2.fro 0
               have hFr : Fr w.heap.size D wr.drew w5 := (Fr.refl _ D wr.drew).grown hg6 hits (.inl rfl) hbs (Nat.le_refl _)))
          all_goals
            have HM5 : Hid (MSs w.heap.size D (x :: T) [] 0 (w5.setCell ⟨D, 0, none⟩ (.slice a5 (k + 1) c5))) := Lib.hid ⟨_, _, k1.1⟩
            have HF5 := Lib.hid (hFr.setD hM.hD 0 (.slice a5 (k + 1) c5))
            have HE5 := Lib.hid (hEr.drew.fr HF5.out hEDne (by decide) (by decide))
            have HB5 := Lib.hid (hbel.drew.trans HF5.out.bel)
            clear k1 hg6 hown5 hg5 hFr hM hMd hits hEr hbel mm0
            go_wp2
            go_roundw
            case rel => exact ⟨k + 1, by omega, by simp, by rw [HTK.out]; exact HM5.out, HE5.out, HB5.out⟩
            case measure => simp [intOf]; omega
        · have hkn : n = k := by omega
          subst hkn
          have hta : (ss.take n).reverse = ss.reverse := by rw [List.take_of_length_le (by omega)]
          rw [hta] at hMr
          have HMr := Lib.hid hMr
          have HEr := Lib.hid hEr
          have HBr := Lib.hid hbel
          clear hMr hEr hbel hta
          go_wp2
          go_loopw [10] (fun i wr => ∃ j : Nat, j ≤ len ∧ i = .int .i64 (j : Int) ∧ MoI w.heap.size D E (l.drop j) R wr ∧ Bk w.heap.size 35 #[.string E.t, .int .i64 E.h, .int .i64 E.a] wr ∧ Below w.heap.size w wr)
            (fun i _ => len - (intOf i).toNat)
          case atStart => exact ⟨0, by omega, rfl, .inl ⟨ss.reverse, [], HMr.out, Vm.fits_rev HFT.out, by rw [List.drop_zero]; exact HRR.out, [], by rw [List.drop_zero]; exact ((Jo.ok_iff l).1 HOK.out).2.2, rfl, by simp⟩, HEr.out, HBr.out⟩
          case round =>
            obtain ⟨j, hj, rfl, hmo, hEr, hbel⟩ := hrel
            have hbs := hbel.size
            rcases hmo with ⟨s', br', hMr, hfs, hgo, st, hst1, hst2, hst3⟩ | ⟨s', br', q, hq0, hMr, hRq⟩
            · obtain ⟨vi, vb, hM⟩ := hMr
              obtain ⟨c0, c1, c2⟩ := hM.cells
              by_cases hlt : j < len
              · obtain ⟨g, off, hga, hgl, hcl⟩ := HO0.out.2 (by omega)
                subst hga
                obtain ⟨e0, e1, e2, e3⟩ := hcl j hlt
                have r0 := (hbel.cell (p := ⟨g, off + j * 4, none⟩) hgl).trans e0
                have r1 := (hbel.cell (p := ⟨g, off + j * 4 + 1, none⟩) hgl).trans e1
                have r2 := (hbel.cell (p := ⟨g, off + j * 4 + 2, none⟩) hgl).trans e2
                have r3 := (hbel.cell (p := ⟨g, off + j * 4 + 3, none⟩) hgl).trans e3
                have hjl : j < l.length := by omega
                have hx : Jo.fld (Jo.at_ l j) = true := ((Jo.ok_iff l).1 HOK.out).2.1 _ (List.mem_of_getElem? (Jo.at_get hjl))
                rw [Jo.drop_at hjl] at hgo hst1
                obtain ⟨x, HX⟩ : ∃ x, Hid (Jo.at_ l j = x) := ⟨_, Lib.hid rfl⟩
                rw [HX.out] at r0 r1 r2 r3 hx hgo hst1
                have hne : x.c = 7 ∨ x.c = 8 → br' ≠ [] := fun h e => by
                  obtain ⟨st2, hn1, _⟩ := Jo.nest_next hst1
                  exact Jo.step_ne hn1 h (List.eq_nil_of_length_eq_zero (by rw [hst2, e]; rfl))
                have hD0 := hM.hD
                by_cases hcd : 6 ≤ x.c ∧ x.c ≤ 8
                · have hcq : (decide (6 ≤ x.c) && decide (x.c ≤ 8)) = true := by simp [hcd]
                  have hnst := nestAny x.c w.heap.size D s' br' wr ⟨vi, vb, hM⟩ hbs hfs hcd (by omega) hne
                  have hin := l6In_any x.c 6 8 wr
                  rw [hcq] at hin
                  have HNX : Hid (∀ w5 : World, (match Vm.cond x.c s' br' with
                      | .ok m => MSs w.heap.size D m.1 m.2 0 w5
                      | .error c => ∃ s2 br2, MSs w.heap.size D s2 br2 c w5) → MoI w.heap.size D E (l.drop (j + 1)) R w5) := Lib.hid fun w5 hm5 => MoI.next hgo hx hfs hst1 hst2 hst3 (by
                    rw [Vm.step_exec (.inl hcd)]
                    unfold Vm.exec
                    rw [if_pos hcd]
                    exact hm5)
                  have HEr := Lib.hid hEr
                  have HBE := Lib.hid hbel
                  obtain ⟨C, A, B, t⟩ := x
                  simp only at r0 r1 r2 r3 hnst hin HNX
                  clear hx hgo hst1 hcl e0 e1 e2 e3 HX hEr hbel hM hcd hcq hne
                  go_wp2_with fail
                  refine hin.mono ?_
                  rintro e w4 ⟨rfl, rfl⟩
                  go_wp2_with fail
                  refine hnst.mono ?_
                  rintro e w5 ⟨rfl, hf5, hm5⟩
                  have HMO := Lib.hid (HNX.out _ hm5)
                  have HE5 := Lib.hid (HEr.out.fr hf5 hEDne (by decide) (by decide))
                  have HB5 := Lib.hid (HBE.out.trans hf5.bel)
                  clear hm5 hf5 hnst hin
                  go_wp2
                  go_roundw
                  case rel => exact ⟨j + 1, by omega, by simp, HMO.out, HE5.out, HB5.out⟩
                  case measure => simp [intOf]; omega
                · have hcq : (decide (6 ≤ x.c) && decide (x.c ≤ 8)) = false := by
                    rw [Bool.eq_false_iff]
                    intro h
                    rw [Bool.and_eq_true, decide_eq_true_eq, decide_eq_true_eq] at h
                    exact hcd h
                  have hin := l6In_any x.c 6 8 wr
                  rw [hcq] at hin
                  have hac := activeM_any w.heap.size D vi vb s' br' 0 wr hM (by omega)
                  cases hlv : Vm.live br'
                  · rw [hlv] at hac
                    have HMO := Lib.hid (MoI.next (w := wr) hgo hx hfs hst1 hst2 hst3 (by rw [Vm.step_skip hcd hlv]; exact ⟨vi, vb, hM⟩))
                    have HEr := Lib.hid hEr
                    have HBE := Lib.hid hbel
                    obtain ⟨C, A, B, t⟩ := x
                    simp only at r0 r1 r2 r3 hin
                    clear hx hgo hst1 hcl e0 e1 e2 e3 HX hEr hbel hM hcd hcq hne hlv
                    go_wp2_with fail
                    refine hin.mono ?_
                    rintro e w4 ⟨rfl, rfl⟩
                    go_wp2_with fail
                    refine hac.mono ?_
                    rintro e w4 ⟨rfl, rfl⟩
                    clear hin hac
                    go_wp2
                    go_roundw
                    case rel => exact ⟨j + 1, by omega, by simp, HMO.out, HEr.out, HBE.out⟩
                    case measure => simp [intOf]; omega
                  · rw [hlv] at hac
                    have hst4 := stepMAny w.heap.size D E x s' br' wr.drew ⟨vi, vb, hM.drew⟩ hbs hfs hcd hx ht
                    have HNX : Hid (∀ w5 : World, (match Vm.fin br' (Vm.act E x s') with
                        | .ok m => MSs w.heap.size D m.1 m.2 0 w5
                        | .error c => ∃ s2 br2, MSs w.heap.size D s2 br2 c w5) → MoI w.heap.size D E (l.drop (j + 1)) R w5) := Lib.hid fun w5 hm5 => MoI.next hgo hx hfs hst1 hst2 hst3 (by
                      rw [Vm.step_exec (.inr hlv)]
                      unfold Vm.exec
                      rw [if_neg hcd]
                      exact hm5)
                    have HEr := Lib.hid hEr
                    have HBE := Lib.hid hbel
                    obtain ⟨RR, HR2⟩ : ∃ RR, Hid (Vm.fin br' (Vm.act E x s') = RR) := ⟨_, Lib.hid rfl⟩
                    rw [HR2.out] at hst4 HNX
                    obtain ⟨C, A, B, t⟩ := x
                    simp only at r0 r1 r2 r3 hin hst4
                    have hS0 : wr.drew.cell? ⟨g, off + j * 4, none⟩ = some (.int .i64 C) ∧ wr.drew.cell? ⟨g, off + j * 4 + 1, none⟩ = some (.int .i64 A) ∧ wr.drew.cell? ⟨g, off + j * 4 + 2, none⟩ = some (.int .i64 B) ∧ wr.drew.cell? ⟨g, off + j * 4 + 3, none⟩ = some (.string t) ∧ wr.drew.cell? ⟨w.heap.size, 0, none⟩ = some (.string E.t) ∧ wr.drew.cell? ⟨w.heap.size, 1, none⟩ = some (.int .i64 E.h) ∧ wr.drew.cell? ⟨w.heap.size, 2, none⟩ = some (.int .i64 E.a) :=
                      ⟨r0, r1, r2, r3, (Bk.c3w hEr).1, (Bk.c3w hEr).2.1, (Bk.c3w hEr).2.2⟩
                    have HSN : Hid (∀ w5 : World, Fr w.heap.size D wr.drew w5 → w5.cell? ⟨g, off + j * 4, none⟩ = some (.int .i64 C) ∧ w5.cell? ⟨g, off + j * 4 + 1, none⟩ = some (.int .i64 A) ∧ w5.cell? ⟨g, off + j * 4 + 2, none⟩ = some (.int .i64 B) ∧ w5.cell? ⟨g, off + j * 4 + 3, none⟩ = some (.string t) ∧ w5.cell? ⟨w.heap.size, 0, none⟩ = some (.string E.t) ∧ w5.cell? ⟨w.heap.size, 1, none⟩ = some (.int .i64 E.h) ∧ w5.cell? ⟨w.heap.size, 2, none⟩ = some (.int .i64 E.a)) := Lib.hid fun w5 hf =>
                      have hE5 := hEr.drew.fr hf hEDne (by decide) (by decide)
                      ⟨(hf.bel.cell (p := ⟨g, off + j * 4, none⟩) hgl).trans r0, (hf.bel.cell (p := ⟨g, off + j * 4 + 1, none⟩) hgl).trans r1, (hf.bel.cell (p := ⟨g, off + j * 4 + 2, none⟩) hgl).trans r2, (hf.bel.cell (p := ⟨g, off + j * 4 + 3, none⟩) hgl).trans r3, (Bk.c3w hE5).1, (Bk.c3w hE5).2.1, (Bk.c3w hE5).2.2⟩
                    clear hx hgo hst1 hcl e0 e1 e2 e3 HX hEr hbel hM hcd hcq hne hlv
                    go_wp2_with fail
                    refine hin.mono ?_
                    rintro e w4 ⟨rfl, rfl⟩
                    go_wp2_with fail
                    refine hac.mono ?_
                    rintro e w4 ⟨rfl, rfl⟩
                    clear hin hac
                    go_wp2
                    apply wp_meetY (fun w' => SsP w.heap.size D RR w4.drew (.returned (.tuple #[])) w')
                    case h1 =>
                      go_region_held3 (fun W => W.cell? ⟨g, off + j * 4, none⟩ = some (.int .i64 C) ∧ W.cell? ⟨g, off + j * 4 + 1, none⟩ = some (.int .i64 A) ∧ W.cell? ⟨g, off + j * 4 + 2, none⟩ = some (.int .i64 B) ∧ W.cell? ⟨g, off + j * 4 + 3, none⟩ = some (.string t) ∧ W.cell? ⟨w.heap.size, 0, none⟩ = some (.string E.t) ∧ W.cell? ⟨w.heap.size, 1, none⟩ = some (.int .i64 E.h) ∧ W.cell? ⟨w.heap.size, 2, none⟩ = some (.int .i64 E.a)) (first | with_reducible exact hS0 | with_reducible exact hS1)
                        (first | (go_at_call 166; refine hst4.mono ?_; rintro e5 w5 ⟨rfl, hf5, hm5⟩; have hS1 := HSN.out _ hf5))
                      all_goals exact ⟨rfl, rfl, hf5, hm5⟩
                    case h2 =>
                      rintro w5 ⟨_, hf5, hm5⟩
                      have HMO := Lib.hid (HNX.out _ hm5)
                      have HE5 := Lib.hid (HEr.out.drew.fr hf5 hEDne (by decide) (by decide))
                      have HB5 := Lib.hid (HBE.out.drew.trans hf5.bel)
                      clear hm5 hf5 hst4 hS0
                      go_wp2
                      go_roundw
                      case rel => exact ⟨j + 1, by omega, by simp, HMO.out, HE5.out, HB5.out⟩
                      case measure => simp [intOf]; omega
              · have hjn : j = len := by omega
                have hdn : l.drop j = [] := List.drop_eq_nil_of_le (by omega)
                rw [hdn] at hgo
                have hRe : Vm.go E l ss.reverse [] = .ok (s', br') := HRR.out.trans hgo.symm
                have HR := Lib.hid (Vm.run_fine ⟨HOK.out, HFT.out⟩ hRe)
                obtain ⟨ai, ci, rfl, _⟩ := own_slice hM.its
                have HI5 := Lib.hid hM.its
                have HB5 := Lib.hid hbel
                obtain ⟨ki, hki⟩ : ∃ k, s'.length = k := ⟨_, rfl⟩
                rw [hki] at c0
                clear hM hgo hRe hdn hst1 hbel hEr
                go_wp2
                go_ret2
                refine ⟨ai, ci, ?_, ?_, HB5.out⟩
                · rw [HR.out]; simp only [List.length_reverse, hki]; rfl
                · rw [HR.out]; simp only [List.length_reverse]; exact HI5.out
            · obtain ⟨vi, vb, hM⟩ := hMr
              obtain ⟨c0, c1, c2⟩ := hM.cells
              obtain ⟨d0, d1, d2⟩ := hM.drew.cells
              have HR := Lib.hid (Vm.run_err ⟨HOK.out, HFT.out⟩ (HRR.out.trans hRq))
              have hqe : (q == 0) = false := by simpa using hq0
              have hqn : (q != 0) = true := by simpa using hq0
              have HB5 := Lib.hid hbel
              clear hM hbel hEr hRq
              by_cases hlt : j < len
              all_goals
                go_wp2
                go_quiet (fail)
                go_wp2
                go_ret2
                exact RsP.nil0 HR.out (below_drewN10 HB5.out _)
    · have hr := Vm.run_bad (E := E) (l := l) (ss := ss) (fun g => hft g.2)
      have hcon := specScriptOk_any a len cap l _ h0 hm
      rw [hok] at hcon
      have HR := Lib.hid hr
      have hq : decide (Vm.fits ss) = false := decide_eq_false hft
      clear hr hok h0 hft h hs
      go_enter Tryz.func118, Tryz.ntmps118
      go_wp2_with fail
      refine hcon.mono ?_
      rintro e w1 ⟨rfl, hb1⟩
      have hst := l11Fits_any b n c ss w1 (s0.below hb1) hn hz
      rw [hq] at hst
      clear s0 hq
      go_wp2_with fail
      refine hst.mono ?_
      rintro e w2 ⟨rfl, rfl⟩
      go_wp2
      go_ret2
      exact RsP.nil0 HR.out (below_aft9 hb0 hb1)
end Go.Proofs.YtoocibabceeagabGreat

/-
  Contracts of the model: Unlock.
-/
namespace Go.Proofs.YtoocibabceeagabGreat
open Go.RowKit

set_option maxRecDepth 100000 in
set_option maxHeartbeats 3200000 in
theorem specUnlock_any (lock : ByteArray) (b : Option Addr) (n c : Nat) (ss : List ByteArray) (E : Vm) (w : World) (hlk : lock.size ≤ 1048576) (hs : SR w b n ss) (hn : n ≤ 9223372036854775807) (hz : ∀ s ∈ ss, s.size ≤ 9223372036854775807) (ht : E.t.size ≤ 1048576) :
    Calls Tryz.prog 79 #[.string lock, .slice b n c, .agg #[.string E.t, .int .i64 E.h, .int .i64 E.a]] w (UnP E lock ss w) := by
  have hE : Bk w.heap.size 35 #[.string E.t, .int .i64 E.h, .int .i64 E.a] (w.alloc (.cells #[.string E.t, .int .i64 E.h, .int .i64 E.a] 35 (0, 0))) := Bk.new _ _ _
  have hb0 : Below w.heap.size w (w.alloc (.cells #[.string E.t, .int .i64 E.h, .int .i64 E.a] 35 (0, 0))) := (Below.refl _ _).alloc (Nat.le_refl _) _
  have s0 := hs.alloc (.cells #[.string E.t, .int .i64 E.h, .int .i64 E.a] 35 (0, 0))
  have hrd := specScriptRead_any lock (w.alloc (.cells #[.string E.t, .int .i64 E.h, .int .i64 E.a] 35 (0, 0))) hlk
  clear hs hlk
  cases hr : Jo.read lock with
  | none =>
    have HQ : Hid (Vm.opens E (Jo.read lock) ss = false) := Lib.hid (by rw [hr]; rfl)
    unfold UnP
    rw [HQ.out]
    have hrd2 : Calls Tryz.prog 116 #[.string lock] (w.alloc (.cells #[.string E.t, .int .i64 E.h, .int .i64 E.a] 35 (0, 0))) fun e w' => e = .returned (.tuple #[.slice none 0 0, .bool false]) ∧ Below (w.alloc (.cells #[.string E.t, .int .i64 E.h, .int .i64 E.a] 35 (0, 0))).heap.size (w.alloc (.cells #[.string E.t, .int .i64 E.h, .int .i64 E.a] 35 (0, 0))) w' :=
      hrd.mono fun e w' h => by
        rcases h with ⟨_, h1, h2⟩ | ⟨l, _, _, h1, _⟩
        · exact ⟨h1, h2⟩
        · rw [hr] at h1; cases h1
    clear hrd hr HQ s0 hE  hz
    go_enter Tryz.func79, Tryz.ntmps79
    go_wp2_with fail
    refine hrd2.mono ?_
    rintro e w1 ⟨rfl, hb1⟩
    go_wp2
    go_ret
    exact ⟨rfl, below_aft9 hb0 hb1⟩
  | some l =>
    have hrd2 : Calls Tryz.prog 116 #[.string lock] (w.alloc (.cells #[.string E.t, .int .i64 E.h, .int .i64 E.a] 35 (0, 0))) fun e w' => ∃ a cap, e = .returned (.tuple #[.slice a l.length cap, .bool true]) ∧ OL w' a l.length l ∧ Below (w.alloc (.cells #[.string E.t, .int .i64 E.h, .int .i64 E.a] 35 (0, 0))).heap.size (w.alloc (.cells #[.string E.t, .int .i64 E.h, .int .i64 E.a] 35 (0, 0))) w' :=
      hrd.mono fun e w' h => by
        rcases h with ⟨h1, _⟩ | ⟨l', a, cap, h1, h2, h3, h4⟩
        · rw [hr] at h1; cases h1
        · rw [hr] at h1; cases h1; exact ⟨a, cap, h2, (OL.own h3).2, h4⟩
    have hll : l.length ≤ 40 := by
      have := (Jo.ok_iff l).1 (Jo.read_ok hr)
      exact this.1
    obtain ⟨ll, HLL⟩ : ∃ k, Hid (l.length = k) := ⟨_, Lib.hid rfl⟩
    rw [HLL.out] at hrd2 hll
    have hrs := fun (W : World) (a : Option Addr) (cap : Nat) (hO : OL W a ll l) (hS : SR W b n ss) => specRunScript_any a b ll cap n c l ss E W hO (by omega) hS hn hz ht
    unfold RsP at hrs
    obtain ⟨R1, HR1⟩ : ∃ r, Hid ((Vm.run E l ss).1 = r) := ⟨_, Lib.hid rfl⟩
    obtain ⟨R2, HR2⟩ : ∃ r, Hid ((Vm.run E l ss).2 = r) := ⟨_, Lib.hid rfl⟩
    rw [HR1.out, HR2.out] at hrs
    unfold UnP
    rw [hr]
    clear hrd hr hz
    by_cases hc : R2 = 0
    · by_cases hl : R1.length = 1
      · obtain ⟨a, rfl⟩ : ∃ a, R1 = [a] := by
          rcases R1 with _ | ⟨a, _ | ⟨b, r⟩⟩
          · cases hl
          · exact ⟨a, rfl⟩
          · simp at hl
        subst hc
        have HQ := Lib.hid (Vm.opens_yes HR1.out HR2.out)
        rw [HQ.out]
        obtain ⟨q, HV⟩ : ∃ q, Hid (decide (a.size ≠ 0) = q) := ⟨_, Lib.hid rfl⟩
        rw [HV.out]
        have hqe : (!a.toList.isEmpty) = q := by rw [str_empty_iff, ← HV.out]; simp
        have hqd : (!decide (a = ByteArray.empty)) = q := by
          rw [← hqe]
          congr 1
          rw [str_empty_iff, decide_eq_decide]
          exact ⟨fun e => by rw [e]; rfl, fun e => ByteArray.ext (Array.eq_empty_of_size_eq_zero e)⟩
        simp only [List.length_singleton] at hrs
        clear HQ HV HR1 HR2 hl
        go_enter Tryz.func79, Tryz.ntmps79
        go_wp2_with fail
        refine hrd2.mono ?_
        rintro e w1 ⟨p, cap, rfl, hO, hb1⟩
        have s1 := s0.below hb1
        obtain ⟨m0, m1, m2⟩ := Bk.c3w (hE.below hb1)
        have bb1 := below_aft9 hb0 hb1
        clear s0 hb1 hb0 hrd2 hE
        go_wp2_with fail
        refine (hrs _ p cap hO s1).mono ?_
        rintro e w2 ⟨p2, c2, rfl, hown, hb2⟩
        obtain ⟨g, rfl, _, _, hcc⟩ := own_at hown (i := 0) (by omega)
        have hc0 := (hcc 0 (by omega)).trans rfl
        have bb2 := below_aft9 bb1 hb2
        clear hcc hown hrs hO s1 m0 m1 m2 bb1 hb2
        go_wp2
        go_ret
        exact ⟨rfl, bb2⟩
      · have HQ : Hid (Vm.opens E (some l) ss = false) := Lib.hid (Vm.opens_len (by rw [HR1.out]; exact hl))
        rw [HQ.out]
        subst hc
        obtain ⟨k1, HK1⟩ : ∃ k, Hid (R1.length = k) := ⟨_, Lib.hid rfl⟩
        rw [HK1.out] at hl hrs
        have hq : ((k1 : Int) == 1) = false := by simp; omega
        clear HQ HR1 HR2 hl
        go_enter Tryz.func79, Tryz.ntmps79
        go_wp2_with fail
        refine hrd2.mono ?_
        rintro e w1 ⟨p, cap, rfl, hO, hb1⟩
        have s1 := s0.below hb1
        obtain ⟨m0, m1, m2⟩ := Bk.c3w (hE.below hb1)
        have bb1 := below_aft9 hb0 hb1
        clear s0 hb1 hb0 hrd2 hE
        go_wp2_with fail
        refine (hrs _ p cap hO s1).mono ?_
        rintro e w2 ⟨p2, c2, rfl, hown, hb2⟩
        have bb2 := below_aft9 bb1 hb2
        clear hown hrs hO s1 m0 m1 m2 bb1 hb2
        go_wp2
        go_ret
        exact ⟨rfl, bb2⟩
    · have HQ : Hid (Vm.opens E (some l) ss = false) := Lib.hid (Vm.opens_code (by rw [HR2.out]; exact hc))
      rw [HQ.out]
      have hq : (R2 == 0) = false := by simpa using hc
      obtain ⟨k1, HK1⟩ : ∃ k, Hid (R1.length = k) := ⟨_, Lib.hid rfl⟩
      rw [HK1.out] at hrs
      clear HQ HR1 HR2 hc
      go_enter Tryz.func79, Tryz.ntmps79
      go_wp2_with fail
      refine hrd2.mono ?_
      rintro e w1 ⟨p, cap, rfl, hO, hb1⟩
      have s1 := s0.below hb1
      obtain ⟨m0, m1, m2⟩ := Bk.c3w (hE.below hb1)
      have bb1 := below_aft9 hb0 hb1
      clear s0 hb1 hb0 hrd2 hE
      go_wp2_with fail
      refine (hrs _ p cap hO s1).mono ?_
      rintro e w2 ⟨p2, c2, rfl, hown, hb2⟩
      have bb2 := below_aft9 bb1 hb2
      clear hown hrs hO s1 m0 m1 m2 bb1 hb2
      go_wp2
      go_ret
      exact ⟨rfl, bb2⟩
end Go.Proofs.YtoocibabceeagabGreat
