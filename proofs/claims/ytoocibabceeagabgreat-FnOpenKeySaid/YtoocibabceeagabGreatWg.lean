/-
  The machine of the program: the shared lock's operation.
-/
import Derived.Test.YtoocibabceeagabGreatWd
import Derived.LoopTactic
namespace Go.Proofs.YtoocibabceeagabGreat
open Go.RowKit

theorem sliceS_one (g q p cap : Nat) (h : p + 1 < cap) (W : World) :
    (Instr.slice 25 (.slice (some ⟨g, q, none⟩) (p + 1) cap) (some (.int .i64 1)) none none).run Tryz.prog W = .ok (.slice (some ⟨g, q + 1, none⟩) p (cap - 1)) W := by
  have h4 : ¬ cap = 1 := by omega
  have h5 : ¬ ((p : Int) + 1 < 1) := by omega
  simp [Instr.slice, Instr.sliceBounds, Instr.sliceBound, asIntOf, run_underlying Tryz.underlying25, h4, h5, Addr.add]
theorem many_cut (s : List ByteArray) (m n : Nat) : ((s.drop n).take m).reverse = (s.take (m + n)).reverse.take m ∧ (s.take n).reverse = (s.take (m + n)).reverse.drop m ∨ s.length < m + n := by
  by_cases h : s.length < m + n
  · exact .inr h
  · left
    have e1 : (s.take (m + n)).take n = s.take n := by rw [List.take_take, Nat.min_eq_left (by omega)]
    have e2 : (s.take (m + n)).drop n = (s.drop n).take m := by rw [List.drop_take]; congr 1; omega
    have e3 := rev_cut (s.take (m + n)) n
    rw [e1, e2] at e3
    have l : ((s.drop n).take m).reverse.length = m := by simp; omega
    constructor
    · rw [e3, List.take_left' l]
    · rw [e3, List.drop_left' l]
theorem drop_one {l : List ByteArray} {q : Nat} (h : q < l.length) : l.drop q = l.getD q ByteArray.empty :: l.drop (q + 1) := by
  rw [List.drop_eq_getElem_cons h, List.getD_eq_getElem?_getD, List.getElem?_eq_getElem h]
  rfl
set_option maxRecDepth 100000 in
set_option maxHeartbeats 6400000 in
theorem op12_any (base D : Nat) (E : Vm) (x : Jo) (s : List ByteArray) (br : List Bool) (w : World) (h : MPs base D E s br w) (hb : base ≤ w.heap.size) (hs : Vm.fits s) (hc : x.c = 12) (hf : Jo.fld x = true) (ht : E.t.size ≤ 1048576) :
    Calls Tryz.prog 189 #[.pointer (some ⟨D, 0, none⟩), x.val] w (StP base D E (Vm.fin br (Vm.act E x s)) w) := by
  obtain ⟨vi, vb, h⟩ := h
  have hAE : Vm.act E x s = (if s.length < (x.a + x.b).toNat then .error 2
    else .ok (Vm.tr (Vm.many E.t ((s.drop x.b.toNat).take x.a.toNat).reverse (s.take x.b.toNat).reverse) :: s.drop (x.a + x.b).toNat)) := by
    unfold Vm.act
    rw [if_neg (by omega), if_neg (by omega), if_neg (by omega), if_neg (by omega), if_neg (by omega), if_neg (by omega), if_neg (by omega), if_neg (by omega), if_neg (by omega), if_pos hc]
  rw [hAE]
  clear hAE
  obtain ⟨C, A, B, t⟩ := x
  simp only at hc ⊢
  subst hc
  have hfb : 1 ≤ A ∧ A ≤ B ∧ B ≤ 5 := by
    unfold Jo.fld at hf
    simp at hf
    omega
  obtain ⟨m, rfl⟩ := Int.eq_ofNat_of_zero_le (show 0 ≤ A by omega)
  obtain ⟨n, rfl⟩ := Int.eq_ofNat_of_zero_le (show 0 ≤ B by omega)
  have hS := hs.1
  have hm : 1 ≤ m ∧ m ≤ n ∧ n ≤ 5 := by omega
  have hmn : ((m : Int) + (n : Int)).toNat = m + n := by omega
  rw [hmn, Int.toNat_natCast, Int.toNat_natCast]
  have hwr : IntKind.i64.wrap ((m : Int) + (n : Int)) = (m : Int) + (n : Int) := by rw [IntKind.wrap_i64]; omega
  have h0 := h.alloc (.cells #[.int .i64 12, .int .i64 m, .int .i64 n, .string t] 77 (0, 0))
  have b0 : Fr base D w (w.alloc (.cells #[.int .i64 12, .int .i64 m, .int .i64 n, .string t] 77 (0, 0))) := (Fr.refl base D w).alloc hb _
  have hb0 := Nat.le_trans hb b0.size
  have hDl := h.blk.lt
  have hO : Bk w.heap.size 77 #[.int .i64 12, .int .i64 m, .int .i64 n, .string t] (w.alloc (.cells #[.int .i64 12, .int .i64 m, .int .i64 n, .string t] 77 (0, 0))) := Bk.new _ _ _
  clear h hf hfb
  by_cases hn : s.length < m + n
  · rw [if_pos hn]
    have htk := takeM_no base D (m + n) vi vb E s br _ h0 hn (by omega)
    rw [Int.natCast_add] at htk
    go_enter Tryz.func189, Tryz.ntmps189
    go_wp2_with fail
    refine htk.mono ?_
    rintro e w1 ⟨rfl, rfl⟩
    go_wp2
    exact ⟨rfl, StP.no rfl b0⟩
  · rw [if_neg hn]
    have htk := takeM_ok base D (m + n) vi vb E s br _ h0 hb0 (by omega) (by omega) (by omega)
    rw [Int.natCast_add] at htk
    obtain ⟨hc1, hc2⟩ := (many_cut s m n).resolve_right hn
    rw [hc1, hc2]
    obtain ⟨L, HL⟩ : ∃ L, Hid ((s.take (m + n)).reverse = L) := ⟨_, Lib.hid rfl⟩
    have hLl : L.length = m + n := by rw [← HL.out]; simp; omega
    rw [HL.out]
    obtain ⟨R, HR⟩ : ∃ R, Hid (Vm.many E.t (L.take m) (L.drop m) = R) := ⟨_, Lib.hid rfl⟩
    rw [HR.out]
    have hfit := fun (W : World) (v1 : Value) (g k : ByteArray) (hW : MP base D v1 vb E (s.drop (m + n)) br W) => fits_any base D v1 vb E (s.drop (m + n)) br g k W hW ht
    have hdl : (s.drop (m + n)).length < 24 := by rw [List.length_drop]; omega
    clear hc1 hc2 hs hn hS h0
    go_enter Tryz.func189, Tryz.ntmps189
    go_wp2_with fail
    refine htk.mono ?_
    rintro e w1 ⟨a, c, v1, rfl, hown, hM, hv, c1, hfr⟩
    obtain ⟨g, rfl, hg0, hg1, hcc⟩ := own_at hown (i := 0) (by omega)
    rw [HL.out] at hcc
    obtain ⟨_, _, he, hcap, hmax⟩ := own_slice hown
    cases he
    have b1 := b0.trans c1
    have hO1 : Bk w.heap.size 77 #[.int .i64 12, .int .i64 m, .int .i64 n, .string t] w1 := ⟨(hfr _ (by simp) (by omega)).trans hO.held⟩
    have hcell : ∀ j, j < m + n → w1.cell? ⟨g, j, none⟩ = some (.string (L.getD j ByteArray.empty)) := fun j hj => by
      rw [hcc j hj, List.getElem?_map, List.getD_eq_getElem?_getD, List.getElem?_eq_getElem (by omega)]
      rfl
    obtain ⟨o0, o1, o2, o3⟩ := Bk.c4 hO1
    obtain ⟨p0, p1, p2, p3⟩ := Bk.c4 hO1.drew
    have hsh := fun W => sliceS_hi g (m + n) m c (by omega) hcap W
    have hsl := fun W => sliceS_lo g m n c (by omega) hcap W
    have HM := Lib.hid hM
    have HC := Lib.hid hcell
    have HB1 := Lib.hid b1
    have HHG := Lib.hid hg1
    clear hcc hcell hM b1 hO hO1 hfr c1 hown htk hv b0 hb0 hDl hg0 hg1
    go_wp2
    go_quiet (fail)
    go_wp2
    go_loopw [5, 8, 26] (fun sg _ i wr => ∃ (j q p cc : Nat), j ≤ n ∧ q + p = m ∧ p + n ≤ cc ∧ i = .int .i64 (j : Int) ∧ sg = .slice (some ⟨g, q, none⟩) p cc ∧ Vm.many E.t ((L.take m).drop q) ((L.drop m).drop j) = R ∧ Below w1.heap.size w1 wr)
      (fun _ _ i _ => n - (intOf i).toNat)
    case atStart => exact ⟨0, 0, m, c, by omega, by omega, by omega, rfl, rfl, by rw [List.drop_zero, List.drop_zero]; exact HR.out, below_drewN10 (Below.refl _ _) _⟩
    case round =>
      obtain ⟨j, q, p, cc, hj, hqp, hcp, rfl, rfl, hman, hbel⟩ := hrel
      have hMr := HM.out.below hbel
      have hbb : base ≤ w1.heap.size := Nat.le_trans hb HB1.out.size
      by_cases hlt : j < n
      · have hkc : wr.cell? ⟨g, m + j, none⟩ = some (.string (L.getD (m + j) ByteArray.empty)) := (hbel.cell (p := ⟨g, m + j, none⟩) HHG.out).trans (HC.out (m + j) (by omega))
        have hkd : (L.drop m).drop j = L.getD (m + j) ByteArray.empty :: (L.drop m).drop (j + 1) := by
          rw [drop_one (by rw [List.length_drop]; omega)]
          congr 1
          rw [List.getD_eq_getElem?_getD, List.getElem?_drop, List.getD_eq_getElem?_getD]
        obtain ⟨K, HK⟩ : ∃ K, Hid (L.getD (m + j) ByteArray.empty = K) := ⟨_, Lib.hid rfl⟩
        rw [HK.out] at hkc hkd
        rw [hkd] at hman
        rcases Nat.eq_zero_or_pos p with hp | hp
        · subst hp
          have hsn : (L.take m).drop q = [] := List.drop_eq_nil_of_le (by rw [List.length_take]; omega)
          have hman2 : Vm.many E.t ((L.take m).drop q) ((L.drop m).drop (j + 1)) = R := by
            rw [← hman, hsn, Vm.many_nil, Vm.many_nil]
          have HM2 := Lib.hid hman2
          have HBE := Lib.hid hbel
          have HCP := Lib.hid hcp
          clear hman hman2 hsn hkd hMr hbel
          go_wp2
          go_roundw
          case rel => exact ⟨j + 1, q, 0, cc, by omega, by omega, HCP.out, by simp, rfl, HM2.out, HBE.out⟩
          case measure => simp [intOf]; omega
        · obtain ⟨p', rfl⟩ : ∃ p', p = p' + 1 := ⟨p - 1, by omega⟩
          have hsc : wr.cell? ⟨g, q, none⟩ = some (.string (L.getD q ByteArray.empty)) := (hbel.cell (p := ⟨g, q, none⟩) HHG.out).trans (HC.out q (by omega))
          have hsd : (L.take m).drop q = L.getD q ByteArray.empty :: (L.take m).drop (q + 1) := by
            rw [drop_one (by rw [List.length_take]; omega)]
            congr 1
            rw [List.getD_eq_getElem?_getD, List.getElem?_take_of_lt (by omega), List.getD_eq_getElem?_getD]
          obtain ⟨S, HS⟩ : ∃ S, Hid (L.getD q ByteArray.empty = S) := ⟨_, Lib.hid rfl⟩
          rw [HS.out] at hsc hsd
          have hft := hfit wr v1 S K hMr
          have HSD := Lib.hid hsd
          have HBE := Lib.hid hbel
          rw [hsd] at hman
          cases hv : Vm.sg E.t S K
          · rw [hv] at hft
            rw [Vm.many_no _ _ hv] at hman
            have HMA := Lib.hid hman
            clear hman hsd hkd hMr hbel hv hfit
            go_wp2_with fail
            refine hft.mono ?_
            rintro e w2 ⟨rfl, hb2⟩
            have HB3 := Lib.hid (below_aft9 HBE.out hb2)
            clear hb2 hft
            go_wp2
            go_roundw
            case rel => exact ⟨j + 1, q, p' + 1, cc, by omega, by omega, by omega, by simp, rfl, by rw [HSD.out]; exact HMA.out, HB3.out⟩
            case measure => simp [intOf]; omega
          · rw [hv] at hft
            rw [Vm.many_yes _ _ hv] at hman
            have HMA := Lib.hid hman
            have hs1 := fun W => sliceS_one g q p' cc (by omega) W
            clear hman hsd hkd hMr hbel hv hfit
            go_wp2_with fail
            refine hft.mono ?_
            rintro e w2 ⟨rfl, hb2⟩
            have HB3 := Lib.hid (below_aft9 HBE.out hb2)
            clear hb2 hft
            go_wp2
            go_roundw
            case rel => exact ⟨j + 1, q + 1, p', cc - 1, by omega, by omega, by omega, by simp, rfl, HMA.out, HB3.out⟩
            case measure => simp [intOf]; omega
      · have hjn : j = n := by omega
        have hkn : (L.drop m).drop j = [] := List.drop_eq_nil_of_le (by rw [List.length_drop]; omega)
        have hQ : decide (p = 0) = R := by
          rw [← hman, hkn, Vm.many_none, Bool.eq_iff_iff, decide_eq_true_eq, List.isEmpty_iff, List.drop_eq_nil_iff, List.length_take]
          omega
        have hQ2 : ((p : Int) == 0) = R := by rw [← hQ, Bool.eq_iff_iff]; simp
        have hps := pushTruth_ok base D v1 vb E (s.drop (m + n)) br R wr hMr (Nat.le_trans hbb hbel.size) hdl
        have HQ := Lib.hid hQ
        have HBE := Lib.hid (HB1.out.trans (Fr.of hbb hbel))
        clear hman hkn hbel hMr hfit hQ
        go_wp2_with fail
        refine hps.mono ?_
        rintro e w2 ⟨v2, rfl, h2, c2, _⟩
        go_wp2
        go_end0
        exact StP.ok rfl h2 (HBE.out.trans c2)
end Go.Proofs.YtoocibabceeagabGreat
