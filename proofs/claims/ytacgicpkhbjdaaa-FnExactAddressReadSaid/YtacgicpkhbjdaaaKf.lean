/-
  Contracts of addresses: AddressMend; of the program.
-/
import Derived.Test.YtacgicpkhbjdaaaKe
namespace Go.Proofs.Ytacgicpkhbjdaaa
open Go.RowKit

/-- What is mended of s. -/
def Ka.mm (s : ByteArray) : Option (List Int) := if Ka.gd s = true then Ka.mend (Ka.vals s) else none
def Ka.ms (s : ByteArray) : ByteArray := match Ka.mm s with
  | some m => Ka.str m
  | none => ⟨#[]⟩
def Ka.mb (s : ByteArray) : Bool := (Ka.mm s).isSome
theorem Ka.m_no {s : ByteArray} (h : Ka.mm s = none) : Ka.ms s = ⟨#[]⟩ ∧ Ka.mb s = false := by unfold Ka.ms Ka.mb; rw [h]; exact ⟨rfl, rfl⟩
theorem Ka.m_yes {s : ByteArray} {m : List Int} (h : Ka.mm s = some m) : Ka.ms s = Ka.str m ∧ Ka.mb s = true := by unfold Ka.ms Ka.mb; rw [h]; exact ⟨rfl, rfl⟩
theorem Ka.ok_iff (l : List Int) : Ka.ok l = true ↔ Ka.Good l := by unfold Ka.ok; simp
/-- What AddressMend answers. -/
def Ka.ma (o : Option (List Int)) (e : Ending) : Prop := e = .returned (.tuple #[.string (match o with | some m => Ka.str m | none => ⟨#[]⟩), .bool o.isSome])
theorem Ka.ma_eq {s : ByteArray} {e : Ending} (h : Ka.ma (Ka.mm s) e) : e = .returned (.tuple #[.string (Ka.ms s), .bool (Ka.mb s)]) := h
theorem ka_set (l : List Int) (k : Nat) (v : Int) : ((l.map (Value.int .i64)).toArray).setIfInBounds k (.int .i64 v) = ((l.set k v).map (Value.int .i64)).toArray := by
  rw [List.setIfInBounds_toArray, List.map_set]
theorem ka_cell {l : List Int} {k : Nat} (hk : k < l.length) : ((l.map (Value.int .i64)).toArray)[k]? = some (.int .i64 (Ka.at_ l k)) := by
  unfold Ka.at_
  rw [List.getElem?_toArray, List.getElem?_map, List.getD_eq_getElem?_getD, List.getElem?_eq_getElem hk]
  rfl
set_option maxRecDepth 100000 in
set_option maxHeartbeats 3200000 in
theorem implAddressMend_any (s : ByteArray) (w : World) : Calls Try.prog 18 #[.string s] w fun e w' => Ka.ma (Ka.mm s) e ∧ Below w.heap.size w w' := by
  have HV := Lib.hid (addressValuesOf_any s)
  cases hg : Ka.gd s
  · have hm : Ka.mm s = none := by unfold Ka.mm; rw [hg]; rfl
    rw [hm]
    have HG := Lib.hid hg
    clear hg hm
    go_enter Try.func18, Try.ntmps18
    go_wp2_with fail
    refine (HV.out _).mono ?_
    rintro e1 w1 ⟨hv, hb1⟩
    obtain rfl : e1 = .returned (.tuple #[(.agg #[.int .i64 0, .int .i64 0, .int .i64 0, .int .i64 0, .int .i64 0, .int .i64 0, .int .i64 0, .int .i64 0, .int .i64 0, .int .i64 0]), .bool false]) := by
      rcases hv with ⟨h, _⟩ | ⟨_, h⟩
      · rw [HG.out] at h; cases h
      · exact h
    clear hv
    have hbel := hb1.alloc hb1.size (.cells #[.int .i64 0, .int .i64 0, .int .i64 0, .int .i64 0, .int .i64 0, .int .i64 0, .int .i64 0, .int .i64 0, .int .i64 0, .int .i64 0] 40 (0, 0))
    go_wp2
    go_ret2
    exact ⟨rfl, hbel⟩
  · have hpre := ((Ka.gd_iff s).1 hg).2
    have hin := Ka.vals_in hpre
    have hl := Ka.vals_len s
    have hm : Ka.mm s = Ka.mend (Ka.vals s) := by unfold Ka.mm; rw [hg]; rfl
    have HG := Lib.hid hg
    have hvv : ∀ W, Calls Try.prog 28 #[.string s] W fun e w' => e = .returned (.tuple #[(.agg #[.int .i64 (Ka.at_ (Ka.vals s) 0), .int .i64 (Ka.at_ (Ka.vals s) 1), .int .i64 (Ka.at_ (Ka.vals s) 2), .int .i64 (Ka.at_ (Ka.vals s) 3), .int .i64 (Ka.at_ (Ka.vals s) 4), .int .i64 (Ka.at_ (Ka.vals s) 5), .int .i64 (Ka.at_ (Ka.vals s) 6), .int .i64 (Ka.at_ (Ka.vals s) 7), .int .i64 (Ka.at_ (Ka.vals s) 8), .int .i64 (Ka.at_ (Ka.vals s) 9)]), .bool true]) ∧ Below W.heap.size W w' := fun W => (HV.out W).mono fun e w' ⟨hv, hb⟩ => ⟨(by
      rcases hv with ⟨_, h⟩ | ⟨h, _⟩
      · exact h
      · rw [HG.out] at h; cases h), hb⟩
    rw [hm]
    obtain ⟨l, hLL⟩ : ∃ l, Ka.vals s = l := ⟨_, rfl⟩
    rw [hLL] at hin hl hvv ⊢
    clear hpre HV HG hg hLL hm
    have hvx : ∃ x0 x1 x2 x3 x4 x5 x6 x7 x8 x9, l = [x0, x1, x2, x3, x4, x5, x6, x7, x8, x9] := by
      obtain ⟨x0, x1, x2, x3, x4, x5, x6, x7, x8, x9, h⟩ := Ka.ten hl
      exact ⟨x0, x1, x2, x3, x4, x5, x6, x7, x8, x9, h⟩
    obtain ⟨x0, x1, x2, x3, x4, x5, x6, x7, x8, x9, hlx⟩ := hvx
    have hsum : ∀ W, Calls Try.prog 34 #[(.agg #[.int .i64 x0, .int .i64 x1, .int .i64 x2, .int .i64 x3, .int .i64 x4, .int .i64 x5, .int .i64 x6, .int .i64 x7, .int .i64 x8, .int .i64 x9])] W fun e w' => e = .returned (.tuple #[.int .i64 (Ka.sum l 10), .int .i64 (Ka.wsum l 10)]) ∧ Below W.heap.size W w' := fun W => by
      rw [hlx]; exact kaSums_any x0 x1 x2 x3 x4 x5 x6 x7 x8 x9 W (by rw [← hlx]; exact hin)
    have hvv2 : ∀ W, Calls Try.prog 28 #[.string s] W fun e w' => e = .returned (.tuple #[(.agg #[.int .i64 x0, .int .i64 x1, .int .i64 x2, .int .i64 x3, .int .i64 x4, .int .i64 x5, .int .i64 x6, .int .i64 x7, .int .i64 x8, .int .i64 x9]), .bool true]) ∧ Below W.heap.size W w' := fun W => by
      have := hvv W
      rw [hlx] at this
      exact this
    have HLX := Lib.hid hlx
    have HSUM := Lib.hid hsum
    have HVV := Lib.hid hvv2
    have HIN := Lib.hid hin
    have HL := Lib.hid hl
    have hbs := Ka.sum_bd hin 10
    have HFB : Hid (∀ k, Ka.fit l k = (Ka.at_ l k - Ka.sum l 10) % 31) := Lib.hid fun k => rfl
    have HM : Hid (Ka.mend l = Ka.seek l 0 10) := Lib.hid rfl
    rw [HM.out]
    obtain ⟨P, HP⟩ : ∃ P, Hid (Ka.sum l 10 = P) := ⟨_, Lib.hid rfl⟩
    obtain ⟨PW, HPW⟩ : ∃ P, Hid (Ka.wsum l 10 = P) := ⟨_, Lib.hid rfl⟩
    rw [HP.out] at HSUM HFB hbs
    rw [HPW.out] at HSUM
    obtain ⟨p0, p1⟩ := hbs
    clear hvv hvv2 hlx hsum hin hl HM HPW HP
    go_enter Try.func18, Try.ntmps18
    go_wp2_with fail
    refine (HVV.out _).mono ?_
    rintro e1 w1 ⟨rfl, hb1⟩
    have hbel := hb1.alloc hb1.size (.cells #[.int .i64 x0, .int .i64 x1, .int .i64 x2, .int .i64 x3, .int .i64 x4, .int .i64 x5, .int .i64 x6, .int .i64 x7, .int .i64 x8, .int .i64 x9] 40 (0, 0))
    have hv1 : Bk w1.heap.size 40 #[.int .i64 x0, .int .i64 x1, .int .i64 x2, .int .i64 x3, .int .i64 x4, .int .i64 x5, .int .i64 x6, .int .i64 x7, .int .i64 x8, .int .i64 x9] (w1.alloc (.cells #[.int .i64 x0, .int .i64 x1, .int .i64 x2, .int .i64 x3, .int .i64 x4, .int .i64 x5, .int .i64 x6, .int .i64 x7, .int .i64 x8, .int .i64 x9] 40 (0, 0))) := Bk.new _ _ _
    have hsz1 := hb1.size
    go_wp2_with fail
    refine (HSUM.out _).mono ?_
    rintro e2 w2 ⟨rfl, hb2⟩
    have hbel2 := below_aft hbel hb2
    have hv2 := hv1.below hb2
    have HV2 := Lib.hid hv2
    have HB2 := Lib.hid hbel2
    have HS1 := Lib.hid hsz1
    clear hb1 hb2 hbel hv1 hv2 hbel2 hsz1
    go_wp2
    go_loopw [22] (fun i wr => ∃ k : Nat, k ≤ 10 ∧ i = .int .i64 (k : Int) ∧ Hid (Ka.seek l 0 10 = Ka.seek l k (10 - k)) ∧ Bk w1.heap.size 40 #[.int .i64 x0, .int .i64 x1, .int .i64 x2, .int .i64 x3, .int .i64 x4, .int .i64 x5, .int .i64 x6, .int .i64 x7, .int .i64 x8, .int .i64 x9] wr ∧ Below w.heap.size w wr)
      (fun i _ => 10 - (intOf i).toNat)
    case atStart => exact ⟨0, by omega, rfl, Lib.hid rfl, HV2.out, HB2.out⟩
    case round =>
      obtain ⟨k, hk, rfl, HK, hv, hbel⟩ := hrel
      by_cases hlt : k < 10
      · have hav := Ka.at_bd HIN.out k
        have hfb := Ka.fit_bd l k
        have hck : wr.cell? ⟨w1.heap.size, k, none⟩ = some (.int .i64 (Ka.at_ l k)) := by
          rw [hv.cell]
          have := ka_cell (l := l) (k := k) (by rw [HL.out]; exact hlt)
          rw [HLX.out] at this ⊢
          exact this
        have HHERE := Lib.hid (fun h => Ka.seek_here (l := l) (k := k) (n := 10 - (k + 1)) h)
        have HSTEP := Lib.hid (fun h => Ka.seek_step (l := l) (k := k) (n := 10 - (k + 1)) h)
        rw [show 10 - (k + 1) + 1 = 10 - k by omega, ← HK.out] at HHERE HSTEP
        have hF := HFB.out k
        have hl2 : (l.set k (Ka.fit l k)).length = 10 := by rw [List.length_set]; exact HL.out
        have hin2 := HIN.out.fit k
        have HCS : Hid ((#[.int .i64 x0, .int .i64 x1, .int .i64 x2, .int .i64 x3, .int .i64 x4, .int .i64 x5, .int .i64 x6, .int .i64 x7, .int .i64 x8, .int .i64 x9] : Array Value).setIfInBounds k (.int .i64 (Ka.fit l k)) = ((l.set k (Ka.fit l k)).map (Value.int .i64)).toArray) := Lib.hid (by
          rw [← ka_set, HLX.out]; rfl)
        obtain ⟨a, HA⟩ : ∃ a, Hid (Ka.at_ l k = a) := ⟨_, Lib.hid rfl⟩
        rw [HA.out] at hav hck hF
        obtain ⟨f, HF⟩ : ∃ f, Hid (Ka.fit l k = f) := ⟨_, Lib.hid rfl⟩
        rw [HF.out] at hfb hF hl2 hin2 HCS HHERE HSTEP
        obtain ⟨m, HMM⟩ : ∃ m, Hid (l.set k f = m) := ⟨_, Lib.hid rfl⟩
        rw [HMM.out] at hl2 hin2 HCS HHERE HSTEP
        have hvy : ∃ y0 y1 y2 y3 y4 y5 y6 y7 y8 y9, m = [y0, y1, y2, y3, y4, y5, y6, y7, y8, y9] := by
          obtain ⟨y0, y1, y2, y3, y4, y5, y6, y7, y8, y9, h⟩ := Ka.ten hl2
          exact ⟨y0, y1, y2, y3, y4, y5, y6, y7, y8, y9, h⟩
        obtain ⟨y0, y1, y2, y3, y4, y5, y6, y7, y8, y9, hmy⟩ := hvy
        have HMY := Lib.hid hmy
        have hcs : (#[.int .i64 x0, .int .i64 x1, .int .i64 x2, .int .i64 x3, .int .i64 x4, .int .i64 x5, .int .i64 x6, .int .i64 x7, .int .i64 x8, .int .i64 x9] : Array Value).setIfInBounds k (.int .i64 f) = #[.int .i64 y0, .int .i64 y1, .int .i64 y2, .int .i64 y3, .int .i64 y4, .int .i64 y5, .int .i64 y6, .int .i64 y7, .int .i64 y8, .int .i64 y9] := by rw [HCS.out, hmy]; rfl
        have hA := fun W => areAddress_any y0 y1 y2 y3 y4 y5 y6 y7 y8 y9 W (by rw [← hmy]; exact hin2)
        have hT := fun W => kaText_any y0 y1 y2 y3 y4 y5 y6 y7 y8 y9 W (by rw [← hmy]; exact hin2)
        rw [← hmy] at hA hT
        have hn0 : Bk wr.heap.size 40 #[.int .i64 x0, .int .i64 x1, .int .i64 x2, .int .i64 x3, .int .i64 x4, .int .i64 x5, .int .i64 x6, .int .i64 x7, .int .i64 x8, .int .i64 x9] (wr.alloc (.cells #[.int .i64 x0, .int .i64 x1, .int .i64 x2, .int .i64 x3, .int .i64 x4, .int .i64 x5, .int .i64 x6, .int .i64 x7, .int .i64 x8, .int .i64 x9] 40 (0, 0))) := Bk.new _ _ _
        have hn1 := hn0.set k (.int .i64 f)
        rw [hcs] at hn1
        have hv1 := (hv.alloc (.cells #[.int .i64 x0, .int .i64 x1, .int .i64 x2, .int .i64 x3, .int .i64 x4, .int .i64 x5, .int .i64 x6, .int .i64 x7, .int .i64 x8, .int .i64 x9] 40 (0, 0))).oset wr.heap.size k (.int .i64 f) (by have := hv.lt; omega)
        have hbl1 := (hbel.alloc hbel.size (.cells #[.int .i64 x0, .int .i64 x1, .int .i64 x2, .int .i64 x3, .int .i64 x4, .int .i64 x5, .int .i64 x6, .int .i64 x7, .int .i64 x8, .int .i64 x9] 40 (0, 0))).setCell (p := ⟨wr.heap.size, k, none⟩) hbel.size (.int .i64 f)
        have HN1 := Lib.hid hn1
        have HV1 := Lib.hid hv1
        have HBL1 := Lib.hid hbl1
        have HAD := Lib.hid hA
        have HTX := Lib.hid hT
        have hBlt := hv.lt
        obtain ⟨a0, a1⟩ := hav
        obtain ⟨f0, f1⟩ := hfb
        have hcx : (wr.alloc (.cells #[.int .i64 x0, .int .i64 x1, .int .i64 x2, .int .i64 x3, .int .i64 x4, .int .i64 x5, .int .i64 x6, .int .i64 x7, .int .i64 x8, .int .i64 x9] 40 (0, 0))).cell? ⟨w1.heap.size, k, none⟩ = some (.int .i64 a) := by rw [(hv.alloc _).cell, ← hv.cell]; exact hck
        have hcn : ∃ u, (wr.alloc (.cells #[.int .i64 x0, .int .i64 x1, .int .i64 x2, .int .i64 x3, .int .i64 x4, .int .i64 x5, .int .i64 x6, .int .i64 x7, .int .i64 x8, .int .i64 x9] 40 (0, 0))).cell? ⟨wr.heap.size, k, none⟩ = some u := by
          rw [hn0.cell]
          exact ⟨_, Array.getElem?_eq_getElem (by simpa using hlt)⟩
        obtain ⟨u, hcu⟩ := hcn
        have hfu := hn0.fro k
        obtain ⟨c0, c1, c2, c3, c4, c5, c6, c7, c8, c9⟩ := Bk.c10 hv
        have HFF := Lib.hid hF
        clear hv hbel hn0 hn1 hv1 hbl1 hA hT hcs hmy hl2 hin2 HCS HK hF
        go_wp2_with fail
        refine (valueWithin_any _ _).mono ?_
        rintro e3 w3 ⟨rfl, rfl⟩
        rw [← HFF.out]
        clear HFF
        obtain ⟨W1, HW1⟩ : ∃ W1, Hid (wr.alloc (.cells #[.int .i64 x0, .int .i64 x1, .int .i64 x2, .int .i64 x3, .int .i64 x4, .int .i64 x5, .int .i64 x6, .int .i64 x7, .int .i64 x8, .int .i64 x9] 40 (0, 0)) = W1) := ⟨_, Lib.hid rfl⟩
        rw [HW1.out] at hcx hcu hfu HN1 HV1 HBL1 ⊢
        clear HW1
        obtain ⟨d0, d1, d2, d3, d4, d5, d6, d7, d8, d9⟩ := Bk.c10 HN1.out
        cases hok : Ka.ok m
        · have HS := Lib.hid (HSTEP.out (fun g => by rw [(Ka.ok_iff m).2 g] at hok; cases hok))
          rw [hok] at HAD
          clear hok HHERE HSTEP
          go_wp2_with fail
          ((with_reducible refine (HAD.out _).mono ?_))
          rintro e4 w4 ⟨rfl, hb4⟩
          have hv4 := HV1.out.below hb4
          have hbel4 := below_aft HBL1.out hb4
          clear hb4 HN1 HV1 HBL1 d0 d1 d2 d3 d4 d5 d6 d7 d8 d9 c0 c1 c2 c3 c4 c5 c6 c7 c8 c9 hcx hcu hfu
          go_wp2
          go_roundw
          case rel => exact ⟨k + 1, by omega, by simp, HS, hv4, hbel4⟩
          case measure => simp [intOf]; omega
        · have HS := Lib.hid (HHERE.out ((Ka.ok_iff m).1 hok))
          rw [hok] at HAD
          clear hok HHERE HSTEP
          go_wp2_with fail
          ((with_reducible refine (HAD.out _).mono ?_))
          rintro e4 w4 ⟨rfl, hb4⟩
          have hn4 := HN1.out.below hb4
          have hbel4 := below_aft HBL1.out hb4
          clear hb4 HN1 HV1 HBL1 d0 d1 d2 d3 d4 d5 d6 d7 d8 d9 c0 c1 c2 c3 c4 c5 c6 c7 c8 c9 hcx hcu hfu
          obtain ⟨d0, d1, d2, d3, d4, d5, d6, d7, d8, d9⟩ := Bk.c10 hn4
          go_wp2_with fail
          ((with_reducible refine (HTX.out _).mono ?_))
          rintro e5 w5 ⟨rfl, hb5⟩
          have hbel5 := below_aft hbel4 hb5
          clear hb5 hbel4 hn4 d0 d1 d2 d3 d4 d5 d6 d7 d8 d9
          go_wp2
          go_ret2
          exact ⟨by rw [HS.out]; rfl, hbel5⟩
      · obtain rfl : k = 10 := by omega
        have HE : Hid (Ka.seek l 0 10 = none) := Lib.hid HK.out
        go_wp2
        go_ret2
        exact ⟨by rw [HE.out]; rfl, hbel⟩

end Go.Proofs.Ytacgicpkhbjdaaa
