/-
  Contracts of the model's chapter 3: PeaksAdd.
-/
import Derived.Test.YtdgepneaeieogacMv
import Derived.Test.YtdgepneaeieogacMy
namespace Go.Proofs.Ytdgepneaeieogac
open Go.RowKit

def Me.paOk (n : Int) (p : List Int) : Prop := (0 ≤ n ∧ n ≤ 31) ∧ p.length = Me.ones n.toNat ∧ Me.digests p
noncomputable def Me.paL (n : Int) (p : List Int) (s : ByteArray) : List Int := open Classical in if Me.paOk n p then Me.addP n.toNat p (Dg.of (Me.leaf s)) else []
noncomputable def Me.paB (n : Int) (p : List Int) : Bool := open Classical in decide (Me.paOk n p)
theorem Me.paL_yes {n : Int} {p : List Int} {s : ByteArray} (h : Me.paOk n p) : Me.paL n p s = Me.addP n.toNat p (Dg.of (Me.leaf s)) := if_pos h
theorem Me.paL_no {n : Int} {p : List Int} {s : ByteArray} (h : ¬ Me.paOk n p) : Me.paL n p s = [] := if_neg h
theorem Me.paB_yes {n : Int} {p : List Int} (h : Me.paOk n p) : Me.paB n p = true := by unfold Me.paB; simpa using h
theorem Me.paB_no {n : Int} {p : List Int} (h : ¬ Me.paOk n p) : Me.paB n p = false := by unfold Me.paB; simpa using h
theorem Me.addP_step {n m : Nat} {p : List Int} {d : Int} (hn : n % 2 = 1) (hm : 1 ≤ m) (hmp : m ≤ p.length) :
    Me.addP n (p.take m) d = Me.addP (n / 2) (p.take (m - 1)) (Dg.of (Dg.pair (p.getD (m - 1) 0) d)) := by
  have hl : (p.take m).length = m := by rw [List.length_take]; omega
  rw [Me.addP_odd hn, hl, List.take_take, getD_takeI (by omega), Nat.min_eq_left (by omega)]

theorem Me.ones_le : ∀ k, Me.ones k ≤ k := by
  intro k
  induction k using Nat.strongRecOn with
  | ind k ih =>
    by_cases h0 : k = 0
    · subst h0; rw [Me.ones_zero]; omega
    · rw [Me.ones_pos (by omega)]
      have := ih (k / 2) (by omega)
      omega
theorem Me.ones_odd {n : Nat} (h : n % 2 = 1) : Me.ones n = 1 + Me.ones (n / 2) := by rw [Me.ones_pos (by omega), h]
theorem take_succI {p : List Int} {k : Nat} (h : k < p.length) : p.take (k + 1) = p.take k ++ [p.getD k 0] := by
  rw [List.take_add_one, List.getElem?_eq_getElem h, List.getD_eq_getElem?_getD, List.getElem?_eq_getElem h]
  rfl

set_option maxRecDepth 100000 in
set_option maxHeartbeats 1600000 in
theorem specPeaksAdd_any (n : Int) (a : Option Addr) (m cap : Nat) (p : List Int) (s : ByteArray) (w : World) (hp : IR w a m p) (hlen : m ≤ 9223372036854775807) (hs : s.size ≤ 4611686018427387000) :
    Calls Try.prog 9 #[.int .i64 n, .slice a m cap, .string s] w (OwnIB w.heap.size (Me.paL n p s) (Me.paB n p) w) := by
  have hpl := hp.1
  have HNIL : Hid (∀ W : World, OwnIB W.heap.size [] false W (.returned (.tuple #[.slice none 0 0, .bool false])) W) := Lib.hid fun W => ⟨none, 0, rfl, Below.refl _ _, ⟨rfl, .inl ⟨rfl, rfl⟩⟩⟩
  have HP := Lib.hid hp
  by_cases hn : 0 ≤ n ∧ n ≤ 31
  · have HN := Lib.hid (In.yes hn.1 hn.2)
    obtain ⟨n, rfl⟩ := Int.eq_ofNat_of_zero_le hn.1
    by_cases hm : m = Me.ones n
    · have hq : ((m : Int) != (Me.ones n : Int)) = false := by simp [hm]
      by_cases hdg : Me.digests p
      · have hok : Me.paOk n p := ⟨hn, by rw [Int.toNat_natCast]; omega, hdg⟩
        have HL := Lib.hid (Me.paL_yes (s := s) hok)
        have HB := Lib.hid (Me.paB_yes hok)
        rw [HL.out, HB.out, Int.toNat_natCast]
        obtain ⟨i0, hi, hz0, hz1, hz2⟩ := info_parts info_int
        obtain ⟨T, HT⟩ : ∃ T, Hid (Me.addP n p (Dg.of (Me.leaf s)) = T) := ⟨_, Lib.hid rfl⟩
        rw [HT.out]
        have HDG := Lib.hid hdg
        have HM := Lib.hid hm
        have hls := Me.leaf_size s
        obtain ⟨d0, HD0⟩ : ∃ d, Hid (Dg.of (Me.leaf s) = d) := ⟨_, Lib.hid rfl⟩
        have hd0 := Dg.of_bd (Me.leaf s)
        rw [HD0.out] at hd0 HT
        have hm64 : m ≤ n := by
          rw [hm]
          exact Me.ones_le n
        obtain ⟨o, HO⟩ : ∃ o, Hid (Me.ones n = o) := ⟨_, Lib.hid rfl⟩
        have HO3 : Hid (∀ W, Calls Try.prog 32 #[.int .i64 (n : Int)] W fun e w' => e = .returned (.int .i64 (o : Int)) ∧ w' = W) := Lib.hid fun W => by
          have := l3Ones_any n W (by omega)
          rw [HO.out] at this
          exact this
        rw [HO.out] at hq
        have HPL := Lib.hid hpl
        clear hp hm hdg hok hpl
        go_enter Try.func9, Try.ntmps9
        go_wp2_with fail
        refine (l6In_any _ _ _ _).mono ?_
        rw [HN.out]
        rintro e w1 ⟨rfl, rfl⟩
        go_wp2_with fail
        refine (HO3.out _).mono ?_
        rintro e w1 ⟨rfl, rfl⟩
        go_wp2_with fail
        refine (l3Digests_any a m cap p _ HP.out hlen).mono ?_
        rintro e w1 ⟨b1, rfl, hb1, rfl⟩
        obtain rfl : b1 = true := hb1.2 HDG.out
        clear hb1
        go_wp2_with fail
        refine (l3Leaf_any s _ (by omega)).mono ?_
        rintro e w2 ⟨rfl, hb2⟩
        go_wp2_with fail
        refine (specDigest_any (Me.leaf s) _ (by omega)).mono ?_
        rw [HD0.out]
        rintro e w3 ⟨rfl, hb3⟩
        have hbel := hb2.trans (hb3.mono hb2.size)
        clear hb2 hb3 hq hls
        go_wp2
        go_loopw [0, 8, 9] (fun v d x wr => ∃ (n' m' : Nat) (d' : Int), v = .int .i64 (n' : Int) ∧ d = .int .i64 d' ∧ x = .int .i64 (m' : Int) ∧ n' ≤ 31 ∧ m' ≤ m ∧ m' = Me.ones n' ∧ 0 ≤ d' ∧ d' ≤ 4294967295 ∧ Me.addP n' (p.take m') d' = T ∧ Below w1.heap.size w1 wr)
          (fun v _ _ _ => (intOf v).toNat)
        case atStart =>
          exact ⟨n, m, d0, rfl, rfl, rfl, by omega, Nat.le_refl _, by have := HM.out; omega, hd0.1, hd0.2, by rw [List.take_of_length_le (by have := HPL.out; omega)]; exact HT.out, hbel⟩
        case round =>
          clear hbel
          obtain ⟨n', m', d', rfl, rfl, rfl, hn31, hmm, hmo, hd0', hd1', hT, hbel⟩ := hrel
          by_cases hodd : n' % 2 = 1
          · have hm1 : 1 ≤ m' := by rw [hmo, Me.ones_odd hodd]; omega
            obtain ⟨j, rfl⟩ : ∃ j, m' = j + 1 := ⟨m' - 1, by omega⟩
            have hstep := Me.addP_step (p := p) (d := d') hodd hm1 (by have := HPL.out; omega)
            rw [Nat.add_sub_cancel] at hstep
            obtain ⟨b, off, rfl, hbw, hc⟩ := HP.out.2 (by omega)
            have hcj := hc j (by omega)
            have hdj := HDG.out _ (getD_memI (zs := p) (i := j) (by have := HPL.out; omega))
            obtain ⟨x, HX⟩ : ∃ x, Hid (p.getD j 0 = x) := ⟨_, Lib.hid rfl⟩
            rw [HX.out] at hcj hdj hstep
            have hcr : wr.cell? ⟨b, off + j, none⟩ = some (.int .i64 x) := (World.cell?_of_block (w := w1) (a := ⟨b, off + j, none⟩) (hbel.block b hbw)).trans hcj
            obtain ⟨y, HY⟩ : ∃ y, Hid (Dg.of (Dg.pair x d') = y) := ⟨_, Lib.hid rfl⟩
            have hy := Dg.of_bd (Dg.pair x d')
            rw [HY.out] at hy hstep
            have HTT : Hid (Me.addP (n' / 2) (p.take j) y = T) := Lib.hid (by rw [← hstep]; exact hT)
            have HJ : Hid (j = Me.ones (n' / 2)) := Lib.hid (by have := Me.ones_odd hodd; omega)
            have hodd2 : ((n' : Int) % 2 == 1) = true := by simp; omega
            have hn0 : (0 : Int) ≤ (n' : Int) := by omega
            have hn1 : 1 ≤ n' := by omega
            clear hstep hT hc hcj hmo hodd
            go_wp2_with fail
            refine (l2Pair_any x d' _ hdj.1 hdj.2 hd0' hd1').mono ?_
            rintro e w4 ⟨rfl, hb4⟩
            go_wp2_with fail
            refine (specDigest_any (Dg.pair x d') _ (by rw [Dg.pair_size]; decide)).mono ?_
            rw [HY.out]
            rintro e w5 ⟨rfl, hb5⟩
            have hbel5 := hbel.trans ((hb4.trans (hb5.mono hb4.size)).mono hbel.size)
            clear hbel hb4 hb5 hcr
            go_wp2
            go_roundw
            case rel => exact ⟨n' / 2, j, y, by simp, rfl, rfl, by omega, by omega, HJ.out, hy.1, hy.2, HTT.out, hbel5⟩
            case measure => simp [intOf]; omega
          · have hev : ((n' : Int) % 2 == 1) = false := by simp; omega
            have HTT : Hid (T = p.take m' ++ [d']) := Lib.hid (by rw [← hT, Me.addP_even hodd])
            have hmP : m' ≤ p.length := by have := HPL.out; omega
            have hm32 : m' ≤ 32 := by omega
            clear hT hmo hodd
            go_wp2
            go_loopw [10, 11] (fun o i wk => ∃ (k g cp : Nat), i = .int .i64 (k : Int) ∧ k ≤ m' ∧ o = .slice (some ⟨g, 0, none⟩) k cp ∧ Below w1.heap.size w1 wk ∧ wk.ownsRow w1.heap.size 3 1 (.slice (some ⟨g, 0, none⟩) k cp) k ((p.take k).map (Value.int .i64)))
              (fun _ i _ => m' - (intOf i).toNat)
            case atStart => exact ⟨0, wr.heap.size, 0, rfl, by omega, rfl, hbel.alloc hbel.size _, World.ownsRow_made (e := 3) (size := 1) wr #[] 0 hbel.size (by decide) rfl⟩
            case round =>
              obtain ⟨k, g, cp, rfl, hk, rfl, hbk, hown⟩ := hrel
              by_cases hlt : k < m'
              · obtain ⟨b, off, rfl, hbw, hc⟩ := HP.out.2 (by omega)
                have hck := hc k (by omega)
                obtain ⟨x, HX⟩ : ∃ x, Hid (p.getD k 0 = x) := ⟨_, Lib.hid rfl⟩
                rw [HX.out] at hck
                have hcr : wr.cell? ⟨b, off + k, none⟩ = some (.int .i64 x) := (World.cell?_of_block (w := w1) (a := ⟨b, off + k, none⟩) (hbk.block b hbw)).trans hck
                have HTK : Hid (p.take (k + 1) = p.take k ++ [x]) := Lib.hid (by rw [take_succI (by omega), HX.out])
                have hle := hbk.size
                have hmd : (((p.map (Value.int .i64)).take k) ++ [Value.int .i64 x]) = (p.take (k + 1)).map (Value.int .i64) := by rw [← List.map_take, HTK.out, List.map_append]; rfl
                have HMD := Lib.hid hmd
                clear hc hck hmd hbel
                go_wp2_with (at_builtin; refine wpList_append_own _ rfl _ _ 23 rfl w1.heap.size 3 i0 (.int .i64 0) 1 8 Try.underlying23 hi hz0 hz1 hz2 rfl (by decide) _ _ _ rfl (hown.alloc _) ⟨wr.heap.size, 0, none⟩ 1 1 [.int .i64 x] rfl rfl ?c1 ?c2 ?c3 ?c4 ?c5 ?_)
                case c1 => exact one_new _ _ _
                case c2 => intro u hu; simp at hu; subst hu; rfl
                case c3 => unfold maxLen; omega
                case c4 => omega
                case c5 => simp; exact Nat.le_succ_of_le hle
                intro v' w5 hown5 hgrow5 _
                have hbel5 := (hbk.alloc hle (.cells #[.int .i64 x] 3)).grown hgrow5 (by simp; exact Nat.le_succ_of_le hle) (fun j hj => (hown.lt _ hj).1)
                obtain ⟨g5, cp5, rfl⟩ : ∃ g cp, v' = .slice (some ⟨g, 0, none⟩) (k + 1) cp := by
                  rcases hown5.2 with ⟨h, h0⟩ | ⟨g, cap, cur, h, _⟩
                  · omega
                  · exact ⟨_, _, h⟩
                rw [HMD.out] at hown5
                clear hown hgrow5 hbk hcr
                go_wp2
                go_roundw
                case rel => exact ⟨k + 1, g5, cp5, by simp, by omega, rfl, hbel5, hown5⟩
                case measure => simp [intOf]; omega
              · have hkm : k = m' := by omega
                subst hkm
                have hle := hbk.size
                have htl : T.length = k + 1 := by rw [HTT.out]; simp; omega
                have hmd : (((p.map (Value.int .i64)).take k) ++ [Value.int .i64 d']) = T.map (Value.int .i64) := by rw [← List.map_take, HTT.out, List.map_append]; rfl
                have HMD := Lib.hid hmd
                have HTL := Lib.hid htl
                clear hlt hmd htl hbel
                go_wp2_with (at_builtin; refine wpList_append_own _ rfl _ _ 23 rfl w1.heap.size 3 i0 (.int .i64 0) 1 8 Try.underlying23 hi hz0 hz1 hz2 rfl (by decide) _ _ _ rfl (hown.alloc _) ⟨wr.heap.size, 0, none⟩ 1 1 [.int .i64 d'] rfl rfl ?c1 ?c2 ?c3 ?c4 ?c5 ?_)
                case c1 => exact one_new _ _ _
                case c2 => intro u hu; simp at hu; subst hu; rfl
                case c3 => unfold maxLen; omega
                case c4 => omega
                case c5 => simp; exact Nat.le_succ_of_le hle
                intro v' w5 hown5 hgrow5 _
                have hbel5 := (hbk.alloc hle (.cells #[.int .i64 d'] 3)).grown hgrow5 (by simp; exact Nat.le_succ_of_le hle) (fun j hj => (hown.lt _ hj).1)
                rw [HMD.out, ← HTL.out] at hown5
                obtain ⟨g5, cp5, rfl⟩ : ∃ g cp, v' = .slice (some ⟨g, 0, none⟩) T.length cp := by
                  rcases hown5.2 with ⟨h, h0⟩ | ⟨g, cap, cur, h, _⟩
                  · have := HTL.out; omega
                  · exact ⟨_, _, h⟩
                clear hown hgrow5 hbk
                go_wp2
                go_ret2
                exact ⟨_, cp5, rfl, hbel5, hown5⟩
      · have hno : ¬ Me.paOk n p := fun h => hdg h.2.2
        have HL := Lib.hid (Me.paL_no (s := s) hno)
        have HB := Lib.hid (Me.paB_no hno)
        rw [HL.out, HB.out]
        have HDG := Lib.hid hdg
        obtain ⟨o, HO⟩ : ∃ o, Hid (Me.ones n = o) := ⟨_, Lib.hid rfl⟩
        have HO3 : Hid (∀ W, Calls Try.prog 32 #[.int .i64 (n : Int)] W fun e w' => e = .returned (.int .i64 (o : Int)) ∧ w' = W) := Lib.hid fun W => by
          have := l3Ones_any n W (by omega)
          rw [HO.out] at this
          exact this
        rw [HO.out] at hq
        clear hp hm hdg hno hpl
        go_enter Try.func9, Try.ntmps9
        go_wp2_with fail
        refine (l6In_any _ _ _ _).mono ?_
        rw [HN.out]
        rintro e w1 ⟨rfl, rfl⟩
        go_wp2_with fail
        refine (HO3.out _).mono ?_
        rintro e w1 ⟨rfl, rfl⟩
        go_wp2_with fail
        refine (l3Digests_any a m cap p _ HP.out hlen).mono ?_
        rintro e w1 ⟨b1, rfl, hb1, rfl⟩
        obtain rfl : b1 = false := by
          rw [Bool.eq_false_iff]
          exact fun h => HDG.out (hb1.1 h)
        clear hb1
        go_wp2
        go_ret2
        exact HNIL.out _
    · have hq : ((m : Int) != (Me.ones n : Int)) = true := by simp; omega
      have hno : ¬ Me.paOk n p := fun h => hm (by have := h.2.1; rw [Int.toNat_natCast] at this; omega)
      have HL := Lib.hid (Me.paL_no (s := s) hno)
      have HB := Lib.hid (Me.paB_no hno)
      rw [HL.out, HB.out]
      obtain ⟨o, HO⟩ : ∃ o, Hid (Me.ones n = o) := ⟨_, Lib.hid rfl⟩
      have HO3 : Hid (∀ W, Calls Try.prog 32 #[.int .i64 (n : Int)] W fun e w' => e = .returned (.int .i64 (o : Int)) ∧ w' = W) := Lib.hid fun W => by
        have := l3Ones_any n W (by omega)
        rw [HO.out] at this
        exact this
      rw [HO.out] at hq
      clear hp hm hno hpl
      go_enter Try.func9, Try.ntmps9
      go_wp2_with fail
      refine (l6In_any _ _ _ _).mono ?_
      rw [HN.out]
      rintro e w1 ⟨rfl, rfl⟩
      go_wp2_with fail
      refine (HO3.out _).mono ?_
      rintro e w1 ⟨rfl, rfl⟩
      go_wp2
      go_ret2
      exact HNIL.out _
  · have hno : ¬ Me.paOk n p := fun h => hn h.1
    have HL := Lib.hid (Me.paL_no (s := s) hno)
    have HB := Lib.hid (Me.paB_no hno)
    rw [HL.out, HB.out]
    have HN := Lib.hid (In.no (n := n) (a := 0) (b := 31) (by omega))
    clear hp hn hno hpl
    go_enter Try.func9, Try.ntmps9
    go_wp2_with fail
    refine (l6In_any _ _ _ _).mono ?_
    rw [HN.out]
    rintro e w1 ⟨rfl, rfl⟩
    go_wp2
    go_ret2
    exact HNIL.out _
end Go.Proofs.Ytdgepneaeieogac
