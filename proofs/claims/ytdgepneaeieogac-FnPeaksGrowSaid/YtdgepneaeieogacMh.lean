/-
  Contracts of the program's chapter 3: how many binary digits 1.
-/
import Derived.Test.YtdgepneaeieogacMz
import Derived.Test.YtdgepneaeieogacMg
import Derived.Laws.Cover3
namespace Go.Proofs.Ytdgepneaeieogac
open Go.RowKit

theorem Me.ones_small {n : Nat} (h : n ≤ 31) : Me.ones n = n % 2 + n / 2 % 2 + n / 4 % 2 + n / 8 % 2 + n / 16 % 2 := by
  have step : ∀ m, Me.ones m = m % 2 + Me.ones (m / 2) := fun m => by
    by_cases h0 : m = 0
    · subst h0; simp [Me.ones_zero]
    · exact Me.ones_pos (by omega)
  rw [step n, step (n / 2), step (n / 2 / 2), step (n / 2 / 2 / 2), step (n / 2 / 2 / 2 / 2), show n / 2 / 2 / 2 / 2 / 2 = 0 by omega, Me.ones_zero]
  omega

set_option maxRecDepth 100000 in
set_option maxHeartbeats 1600000 in
theorem onesCount64_any (x : Int) (w : World) (h0 : 0 ≤ x) (h1 : x ≤ 31) :
    Calls Try.prog 53 #[.int .u64 x] w fun e w' => e = .returned (.int .i64 (x % 2 + x / 2 % 2 + x / 4 % 2 + x / 8 % 2 + x / 16 % 2)) ∧ w' = w := by
  go_enter Try.func53, Try.ntmps53
  go_wp2
  go_ret
  refine ⟨congrArg Ending.returned (congrArg (Value.int .i64) ?_), rfl⟩
  obtain ⟨n, rfl⟩ := Int.eq_ofNat_of_zero_le h0
  have hn : n ≤ 31 := by omega
  clear h0 h1
  revert hn
  revert n
  decide +kernel

theorem onesCount_any (n : Nat) (w : World) (h : n ≤ 31) :
    Calls Try.prog 26 #[.int .u64 (n : Int)] w fun e w' => e = .returned (.int .i64 (Me.ones n : Int)) ∧ w' = w := by
  have HE : Hid (((n : Int) % 2 + (n : Int) / 2 % 2 + (n : Int) / 4 % 2 + (n : Int) / 8 % 2 + (n : Int) / 16 % 2) = (Me.ones n : Int)) := Lib.hid (by rw [Me.ones_small h]; omega)
  obtain ⟨x, HX⟩ : ∃ x : Int, Hid ((n : Int) = x) := ⟨_, Lib.hid rfl⟩
  have hx0 : 0 ≤ x ∧ x ≤ 31 := by rw [← HX.out]; omega
  obtain ⟨o, HO⟩ : ∃ o : Int, Hid ((Me.ones n : Int) = o) := ⟨_, Lib.hid rfl⟩
  rw [HO.out, HX.out] at HE
  rw [HX.out, HO.out]
  go_enter Try.func26, Try.ntmps26
  go_wp2_with fail
  refine (onesCount64_any x _ hx0.1 hx0.2).mono ?_
  rw [HE.out]
  rintro e w1 ⟨rfl, rfl⟩
  go_wp2
  go_ret
  exact ⟨rfl, rfl⟩

theorem eql_nil (a : Option Addr) (l c : Nat) (W : World) : (binOp .eql 23 (.slice a l c) (.slice none 0 0)).run Try.prog W = .ok (.bool a.isNone) W := by
  simp only [binOp]
  simp [run_equal_slice_nil W 23 3 a l c Try.underlying23]

set_option maxRecDepth 100000 in
set_option maxHeartbeats 1600000 in
theorem cloneI_any (a : Option Addr) (m cap : Nat) (zs : List Int) (w : World) (hp : IR w a m zs) (ha : a = none → m = 0 ∧ cap = 0) (hm : m ≤ 1000000) :
    Calls Try.prog 30 #[.slice a m cap] w (OwnN w.heap.size zs w) := by
  have hl := hp.1
  cases a with
  | none =>
    obtain ⟨rfl, rfl⟩ := ha rfl
    have hz : zs = [] := List.eq_nil_of_length_eq_zero (by omega)
    subst hz
    clear hp ha hl
    have he := eql_nil none 0 0
    simp only [Option.isNone_none] at he
    go_enter Try.func30, Try.ntmps30
    go_wp2
    go_ret
    exact ⟨none, 0, rfl, Below.refl _ _, ⟨rfl, .inl ⟨rfl, rfl⟩⟩⟩
  | some ad =>
    obtain ⟨i0, hi, hz0, hz1, hz2⟩ := info_parts info_int
    have HSRC : Hid (∀ (W : World), (∀ j u, (zs.map (Value.int .i64))[j]? = some u → W.cell? (ad.add j) = some u) → ((some ad = none ∧ m = 0 ∧ cap = 0) ∨ ∃ ad', some ad = some ad' ∧ ∀ j u, (zs.map (Value.int .i64))[j]? = some u → W.cell? (ad'.add j) = some u)) := Lib.hid fun W h => .inr ⟨ad, rfl, h⟩
    have HN : Hid (∀ (o : Obj), ∀ j u, (zs.map (Value.int .i64))[j]? = some u → (w.alloc o).cell? (ad.add j) = some u) := Lib.hid fun o => (hp.alloc o).news
    have hzl : (zs.map (Value.int .i64)).length = m * 1 := by simp [hl]
    clear hp ha
    have he := eql_nil (some ad) m cap
    simp only [Option.isNone_some] at he
    go_enter Try.func30, Try.ntmps30
    have hown := World.ownsRow_made (e := 3) (size := 1) (base := w.heap.size) w #[] 0 (Nat.le_refl _) (by decide) rfl
    go_wp2_with (at_builtin; refine wpList_append_any rfl _ _ 23 rfl w.heap.size 3 i0 (.int .i64 0) 1 8 Try.underlying23 hi hz0 hz1 hz2 rfl (by decide) _ _ _ rfl hown (some ad) m cap (zs.map (Value.int .i64)) rfl ?c0 hzl (one_cellsI zs) ?c3 ?c4 ?c5 ?_)
    case c0 => exact HSRC.out _ (HN.out _)
    case c3 => unfold maxLen; omega
    case c4 => omega
    case c5 => simp
    intro v' w5 hown5 hgrow5
    have hbel := ((Below.refl w.heap.size w).alloc (Nat.le_refl _) (.cells #[] 3)).grown hgrow5 (by simp) (fun q hq => (hown.lt _ hq).1)
    have hown6 : w5.ownsRow w.heap.size 3 1 v' zs.length (zs.map (Value.int .i64)) := by
      rw [hl]
      exact hown5
    obtain ⟨a6, cp6, rfl⟩ : ∃ a cp, v' = .slice a zs.length cp := by
      rcases hown6.2 with ⟨h, h0⟩ | ⟨g, cap, cur, h, _⟩
      · exact ⟨none, 0, by rw [h0]; exact h⟩
      · exact ⟨_, _, h⟩
    clear hown hown5 hgrow5
    go_wp2
    go_ret
    exact ⟨_, cp6, rfl, hbel, hown6⟩

theorem Me.addP_len : ∀ (n : Nat) (ps : List Int) (d : Int), (Me.addP n ps d).length ≤ ps.length + 1 := by
  intro n
  induction n using Nat.strongRecOn with
  | ind n ih =>
    intro ps d
    by_cases h : n % 2 = 1
    · rw [Me.addP_odd h]
      have := ih (n / 2) (by omega) (ps.take (ps.length - 1)) (Dg.of (Dg.pair (ps.getD (ps.length - 1) 0) d))
      rw [List.length_take] at this
      omega
    · rw [Me.addP_even h]
      simp
theorem Me.paL_len (n : Int) (p : List Int) (s : ByteArray) : (Me.paL n p s).length ≤ 64 := by
  by_cases h : Me.paOk n p
  · rw [Me.paL_yes h]
    have h1 := Me.addP_len n.toNat p (Dg.of (Me.leaf s))
    have h2 := h.2.1
    have h3 := Me.ones_le n.toNat
    have := h.1
    omega
  · rw [Me.paL_no h]
    simp

set_option maxRecDepth 100000 in
set_option maxHeartbeats 1600000 in
theorem implPeaksAdd_any (n : Int) (a : Option Addr) (m cap : Nat) (p : List Int) (s : ByteArray) (w : World) (hp : IR w a m p) (ha : a = none → cap = 0) (hcap : m ≤ cap) (hlen : cap ≤ 9223372036854775807) (hs : s.size ≤ 4611686018427387000) :
    Calls Try.prog 8 #[.int .i64 n, .slice a m cap, .string s] w (OwnIB w.heap.size (Me.paL n p s) (Me.paB n p) w) := by
  have hpl := hp.1
  have HNIL : Hid (∀ W : World, OwnIB W.heap.size [] false W (.returned (.tuple #[.slice none 0 0, .bool false])) W) := Lib.hid fun W => ⟨none, 0, rfl, Below.refl _ _, ⟨rfl, .inl ⟨rfl, rfl⟩⟩⟩
  have HP := Lib.hid hp
  by_cases hn : 0 ≤ n ∧ n ≤ 31
  · obtain ⟨n, rfl⟩ := Int.eq_ofNat_of_zero_le hn.1
    by_cases hm : m = Me.ones n
    · have hq : ((m : Int) != (Me.ones n : Int)) = false := by simp [hm]
      by_cases hdg : Me.digests p
      · have hok : Me.paOk n p := ⟨hn, by rw [Int.toNat_natCast]; omega, hdg⟩
        have HL := Lib.hid (Me.paL_yes (s := s) hok)
        have HB := Lib.hid (Me.paB_yes hok)
        rw [HL.out, HB.out, Int.toNat_natCast]
        obtain ⟨i0, hi, hz0, hz1, hz2⟩ := info_parts info_int
        obtain ⟨T, HT⟩ : ∃ T, Hid (Me.addP n p (Dg.of (Me.leaf s)) = T) := ⟨_, Lib.hid rfl⟩
        rw [HT.out]
        have HDG := Lib.hid hdg
        have HM := Lib.hid hm
        have hls := Me.leaf_size s
        obtain ⟨d0, HD0⟩ : ∃ d, Hid (Dg.of (Me.leaf s) = d) := ⟨_, Lib.hid rfl⟩
        have hd0 := Dg.of_bd (Me.leaf s)
        rw [HD0.out] at hd0 HT
        have hm64 : m ≤ n := by
          rw [hm]
          exact Me.ones_le n
        obtain ⟨o, HO⟩ : ∃ o, Hid (Me.ones n = o) := ⟨_, Lib.hid rfl⟩
        have HO3 : Hid (∀ W, Calls Try.prog 26 #[.int .u64 (n : Int)] W fun e w' => e = .returned (.int .i64 (o : Int)) ∧ w' = W) := Lib.hid fun W => by
          have := onesCount_any n W (by omega)
          rw [HO.out] at this
          exact this
        rw [HO.out] at hq
        have HPL := Lib.hid hpl
        have HA := Lib.hid ha
        have HCL : Hid (∀ (k : Nat) (W : World), k ≤ m → Below w.heap.size w W → Calls Try.prog 30 #[.slice a k cap] W (OwnN W.heap.size (p.take k) W)) := Lib.hid fun k W hk hb =>
          cloneI_any a k cap (p.take k) W ((hp.front k hk).below hb) (fun h => ⟨by have := ha h; omega, ha h⟩) (by omega)
        have HSL : Hid (∀ (k : Nat) (W : World), k ≤ m → (Instr.slice 23 (.slice a m cap) none (some (.int .i64 (k : Int))) none).run Try.prog W = .ok (.slice a k cap) W) := Lib.hid fun k W hk => by
          cases a with
          | none =>
            have h0 := ha rfl
            have hm0 : m = 0 := by omega
            have hk0 : k = 0 := by omega
            subst h0; subst hm0; subst hk0
            simp [Instr.slice, Instr.sliceBounds, Instr.sliceBound, asIntOf, run_underlying Try.underlying23]
          | some ad =>
            have e1 : (0 : Int) ≤ (k : Int) := by omega
            have e2 : k ≤ cap := by omega
            simp [Instr.slice, Instr.sliceBounds, Instr.sliceBound, asIntOf, run_underlying Try.underlying23, e1, e2, Addr.add]
        clear hp hm hdg hok hpl ha
        go_enter Try.func8, Try.ntmps8
        go_wp2_with fail
        refine (HO3.out _).mono ?_
        rintro e w1 ⟨rfl, rfl⟩
        go_wp2_with fail
        refine (areDigests_any a m cap p _ HP.out (by omega)).mono ?_
        rintro e w1 ⟨b1, rfl, hb1, rfl⟩
        obtain rfl : b1 = true := hb1.2 HDG.out
        clear hb1
        go_wp2_with fail
        refine (leafString_any s _ (by omega)).mono ?_
        rintro e w2 ⟨rfl, hb2⟩
        go_wp2_with fail
        refine (implDigest_any (Me.leaf s) _ (by omega)).mono ?_
        rw [HD0.out]
        rintro e w3 ⟨rfl, hb3⟩
        have hbel := hb2.trans (hb3.mono hb2.size)
        clear hb2 hb3 hq hls
        go_wp2
        go_loopw [0, 8, 9] (fun v d x wr => ∃ (n' m' : Nat) (d' : Int), v = .int .i64 (n' : Int) ∧ d = .int .i64 d' ∧ x = .int .i64 (m' : Int) ∧ n' ≤ 31 ∧ m' ≤ m ∧ m' = Me.ones n' ∧ 0 ≤ d' ∧ d' ≤ 4294967295 ∧ Me.addP n' (p.take m') d' = T ∧ Below w1.heap.size w1 wr)
          (fun v _ _ _ => (intOf v).toNat)
        case atStart =>
          exact ⟨n, m, d0, rfl, rfl, rfl, by omega, Nat.le_refl _, by have := HM.out; omega, hd0.1, hd0.2, by rw [List.take_of_length_le (by have := HPL.out; omega)]; exact HT.out, hbel⟩
        case round =>
          clear hbel
          obtain ⟨n', m', d', rfl, rfl, rfl, hn31, hmm, hmo, hd0', hd1', hT, hbel⟩ := hrel
          by_cases hodd : n' % 2 = 1
          · have hm1 : 1 ≤ m' := by rw [hmo, Me.ones_odd hodd]; omega
            obtain ⟨j, rfl⟩ : ∃ j, m' = j + 1 := ⟨m' - 1, by omega⟩
            have hstep := Me.addP_step (p := p) (d := d') hodd hm1 (by have := HPL.out; omega)
            rw [Nat.add_sub_cancel] at hstep
            obtain ⟨b, off, rfl, hbw, hc⟩ := HP.out.2 (by omega)
            have hcj := hc j (by omega)
            have hdj := HDG.out _ (getD_memI (zs := p) (i := j) (by have := HPL.out; omega))
            obtain ⟨x, HX⟩ : ∃ x, Hid (p.getD j 0 = x) := ⟨_, Lib.hid rfl⟩
            rw [HX.out] at hcj hdj hstep
            have hcr : wr.cell? ⟨b, off + j, none⟩ = some (.int .i64 x) := (World.cell?_of_block (w := w1) (a := ⟨b, off + j, none⟩) (hbel.block b hbw)).trans hcj
            obtain ⟨y, HY⟩ : ∃ y, Hid (Dg.of (Dg.pair x d') = y) := ⟨_, Lib.hid rfl⟩
            have hy := Dg.of_bd (Dg.pair x d')
            rw [HY.out] at hy hstep
            have HOP : Hid (Dg.ofPair x d' = y) := Lib.hid (by rw [Dg.ofPair_yes hdj ⟨hd0', hd1'⟩, HY.out])
            have HTT : Hid (Me.addP (n' / 2) (p.take j) y = T) := Lib.hid (by rw [← hstep]; exact hT)
            have HJ : Hid (j = Me.ones (n' / 2)) := Lib.hid (by have := Me.ones_odd hodd; omega)
            have hodd2 : ((n' : Int) % 2 == 1) = true := by simp; omega
            have hn0 : (0 : Int) ≤ (n' : Int) := by omega
            have hn1 : 1 ≤ n' := by omega
            clear hstep hT hc hcj hmo hodd
            go_wp2_with fail
            refine (implDigestPair_any x d' _).mono ?_
            rw [HOP.out]
            rintro e w4 ⟨rfl, hb4⟩
            have hbel5 := hbel.trans (hb4.mono hbel.size)
            clear hbel hb4 hcr
            go_wp2
            go_roundw
            case rel => exact ⟨n' / 2, j, y, by simp, rfl, rfl, by omega, by omega, HJ.out, hy.1, hy.2, HTT.out, hbel5⟩
            case measure => simp [intOf]; omega
          · have hev : ((n' : Int) % 2 == 1) = false := by simp; omega
            have HTT : Hid (T = p.take m' ++ [d']) := Lib.hid (by rw [← hT, Me.addP_even hodd])
            have hmP : m' ≤ p.length := by have := HPL.out; omega
            have hm32 : m' ≤ 32 := by omega
            have hsl : ∀ W, (Instr.slice 23 (.slice a m cap) none (some (.int .i64 (m' : Int))) none).run Try.prog W = .ok (.slice a m' cap) W := fun W => HSL.out m' W hmm
            have HCM : Hid (∀ W, Below w1.heap.size w1 W → Calls Try.prog 30 #[.slice a m' cap] W (OwnN W.heap.size (p.take m') W)) := Lib.hid fun W h => HCL.out m' W hmm h
            obtain ⟨q, HQ⟩ : ∃ q, Hid (p.take m' = q) := ⟨_, Lib.hid rfl⟩
            have hql : q.length = m' := by rw [← HQ.out, List.length_take]; omega
            rw [HQ.out] at HTT HCM
            have HQL := Lib.hid hql
            clear hT hmo hodd hql
            go_wp2_with fail
            refine (HCM.out _ hbel).mono ?_
            rintro e w5 ⟨a5, cp5, rfl, hb5, hown5⟩
            have hbel5 := hbel.trans (hb5.mono hbel.size)
            have hle := hbel5.size
            have htl : T.length = q.length + 1 := by rw [HTT.out]; simp
            have hmd : (q.map (Value.int .i64) ++ [Value.int .i64 d']) = T.map (Value.int .i64) := by rw [HTT.out, List.map_append]; rfl
            have HMD := Lib.hid hmd
            have HTL := Lib.hid htl
            have hq32 : q.length ≤ 32 := by have := HQL.out; omega
            have hown5' := ownsRow_base hown5 hbel.size
            clear hmd htl hbel hb5 hown5
            go_wp2_with (at_builtin; refine wpList_append_own _ rfl _ _ 23 rfl w1.heap.size 3 i0 (.int .i64 0) 1 8 Try.underlying23 hi hz0 hz1 hz2 rfl (by decide) _ _ _ rfl (hown5'.alloc _) ⟨w5.heap.size, 0, none⟩ 1 1 [.int .i64 d'] rfl rfl ?c1 ?c2 ?c3 ?c4 ?c5 ?_)
            case c1 => exact one_new _ _ _
            case c2 => intro u hu; simp at hu; subst hu; rfl
            case c3 => unfold maxLen; omega
            case c4 => omega
            case c5 => simp; exact Nat.le_succ_of_le hle
            intro v' w6 hown6 hgrow6 _
            have hbel6 := (hbel5.alloc hle (.cells #[.int .i64 d'] 3)).grown hgrow6 (by simp; exact Nat.le_succ_of_le hle) (fun j hj => (hown5'.lt _ hj).1)
            rw [HMD.out, ← HTL.out] at hown6
            obtain ⟨g6, cp6, rfl⟩ : ∃ g cp, v' = .slice (some ⟨g, 0, none⟩) T.length cp := by
              rcases hown6.2 with ⟨h, h0⟩ | ⟨g, cap, cur, h, _⟩
              · have := HTL.out; omega
              · exact ⟨_, _, h⟩
            clear hown5' hgrow6 hbel5
            go_wp2
            go_ret2
            exact ⟨_, cp6, rfl, hbel6, hown6⟩
      · have hno : ¬ Me.paOk n p := fun h => hdg h.2.2
        have HL := Lib.hid (Me.paL_no (s := s) hno)
        have HB := Lib.hid (Me.paB_no hno)
        rw [HL.out, HB.out]
        have HDG := Lib.hid hdg
        obtain ⟨o, HO⟩ : ∃ o, Hid (Me.ones n = o) := ⟨_, Lib.hid rfl⟩
        have HO3 : Hid (∀ W, Calls Try.prog 26 #[.int .u64 (n : Int)] W fun e w' => e = .returned (.int .i64 (o : Int)) ∧ w' = W) := Lib.hid fun W => by
          have := onesCount_any n W (by omega)
          rw [HO.out] at this
          exact this
        rw [HO.out] at hq
        clear hp hm hdg hno hpl ha
        go_enter Try.func8, Try.ntmps8
        go_wp2_with fail
        refine (HO3.out _).mono ?_
        rintro e w1 ⟨rfl, rfl⟩
        go_wp2_with fail
        refine (areDigests_any a m cap p _ HP.out (by omega)).mono ?_
        rintro e w1 ⟨b1, rfl, hb1, rfl⟩
        obtain rfl : b1 = false := by
          rw [Bool.eq_false_iff]
          exact fun h => HDG.out (hb1.1 h)
        clear hb1
        go_wp2
        go_ret2
        exact HNIL.out _
    · have hq : ((m : Int) != (Me.ones n : Int)) = true := by simp; omega
      have hno : ¬ Me.paOk n p := fun h => hm (by have := h.2.1; rw [Int.toNat_natCast] at this; omega)
      have HL := Lib.hid (Me.paL_no (s := s) hno)
      have HB := Lib.hid (Me.paB_no hno)
      rw [HL.out, HB.out]
      obtain ⟨o, HO⟩ : ∃ o, Hid (Me.ones n = o) := ⟨_, Lib.hid rfl⟩
      have HO3 : Hid (∀ W, Calls Try.prog 26 #[.int .u64 (n : Int)] W fun e w' => e = .returned (.int .i64 (o : Int)) ∧ w' = W) := Lib.hid fun W => by
        have := onesCount_any n W (by omega)
        rw [HO.out] at this
        exact this
      rw [HO.out] at hq
      clear hp hm hno hpl ha
      go_enter Try.func8, Try.ntmps8
      go_wp2_with fail
      refine (HO3.out _).mono ?_
      rintro e w1 ⟨rfl, rfl⟩
      go_wp2
      go_ret2
      exact HNIL.out _
  · have hno : ¬ Me.paOk n p := fun h => hn h.1
    have HL := Lib.hid (Me.paL_no (s := s) hno)
    have HB := Lib.hid (Me.paB_no hno)
    rw [HL.out, HB.out]
    by_cases h0 : n < 0
    · clear hp hn hno hpl ha
      go_enter Try.func8, Try.ntmps8
      go_wp2
      go_ret2
      exact HNIL.out _
    · have h1 : 32 ≤ n := by omega
      clear hp hn hno hpl ha
      go_enter Try.func8, Try.ntmps8
      go_wp2
      go_ret2
      exact HNIL.out _
end Go.Proofs.Ytdgepneaeieogac
