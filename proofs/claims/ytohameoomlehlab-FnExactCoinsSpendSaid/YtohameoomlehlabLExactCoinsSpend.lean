/- For every list of coins that holds together at most 1<<20 elements and bytes as the law counts them (longer ones are let pass by the law itself) and all two numbers, CoinsSpend of the program answers as the model's CoinsSpend, leaves the list as it was, and hands back coins that share no memory with it or with what another call hands back. -/
import Derived.Test.YtohameoomlehlabRows
import Derived.Test.YtohameoomlehlabCo
import Derived.Test.YtohameoomlehlabCn
import Derived.Test.YtohameoomlehlabCy
import Derived.WalkKit
import Derived.WalkSpells
import Derived.ProofKit
import Derived.OpenShut
import Derived.ShutString
import Derived.Below
import Derived.SliceStrings
namespace Go.Proofs.Ytohameoomlehlab.fnExactCoinsSpend
open Go.ChangeShapes Go.WideShapes Go.ChangeAt Go.RowKit
open Go.ChangeMaps (open_string shut_string)
set_option maxRecDepth 100000 in
set_option maxHeartbeats 12800000 in
theorem walk (a : Option Addr) (len cap : Nat) (l0 : List Co) (t : Int) (htw : (Lit.int .i64 t).wf = true) (o : Int) (how : (Lit.int .i64 o).wf = true) (w : World) (w0 : IsCoin w a len cap l0) :
    Calls Try.prog 6 #[.slice a len cap, .int .i64 t, .int .i64 o] w fun e w' => e = .returned (.bool true) ∧ Below w.heap.size w w' := by
  obtain ⟨hlc, hcm, hcl, hlk⟩ := w0
  have HSZ := szCoinS_any 0 a len cap l0 1048576 w hcl (by omega) (by omega) (by omega) hlk
  have HCL := Lib.hid hcl
  clear hcl hlk
  go_enter Try.func6, Try.ntmps6
  go_wp2_with fail
  refine HSZ.mono ?_
  rintro e w1 ⟨v, rfl, hv, hB1⟩
  clear HSZ
  by_cases hneg : v < 0
  · clear hv
    go_wp2
    go_ret
    exact ⟨rfl, hB1⟩
  obtain ⟨hv1, hl1, hl2⟩ := hv.resolve_left hneg
  have hz1 : w.heap.size ≤ w1.heap.size := hB1.size
  have HLK : Hid (∀ x ∈ l0, x.lock.size ≤ 1048576) := Lib.hid (CB.lolock (by rw [HCL.out.lenC]; exact hl2))
  have HTO : Hid (∀ W, Below w.heap.size w W → Calls Try.prog 13 #[.slice a len cap] W fun e w' => ∃ g, e = .returned (.slice (some ⟨g, 0, none⟩) len len) ∧ Hid (CoL 0 w' (some ⟨g, 0, none⟩) len l0) ∧ Hid (0 < len → ∀ l', CB g len 0 l' w') ∧ W.heap.size ≤ g ∧ g < w'.heap.size ∧ Below W.heap.size W w') := Lib.hid fun W hW => (toCoinS_any 0 a len cap l0 W (HCL.out.below hW) hl1).mono fun e w' q => ⟨W.heap.size, q.1, Lib.hid (q.2.1.out.ol HCL.out.lenC (Nat.zero_le _)), Lib.hid (fun _ _ => q.2.1.out.room), Nat.le_refl _, q.2.1.out.lt, q.2.2⟩
  have HEL := Lib.hid (fun W a b (h1 : CoL 0 W a len l0) (h2 : CoL 0 W b len l0) => eqCoinS_any 0 0 a b len len len l0 W h1 h2 (by omega))
  obtain ⟨L, hL⟩ : ∃ x, ((Co.spend l0 t o).map Prod.fst |>.getD []) = x := ⟨_, rfl⟩
  obtain ⟨X, hX⟩ : ∃ x, Co.get ((Co.spend l0 t o).map Prod.snd) = x := ⟨_, rfl⟩
  obtain ⟨IS, hIS⟩ : ∃ x, (Co.spend l0 t o).isSome = x := ⟨_, rfl⟩
  obtain ⟨N, hN⟩ : ∃ x, L.length = x := ⟨_, rfl⟩
  have hN80 : N ≤ 80 := by
    rw [← hN, ← hL]
    cases hr : Co.spend l0 t o with
    | none => simp
    | some m => exact ((Co.lok_iff m.1).1 (Co.add_some (Co.add_spend (c := m.2) (m := m.1) hr).1).1).1
  obtain ⟨tx, out, amt, lock, ht, rew⟩ := X
  have H1 : Hid (∀ W g, CoL 0 W (some ⟨g, 0, none⟩) len l0 → Calls Try.prog 25 #[.slice (some ⟨g, 0, none⟩) len len, .int .i64 t, .int .i64 o] W fun e w' => ∃ a c g, e = .returned (.tuple #[.slice a N c, .agg #[.int .i64 tx, .int .i64 out, .int .i64 amt, .string lock, .int .i64 ht, .bool rew], .bool IS]) ∧ Hid (CoL W.heap.size w' a N L) ∧ Hid (N ≤ c) ∧ W.heap.size ≤ g ∧ Hid (0 < N → a = some ⟨g, 0, none⟩) ∧ Hid (0 < N → ∀ l', CB g N 0 l' w') ∧ Below W.heap.size W w') := Lib.hid fun W g h => by
    have hq := CoinsSpend_any 0 (some ⟨g, 0, none⟩) len len l0 t o W h (by omega)
    rw [hL, hIS, hX] at hq
    exact hq.mono fun e w' q => q.mk hN
  have H2 : Hid (∀ W g, CoL 0 W (some ⟨g, 0, none⟩) len l0 → Calls Try.prog 26 #[.slice (some ⟨g, 0, none⟩) len len, .int .i64 t, .int .i64 o] W fun e w' => ∃ a c g, e = .returned (.tuple #[.slice a N c, .agg #[.int .i64 tx, .int .i64 out, .int .i64 amt, .string lock, .int .i64 ht, .bool rew], .bool IS]) ∧ Hid (CoL W.heap.size w' a N L) ∧ Hid (N ≤ c) ∧ W.heap.size ≤ g ∧ Hid (0 < N → a = some ⟨g, 0, none⟩) ∧ Hid (0 < N → ∀ l', CB g N 0 l' w') ∧ Below W.heap.size W w') := Lib.hid fun W g h => by
    have hq := implCoinsSpend_any 0 (some ⟨g, 0, none⟩) len len l0 t o W h (Nat.le_refl _) hl1 HLK.out ⟨bounds_i64 htw, bounds_i64 how⟩
    rw [hL, hIS, hX] at hq
    exact hq.mono fun e w' q => q.mk hN
  have HEQ := Lib.hid (fun lo lo' W a b c c' (h1 : CoL lo W a N L) (h2 : CoL lo' W b N L) => eqCoinS_any lo lo' a b N c c' L W h1 h2 (by omega))
  have HEC := Lib.hid (fun W => eqCoin_any tx out amt lock ht rew W)
  have hm1 : decide ((1 : Int) + 6 * (len : Int) < 0) = false := by simp; omega
  have hm2 : decide ((1 : Int) + 6 * (N : Int) < 0) = false := by simp; omega
  clear hL hX hIS hN hv hv1 hl2 HLK HCL hlc hcm
  have hcs := HTO.out w1 hB1
  go_wp2_with fail
  refine hcs.mono ?_
  rintro e w2 ⟨g2, rfl, HC2, _, _, _, hx⟩
  have hz2 : w1.heap.size ≤ w2.heap.size := hx.size
  have hB2 := hB1.trans (hx.mono hB1.size)
  clear hx hcs hB1 
  have hcs := H1.out w2 g2 HC2.out
  go_wp2_with fail
  refine hcs.mono ?_
  rintro e w3 ⟨aw, cw, _, rfl, HV, _, _, _, _, hx⟩
  have hz3 : w2.heap.size ≤ w3.heap.size := hx.size
  have hu3 := (Below.refl w3.heap.size w3).alloc (Nat.le_refl _) (.cells #[.int .i64 tx, .int .i64 out, .int .i64 amt, .string lock, .int .i64 ht, .bool rew] 30 (0, 0))
  replace hx := hx.alloc hx.size (.cells #[.int .i64 tx, .int .i64 out, .int .i64 amt, .string lock, .int .i64 ht, .bool rew] 30 (0, 0))
  have hs3 : (w3.alloc (.cells #[.int .i64 tx, .int .i64 out, .int .i64 amt, .string lock, .int .i64 ht, .bool rew] 30 (0, 0))).heap.size = w3.heap.size + 1 := by simp
  have hB3 := hB2.trans (hx.mono hB2.size)
  have HW := Lib.hid (HV.out.below hu3)
  have v3 : Bk w3.heap.size 30 #[.int .i64 tx, .int .i64 out, .int .i64 amt, .string lock, .int .i64 ht, .bool rew] (w3.alloc (.cells #[.int .i64 tx, .int .i64 out, .int .i64 amt, .string lock, .int .i64 ht, .bool rew] 30 (0, 0))) := Bk.new _ _ _
  clear hx hcs hB2 HV HC2 hu3
  have hY3 : Below (w3.alloc (.cells #[.int .i64 tx, .int .i64 out, .int .i64 amt, .string lock, .int .i64 ht, .bool rew] 30 (0, 0))).heap.size (w3.alloc (.cells #[.int .i64 tx, .int .i64 out, .int .i64 amt, .string lock, .int .i64 ht, .bool rew] 30 (0, 0))) (w3.alloc (.cells #[.int .i64 tx, .int .i64 out, .int .i64 amt, .string lock, .int .i64 ht, .bool rew] 30 (0, 0))) := Below.refl _ _
  have hcs := HTO.out _ hB3
  go_wp2_with fail
  refine hcs.mono ?_
  rintro e w4 ⟨g4, rfl, HX4, HR4, hg4, hl4, hx⟩
  have hz4 : (w3.alloc (.cells #[.int .i64 tx, .int .i64 out, .int .i64 amt, .string lock, .int .i64 ht, .bool rew] 30 (0, 0))).heap.size ≤ w4.heap.size := hx.size
  have hB4 := hB3.trans (hx.mono hB3.size)
  have hY4 := hY3.trans (hx.mono hY3.size)
  clear hx hcs hB3 hY3 
  have hcs := H2.out w4 g4 HX4.out
  go_wp2_with fail
  refine hcs.mono ?_
  rintro e w5 ⟨ai, ci, gi, rfl, HV, hci, hgi, HA, HV2, hx⟩
  have hz5 : w4.heap.size ≤ w5.heap.size := hx.size
  have hu5 := (Below.refl w5.heap.size w5).alloc (Nat.le_refl _) (.cells #[.int .i64 tx, .int .i64 out, .int .i64 amt, .string lock, .int .i64 ht, .bool rew] 30 (0, 0))
  replace hx := hx.alloc hx.size (.cells #[.int .i64 tx, .int .i64 out, .int .i64 amt, .string lock, .int .i64 ht, .bool rew] 30 (0, 0))
  have hs5 : (w5.alloc (.cells #[.int .i64 tx, .int .i64 out, .int .i64 amt, .string lock, .int .i64 ht, .bool rew] 30 (0, 0))).heap.size = w5.heap.size + 1 := by simp
  have hB5 := hB4.trans (hx.mono hB4.size)
  have hY5 := hY4.trans (hx.mono hY4.size)
  have HX5 := Lib.hid (HX4.out.below hx)
  have HR5 := Lib.hid (CB.roomBelow HR4.out hx)
  have HG5 := Lib.hid (HV.out.below hu5)
  have HI5 := Lib.hid (CB.roomBelow HV2.out hu5)
  have u5 : Bk w5.heap.size 30 #[.int .i64 tx, .int .i64 out, .int .i64 amt, .string lock, .int .i64 ht, .bool rew] (w5.alloc (.cells #[.int .i64 tx, .int .i64 out, .int .i64 amt, .string lock, .int .i64 ht, .bool rew] 30 (0, 0))) := Bk.new _ _ _
  clear hx hcs hB4 hY4 HX4 HR4 HV HV2 hu5
  have hcs := HEQ.out _ _ _ ai aw ci cw HG5.out (HW.out.below hY5)
  go_wp2_with fail
  refine hcs.mono ?_
  rintro e w6 ⟨rfl, hx⟩
  have hz6 : (w5.alloc (.cells #[.int .i64 tx, .int .i64 out, .int .i64 amt, .string lock, .int .i64 ht, .bool rew] 30 (0, 0))).heap.size ≤ w6.heap.size := hx.size
  have hB6 := hB5.trans (hx.mono hB5.size)
  have hY6 := hY5.trans (hx.mono hY5.size)
  have HX6 := Lib.hid (HX5.out.below hx)
  have HG6 := Lib.hid (HG5.out.below hx)
  have HR6 := Lib.hid (CB.roomBelow HR5.out hx)
  have HI6 := Lib.hid (CB.roomBelow HI5.out hx)
  have u6 := u5.below hx
  clear hx hcs hB5 hY5 HX5 HG5 HR5 HI5 u5 
  have hcs := HEC.out w6
  obtain ⟨c0, c1, c2, c3, c4, c5⟩ := Bk.c6 (u6)
  obtain ⟨d0, d1, d2, d3, d4, d5⟩ := Bk.c6 (v3.below hY6)
  go_wp2_with fail
  refine hcs.mono ?_
  rintro e w7 ⟨rfl, hx⟩
  clear c0 c1 c2 c3 c4 c5 d0 d1 d2 d3 d4 d5
  have hz7 : w6.heap.size ≤ w7.heap.size := hx.size
  have hB7 := hB6.trans (hx.mono hB6.size)
  have hY7 := hY6.trans (hx.mono hY6.size)
  have HX7 := Lib.hid (HX6.out.below hx)
  have HG7 := Lib.hid (HG6.out.below hx)
  have HR7 := Lib.hid (CB.roomBelow HR6.out hx)
  have HI7 := Lib.hid (CB.roomBelow HI6.out hx)
  have u7 := u6.below hx
  clear hx hcs hB6 hY6 HX6 HG6 HR6 HI6 u6 
  have hcs := HTO.out w7 hB7
  go_wp2_with fail
  refine hcs.mono ?_
  rintro e w8 ⟨g8, rfl, HC8, _, _, _, hx⟩
  have hz8 : w7.heap.size ≤ w8.heap.size := hx.size
  have hB8 := hB7.trans (hx.mono hB7.size)
  have hY8 := hY7.trans (hx.mono hY7.size)
  have HX8 := Lib.hid (HX7.out.below hx)
  have HG8 := Lib.hid (HG7.out.below hx)
  have HR8 := Lib.hid (CB.roomBelow HR7.out hx)
  have HI8 := Lib.hid (CB.roomBelow HI7.out hx)
  have u8 := u7.below hx
  clear hx hcs hB7 hY7 HX7 HG7 HR7 HI7 u7 
  have hcs := HEL.out w8 _ _ HX8.out HC8.out
  go_wp2_with fail
  refine hcs.mono ?_
  rintro e w9 ⟨rfl, hx⟩
  have hz9 : w8.heap.size ≤ w9.heap.size := hx.size
  have hB9 := hB8.trans (hx.mono hB8.size)
  have hY9 := hY8.trans (hx.mono hY8.size)
  have HX9 := Lib.hid (HX8.out.below hx)
  have HG9 := Lib.hid (HG8.out.below hx)
  have HR9 := Lib.hid (CB.roomBelow HR8.out hx)
  have HI9 := Lib.hid (CB.roomBelow HI8.out hx)
  have u9 := u8.below hx
  clear hx hcs hB8 hY8 HX8 HG8 HR8 HI8 u8 HC8
  have hcs := markCoinS_any (some ⟨g4, 0, none⟩) g4 len len w9 (fun _ => rfl) (fun h0 => HR9.out h0 _) (by omega)
  go_wp2_with fail
  refine hcs.mono ?_
  rintro e w10 ⟨rfl, hg, HM10⟩
  have hz10 : w9.heap.size ≤ w10.heap.size := hg.size
  have hB10 := Below.grown hB9 hg hB9.size (fun j hj => by cases hj; omega)
  have hY10 := Below.grown hY9 hg hY9.size (fun j hj => by cases hj; omega)
  have HG10 := Lib.hid (HG9.out.grown hg (fun r hr => by cases hr; omega))
  have HI10 := Lib.hid (CB.roomKept HI9.out hg (by omega))
  have u10 : Bk w5.heap.size 30 #[.int .i64 tx, .int .i64 out, .int .i64 amt, .string lock, .int .i64 ht, .bool rew] w10 := ⟨(hg.block _ u9.lt (by have : w5.heap.size ≠ g4 := (by omega); simpa using this)).trans u9.held⟩
  clear hg hcs hB9 hY9 HX9 HG9 HR9 HI9 u9
  have hcs := HEQ.out _ _ w10 ai aw ci cw HG10.out (HW.out.below hY10)
  go_wp2_with fail
  refine hcs.mono ?_
  rintro e w11 ⟨rfl, hx⟩
  have hz11 : w10.heap.size ≤ w11.heap.size := hx.size
  have hB11 := hB10.trans (hx.mono hB10.size)
  have hY11 := hY10.trans (hx.mono hY10.size)
  have HG11 := Lib.hid (HG10.out.below hx)
  have HI11 := Lib.hid (CB.roomBelow HI10.out hx)
  have u11 := u10.below hx
  clear hx hcs hB10 hY10 HG10 HI10 u10 
  have hcs := HEC.out w11
  obtain ⟨c0, c1, c2, c3, c4, c5⟩ := Bk.c6 (u11)
  obtain ⟨d0, d1, d2, d3, d4, d5⟩ := Bk.c6 (v3.below hY11)
  go_wp2_with fail
  refine hcs.mono ?_
  rintro e w12 ⟨rfl, hx⟩
  clear c0 c1 c2 c3 c4 c5 d0 d1 d2 d3 d4 d5
  have hz12 : w11.heap.size ≤ w12.heap.size := hx.size
  have hB12 := hB11.trans (hx.mono hB11.size)
  have hY12 := hY11.trans (hx.mono hY11.size)
  have HG12 := Lib.hid (HG11.out.below hx)
  have HI12 := Lib.hid (CB.roomBelow HI11.out hx)
  have u12 := u11.below hx
  clear hx hcs hB11 hY11 HG11 HI11 u11 
  have hcs := markCoinS_any ai gi N ci w12 HA.out (fun h0 => HI12.out h0 _) (by omega)
  go_wp2_with fail
  refine hcs.mono ?_
  rintro e w13 ⟨rfl, hg, HM13⟩
  have hz13 : w12.heap.size ≤ w13.heap.size := hg.size
  have hB13 := Below.grown hB12 hg hB12.size (fun j hj => by cases hj; omega)
  have hY13 := Below.grown hY12 hg hY12.size (fun j hj => by cases hj; omega)
  have HG13 : Hid (CoL w4.heap.size w13 ai N (marksCoin N)) := Lib.hid (CoL.marks HA.out HM13 hgi)
  clear HG12 u12
  clear hg hcs hB12 hY12 HI12
  have hcs := heldCoinS_any _ ai N ci w13 HG13.out (by omega)
  go_wp2_with fail
  refine hcs.mono ?_
  rintro e w14 ⟨rfl, hx⟩
  have hz14 : w13.heap.size ≤ w14.heap.size := hx.size
  have hB14 := hB13.trans (hx.mono hB13.size)
  have hY14 := hY13.trans (hx.mono hY13.size)
  have HG14 := Lib.hid (HG13.out.below hx)
  clear hx hcs hB13 hY13 HG13 
  have hcs := HTO.out w14 hB14
  go_wp2_with fail
  refine hcs.mono ?_
  rintro e w15 ⟨g15, rfl, HC15, _, _, _, hx⟩
  have hz15 : w14.heap.size ≤ w15.heap.size := hx.size
  have hB15 := hB14.trans (hx.mono hB14.size)
  have hY15 := hY14.trans (hx.mono hY14.size)
  have HG15 := Lib.hid (HG14.out.below hx)
  clear hx hcs hB14 hY14 HG14 
  have hcs := H2.out w15 g15 HC15.out
  go_wp2_with fail
  refine hcs.mono ?_
  rintro e w16 ⟨ah, ch, _, rfl, HV, _, _, _, _, hx⟩
  have hz16 : w15.heap.size ≤ w16.heap.size := hx.size
  have hu16 := (Below.refl w16.heap.size w16).alloc (Nat.le_refl _) (.cells #[.int .i64 tx, .int .i64 out, .int .i64 amt, .string lock, .int .i64 ht, .bool rew] 30 (0, 0))
  replace hx := hx.alloc hx.size (.cells #[.int .i64 tx, .int .i64 out, .int .i64 amt, .string lock, .int .i64 ht, .bool rew] 30 (0, 0))
  have hs16 : (w16.alloc (.cells #[.int .i64 tx, .int .i64 out, .int .i64 amt, .string lock, .int .i64 ht, .bool rew] 30 (0, 0))).heap.size = w16.heap.size + 1 := by simp
  have hB16 := hB15.trans (hx.mono hB15.size)
  have hY16 := hY15.trans (hx.mono hY15.size)
  have HG16 := Lib.hid (HG15.out.below hx)
  have HH16 := Lib.hid (HV.out.below hu16)
  have u16 : Bk w16.heap.size 30 #[.int .i64 tx, .int .i64 out, .int .i64 amt, .string lock, .int .i64 ht, .bool rew] (w16.alloc (.cells #[.int .i64 tx, .int .i64 out, .int .i64 amt, .string lock, .int .i64 ht, .bool rew] 30 (0, 0))) := Bk.new _ _ _
  clear hx hcs hB15 hY15 HG15 HV HC15 hu16
  have hcs := HEQ.out _ _ _ ah aw ch cw HH16.out (HW.out.below hY16)
  go_wp2_with fail
  refine hcs.mono ?_
  rintro e w17 ⟨rfl, hx⟩
  have hz17 : (w16.alloc (.cells #[.int .i64 tx, .int .i64 out, .int .i64 amt, .string lock, .int .i64 ht, .bool rew] 30 (0, 0))).heap.size ≤ w17.heap.size := hx.size
  have hB17 := hB16.trans (hx.mono hB16.size)
  have hY17 := hY16.trans (hx.mono hY16.size)
  have HG17 := Lib.hid (HG16.out.below hx)
  have HH17 := Lib.hid (HH16.out.below hx)
  have u17 := u16.below hx
  clear hx hcs hB16 hY16 HG16 HH16 u16 
  have hcs := HEC.out w17
  obtain ⟨c0, c1, c2, c3, c4, c5⟩ := Bk.c6 (u17)
  obtain ⟨d0, d1, d2, d3, d4, d5⟩ := Bk.c6 (v3.below hY17)
  go_wp2_with fail
  refine hcs.mono ?_
  rintro e w18 ⟨rfl, hx⟩
  clear c0 c1 c2 c3 c4 c5 d0 d1 d2 d3 d4 d5
  have hz18 : w17.heap.size ≤ w18.heap.size := hx.size
  have hB18 := hB17.trans (hx.mono hB17.size)
  have hY18 := hY17.trans (hx.mono hY17.size)
  have HG18 := Lib.hid (HG17.out.below hx)
  have HH18 := Lib.hid (HH17.out.below hx)
  have u18 := u17.below hx
  clear hx hcs hB17 hY17 HG17 HH17 u17 
  have hcs := heldCoinS_any _ ai N ci w18 HG18.out (by omega)
  go_wp2_with fail
  refine hcs.mono ?_
  rintro e w19 ⟨rfl, hx⟩
  have hz19 : w18.heap.size ≤ w19.heap.size := hx.size
  have hB19 := hB18.trans (hx.mono hB18.size)
  have hY19 := hY18.trans (hx.mono hY18.size)
  have HG19 := Lib.hid (HG18.out.below hx)
  have HH19 := Lib.hid (HH18.out.below hx)
  have u19 := u18.below hx
  clear hx hcs hB18 hY18 HG18 HH18 u18 
  clear H1 H2 HEQ HEL HEC HTO HW HA hci HG19 HH19 hY19 u19 v3
  go_wp2
  go_ret
  exact ⟨rfl, hB19⟩
/-! ### The row's step. -/
theorem own : ownKnob Try.prog.godebug = none := by kernel_rfl
theorem laidOut : laidOutB Try.prog = true := by kernel_rfl
set_option maxRecDepth 100000 in
theorem lifted (os : Os) (started : os.Started) (H : Type) (enc : TypeId × Value → H) :
    ReturnsInHanded {} Try.checked os 6 .any (Rows.fnExactCoinsSpendSpec.pre6 enc Try.prog Try.f6 Rows.fnExactCoinsSpendRow.domain false) (Rows.fnExactCoinsSpendSpec.post enc Try.prog Try.f6 false true false false) := by
  refine returnsInHanded_of_change (C := Try.checked) own started (by kernel_rfl) Try.func6
    (ChangeSpec.witness6 (enc := enc) (C := Try.checked) false ⟨#[], #[.slice none 0 0, .int .i64 0, .int .i64 0], []⟩ 8 (by kernel_rfl) (by kernel_rfl) (by kernel_rfl) (by kernel_rfl)) ?_
  intro W base args ds gs before hval0 hW hcnd _
  have hval : ∀ (j : Nat) t v, Try.f6.params[j]? = some t → args[j]? = some v → Value.okWide Try.prog W .any base t v := hval0
  have hW' := hW
  obtain ⟨p, q, hA0, hV, rfl, hfz, hnd⟩ := hW
  have hA : DataW.TrodAll enc Try.prog W 0 (fun _ => true) true Try.f6.params.toList args.toList ds p := hA0
  rw [Try.params6] at hA hval
  obtain ⟨v0, vs0, d0, ds0, p0, q0, hargs, rfl, rfl, h0, r0⟩ := trodAll_cons hA
  obtain ⟨v1, vs1, d1, ds1, p1, q1, rfl, rfl, rfl, h1, r1⟩ := trodAll_cons r0
  obtain ⟨v2, vs2, d2, ds2, p2, q2, rfl, rfl, rfl, h2, r2⟩ := trodAll_cons r1
  obtain ⟨rfl, rfl, rfl⟩ := trodAll_nil r2
  obtain rfl : args = #[v0, v1, v2] := by cases args; simp_all
  obtain ⟨rfl, rfl⟩ := trodVars_none hV
  obtain ⟨a0, len0, cap0, rfl⟩ := okWide_slice Try.underlying22 (hval 0 22 v0 rfl rfl)
  have k0 := h0
  have lt0 : ∀ x ∈ p0, x.block < W.heap.size := by obtain ⟨m, hm⟩ := k0; exact DataW.trod_lt m _ _ _ hm
  obtain ⟨z0, w0⟩ : ∃ l, IsCoin W a0 len0 cap0 l := by
    obtain ⟨fuel, hf⟩ := h0
    exact open_coins (by simpa [Value.cells] using hf)
  obtain ⟨a1, rfl, rfl, rfl, w1⟩ := open_int Try.underlying3 (hval 1 3 v1 rfl rfl) h1
  obtain ⟨a2, rfl, rfl, rfl, w2⟩ := open_int Try.underlying3 (hval 2 3 v2 rfl rfl) h2
  clear hA0 hval0
  refine (walk a0 len0 cap0 z0 a1 w1 a2 w2 W w0).mono fun e W' ⟨he, bel⟩ => ?_
  subst he
  exact ⟨_, rfl, _, _, _, [], _, [], hW', trodAll_mk1 (shut_bool Try.underlying4 _), (trodAll_cons_mk (Below.trod laidOut (by kernel_rfl) (of_decide_eq_true (by kernel_rfl)) k0 bel lt0) (trodAll_cons_mk (shut_int Try.underlying3 w1) (trodAll_cons_mk (shut_int Try.underlying3 w2) trodAll_mk0))), rfl, bel.frame _, fun h => by cases h⟩
theorem over : Rows.fnExactCoinsSpendRow.holds Try.pinned (OpenSpec.ofChange Rows.fnExactCoinsSpendSpec) :=
  OpenClaim.holds_of_wide 6 Try.f6 rfl rfl rfl rfl rfl rfl rfl ⟨rfl, rfl, rfl, rfl, rfl⟩ rfl rfl rfl rfl rfl (by kernel_rfl) Try.func6 (by kernel_rfl)
    (of_decide_eq_true (by kernel_rfl)) (by unfold Func.isWrapper; first | (rw [if_pos (by decide +kernel)]; kernel_rfl) | (rw [if_neg (by decide +kernel)]; exact ⟨rfl, rfl⟩))
    (fun os started H enc _ => lifted os started H enc)
theorem proved : Rows.FnExactCoinsSpendSaid := over
#print axioms proved
end Go.Proofs.Ytohameoomlehlab.fnExactCoinsSpend
