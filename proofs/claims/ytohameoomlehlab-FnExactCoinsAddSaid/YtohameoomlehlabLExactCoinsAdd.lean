/- For every list of coins and every coin that hold together at most 1<<20 elements and bytes as the law counts them (longer ones are let pass by the law itself), CoinsAdd of the program answers as the model's CoinsAdd, leaves the list as it was, and hands back coins that share no memory with it or with what another call hands back. -/
import Derived.Test.YtohameoomlehlabRows
import Derived.Test.YtohameoomlehlabCo
import Derived.Test.YtohameoomlehlabCn
import Derived.Test.YtohameoomlehlabCy
import Derived.WalkKit
import Derived.WalkSpells
import Derived.ProofKit
import Derived.OpenShut
import Derived.ShutString
import Derived.Below
import Derived.SliceStrings
namespace Go.Proofs.Ytohameoomlehlab.fnExactCoinsAdd
open Go.ChangeShapes Go.WideShapes Go.ChangeAt Go.RowKit
open Go.ChangeMaps (open_string shut_string)
set_option maxRecDepth 100000 in
set_option maxHeartbeats 25600000 in
theorem walk (a : Option Addr) (len cap : Nat) (l0 : List Co) (tx out amt : Int) (lock : ByteArray) (ht : Int) (rew : Bool) (hcw : (Lit.int .i64 tx).wf = true ∧ (Lit.int .i64 out).wf = true ∧ (Lit.int .i64 amt).wf = true ∧ lock.size ≤ maxLen ∧ (Lit.int .i64 ht).wf = true ∧ rew = rew) (w : World) (w0 : IsCoin w a len cap l0) :
    Calls Try.prog 5 #[.slice a len cap, .agg #[.int .i64 tx, .int .i64 out, .int .i64 amt, .string lock, .int .i64 ht, .bool rew]] w fun e w' => e = .returned (.bool true) ∧ Below w.heap.size w w' := by
  have hml : lock.size ≤ 9223372036854775807 := by have := hcw.2.2.2.1; unfold maxLen at this; exact this
  have HINC : Hid (Co.In tx out) := Lib.hid ⟨bounds_i64 hcw.1, bounds_i64 hcw.2.1⟩
  clear hcw
  obtain ⟨hlc, hcm, hcl, hlk⟩ := w0
  have HSZ := szCoinS_any 0 a len cap l0 1048576 (w.alloc (.cells #[.int .i64 tx, .int .i64 out, .int .i64 amt, .string lock, .int .i64 ht, .bool rew] 35 (0, 0))) (hcl.alloc (.cells #[.int .i64 tx, .int .i64 out, .int .i64 amt, .string lock, .int .i64 ht, .bool rew] 35 (0, 0))) (by omega) (by omega) (by omega) hlk
  have vX0 : Bk w.heap.size 35 #[.int .i64 tx, .int .i64 out, .int .i64 amt, .string lock, .int .i64 ht, .bool rew] (w.alloc (.cells #[.int .i64 tx, .int .i64 out, .int .i64 amt, .string lock, .int .i64 ht, .bool rew] 35 (0, 0))) := Bk.new _ _ _
  have hB0 : Below w.heap.size w (w.alloc (.cells #[.int .i64 tx, .int .i64 out, .int .i64 amt, .string lock, .int .i64 ht, .bool rew] 35 (0, 0))) := (Below.refl _ _).alloc (Nat.le_refl _) _
  have hs0 : (w.alloc (.cells #[.int .i64 tx, .int .i64 out, .int .i64 amt, .string lock, .int .i64 ht, .bool rew] 35 (0, 0))).heap.size = w.heap.size + 1 := by simp
  have HCL := Lib.hid hcl
  clear hcl hlk
  go_enter Try.func5, Try.ntmps5
  go_wp2_with fail
  refine HSZ.mono ?_
  rintro e w1 ⟨v, rfl, hv, hx⟩
  have hz1 : (w.alloc (.cells #[.int .i64 tx, .int .i64 out, .int .i64 amt, .string lock, .int .i64 ht, .bool rew] 35 (0, 0))).heap.size ≤ w1.heap.size := hx.size
  have hB1 := hB0.trans (hx.mono hB0.size)
  have vX1 := vX0.below hx
  clear HSZ hx hB0 vX0
  by_cases hneg : v < 0
  · clear hv
    go_wp2
    go_ret
    exact ⟨rfl, hB1⟩
  obtain ⟨hv1, hl1, hl2⟩ := hv.resolve_left hneg
  obtain ⟨c0, c1, c2, c3, c4, c5⟩ := Bk.c6 vX1
  have hcs := szCoin_any tx out amt lock ht rew v w1 (by omega) (by omega) hml
  go_wp2_with fail
  refine hcs.mono ?_
  rintro e w2 ⟨v2, rfl, hv2, hx⟩
  have hz2 : w1.heap.size ≤ w2.heap.size := hx.size
  have hB2 := hB1.trans (hx.mono hB1.size)
  have vX2 := vX1.below hx
  clear hx hcs c0 c1 c2 c3 c4 c5 hB1 vX1 hml
  by_cases hneg2 : v2 < 0
  · clear hv2
    go_wp2
    go_ret
    exact ⟨rfl, hB2⟩
  have hlo : lock.size ≤ 1048576 := by
    have := hv2.resolve_left hneg2
    omega
  have HLK : Hid (∀ x ∈ l0, x.lock.size ≤ 1048576) := Lib.hid (CB.lolock (by rw [HCL.out.lenC]; exact hl2))
  have HTO : Hid (∀ W, Below w.heap.size w W → Calls Try.prog 13 #[.slice a len cap] W fun e w' => ∃ g, e = .returned (.slice (some ⟨g, 0, none⟩) len len) ∧ Hid (CoL 0 w' (some ⟨g, 0, none⟩) len l0) ∧ Hid (0 < len → ∀ l', CB g len 0 l' w') ∧ W.heap.size ≤ g ∧ g < w'.heap.size ∧ Below W.heap.size W w') := Lib.hid fun W hW => (toCoinS_any 0 a len cap l0 W (HCL.out.below hW) hl1).mono fun e w' q => ⟨W.heap.size, q.1, Lib.hid (q.2.1.out.ol HCL.out.lenC (Nat.zero_le _)), Lib.hid (fun _ _ => q.2.1.out.room), Nat.le_refl _, q.2.1.out.lt, q.2.2⟩
  have HEL := Lib.hid (fun W a b (h1 : CoL 0 W a len l0) (h2 : CoL 0 W b len l0) => eqCoinS_any 0 0 a b len len len l0 W h1 h2 (by omega))
  have HTC := Lib.hid (fun W => toCoin_any tx out amt lock ht rew W)
  obtain ⟨O, hO⟩ : ∃ x, Co.add l0 ⟨tx, out, amt, lock, ht, rew⟩ = x := ⟨_, rfl⟩
  obtain ⟨L, hL⟩ : ∃ x, O.getD [] = x := ⟨_, rfl⟩
  obtain ⟨IS, hIS⟩ : ∃ x, O.isSome = x := ⟨_, rfl⟩
  obtain ⟨N, hN⟩ : ∃ x, L.length = x := ⟨_, rfl⟩
  have hN80 : N ≤ 80 := by
    rw [← hN, ← hL]
    cases hr : O with
    | none => simp
    | some m =>
      have hsp := Co.spend_add (hO.trans hr)
      cases hf : Co.find m tx out with
      | none => rw [show Co.spend m (Co.mk tx out amt lock ht rew).tx (Co.mk tx out amt lock ht rew).out = none from Co.spend_none hf] at hsp; cases hsp
      | some y => exact ((Co.lok_iff m).1 (Co.find_some hf).1).1
  have H1 : Hid (∀ W g, CoL 0 W (some ⟨g, 0, none⟩) len l0 → Calls Try.prog 20 #[.slice (some ⟨g, 0, none⟩) len len, .agg #[.int .i64 tx, .int .i64 out, .int .i64 amt, .string lock, .int .i64 ht, .bool rew]] W fun e w' => ∃ a c g, e = .returned (.tuple #[.slice a N c, .bool IS]) ∧ Hid (CoL W.heap.size w' a N L) ∧ Hid (N ≤ c) ∧ W.heap.size ≤ g ∧ Hid (0 < N → a = some ⟨g, 0, none⟩) ∧ Hid (0 < N → ∀ l', CB g N 0 l' w') ∧ Below W.heap.size W w') := Lib.hid fun W g h => by
    have hq := CoinsAdd_any 0 (some ⟨g, 0, none⟩) len len l0 tx out amt lock ht rew W h (by omega)
    rw [hO, hL, hIS] at hq
    exact hq.mono fun e w' q => q.mk hN
  have H2 : Hid (∀ W g, CoL 0 W (some ⟨g, 0, none⟩) len l0 → Calls Try.prog 22 #[.slice (some ⟨g, 0, none⟩) len len, .agg #[.int .i64 tx, .int .i64 out, .int .i64 amt, .string lock, .int .i64 ht, .bool rew]] W fun e w' => ∃ a c g, e = .returned (.tuple #[.slice a N c, .bool IS]) ∧ Hid (CoL W.heap.size w' a N L) ∧ Hid (N ≤ c) ∧ W.heap.size ≤ g ∧ Hid (0 < N → a = some ⟨g, 0, none⟩) ∧ Hid (0 < N → ∀ l', CB g N 0 l' w') ∧ Below W.heap.size W w') := Lib.hid fun W g h => by
    have hq := implCoinsAdd_any 0 (some ⟨g, 0, none⟩) len len l0 tx out amt lock ht rew W h (Nat.le_refl _) hl1 HLK.out hlo HINC.out
    rw [hO, hL, hIS] at hq
    exact hq.mono fun e w' q => q.mk hN
  have HEQ := Lib.hid (fun lo lo' W a b c c' (h1 : CoL lo W a N L) (h2 : CoL lo' W b N L) => eqCoinS_any lo lo' a b N c c' L W h1 h2 (by omega))
  have hm1 : decide ((1 : Int) + 6 * (len : Int) < 0) = false := by simp; omega
  have hm2 : decide ((1 : Int) + 6 * (N : Int) < 0) = false := by simp; omega
  clear hO hL hIS hN hv hv1 hv2 hl2 hlo HLK HCL hlc hcm
  have hS0 : w2.drew.cell? ⟨w.heap.size, 0, none⟩ = some (.int .i64 tx) ∧ w2.drew.cell? ⟨w.heap.size, 1, none⟩ = some (.int .i64 out) ∧ w2.drew.cell? ⟨w.heap.size, 2, none⟩ = some (.int .i64 amt) ∧ w2.drew.cell? ⟨w.heap.size, 3, none⟩ = some (.string lock) ∧ w2.drew.cell? ⟨w.heap.size, 4, none⟩ = some (.int .i64 ht) ∧ w2.drew.cell? ⟨w.heap.size, 5, none⟩ = some (.bool rew) := Bk.c6 vX2.drew
  obtain ⟨c0, c1, c2, c3, c4, c5⟩ := Bk.c6 vX2
  go_wp2
  clear c0 c1 c2 c3 c4 c5
  go_region_held3 (fun W => W.cell? ⟨w.heap.size, 0, none⟩ = some (.int .i64 tx) ∧ W.cell? ⟨w.heap.size, 1, none⟩ = some (.int .i64 out) ∧ W.cell? ⟨w.heap.size, 2, none⟩ = some (.int .i64 amt) ∧ W.cell? ⟨w.heap.size, 3, none⟩ = some (.string lock) ∧ W.cell? ⟨w.heap.size, 4, none⟩ = some (.int .i64 ht) ∧ W.cell? ⟨w.heap.size, 5, none⟩ = some (.bool rew)) (first | with_reducible exact hS0 | with_reducible exact hS1 | with_reducible exact hS2 | with_reducible exact hS3)
    (first
      | (go_at_call 13; refine (HTO.out _ hB2.drew).mono ?_; rintro e w3 ⟨g4, rfl, HC3, _, _, _, hx3⟩; have hB3 := hB2.drew.trans (hx3.mono hB2.drew.size); have vX3 := vX2.drew.below hx3; have hS1 : w3.cell? ⟨w.heap.size, 0, none⟩ = some (.int .i64 tx) ∧ w3.cell? ⟨w.heap.size, 1, none⟩ = some (.int .i64 out) ∧ w3.cell? ⟨w.heap.size, 2, none⟩ = some (.int .i64 amt) ∧ w3.cell? ⟨w.heap.size, 3, none⟩ = some (.string lock) ∧ w3.cell? ⟨w.heap.size, 4, none⟩ = some (.int .i64 ht) ∧ w3.cell? ⟨w.heap.size, 5, none⟩ = some (.bool rew) := Bk.c6 vX3)
      | (go_at_call 21; refine (HTC.out w3).mono ?_; rintro e w4 ⟨rfl, hx4⟩; have HC4 := Lib.hid (HC3.out.below hx4); have hB4 := hB3.trans (hx4.mono hB3.size); have vX4 := vX3.below hx4; have hS2 : w4.cell? ⟨w.heap.size, 0, none⟩ = some (.int .i64 tx) ∧ w4.cell? ⟨w.heap.size, 1, none⟩ = some (.int .i64 out) ∧ w4.cell? ⟨w.heap.size, 2, none⟩ = some (.int .i64 amt) ∧ w4.cell? ⟨w.heap.size, 3, none⟩ = some (.string lock) ∧ w4.cell? ⟨w.heap.size, 4, none⟩ = some (.int .i64 ht) ∧ w4.cell? ⟨w.heap.size, 5, none⟩ = some (.bool rew) := Bk.c6 vX4; clear HC3)
      | (go_at_call 21; refine (HTC.out _).mono ?_; rintro e w3 ⟨rfl, hx3⟩; have hx3' : Below w2.heap.size w2.drew w3 := hx3; have hB3 := hB2.drew.trans (hx3.mono hB2.drew.size); have vX3 := vX2.drew.below hx3; have hS1 : w3.cell? ⟨w.heap.size, 0, none⟩ = some (.int .i64 tx) ∧ w3.cell? ⟨w.heap.size, 1, none⟩ = some (.int .i64 out) ∧ w3.cell? ⟨w.heap.size, 2, none⟩ = some (.int .i64 amt) ∧ w3.cell? ⟨w.heap.size, 3, none⟩ = some (.string lock) ∧ w3.cell? ⟨w.heap.size, 4, none⟩ = some (.int .i64 ht) ∧ w3.cell? ⟨w.heap.size, 5, none⟩ = some (.bool rew) := Bk.c6 vX3)
      | (go_at_call 13; refine (HTO.out w3 hB3).mono ?_; rintro e w4 ⟨g4, rfl, HC4, _, _, _, hx4⟩; have hB4 := hB3.trans (hx4.mono hB3.size); have vX4 := vX3.below hx4; have hS2 : w4.cell? ⟨w.heap.size, 0, none⟩ = some (.int .i64 tx) ∧ w4.cell? ⟨w.heap.size, 1, none⟩ = some (.int .i64 out) ∧ w4.cell? ⟨w.heap.size, 2, none⟩ = some (.int .i64 amt) ∧ w4.cell? ⟨w.heap.size, 3, none⟩ = some (.string lock) ∧ w4.cell? ⟨w.heap.size, 4, none⟩ = some (.int .i64 ht) ∧ w4.cell? ⟨w.heap.size, 5, none⟩ = some (.bool rew) := Bk.c6 vX4)
      | (go_at_call 20; refine (H1.out w4 g4 HC4.out).mono ?_; rintro e w5 ⟨aw, cw, _, rfl, HV, _, _, _, _, hx5⟩; have hB5 := hB4.trans (hx5.mono hB4.size); have vX5 := vX4.below hx5; have hS3 : w5.cell? ⟨w.heap.size, 0, none⟩ = some (.int .i64 tx) ∧ w5.cell? ⟨w.heap.size, 1, none⟩ = some (.int .i64 out) ∧ w5.cell? ⟨w.heap.size, 2, none⟩ = some (.int .i64 amt) ∧ w5.cell? ⟨w.heap.size, 3, none⟩ = some (.string lock) ∧ w5.cell? ⟨w.heap.size, 4, none⟩ = some (.int .i64 ht) ∧ w5.cell? ⟨w.heap.size, 5, none⟩ = some (.bool rew) := Bk.c6 vX5))
  all_goals
    have HW := HV
    have hz5 : w2.heap.size ≤ w5.heap.size := Nat.le_trans (show w2.heap.size ≤ w3.heap.size from hx3.size) (Nat.le_trans hx4.size hx5.size)
    clear HV hS0 hS1 hS2 hS3 hx3 hx4 hx5 HC4 hB2 hB3 hB4 vX2 vX3 vX4
    have hY5 : Below w5.heap.size w5 w5 := Below.refl _ _
    have hcs := HTO.out w5 hB5
    go_wp2_with fail
    refine hcs.mono ?_
    rintro e w6 ⟨g6, rfl, HX6, HR6, hg6, hl6, hx⟩
    have hz6 : w5.heap.size ≤ w6.heap.size := hx.size
    have hB6 := hB5.trans (hx.mono hB5.size)
    have hY6 := hY5.trans (hx.mono hY5.size)
    have vX6 := vX5.below hx
    clear hx hcs hB5 hY5 vX5 
    have hcs := HTC.out w6
    obtain ⟨c0, c1, c2, c3, c4, c5⟩ := Bk.c6 vX6
    go_wp2_with fail
    refine hcs.mono ?_
    rintro e w7 ⟨rfl, hx⟩
    clear c0 c1 c2 c3 c4 c5
    have hz7 : w6.heap.size ≤ w7.heap.size := hx.size
    have hB7 := hB6.trans (hx.mono hB6.size)
    have hY7 := hY6.trans (hx.mono hY6.size)
    have HX7 := Lib.hid (HX6.out.below hx)
    have HR7 := Lib.hid (CB.roomBelow HR6.out hx)
    have vX7 := vX6.below hx
    clear hx hcs hB6 hY6 HX6 HR6 vX6 
    have hcs := H2.out w7 g6 HX7.out
    go_wp2_with fail
    refine hcs.mono ?_
    rintro e w8 ⟨ai, ci, gi, rfl, HG8, hci, hgi, HA, HI8, hx⟩
    have hz8 : w7.heap.size ≤ w8.heap.size := hx.size
    have hB8 := hB7.trans (hx.mono hB7.size)
    have hY8 := hY7.trans (hx.mono hY7.size)
    have HX8 := Lib.hid (HX7.out.below hx)
    have HR8 := Lib.hid (CB.roomBelow HR7.out hx)
    have vX8 := vX7.below hx
    clear hx hcs hB7 hY7 HX7 HR7 vX7 
    have hcs := HEQ.out _ _ _ ai aw ci cw HG8.out (HW.out.below hY8)
    go_wp2_with fail
    refine hcs.mono ?_
    rintro e w9 ⟨rfl, hx⟩
    have hz9 : w8.heap.size ≤ w9.heap.size := hx.size
    have hB9 := hB8.trans (hx.mono hB8.size)
    have hY9 := hY8.trans (hx.mono hY8.size)
    have HX9 := Lib.hid (HX8.out.below hx)
    have HG9 := Lib.hid (HG8.out.below hx)
    have HR9 := Lib.hid (CB.roomBelow HR8.out hx)
    have HI9 := Lib.hid (CB.roomBelow HI8.out hx)
    have vX9 := vX8.below hx
    clear hx hcs hB8 hY8 HX8 HG8 HR8 HI8 vX8 
    have hcs := HTO.out w9 hB9
    go_wp2_with fail
    refine hcs.mono ?_
    rintro e w10 ⟨g10, rfl, HC10, _, _, _, hx⟩
    have hz10 : w9.heap.size ≤ w10.heap.size := hx.size
    have hB10 := hB9.trans (hx.mono hB9.size)
    have hY10 := hY9.trans (hx.mono hY9.size)
    have HX10 := Lib.hid (HX9.out.below hx)
    have HG10 := Lib.hid (HG9.out.below hx)
    have HR10 := Lib.hid (CB.roomBelow HR9.out hx)
    have HI10 := Lib.hid (CB.roomBelow HI9.out hx)
    have vX10 := vX9.below hx
    clear hx hcs hB9 hY9 HX9 HG9 HR9 HI9 vX9 
    have hcs := HEL.out w10 _ _ HX10.out HC10.out
    go_wp2_with fail
    refine hcs.mono ?_
    rintro e w11 ⟨rfl, hx⟩
    have hz11 : w10.heap.size ≤ w11.heap.size := hx.size
    have hB11 := hB10.trans (hx.mono hB10.size)
    have hY11 := hY10.trans (hx.mono hY10.size)
    have HX11 := Lib.hid (HX10.out.below hx)
    have HG11 := Lib.hid (HG10.out.below hx)
    have HR11 := Lib.hid (CB.roomBelow HR10.out hx)
    have HI11 := Lib.hid (CB.roomBelow HI10.out hx)
    have vX11 := vX10.below hx
    clear hx hcs hB10 hY10 HX10 HG10 HR10 HI10 vX10 HC10
    have hcs := markCoinS_any (some ⟨g6, 0, none⟩) g6 len len w11 (fun _ => rfl) (fun h0 => HR11.out h0 _) (by omega)
    go_wp2_with fail
    refine hcs.mono ?_
    rintro e w12 ⟨rfl, hg, HM12⟩
    have hz12 : w11.heap.size ≤ w12.heap.size := hg.size
    have hB12 := Below.grown hB11 hg hB11.size (fun j hj => by cases hj; omega)
    have hY12 := Below.grown hY11 hg hY11.size (fun j hj => by cases hj; omega)
    have HG12 := Lib.hid (HG11.out.grown hg (fun r hr => by cases hr; omega))
    have HI12 := Lib.hid (CB.roomKept HI11.out hg (by omega))
    have vX12 : Bk w.heap.size 35 #[.int .i64 tx, .int .i64 out, .int .i64 amt, .string lock, .int .i64 ht, .bool rew] w12 := ⟨(hg.block _ vX11.lt (by have : w.heap.size ≠ g6 := (by omega); simpa using this)).trans vX11.held⟩
    clear hg hcs hB11 hY11 HX11 HG11 HR11 HI11 vX11
    have hcs := HEQ.out _ _ w12 ai aw ci cw HG12.out (HW.out.below hY12)
    go_wp2_with fail
    refine hcs.mono ?_
    rintro e w13 ⟨rfl, hx⟩
    have hz13 : w12.heap.size ≤ w13.heap.size := hx.size
    have hB13 := hB12.trans (hx.mono hB12.size)
    have hY13 := hY12.trans (hx.mono hY12.size)
    have HG13 := Lib.hid (HG12.out.below hx)
    have HI13 := Lib.hid (CB.roomBelow HI12.out hx)
    have vX13 := vX12.below hx
    clear hx hcs hB12 hY12 HG12 HI12 vX12 
    have hcs := markCoinS_any ai gi N ci w13 HA.out (fun h0 => HI13.out h0 _) (by omega)
    go_wp2_with fail
    refine hcs.mono ?_
    rintro e w14 ⟨rfl, hg, HM14⟩
    have hz14 : w13.heap.size ≤ w14.heap.size := hg.size
    have hB14 := Below.grown hB13 hg hB13.size (fun j hj => by cases hj; omega)
    have hY14 := Below.grown hY13 hg hY13.size (fun j hj => by cases hj; omega)
    have vX14 : Bk w.heap.size 35 #[.int .i64 tx, .int .i64 out, .int .i64 amt, .string lock, .int .i64 ht, .bool rew] w14 := ⟨(hg.block _ vX13.lt (by have : w.heap.size ≠ gi := (by omega); simpa using this)).trans vX13.held⟩
    have HG14 : Hid (CoL w7.heap.size w14 ai N (marksCoin N)) := Lib.hid (CoL.marks HA.out HM14 hgi)
    clear HG13
    clear hg hcs hB13 hY13 HI13 vX13
    have hcs := heldCoinS_any _ ai N ci w14 HG14.out (by omega)
    go_wp2_with fail
    refine hcs.mono ?_
    rintro e w15 ⟨rfl, hx⟩
    have hz15 : w14.heap.size ≤ w15.heap.size := hx.size
    have hB15 := hB14.trans (hx.mono hB14.size)
    have hY15 := hY14.trans (hx.mono hY14.size)
    have HG15 := Lib.hid (HG14.out.below hx)
    have vX15 := vX14.below hx
    clear hx hcs hB14 hY14 HG14 vX14 
    have hS0 : w15.drew.cell? ⟨w.heap.size, 0, none⟩ = some (.int .i64 tx) ∧ w15.drew.cell? ⟨w.heap.size, 1, none⟩ = some (.int .i64 out) ∧ w15.drew.cell? ⟨w.heap.size, 2, none⟩ = some (.int .i64 amt) ∧ w15.drew.cell? ⟨w.heap.size, 3, none⟩ = some (.string lock) ∧ w15.drew.cell? ⟨w.heap.size, 4, none⟩ = some (.int .i64 ht) ∧ w15.drew.cell? ⟨w.heap.size, 5, none⟩ = some (.bool rew) := Bk.c6 vX15.drew
    obtain ⟨c0, c1, c2, c3, c4, c5⟩ := Bk.c6 vX15
    go_wp2
    clear c0 c1 c2 c3 c4 c5
    go_region_held3 (fun W => W.cell? ⟨w.heap.size, 0, none⟩ = some (.int .i64 tx) ∧ W.cell? ⟨w.heap.size, 1, none⟩ = some (.int .i64 out) ∧ W.cell? ⟨w.heap.size, 2, none⟩ = some (.int .i64 amt) ∧ W.cell? ⟨w.heap.size, 3, none⟩ = some (.string lock) ∧ W.cell? ⟨w.heap.size, 4, none⟩ = some (.int .i64 ht) ∧ W.cell? ⟨w.heap.size, 5, none⟩ = some (.bool rew)) (first | with_reducible exact hS0 | with_reducible exact hS1 | with_reducible exact hS2 | with_reducible exact hS3)
      (first
        | (go_at_call 13; refine (HTO.out _ hB15.drew).mono ?_; rintro e w16 ⟨g17, rfl, HC16, _, _, _, hx16⟩; have hB16 := hB15.drew.trans (hx16.mono hB15.drew.size); have vX16 := vX15.drew.below hx16; have hS1 : w16.cell? ⟨w.heap.size, 0, none⟩ = some (.int .i64 tx) ∧ w16.cell? ⟨w.heap.size, 1, none⟩ = some (.int .i64 out) ∧ w16.cell? ⟨w.heap.size, 2, none⟩ = some (.int .i64 amt) ∧ w16.cell? ⟨w.heap.size, 3, none⟩ = some (.string lock) ∧ w16.cell? ⟨w.heap.size, 4, none⟩ = some (.int .i64 ht) ∧ w16.cell? ⟨w.heap.size, 5, none⟩ = some (.bool rew) := Bk.c6 vX16)
        | (go_at_call 21; refine (HTC.out w16).mono ?_; rintro e w17 ⟨rfl, hx17⟩; have HC17 := Lib.hid (HC16.out.below hx17); have hB17 := hB16.trans (hx17.mono hB16.size); have vX17 := vX16.below hx17; have hS2 : w17.cell? ⟨w.heap.size, 0, none⟩ = some (.int .i64 tx) ∧ w17.cell? ⟨w.heap.size, 1, none⟩ = some (.int .i64 out) ∧ w17.cell? ⟨w.heap.size, 2, none⟩ = some (.int .i64 amt) ∧ w17.cell? ⟨w.heap.size, 3, none⟩ = some (.string lock) ∧ w17.cell? ⟨w.heap.size, 4, none⟩ = some (.int .i64 ht) ∧ w17.cell? ⟨w.heap.size, 5, none⟩ = some (.bool rew) := Bk.c6 vX17; clear HC16)
        | (go_at_call 21; refine (HTC.out _).mono ?_; rintro e w16 ⟨rfl, hx16⟩; have hx16' : Below w15.heap.size w15.drew w16 := hx16; have hB16 := hB15.drew.trans (hx16.mono hB15.drew.size); have vX16 := vX15.drew.below hx16; have hS1 : w16.cell? ⟨w.heap.size, 0, none⟩ = some (.int .i64 tx) ∧ w16.cell? ⟨w.heap.size, 1, none⟩ = some (.int .i64 out) ∧ w16.cell? ⟨w.heap.size, 2, none⟩ = some (.int .i64 amt) ∧ w16.cell? ⟨w.heap.size, 3, none⟩ = some (.string lock) ∧ w16.cell? ⟨w.heap.size, 4, none⟩ = some (.int .i64 ht) ∧ w16.cell? ⟨w.heap.size, 5, none⟩ = some (.bool rew) := Bk.c6 vX16)
        | (go_at_call 13; refine (HTO.out w16 hB16).mono ?_; rintro e w17 ⟨g17, rfl, HC17, _, _, _, hx17⟩; have hB17 := hB16.trans (hx17.mono hB16.size); have vX17 := vX16.below hx17; have hS2 : w17.cell? ⟨w.heap.size, 0, none⟩ = some (.int .i64 tx) ∧ w17.cell? ⟨w.heap.size, 1, none⟩ = some (.int .i64 out) ∧ w17.cell? ⟨w.heap.size, 2, none⟩ = some (.int .i64 amt) ∧ w17.cell? ⟨w.heap.size, 3, none⟩ = some (.string lock) ∧ w17.cell? ⟨w.heap.size, 4, none⟩ = some (.int .i64 ht) ∧ w17.cell? ⟨w.heap.size, 5, none⟩ = some (.bool rew) := Bk.c6 vX17)
        | (go_at_call 22; refine (H2.out w17 g17 HC17.out).mono ?_; rintro e w18 ⟨ah, ch, _, rfl, HV, _, _, _, _, hx18⟩; have hB18 := hB17.trans (hx18.mono hB17.size); have vX18 := vX17.below hx18; have hS3 : w18.cell? ⟨w.heap.size, 0, none⟩ = some (.int .i64 tx) ∧ w18.cell? ⟨w.heap.size, 1, none⟩ = some (.int .i64 out) ∧ w18.cell? ⟨w.heap.size, 2, none⟩ = some (.int .i64 amt) ∧ w18.cell? ⟨w.heap.size, 3, none⟩ = some (.string lock) ∧ w18.cell? ⟨w.heap.size, 4, none⟩ = some (.int .i64 ht) ∧ w18.cell? ⟨w.heap.size, 5, none⟩ = some (.bool rew) := Bk.c6 vX18))
    all_goals
      have hx : Below w15.heap.size w15 w18 := (Below.refl w15.heap.size w15).drew.trans ((show Below w15.heap.size w15.drew w16 from hx16).trans ((hx17.mono (show w15.heap.size ≤ w16.heap.size from hx16.size)).trans (hx18.mono (Nat.le_trans (show w15.heap.size ≤ w16.heap.size from hx16.size) hx17.size))))
      have hY18 := hY15.trans (hx.mono hY15.size)
      have HG18 := Lib.hid (HG15.out.below hx)
      have HH18 := HV
      clear HV hx hS0 hS1 hS2 hS3 hx16 hx17 hx18 HC17 hB15 hB16 hB17 vX15 vX16 vX17 vX18 hY15 HG15
      have hcs := HEQ.out _ _ _ ah aw ch cw HH18.out (HW.out.below hY18)
      go_wp2_with fail
      refine hcs.mono ?_
      rintro e w19 ⟨rfl, hx⟩
      have hz19 : w18.heap.size ≤ w19.heap.size := hx.size
      have hB19 := hB18.trans (hx.mono hB18.size)
      have hY19 := hY18.trans (hx.mono hY18.size)
      have HG19 := Lib.hid (HG18.out.below hx)
      have HH19 := Lib.hid (HH18.out.below hx)
      clear hx hcs hB18 hY18 HG18 HH18 
      have hcs := heldCoinS_any _ ai N ci w19 HG19.out (by omega)
      go_wp2_with fail
      refine hcs.mono ?_
      rintro e w20 ⟨rfl, hx⟩
      have hz20 : w19.heap.size ≤ w20.heap.size := hx.size
      have hB20 := hB19.trans (hx.mono hB19.size)
      have hY20 := hY19.trans (hx.mono hY19.size)
      have HG20 := Lib.hid (HG19.out.below hx)
      have HH20 := Lib.hid (HH19.out.below hx)
      clear hx hcs hB19 hY19 HG19 HH19 
      clear H1 H2 HEQ HEL HTC HTO HW HA hci HG20 HH20 hY20
      go_wp2
      go_ret
      exact ⟨rfl, hB20⟩
/-! ### The row's step. -/
theorem own : ownKnob Try.prog.godebug = none := by kernel_rfl
theorem laidOut : laidOutB Try.prog = true := by kernel_rfl
set_option maxRecDepth 100000 in
theorem lifted (os : Os) (started : os.Started) (H : Type) (enc : TypeId × Value → H) :
    ReturnsInHanded {} Try.checked os 5 .any (Rows.fnExactCoinsAddSpec.pre6 enc Try.prog Try.f5 Rows.fnExactCoinsAddRow.domain false) (Rows.fnExactCoinsAddSpec.post enc Try.prog Try.f5 false true false false) := by
  refine returnsInHanded_of_change (C := Try.checked) own started (by kernel_rfl) Try.func5
    (ChangeSpec.witness6 (enc := enc) (C := Try.checked) false ⟨#[], #[.slice none 0 0, .agg #[.int .i64 0, .int .i64 0, .int .i64 0, .string ByteArray.empty, .int .i64 0, .bool false]], []⟩ 8 (by kernel_rfl) (by kernel_rfl) (by kernel_rfl) (by kernel_rfl)) ?_
  intro W base args ds gs before hval0 hW hcnd _
  have hval : ∀ (j : Nat) t v, Try.f5.params[j]? = some t → args[j]? = some v → Value.okWide Try.prog W .any base t v := hval0
  have hW' := hW
  obtain ⟨p, q, hA0, hV, rfl, hfz, hnd⟩ := hW
  have hA : DataW.TrodAll enc Try.prog W 0 (fun _ => true) true Try.f5.params.toList args.toList ds p := hA0
  rw [Try.params5] at hA hval
  obtain ⟨v0, vs0, d0, ds0, p0, q0, hargs, rfl, rfl, h0, r0⟩ := trodAll_cons hA
  obtain ⟨v1, vs1, d1, ds1, p1, q1, rfl, rfl, rfl, h1, r1⟩ := trodAll_cons r0
  obtain ⟨rfl, rfl, rfl⟩ := trodAll_nil r1
  obtain rfl : args = #[v0, v1] := by cases args; simp_all
  obtain ⟨rfl, rfl⟩ := trodVars_none hV
  obtain ⟨a0, len0, cap0, rfl⟩ := okWide_slice Try.underlying22 (hval 0 22 v0 rfl rfl)
  have k0 := h0
  have lt0 : ∀ x ∈ p0, x.block < W.heap.size := by obtain ⟨m, hm⟩ := k0; exact DataW.trod_lt m _ _ _ hm
  obtain ⟨z0, w0⟩ : ∃ l, IsCoin W a0 len0 cap0 l := by
    obtain ⟨fuel, hf⟩ := h0
    exact open_coins (by simpa [Value.cells] using hf)
  have k1 := h1
  have lt1 : ∀ x ∈ p1, x.block < W.heap.size := by obtain ⟨m, hm⟩ := k1; exact DataW.trod_lt m _ _ _ hm
  obtain ⟨s1_0, s1_1, s1_2, s1_3, s1_4, s1_5, rfl, w1⟩ := open_coin (hval 1 35 v1 rfl rfl) h1
  clear hA0 hval0
  refine (walk a0 len0 cap0 z0 s1_0 s1_1 s1_2 s1_3 s1_4 s1_5 w1 W w0).mono fun e W' ⟨he, bel⟩ => ?_
  subst he
  exact ⟨_, rfl, _, _, _, [], _, [], hW', trodAll_mk1 (shut_bool Try.underlying4 _), (trodAll_cons_mk (Below.trod laidOut (by kernel_rfl) (of_decide_eq_true (by kernel_rfl)) k0 bel lt0) (trodAll_cons_mk (Below.trod laidOut (by kernel_rfl) (of_decide_eq_true (by kernel_rfl)) k1 bel lt1) trodAll_mk0)), rfl, bel.frame _, fun h => by cases h⟩
theorem over : Rows.fnExactCoinsAddRow.holds Try.pinned (OpenSpec.ofChange Rows.fnExactCoinsAddSpec) :=
  OpenClaim.holds_of_wide 5 Try.f5 rfl rfl rfl rfl rfl rfl rfl ⟨rfl, rfl, rfl, rfl, rfl⟩ rfl rfl rfl rfl rfl (by kernel_rfl) Try.func5 (by kernel_rfl)
    (of_decide_eq_true (by kernel_rfl)) (by unfold Func.isWrapper; first | (rw [if_pos (by decide +kernel)]; kernel_rfl) | (rw [if_neg (by decide +kernel)]; exact ⟨rfl, rfl⟩))
    (fun os started H enc _ => lifted os started H enc)
theorem proved : Rows.FnExactCoinsAddSaid := over
#print axioms proved
end Go.Proofs.Ytohameoomlehlab.fnExactCoinsAdd
