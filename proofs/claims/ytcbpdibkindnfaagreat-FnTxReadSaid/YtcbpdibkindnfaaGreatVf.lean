/-
  Drawing the bytes of a transaction.
-/
import Derived.Test.YtcbpdibkindnfaaGreatUz
import Derived.Test.YtcbpdibkindnfaaGreatVa
namespace Go.Proofs.YtcbpdibkindnfaaGreat
open Go.RowKit

theorem Tr.enc_szV {t : Tr} (h : t.ok = true) : (Tr.enc true t).size ≤ 3000 := by
  unfold Tr.ok at h
  simp only [Bool.and_eq_true, decide_eq_true_eq] at h
  exact h.2
set_option maxRecDepth 100000 in
set_option maxHeartbeats 3200000 in
theorem l93TxBytes_any (B : Nat) (a : Option Addr) (len cap : Nat) (zs : List Int) (p : Nat) (w : World) (hp : p ≤ 300000000) (hD0 : Dw B a len cap zs w p) :
    Calls Tryz.prog 26 #[.pointer (some ⟨B, 0, none⟩)] w (StrR B a len cap zs p 3004 3005 w) := by
  have hBl := hD0.lt
  go_enter Tryz.func26, Tryz.ntmps26
  go_wp2_with fail
  refine (l92Tx_any B a len cap zs p w (by omega) hD0).mono ?_
  rintro e w2 ⟨ai, n, ci, bi, m, di, t, l, q, rfl, HF, HS, _, hpq, hq3, hD2, hG, HI, HO⟩
  have HT : Hid (TrR w.heap.size w2 ai n bi m t) := Lib.hid (by
    have h3 := HI.out.trR (af := 0) (nt := ⟨#[]⟩) HO.out
    exact ⟨HF.out ▸ h3.ins, h3.outs⟩)
  have hcs := TxBytes_any w.heap.size ai n ci bi m di t w2 HT.out HS.out
  obtain ⟨X, hX⟩ : ∃ x, (if t.ok = true then Tr.enc true t else ⟨#[]⟩) = x := ⟨_, rfl⟩
  have hXs : X.size ≤ 3000 := by
    rw [← hX]
    by_cases h : t.ok = true
    · rw [if_pos h]; exact Tr.enc_szV h
    · rw [if_neg h]; decide
  rw [hX] at hcs
  obtain ⟨K, hK⟩ : ∃ x, t.ok = x := ⟨_, rfl⟩
  rw [hK] at hcs
  clear hX hK HT HI HO HF HS
  go_wp2_with fail
  refine hcs.mono ?_
  rintro e w3 ⟨rfl, hx⟩
  have hD3 := hD2.of (w' := w3) (fun k hk => hx.block k (by have := hD2.lt; omega))
  have hG3 : w.grownBy w3 (some B) := gtrans hG ⟨hx.os, hx.tape, hx.output, hx.size, fun k hk _ => hx.block k hk⟩
  clear hcs hD2 hx hG
  go_wp2_with fail
  refine (l91Seldom_any B a len cap zs q X w3 (by omega) (by omega) hD3).mono ?_
  rintro e w4 ⟨s, q4, rfl, hs, h1, h2, hD4, hG4⟩
  have hG5 := gtrans hG3 hG4
  clear hD3 hG3 hG4
  go_wp2
  go_ret
  exact ⟨s, q4, rfl, by omega, by omega, by omega, hD4, hG5⟩
set_option maxRecDepth 100000 in
set_option maxHeartbeats 1600000 in
theorem drawTxRead_any (a : Option Addr) (len cap : Nat) (zs : List Int) (w : World) (hr : IsRow .u8 w a len cap zs) (hlm : len ≤ 1048576) :
    Calls Tryz.prog 10 #[.slice a len cap] w (DrawStr 3005 w) := by
  go_enter Tryz.func10, Tryz.ntmps10
  go_wp2_with fail
  refine (l6Open_any a len cap zs _ hr hlm).mono ?_
  rintro e w1 ⟨B, a', l', c', zs', rfl, hB, hD, hb1⟩
  clear hr
  go_wp2_with fail
  refine (l93TxBytes_any B a' l' c' zs' _ _ (by omega) hD).mono ?_
  rintro e w2 ⟨s, q, rfl, z, _, _, _, hG⟩
  go_wp2
  go_ret
  exact ⟨s, rfl, z, Below.grown hb1 hG hb1.size (fun j hj => by cases hj; exact hB)⟩
end Go.Proofs.YtcbpdibkindnfaaGreat
