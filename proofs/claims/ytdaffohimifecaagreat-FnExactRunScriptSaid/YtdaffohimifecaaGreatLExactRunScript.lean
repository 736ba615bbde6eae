/- For every list of operations, list of strings and surroundings of at most 1<<20 in all as the law counts them (longer ones are let pass by the law itself), RunScript of the program answers as the model's RunScript, leaves both lists as they were, and hands back strings that share no memory with them or with what another call hands back. -/
import Derived.Test.YtdaffohimifecaaGreatRows
import Derived.Test.YtdaffohimifecaaGreatWs
import Derived.Test.YtdaffohimifecaaGreatWo
import Derived.Test.YtdaffohimifecaaGreatWi
import Derived.Test.YtdaffohimifecaaGreatYb
import Derived.WalkKit
import Derived.WalkSpells
import Derived.ProofKit
import Derived.OpenShut
import Derived.ShutString
import Derived.Below
import Derived.SliceStrings
namespace Go.Proofs.YtdaffohimifecaaGreat.fnExactRunScript
open Go.ChangeShapes Go.WideShapes Go.ChangeAt Go.RowKit
open Go.ChangeMaps (open_string shut_string)
set_option maxRecDepth 100000 in
set_option maxHeartbeats 6400000 in
theorem walk (a0 : Option Addr) (len0 cap0 : Nat) (z0 : List Jo) (a1 : Option Addr) (len1 cap1 : Nat) (z1 : List ByteArray) (T : ByteArray) (hE aE : Int) (wT : T.size ≤ maxLen) (_ : (Lit.int .i64 hE).wf = true) (_ : (Lit.int .i64 aE).wf = true) (w : World) (w0 : IsOps w a0 len0 cap0 z0) (w1 : IsStrs w a1 len1 cap1 z1) :
    Calls Tryz.prog 7 #[.slice a0 len0 cap0, .slice a1 len1 cap1, .agg #[.string T, .int .i64 hE, .int .i64 aE]] w fun e w' => e = .returned (.bool true) ∧ Below w.heap.size w w' := by
  have hwT : T.size ≤ 9223372036854775807 := by unfold maxLen at wT; exact wT
  obtain ⟨hl0, hl1, hs0, hbd⟩ := w0
  have hts := fun j hj => (hbd j hj).1
  obtain ⟨hm0, hm1, hm2⟩ := w1.len
  have HT := Lib.hid (w1.sr.alloc (.cells #[.string T, .int .i64 hE, .int .i64 aE] 42 (0, 0)))
  have HZ := Lib.hid w1.sizes
  have HS := Lib.hid (hs0.alloc (.cells #[.string T, .int .i64 hE, .int .i64 aE] 42 (0, 0)))
  have HA : Hid (Bk w.heap.size 42 #[.string T, .int .i64 hE, .int .i64 aE] (w.alloc (.cells #[.string T, .int .i64 hE, .int .i64 aE] 42 (0, 0)))) := Lib.hid (Bk.new _ _ _)
  have hbA : Below w.heap.size w (w.alloc (.cells #[.string T, .int .i64 hE, .int .i64 aE] 42 (0, 0))) := below_alloc (Below.refl _ _) _
  have hb0 := Below.refl (w.alloc (.cells #[.string T, .int .i64 hE, .int .i64 aE] 42 (0, 0))).heap.size (w.alloc (.cells #[.string T, .int .i64 hE, .int .i64 aE] 42 (0, 0)))
  clear w1 hs0 hbd wT
  generalize z1.take len1 = ss at HT HZ
  go_enter Tryz.func7, Tryz.ntmps7
  have hSof : ∀ W, Bk w.heap.size 42 #[.string T, .int .i64 hE, .int .i64 aE] W → W.cell? ⟨w.heap.size, 0, none⟩ = some (.string T) ∧ W.cell? ⟨w.heap.size, 1, none⟩ = some (.int .i64 hE) ∧ W.cell? ⟨w.heap.size, 2, none⟩ = some (.int .i64 aE) := fun W h => ⟨h.cell 0, h.cell 1, h.cell 2⟩
  go_wp2_with fail
  refine (szOpS_top a0 len0 cap0 z0 _ HS.out (by omega) hts).mono ?_
  rintro e W1 ⟨v, rfl, hv, hx⟩
  have hb1 := hb0.trans (hx.mono hb0.size)
  clear hx
  by_cases hneg : v < 0
  · clear hv hts
    go_wp2
    go_ret
    exact ⟨rfl, hbA.trans (hb1.mono hbA.size)⟩
  obtain ⟨hv1, hsz, hts2⟩ := hv.resolve_left hneg
  clear hv hts hts2
  go_wp2_with fail
  refine (szStringS_top a1 len1 cap1 ss v _ (HT.out.below hb1) (by omega) hv1 (by omega) HZ.out).mono ?_
  rintro e W2 ⟨u, rfl, hv, hx⟩
  have hb2 := hb1.trans (hx.mono hb1.size)
  clear hb1
  clear hx
  by_cases hneg2 : u < 0
  · clear hv
    go_wp2
    go_ret
    exact ⟨rfl, hbA.trans (hb2.mono hbA.size)⟩
  obtain ⟨hu0, hu1, hst0, _⟩ := hv.resolve_left hneg2
  have hst : len1 ≤ 1048576 := by omega
  have hu2 : u ≤ 1048576 := by omega
  clear hv hst0 hu1 hneg hv1
  obtain ⟨c0, c1, c2⟩ := Bk.c3w (HA.out.below hb2)
  go_wp2_with fail
  refine (szEnv_any T hE aE u _ hu0 hu2 hwT).mono ?_
  rintro e W3 ⟨t, rfl, hv, hx⟩
  have hb3 := hb2.trans (hx.mono hb2.size)
  clear hb2
  clear hx
  clear c0 c1 c2
  by_cases hneg3 : t < 0
  · clear hv
    go_wp2
    go_ret
    exact ⟨rfl, hbA.trans (hb3.mono hbA.size)⟩
  have hTs : T.size ≤ 1048576 := by have := (hv.resolve_left hneg3).2; omega
  clear hv
  obtain ⟨L, HL⟩ : ∃ L, Hid ((Vm.run ⟨T, hE, aE⟩ z0 ss).1 = L) := ⟨_, Lib.hid rfl⟩
  obtain ⟨cd, HC⟩ : ∃ c, Hid ((Vm.run ⟨T, hE, aE⟩ z0 ss).2 = c) := ⟨_, Lib.hid rfl⟩
  have hlen : L.length ≤ 24 := by rw [← HL.out]; exact (Vm.run_fits ⟨T, hE, aE⟩ z0 ss).1
  obtain ⟨n, hn⟩ : ∃ n, L.length = n := ⟨_, rfl⟩
  rw [hn] at hlen
  have HSP : Hid (∀ W b0 b1, OL W (some ⟨b0, 0, none⟩) len0 z0 → SR W (some ⟨b1, 0, none⟩) len1 ss → Calls Tryz.prog 11 #[.slice (some ⟨b0, 0, none⟩) len0 len0, .slice (some ⟨b1, 0, none⟩) len1 len1, .agg #[.string T, .int .i64 hE, .int .i64 aE]] W (fun e W' => ∃ a c, e = .returned (.tuple #[.slice a n c, .int .i64 cd]) ∧ W'.ownsRow W.heap.size 9 1 (.slice a n c) n (L.map Value.string) ∧ Below W.heap.size W W')) := Lib.hid fun W b0 b1 h0 h1 => by
    have := specRunScript_any (some ⟨b0, 0, none⟩) (some ⟨b1, 0, none⟩) len0 len0 len1 len1 z0 ss ⟨T, hE, aE⟩ W h0 (by omega) h1 (by omega) HZ.out hTs
    unfold RsP at this
    rw [HL.out, HC.out, hn] at this
    exact this
  have HIP : Hid (∀ W b0 b1, OL W (some ⟨b0, 0, none⟩) len0 z0 → SR W (some ⟨b1, 0, none⟩) len1 ss → Calls Tryz.prog 10 #[.slice (some ⟨b0, 0, none⟩) len0 len0, .slice (some ⟨b1, 0, none⟩) len1 len1, .agg #[.string T, .int .i64 hE, .int .i64 aE]] W (fun e W' => ∃ a c, e = .returned (.tuple #[.slice a n c, .int .i64 cd]) ∧ W'.ownsRow W.heap.size 9 1 (.slice a n c) n (L.map Value.string) ∧ Below W.heap.size W W')) := Lib.hid fun W b0 b1 h0 h1 => by
    have := implRunScript_any (some ⟨b0, 0, none⟩) (some ⟨b1, 0, none⟩) len0 len0 len1 len1 z0 ss ⟨T, hE, aE⟩ W h0 (by omega) h1 (by omega) HZ.out (fun h => by cases h) hTs
    unfold RsP at this
    rw [HL.out, HC.out, hn] at this
    exact this
  clear HL HC hn HZ hneg2 hu0 hu2 hTs hwT hm0 hm1 hm2 hl0 hl1
  have hcmp : decide ((1 : Int) + 4 * (len0 : Int) + (len1 : Int) < 0) = false := decide_eq_false (by omega)
  have hcmp2 : ((1 : Int) + (n : Int) != 1 + (n : Int)) = false := by simp
  have hcmp3 : (cd != cd) = false := by simp
  have hcmp4 : decide ((1 : Int) + (n : Int) < 0) = false := decide_eq_false (by omega)
  go_wp2_with fail
  clear hneg3
  have hd := (Below.refl W3.heap.size W3).drew
  have hbd := hb3.drew
  have hS3 := hSof _ (HA.out.below hbd)
  clear hd
  go_wp2_with fail
  go_region_held3 (fun W => W.cell? ⟨w.heap.size, 0, none⟩ = some (.string T) ∧ W.cell? ⟨w.heap.size, 1, none⟩ = some (.int .i64 hE) ∧ W.cell? ⟨w.heap.size, 2, none⟩ = some (.int .i64 aE)) (first | with_reducible exact hS3 | with_reducible exact hS4 | with_reducible exact hS5 | with_reducible exact hS6 | with_reducible exact hS7)
    (first
        | (go_at_call 22; refine (toOpS_any a0 len0 cap0 z0 _ (HS.out.below hbd) hsz).mono ?_; rintro e W4 ⟨b8, rfl, hs, hx⟩; have hb4 := hbd.trans (hx.mono hbd.size); have hS4 := hSof _ (HA.out.below hb4); have HO8 := Lib.hid hs; clear hs; clear hx)
        | (go_at_call 23; refine (toStringS_any a1 len1 cap1 ss _ (HT.out.below hb4) hst).mono ?_; rintro e W5 ⟨d8, rfl, _, hs, hx⟩; replace HO8 := Lib.hid (HO8.out.below hx); have hb5 := hb4.trans (hx.mono hb4.size); have hS5 := hSof _ (HA.out.below hb5); have HT8 := Lib.hid hs; clear hs; clear hx)
        | (go_at_call 24; refine (toEnv_any T hE aE _).mono ?_; rintro e W6 ⟨rfl, hx⟩; replace HO8 := Lib.hid (HO8.out.below hx); replace HT8 := Lib.hid (HT8.out.below hx); have hb6 := hb5.trans (hx.mono hb5.size); have hS6 := hSof _ (HA.out.below hb6); clear hx)
        | (go_at_call 11; refine (HSP.out _ _ _ HO8.out HT8.out).mono ?_; rintro e W7 ⟨a8, c8, rfl, hown, hx⟩; replace HO8 := Lib.hid (HO8.out.below hx); replace HT8 := Lib.hid (HT8.out.below hx); have hb7 := hb6.trans (hx.mono hb6.size); have hS7 := hSof _ (HA.out.below hb7); have HR8 := Lib.hid (SR.own hown).2; have HL8 : Hid (∀ b off, 0 < n → a8 = some ⟨b, off, none⟩ → b < W7.heap.size) := Lib.hid (SR.lt0 HR8.out); clear hown; clear hx))
  clear hbd hb3 hS3 hS4 hS5 hS6 hS7 hb4 hb5 hb6
  clear HO8 HT8
  go_wp2_with fail
  refine (toOpS_own a0 len0 cap0 z0 _ (HS.out.below hb7) hsz).mono ?_
  rintro e W8 ⟨b10, rfl, hs, hx, hob, hwb⟩
  replace HR8 := Lib.hid (HR8.out.below hx)
  have hb8 := hb7.trans (hx.mono hb7.size)
  have HO10 := Lib.hid hs
  have HM10 := Lib.hid hob
  have hlt10 := hob.lt
  have hge10 := Nat.le_trans hb7.size hwb
  have hnw10 := hwb
  have z10 := hx.size
  clear hs hob hwb
  clear hb7
  clear hx
  go_wp2_with fail
  refine (toStringS_own a1 len1 cap1 ss _ (HT.out.below hb8) hst).mono ?_
  rintro e W9 ⟨b11, rfl, hwb, hs, hx, hlt, hc⟩
  replace HR8 := Lib.hid (HR8.out.below hx)
  replace HO10 := Lib.hid (HO10.out.below hx)
  replace HM10 := Lib.hid (HM10.out.below hx)
  have hb9 := hb8.trans (hx.mono hb8.size)
  have HT11 := Lib.hid hs
  have HW11 : Hid (Wr _ b11 len1) := Lib.hid ⟨fun _ => hlt, hc⟩
  have hge11 := Nat.le_trans hb8.size hwb
  have hnw11 := hwb
  have hlt11 := hlt
  have z11 := hx.size
  clear hs hc hwb hlt
  clear hb8
  clear hx
  obtain ⟨c0, c1, c2⟩ := Bk.c3w (HA.out.below hb9)
  go_wp2_with fail
  refine (toEnv_any T hE aE _).mono ?_
  rintro e W10 ⟨rfl, hx⟩
  replace HR8 := Lib.hid (HR8.out.below hx)
  replace HO10 := Lib.hid (HO10.out.below hx)
  replace HM10 := Lib.hid (HM10.out.below hx)
  replace HT11 := Lib.hid (HT11.out.below hx)
  replace HW11 := Lib.hid (HW11.out.below hx)
  have hb10 := hb9.trans (hx.mono hb9.size)
  have ze := hx.size
  clear hb9
  clear hx
  clear c0 c1 c2
  go_wp2_with fail
  refine (HIP.out _ _ _ HO10.out HT11.out).mono ?_
  rintro e W11 ⟨a12, c12, rfl, hown, hx⟩
  replace HR8 := Lib.hid (HR8.out.below hx)
  replace HO10 := Lib.hid (HO10.out.below hx)
  replace HM10 := Lib.hid (HM10.out.below hx)
  replace HT11 := Lib.hid (HT11.out.below hx)
  replace HW11 := Lib.hid (HW11.out.below hx)
  have hb11 := hb10.trans (hx.mono hb10.size)
  have HR12 := Lib.hid (SR.own hown).2
  obtain ⟨gg, hg1, hg2, hg3, hg4⟩ := own_cellsN hown hx.size
  have HG := Lib.hid hg1
  have HW12 : Hid (Wr _ gg n) := Lib.hid ⟨hg2, hg4⟩
  clear hown hg1 hg2 hg4
  have hge12 : (w.alloc (.cells #[.string T, .int .i64 hE, .int .i64 aE] 42 (0, 0))).heap.size ≤ gg := Nat.le_trans hb10.size hg3
  clear hb10
  clear hx
  have hlt10' : b10 < b11 := by omega
  have hlt12 : b11 < gg := by omega
  have hn810 : 0 < n → ∀ b off, a8 = some ⟨b, off, none⟩ → some b ≠ some b10 := fun h0 b off ha => by have := HL8.out b off h0 ha; simp; omega
  have hn811 : 0 < n → ∀ b off, a8 = some ⟨b, off, none⟩ → some b ≠ some b11 := fun h0 b off ha => by have := HL8.out b off h0 ha; simp; omega
  have hn8g : 0 < n → ∀ b off, a8 = some ⟨b, off, none⟩ → some b ≠ some gg := fun h0 b off ha => by have := HL8.out b off h0 ha; simp; omega
  have HN : Hid (0 < n → ∀ b off, a8 = some ⟨b, off, none⟩ → some b ≠ some b10) := Lib.hid hn810
  have HN2 : Hid (0 < n → ∀ b off, a8 = some ⟨b, off, none⟩ → some b ≠ some b11) := Lib.hid hn811
  have HN3 : Hid (0 < n → ∀ b off, a8 = some ⟨b, off, none⟩ → some b ≠ some gg) := Lib.hid hn8g
  have HN4 := Lib.hid (addr_ne HG.out (show gg ≠ b10 by omega))
  have HN5 := Lib.hid (addr_ne HG.out (show gg ≠ b11 by omega))
  clear hn810 hn811 hn8g HL8 z10 z11 ze hnw10 hnw11 hlt10 hlt11 hg3
  go_wp2_with fail
  refine (eqStringS_any a12 a8 n c12 c8 L _ HR12.out HR8.out (by omega)).mono ?_
  rintro e W12 ⟨rfl, hx⟩
  replace HR8 := Lib.hid (HR8.out.below hx)
  replace HO10 := Lib.hid (HO10.out.below hx)
  replace HM10 := Lib.hid (HM10.out.below hx)
  replace HT11 := Lib.hid (HT11.out.below hx)
  replace HW11 := Lib.hid (HW11.out.below hx)
  replace HR12 := Lib.hid (HR12.out.below hx)
  replace HW12 := Lib.hid (HW12.out.below hx)
  have hb12 := hb11.trans (hx.mono hb11.size)
  clear hb11
  clear hx
  go_wp2_with fail
  refine (toOpS_any a0 len0 cap0 z0 _ (HS.out.below hb12) hsz).mono ?_
  rintro e W13 ⟨b20, rfl, hs, hx⟩
  replace HR8 := Lib.hid (HR8.out.below hx)
  replace HO10 := Lib.hid (HO10.out.below hx)
  replace HM10 := Lib.hid (HM10.out.below hx)
  replace HT11 := Lib.hid (HT11.out.below hx)
  replace HW11 := Lib.hid (HW11.out.below hx)
  replace HR12 := Lib.hid (HR12.out.below hx)
  replace HW12 := Lib.hid (HW12.out.below hx)
  have hb13 := hb12.trans (hx.mono hb12.size)
  have HO20 := Lib.hid hs
  clear hs
  clear hb12
  clear hx
  go_wp2_with fail
  refine (eqOpS_any (some ⟨b10, 0, none⟩) (some ⟨b20, 0, none⟩) len0 len0 len0 z0 _ HO10.out HO20.out (by omega)).mono ?_
  rintro e W14 ⟨rfl, hx⟩
  replace HR8 := Lib.hid (HR8.out.below hx)
  replace HO10 := Lib.hid (HO10.out.below hx)
  replace HM10 := Lib.hid (HM10.out.below hx)
  replace HT11 := Lib.hid (HT11.out.below hx)
  replace HW11 := Lib.hid (HW11.out.below hx)
  replace HR12 := Lib.hid (HR12.out.below hx)
  replace HW12 := Lib.hid (HW12.out.below hx)
  replace HO20 := Lib.hid (HO20.out.below hx)
  have hb14 := hb13.trans (hx.mono hb13.size)
  clear hb13
  clear hx
  clear HO20 HO10
  go_wp2_with fail
  refine (toStringS_any a1 len1 cap1 ss _ (HT.out.below hb14) hst).mono ?_
  rintro e W15 ⟨b21, rfl, _, hs, hx⟩
  replace HR8 := Lib.hid (HR8.out.below hx)
  replace HM10 := Lib.hid (HM10.out.below hx)
  replace HT11 := Lib.hid (HT11.out.below hx)
  replace HW11 := Lib.hid (HW11.out.below hx)
  replace HR12 := Lib.hid (HR12.out.below hx)
  replace HW12 := Lib.hid (HW12.out.below hx)
  have hb15 := hb14.trans (hx.mono hb14.size)
  have HT21 := Lib.hid hs
  clear hs
  clear hb14
  clear hx
  go_wp2_with fail
  refine (eqStringS_any (some ⟨b11, 0, none⟩) (some ⟨b21, 0, none⟩) len1 len1 len1 ss _ HT11.out HT21.out (by omega)).mono ?_
  rintro e W16 ⟨rfl, hx⟩
  replace HR8 := Lib.hid (HR8.out.below hx)
  replace HM10 := Lib.hid (HM10.out.below hx)
  replace HT11 := Lib.hid (HT11.out.below hx)
  replace HW11 := Lib.hid (HW11.out.below hx)
  replace HR12 := Lib.hid (HR12.out.below hx)
  replace HW12 := Lib.hid (HW12.out.below hx)
  replace HT21 := Lib.hid (HT21.out.below hx)
  have hb16 := hb15.trans (hx.mono hb15.size)
  clear hb15
  clear hx
  clear HT21 HT11
  have HM : Hid (0 < len0 → OB b10 len0 0 (marksO len0) W16) := Lib.hid fun _ => HM10.out
  clear HM10
  go_wp2_with fail
  refine (markOpS_any (some ⟨b10, 0, none⟩) b10 len0 len0 _ (fun _ => rfl) HM.out (by omega)).mono ?_
  rintro e W17 ⟨rfl, hg, _⟩
  replace HR8 := Lib.hid (HR8.out.grown hg HN.out)
  replace HW11 := Lib.hid (HW11.out.grown hg (by simp; omega))
  replace HR12 := Lib.hid (HR12.out.grown hg HN4.out)
  replace HW12 := Lib.hid (HW12.out.grown hg (by simp; omega))
  have hb17 := Below.grown hb16 hg hb16.size (fun j hj => by cases hj; exact hge10)
  clear HM hg HN HN4
  clear hb16
  go_wp2_with fail
  refine (markStringS_big (some ⟨b11, 0, none⟩) b11 len1 len1 _ _ (fun _ => rfl) HW11.out.1 HW11.out.2 (by omega) (by omega) hst).mono ?_
  rintro e W18 ⟨rfl, hg, _⟩
  replace HR8 := Lib.hid (HR8.out.grown hg HN2.out)
  replace HR12 := Lib.hid (HR12.out.grown hg HN5.out)
  replace HW12 := Lib.hid (HW12.out.grown hg (by simp; omega))
  have hb18 := Below.grown hb17 hg hb17.size (fun j hj => by cases hj; exact hge11)
  clear hg HN2 HN5
  clear hb17
  clear HW11
  go_wp2_with fail
  refine (eqStringS_any a12 a8 n c12 c8 L _ HR12.out HR8.out (by omega)).mono ?_
  rintro e W19 ⟨rfl, hx⟩
  replace HR8 := Lib.hid (HR8.out.below hx)
  replace HR12 := Lib.hid (HR12.out.below hx)
  replace HW12 := Lib.hid (HW12.out.below hx)
  have hb19 := hb18.trans (hx.mono hb18.size)
  clear hb18
  clear hx
  clear HR12
  go_wp2_with fail
  refine (markStringS_any a12 gg n c12 1 _ HG.out HW12.out.1 HW12.out.2 (by omega) (by omega) (by omega)).mono ?_
  rintro e W20 ⟨rfl, hg, hmk⟩
  replace HR8 := Lib.hid (HR8.out.grown hg HN3.out)
  have hb20 := Below.grown hb19 hg hb19.size (fun j hj => by cases hj; exact hge12)
  have HQ : Hid (SR W20 a12 n (marksT n 1)) := Lib.hid ⟨by simp [marksT], fun h0 => ⟨gg, 0, HG.out h0, Nat.lt_of_lt_of_le (HW12.out.1 h0) hg.size, fun j hj => by rw [Nat.zero_add, marksT_getD _ _ _ hj]; exact hmk j hj⟩⟩
  clear hg hmk HN3 HW12 HG
  clear hb19
  go_wp2_with fail
  refine (heldStringS_any a12 n c12 (marksT n 1) 1 _ HQ.out (marksT_getD n 1) (by omega) (by omega) (by omega)).mono ?_
  rintro e W21 ⟨rfl, hx⟩
  replace HR8 := Lib.hid (HR8.out.below hx)
  replace HQ := Lib.hid (HQ.out.below hx)
  have hb21 := hb20.trans (hx.mono hb20.size)
  clear hb20
  clear hx
  have hd := (Below.refl W21.heap.size W21).drew
  replace HR8 := Lib.hid (HR8.out.below hd)
  replace HQ := Lib.hid (HQ.out.below hd)
  have hbd := hb21.drew
  have hS21 := hSof _ (HA.out.below hbd)
  clear hd
  go_wp2_with fail
  go_region_held3 (fun W => W.cell? ⟨w.heap.size, 0, none⟩ = some (.string T) ∧ W.cell? ⟨w.heap.size, 1, none⟩ = some (.int .i64 hE) ∧ W.cell? ⟨w.heap.size, 2, none⟩ = some (.int .i64 aE)) (first | with_reducible exact hS21 | with_reducible exact hS22 | with_reducible exact hS23 | with_reducible exact hS24 | with_reducible exact hS25)
    (first
        | (go_at_call 22; refine (toOpS_any a0 len0 cap0 z0 _ (HS.out.below hbd) hsz).mono ?_; rintro e W22 ⟨b30, rfl, hs, hx⟩; replace HR8 := Lib.hid (HR8.out.below hx); replace HQ := Lib.hid (HQ.out.below hx); have hb22 := hbd.trans (hx.mono hbd.size); have hS22 := hSof _ (HA.out.below hb22); have HO30 := Lib.hid hs; clear hs; clear hx)
        | (go_at_call 23; refine (toStringS_any a1 len1 cap1 ss _ (HT.out.below hb22) hst).mono ?_; rintro e W23 ⟨d30, rfl, _, hs, hx⟩; replace HR8 := Lib.hid (HR8.out.below hx); replace HQ := Lib.hid (HQ.out.below hx); replace HO30 := Lib.hid (HO30.out.below hx); have hb23 := hb22.trans (hx.mono hb22.size); have hS23 := hSof _ (HA.out.below hb23); have HT30 := Lib.hid hs; clear hs; clear hx)
        | (go_at_call 24; refine (toEnv_any T hE aE _).mono ?_; rintro e W24 ⟨rfl, hx⟩; replace HR8 := Lib.hid (HR8.out.below hx); replace HQ := Lib.hid (HQ.out.below hx); replace HO30 := Lib.hid (HO30.out.below hx); replace HT30 := Lib.hid (HT30.out.below hx); have hb24 := hb23.trans (hx.mono hb23.size); have hS24 := hSof _ (HA.out.below hb24); clear hx)
        | (go_at_call 10; refine (HIP.out _ _ _ HO30.out HT30.out).mono ?_; rintro e W25 ⟨a32, c32, rfl, hown, hx⟩; replace HR8 := Lib.hid (HR8.out.below hx); replace HQ := Lib.hid (HQ.out.below hx); replace HO30 := Lib.hid (HO30.out.below hx); replace HT30 := Lib.hid (HT30.out.below hx); have hb25 := hb24.trans (hx.mono hb24.size); have hS25 := hSof _ (HA.out.below hb25); have HR32 := Lib.hid (SR.own hown).2; clear hown; clear hx))
  clear hbd hb21 hS21 hS22 hS23 hS24 hS25 hb22 hb23 hb24
  clear HO30 HT30
  go_wp2_with fail
  refine (eqStringS_any a32 a8 n c32 c8 L _ HR32.out HR8.out (by omega)).mono ?_
  rintro e W26 ⟨rfl, hx⟩
  replace HR8 := Lib.hid (HR8.out.below hx)
  replace HQ := Lib.hid (HQ.out.below hx)
  replace HR32 := Lib.hid (HR32.out.below hx)
  have hb26 := hb25.trans (hx.mono hb25.size)
  clear hb25
  clear hx
  clear HR32 HR8
  go_wp2_with fail
  refine (heldStringS_any a12 n c12 (marksT n 1) 1 _ HQ.out (marksT_getD n 1) (by omega) (by omega) (by omega)).mono ?_
  rintro e W27 ⟨rfl, hx⟩
  replace HQ := Lib.hid (HQ.out.below hx)
  have hb27 := hb26.trans (hx.mono hb26.size)
  clear hb26
  clear hx
  go_wp2
  go_ret
  exact ⟨rfl, hbA.trans (hb27.mono hbA.size)⟩
/-! ### The row's step. -/
theorem own : ownKnob Tryz.prog.godebug = none := by kernel_rfl
theorem laidOut : laidOutB Tryz.prog = true := by kernel_rfl
set_option maxRecDepth 100000 in
theorem lifted (os : Os) (started : os.Started) (H : Type) (enc : TypeId × Value → H) :
    ReturnsInHanded {} Tryz.checked os 7 .any (Rows.fnExactRunScriptSpec.pre6 enc Tryz.prog Tryz.f7 Rows.fnExactRunScriptRow.domain false) (Rows.fnExactRunScriptSpec.post enc Tryz.prog Tryz.f7 false true false false) := by
  refine returnsInHanded_of_change (C := Tryz.checked) own started (by kernel_rfl) Tryz.func7
    (ChangeSpec.witness6 (enc := enc) (C := Tryz.checked) false ⟨#[], #[.slice none 0 0, .slice none 0 0, .agg #[.string ByteArray.empty, .int .i64 0, .int .i64 0]], []⟩ 8 (by kernel_rfl) (by kernel_rfl) (by kernel_rfl) (by kernel_rfl)) ?_
  intro W base args ds gs before hval0 hW hcnd _
  have hval : ∀ (j : Nat) t v, Tryz.f7.params[j]? = some t → args[j]? = some v → Value.okWide Tryz.prog W .any base t v := hval0
  have hW' := hW
  obtain ⟨p, q, hA0, hV, rfl, hfz, hnd⟩ := hW
  have hA : DataW.TrodAll enc Tryz.prog W 0 (fun _ => true) true Tryz.f7.params.toList args.toList ds p := hA0
  rw [Tryz.params7] at hA hval
  obtain ⟨v0, vs0, d0, ds0, p0, q0, hargs, rfl, rfl, h0, r0⟩ := trodAll_cons hA
  obtain ⟨v1, vs1, d1, ds1, p1, q1, rfl, rfl, rfl, h1, r1⟩ := trodAll_cons r0
  obtain ⟨v2, vs2, d2, ds2, p2, q2, rfl, rfl, rfl, h2, r2⟩ := trodAll_cons r1
  obtain ⟨rfl, rfl, rfl⟩ := trodAll_nil r2
  obtain rfl : args = #[v0, v1, v2] := by cases args; simp_all
  obtain ⟨rfl, rfl⟩ := trodVars_none hV
  obtain ⟨a0, len0, cap0, rfl⟩ := okWide_slice Tryz.underlying41 (hval 0 41 v0 rfl rfl)
  have k0 := h0
  have lt0 : ∀ x ∈ p0, x.block < W.heap.size := by obtain ⟨m, hm⟩ := k0; exact DataW.trod_lt m _ _ _ hm
  obtain ⟨z0, w0⟩ : ∃ l, IsOps W a0 len0 cap0 l := by
    obtain ⟨fuel, hf⟩ := h0
    exact open_ops (by simpa [Value.cells] using hf)
  obtain ⟨a1, len1, cap1, rfl⟩ := okWide_slice Tryz.underlying24 (hval 1 24 v1 rfl rfl)
  have k1 := h1
  have lt1 : ∀ x ∈ p1, x.block < W.heap.size := by obtain ⟨m, hm⟩ := k1; exact DataW.trod_lt m _ _ _ hm
  obtain ⟨z1, w1⟩ : ∃ zs, IsStrs W a1 len1 cap1 zs := by
    obtain ⟨fuel, hf⟩ := h1
    rcases open_strings Tryz.underlying24 Tryz.underlying9 (by kernel_rfl) hf with ⟨hcs, _⟩ | ⟨x, l, c, zs, hcs, _, hl, hm, hz, _, hcell, hwz⟩
    · simp [Value.cells] at hcs
      obtain ⟨rfl, rfl, rfl⟩ := hcs
      exact ⟨[], .inl ⟨rfl, rfl, rfl, rfl⟩⟩
    · simp [Value.cells] at hcs
      obtain ⟨rfl, rfl, rfl⟩ := hcs
      exact ⟨zs, .inr ⟨_, rfl, hl, hm, by simpa using hz, hcell, hwz⟩⟩
  obtain ⟨eT2, eH2, eA2, rfl, rfl, rfl, wt2, wh2, wa2⟩ := open_env (hval 2 42 v2 rfl rfl) h2
  clear hA0 hval0
  refine (walk a0 len0 cap0 z0 a1 len1 cap1 z1 eT2 eH2 eA2 wt2 wh2 wa2 W w0 w1).mono fun e W' ⟨he, bel⟩ => ?_
  subst he
  exact ⟨_, rfl, _, _, _, [], _, [], hW', trodAll_mk1 (shut_bool Tryz.underlying4 _), (trodAll_cons_mk (Below.trod laidOut (by kernel_rfl) (of_decide_eq_true (by kernel_rfl)) k0 bel lt0) (trodAll_cons_mk (Below.trod laidOut (by kernel_rfl) (of_decide_eq_true (by kernel_rfl)) k1 bel lt1) (trodAll_cons_mk (shut_env _ _ _ wt2 wh2 wa2) trodAll_mk0))), rfl, bel.frame _, fun h => by cases h⟩
theorem over : Rows.fnExactRunScriptRow.holds Tryz.pinned (OpenSpec.ofChange Rows.fnExactRunScriptSpec) :=
  OpenClaim.holds_of_wide 7 Tryz.f7 rfl rfl rfl rfl rfl rfl rfl ⟨rfl, rfl, rfl, rfl, rfl⟩ rfl rfl rfl rfl rfl (by kernel_rfl) Tryz.func7 (by kernel_rfl)
    (of_decide_eq_true (by kernel_rfl)) (by unfold Func.isWrapper; first | (rw [if_pos (by decide +kernel)]; kernel_rfl) | (rw [if_neg (by decide +kernel)]; exact ⟨rfl, rfl⟩))
    (fun os started H enc _ => lifted os started H enc)
theorem proved : Rows.FnExactRunScriptSaid := over
#print axioms proved
end Go.Proofs.YtdaffohimifecaaGreat.fnExactRunScript
