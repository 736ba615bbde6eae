/-
  Drawing for chapter 13: a transaction.
-/
import Derived.Test.YtcbpdibkindnfaaGreatUx
namespace Go.Proofs.YtcbpdibkindnfaaGreat
open Go.RowKit

theorem own_typesG13 {w w' : World} {B B' n n' k k' : Nat} {v v' : Value} {xs xs' : List Value} {e e' : TypeId} (h : w.ownsRow B e k v n xs) (h' : w.ownsRow B' e' k' v' n' xs') (he : e ≠ e') (hg : w.grownBy w' v'.ownBlock) : w'.ownsRow B e k v n xs := h.kept hg (own_types13 h h' he)
theorem news13 (W : World) (xs : List Value) (t : TypeId) : ∀ j u, xs[j]? = some u → (W.alloc (.cells xs.toArray t (0, 0))).cell? ((⟨W.heap.size, 0, none⟩ : Addr).add j) = some u := fun j u h => by
  have hadr : (⟨W.heap.size, 0, none⟩ : Addr).add j = ⟨W.heap.size, j, none⟩ := by unfold Addr.add; split <;> simp_all
  rw [hadr]
  exact lit_cellV xs t W j u h
theorem ones13 (x y : Int) : ∀ u ∈ [Value.int .i64 7, .int .i64 x, .slice none 0 0, .int .i64 7, .int .i64 y, .slice none 0 0], u.oneCell' = true := by
  intro u hu
  simp only [List.mem_cons, List.not_mem_nil, or_false] at hu
  rcases hu with rfl | rfl | rfl | rfl | rfl | rfl <;> rfl
set_option maxRecDepth 100000 in
set_option maxHeartbeats 12800000 in
theorem l92Tx_any (B : Nat) (a : Option Addr) (len cap : Nat) (zs : List Int) (p : Nat) (w : World) (hp : p ≤ 400000000) (hD0 : Dw B a len cap zs w p) :
    Calls Tryz.prog 13 #[.pointer (some ⟨B, 0, none⟩)] w (TxDr B a len cap zs p w) := by
  obtain ⟨i0, hi, hz0, hz1, hz2⟩ := info_parts info_in13
  obtain ⟨o0, ho, ho0, ho1, ho2⟩ := info_parts info_out13
  have hBlt := hD0.lt
  have hRB : w.heap.size ≠ B := by omega
  have hE0 : Dw B a len cap zs (w.alloc (.cells #[.slice none 0 0, .slice none 0 0, .int .i64 0, .string ⟨#[]⟩] 26 (0, 0))) p := hD0.alloc _
  have vR0 : Bk w.heap.size 26 #[.slice none 0 0, .slice none 0 0, .int .i64 0, .string ⟨#[]⟩] (w.alloc (.cells #[.slice none 0 0, .slice none 0 0, .int .i64 0, .string ⟨#[]⟩] 26 (0, 0))) := Bk.new _ _ _
  have hG0 : w.grownBy (w.alloc (.cells #[.slice none 0 0, .slice none 0 0, .int .i64 0, .string ⟨#[]⟩] 26 (0, 0))) (some B) := World.grownBy_alloc w _ (some B)
  clear hD0
  go_enter Tryz.func13, Tryz.ntmps13
  go_wp2_with fail
  refine (l91Word_any B a len cap zs p _ (by omega) hE0).mono ?_
  rintro e w1 ⟨s, q1, rfl, hsz, p1, p2, hD1, hG1⟩
  have vR1 := vR0.gbK hG1 hRB
  have hK1 := gtrans hG0 hG1
  clear vR0 hE0 hG0 hG1
  go_wp2_with fail
  refine (pick_any B a len cap zs _ 3 _ (by omega) (by omega) hD1).mono ?_
  rintro e w2 ⟨x, rfl, x0, x1, hD2, hG2⟩
  have vR2 := vR1.gbK hG2 hRB
  have hK2 := gtrans hK1 hG2
  clear vR1 hD1 hK1 hG2
  go_wp2_with fail
  refine (pick_any B a len cap zs _ 4 _ (by omega) (by omega) hD2).mono ?_
  rintro e w3 ⟨y, rfl, y0, y1, hD3, hG3⟩
  have vR3 := vR2.gbK hG3 hRB
  have hK3 := gtrans hK2 hG3
  clear vR2 hD2 hK2 hG3
  obtain ⟨z0, z1⟩ := mul_bd13 (m := 2) (k := 3) ⟨x0, by omega⟩ ⟨y0, by omega⟩
  have hw1 : IntKind.i64.wrap (x * y) = x * y := IntWalk.i64_in _ (by omega)
  have hT4 : TS B a len cap zs w w3.heap.size (.slice none 0 0) (.slice none 0 0) (.int .i64 (x * y)) (.string s) (q1 + 1 + 1) (w3.alloc (.cells #[.slice none 0 0, .slice none 0 0, .int .i64 (x * y), .string s] 26 (0, 0))) :=
    ⟨hBlt, vR3.lt, vR3.alloc _, Bk.new _ _ _, hD3.alloc _, gb_allocK hK3 _⟩
  have hT4s := vR3.lt
  clear vR3 hD3 hK3
  go_wp2_with fail
  refine (pick_any B a len cap zs _ 4 _ (by omega) (by omega) hT4.dw).mono ?_
  rintro e w4 ⟨v4, rfl, a4, b4, hD4, hG4⟩
  have hT5 := hT4.draw hD4 hG4
  obtain ⟨AF, hAF⟩ : ∃ z, Hid (x * y = z) := ⟨_, Lib.hid rfl⟩
  obtain ⟨T, hT⟩ : ∃ z, Hid (w3.heap.size = z) := ⟨_, Lib.hid rfl⟩
  rw [hAF.out, hT.out] at hT5
  rw [hAF.out] at z0 z1
  rw [hT.out] at hT4s
  clear hT4 hD4 hG4 hw1 x0 x1 y0 y1
  go_wp2
  rw [hT.out]
  clear hT hAF
  go_loopw [4] (fun iv wr => ∃ (k j : Nat) (ai : Option Addr) (ci : Nat) (l : List (Tr.In × Value)) (q : Nat), iv = .int .i64 (k : Int) ∧ (k : Int) + (j : Int) = v4 ∧ p ≤ q ∧ q ≤ p + 4 + 405 * j ∧ TS B a len cap zs w T (.slice ai j ci) (.slice none 0 0) (.int .i64 AF) (.string s) q wr ∧ Hid (l.length = j) ∧ Hid (OwnI w.heap.size wr (.slice ai j ci) l) ∧ Hid (∀ x ∈ l, Tr.InDr x.1))
    (fun iv _ => (intOf iv).toNat)
  case atStart => exact ⟨v4.toNat, 0, none, 0, [], _, by rw [Int.toNat_of_nonneg a4], by omega, by omega, by omega, hT5, Lib.hid rfl, Lib.hid ⟨⟨rfl, .inl ⟨rfl, rfl⟩⟩, by intro x hx; cases hx⟩, Lib.hid (by intro x hx; cases hx)⟩
  case round =>
    obtain ⟨k, j, ai, ci, l, q, rfl, hkj, hq0, hq1, hTS, hll, HOI, HDR⟩ := hrel
    clear hT5
    by_cases hlt : 0 < k
    · have HTD := Lib.hid hTS.drew
      have HOID : Hid (OwnI w.heap.size wr.drew (.slice ai j ci) l) := Lib.hid HOI.out
      obtain ⟨⟨k0, _, _, _⟩, _⟩ := HTD.out.cells
      have hj3 : j ≤ 3 := by omega
      clear hTS HOI
      go_wp2
      go_region_law (first
        | (refine step_append_own rfl _ _ 23 rfl w.heap.size 64 i0 (.agg #[.int .i64 0, .int .i64 0, .slice none 0 0]) 3 40 Tryz.underlying23 hi hz0 hz1 hz2 rfl (by decide) (.slice ai j ci) j (Tr.ics l) rfl (by exact (HO4.out.alloc _)) ⟨x4.heap.size, 0, none⟩ 1 1 [.int .i64 (d.tmod 50), .int .i64 o, .slice (some ⟨gw, 0, none⟩) nw cw] rfl rfl (three_new13 _ _ _ _ _ _ rfl) (by intro u hu; simp at hu; rcases hu with rfl | rfl | rfl <;> rfl) (by unfold maxLen; omega) (by omega) (by simp; omega) (fun v' x5 hown5 hg5 => ?_)
           obtain ⟨a5, c5, rfl⟩ := own_shape13 hown5
           have h5 := (h4.alloc (.cells #[.int .i64 (d.tmod 50), .int .i64 o, .slice (some ⟨gw, 0, none⟩) nw cw] 64)).own (HO4.out.alloc _) (by decide) hg5
           obtain ⟨⟨s0, _, _, _⟩, f0, _⟩ := h5.cells)
        | (rw [if_pos (by simp [Region.wanted])]; go_simp; go_at_call 31; refine (l91Digest_any B a len cap zs q _ (by omega) (by exact HTD.out.dw)).mono ?_; rintro e x2 ⟨d, q2, rfl, d0, d1, q20, q21, hD2, hG2⟩
           have h2 := HTD.out.draw hD2 hG2
           obtain ⟨⟨k2, _, _, _⟩, _⟩ := h2.cells
           have HO2 := Lib.hid (HOID.out.kept hG2 hBlt))
        | (rw [if_pos (by simp [Region.wanted])]; go_simp; go_at_call 30; refine (pick_any B a len cap zs q2 3 _ (by omega) (by omega) (by exact hD2)).mono ?_; rintro e x3 ⟨o, rfl, o0', o1', hD3, hG3⟩
           have h3 := h2.draw hD3 hG3
           obtain ⟨⟨k3, _, _, _⟩, _⟩ := h3.cells
           have HO3 := Lib.hid (HO2.out.kept hG3 hBlt))
        | (rw [if_pos (by simp [Region.wanted])]; go_simp; go_at_call 32; refine (l91Stack_any B a len cap zs (q2 + 1) _ (by omega) (by exact hD3)).mono ?_; rintro e x4 ⟨ss, q4, gw, cw, rfl, hn4, hz4, q40, q41, hD4, hG4, how⟩
           obtain ⟨nw, hnw⟩ : ∃ z, Hid (ss.length = z) := ⟨_, Lib.hid rfl⟩
           have h4 := h3.draw hD4 hG4
           obtain ⟨⟨k4, _, _, _⟩, _⟩ := h4.cells
           rw [hnw.out]
           obtain ⟨⟨k4', _, _, _⟩, _⟩ := (h4.alloc (.cells #[.int .i64 (d.tmod 50), .int .i64 o, .slice (some ⟨gw, 0, none⟩) nw cw] 64)).cells
           have HOI4 := Lib.hid (HO3.out.kept hG4 hBlt)
           have HOW := Lib.hid how
           have HZ4 := Lib.hid hz4
           have HO4 : Hid (x4.ownsRow w.heap.size 64 3 (.slice ai j ci) j (Tr.ics l)) := Lib.hid (by have := HOI4.out.1; rw [hll.out] at this; exact this)
           have hsz4 := h4.gr.size
           have hs3 := h3.gr.size
           clear how hz4))
      all_goals
        have HTF := Lib.hid (h5.put0 (.slice a5 (j + 1) c5))
        have hd50 : 0 ≤ d.tmod 50 ∧ d.tmod 50 < 50 := ⟨Int.tmod_nonneg _ d0, Int.tmod_lt_of_pos _ (by omega)⟩
        have HNW : Hid (OwnW w.heap.size x4 (⟨d.tmod 50, o, ss⟩, .slice (some ⟨gw, 0, none⟩) nw cw)) := Lib.hid ⟨⟨_, cw, by simp only; rw [hnw.out]⟩, by have h1 := ownsRow_base HOW.out hs3; rw [hnw.out] at h1; simp only; rw [hnw.out]; exact h1⟩
        have HOF : Hid (OwnI w.heap.size (x5.setCell ⟨T, 0, none⟩ (.slice a5 (j + 1) c5)) (.slice a5 (j + 1) c5) (l ++ [(⟨d.tmod 50, o, ss⟩, .slice (some ⟨gw, 0, none⟩) nw cw)])) := Lib.hid (by
          have h1 := (HOI4.out.alloc (.cells #[.int .i64 (d.tmod 50), .int .i64 o, .slice (some ⟨gw, 0, none⟩) nw cw] 64)).push (x := ⟨d.tmod 50, o, ss⟩) ⟨HNW.out.1, HNW.out.2.alloc _⟩ (by rw [hll.out]; exact hown5) hg5
          exact h1.set13 h5.tb)
        have hDF : Hid (∀ x ∈ l ++ [((⟨d.tmod 50, o, ss⟩ : Tr.In), Value.slice (some ⟨gw, 0, none⟩) nw cw)], Tr.InDr x.1) := Lib.hid fun x hx => by
          rcases List.mem_append.1 hx with h | h
          · exact HDR.out x h
          · rw [List.mem_singleton] at h
            subst h
            exact ⟨hn4, HZ4.out, ⟨hd50.1, by simp only; omega⟩, ⟨o0', by simp only; omega⟩⟩
        have hl1 : Hid ((l ++ [((⟨d.tmod 50, o, ss⟩ : Tr.In), Value.slice (some ⟨gw, 0, none⟩) nw cw)]).length = j + 1) := Lib.hid (by rw [List.length_append, hll.out]; rfl)
        clear h5 hown5 hg5 h2 h3 h4 hG2 hG3 hG4 hD2 hD3 hD4 HNW HOW HO2 HO3 HO4 HOI4 HTD HOID hll HDR hd50 HZ4
        go_wp2
        go_roundw
        case rel => exact ⟨k - 1, j + 1, a5, c5, _, _, by rw [Int.ofNat_sub hlt]; rfl, by omega, by omega, by omega, HTF.out, hl1, HOF, hDF⟩
        case measure => simp [intOf]; omega
    · have hj3 : j ≤ 3 := by omega
      have hjl : k = 0 := by omega
      obtain ⟨wq, hwq⟩ : ∃ z, z = wr := ⟨_, rfl⟩
      subst hwq
      go_wp2_with fail
      refine (pick_any B a len cap zs _ 3 _ (by omega) (by omega) hTS.dw).mono ?_
      rintro e w6 ⟨v6, rfl, a6, b6, hD6, hG6⟩
      have hT6 := hTS.draw hD6 hG6
      have HOI6 := Lib.hid (HOI.out.kept hG6 hBlt)
      have hw6 : IntKind.i64.wrap (1 + v6) = 1 + v6 := IntWalk.i64_in _ (by omega)
      have hq6 : q ≤ p + 1300 := by omega
      clear hTS HOI hD6 hG6 hq1 hkj hjl
      go_wp2
      clear hw6
      go_loopw [5] (fun iv wr => ∃ (k2 m : Nat) (bi : Option Addr) (di : Nat) (outs : List Tr.Out) (q2 : Nat), iv = .int .i64 (k2 : Int) ∧ (k2 : Int) + (m : Int) = 1 + v6 ∧ p ≤ q2 ∧ q2 ≤ p + 1301 + 103 * m ∧ TS B a len cap zs w T (.slice ai j ci) (.slice bi m di) (.int .i64 AF) (.string s) q2 wr ∧ Hid (outs.length = m) ∧ Hid (OwnI w.heap.size wr (.slice ai j ci) l) ∧ Hid (OwnO w.heap.size wr (.slice bi m di) outs) ∧ Hid (∀ x ∈ outs, Tr.OutDr x))
        (fun iv _ => (intOf iv).toNat)
      case atStart => exact ⟨(1 + v6).toNat, 0, none, 0, [], _, by rw [Int.toNat_of_nonneg (by omega)], by omega, by omega, by omega, hT6, Lib.hid rfl, HOI6, Lib.hid ⟨rfl, .inl ⟨rfl, rfl⟩⟩, Lib.hid (by intro x hx; cases hx)⟩
      case round =>
        obtain ⟨k2, m, bi, di, outs, q2, rfl, hkm, hq2, hq3, hTS, hmm, HOI, HOO, HDO⟩ := hrel
        clear hT6 HOI6
        have hm3 : m ≤ 3 := by omega
        by_cases hlt2 : 0 < k2
        · have HTD := Lib.hid hTS.drew
          have HOID : Hid (OwnI w.heap.size wr.drew (.slice ai j ci) l) := Lib.hid HOI.out
          have HOOD : Hid (OwnO w.heap.size wr.drew (.slice bi m di) outs) := Lib.hid HOO.out
          obtain ⟨⟨_, k1, _, _⟩, _⟩ := HTD.out.cells
          clear hTS HOI HOO
          go_wp2
          go_region_law (first
            | (refine step_append_own rfl _ _ 24 rfl w.heap.size 66 o0 (.agg #[.int .i64 0, .string ⟨#[]⟩]) 2 24 Tryz.underlying24 ho ho0 ho1 ho2 rfl (by decide) (.slice bi m di) m (Tr.ocs outs) rfl (by exact (HO2.out.alloc _)) ⟨x2.heap.size, 0, none⟩ 1 1 [.int .i64 am, .string lk] rfl rfl (two_new13 _ _ _ _ _ rfl) (by intro u hu; simp at hu; rcases hu with rfl | rfl <;> rfl) (by unfold maxLen; omega) (by omega) (by simp; omega) (fun v' x5 hown5 hg5 => ?_)
               obtain ⟨a5, c5, rfl⟩ := own_shape13 hown5
               have h5 := (h2.alloc (.cells #[.int .i64 am, .string lk] 66)).own (HO2.out.alloc _) (by decide) hg5
               obtain ⟨⟨_, s1, _, _⟩, _, f1, _⟩ := h5.cells)
            | (rw [if_pos (by simp [Region.wanted])]; go_simp; go_at_call 33; refine (l92Out_any B a len cap zs q2 _ (by omega) (by exact HTD.out.dw)).mono ?_; rintro e x2 ⟨am, lk, q5, rfl, am0, am1, lk0, q50, q51, hD2, hG2⟩
               have h2 := HTD.out.draw hD2 hG2
               obtain ⟨⟨_, k2', _, _⟩, _⟩ := h2.cells
               obtain ⟨⟨_, k2'', _, _⟩, _⟩ := (h2.alloc (.cells #[.int .i64 am, .string lk] 66)).cells
               have HOO2 := Lib.hid (HOOD.out.kept hG2 hBlt)
               have HOI2 := Lib.hid (HOID.out.kept hG2 hBlt)
               have HO2 : Hid (x2.ownsRow w.heap.size 66 2 (.slice bi m di) m (Tr.ocs outs)) := Lib.hid (by have h9 : x2.ownsRow w.heap.size 66 2 (.slice bi m di) outs.length (Tr.ocs outs) := HOO2.out; rw [hmm.out] at h9; exact h9)
               have hsz2 := h2.gr.size))
          all_goals
            have HTF := Lib.hid (h5.put1 (.slice a5 (m + 1) c5))
            have HOF : Hid (OwnO w.heap.size (x5.setCell ⟨T, 1, none⟩ (.slice a5 (m + 1) c5)) (.slice a5 (m + 1) c5) (outs ++ [⟨am, lk⟩])) := Lib.hid (OwnO.set13 (OwnO.push (by rw [hmm.out]; exact hown5)) h5.tb)
            have HIF : Hid (OwnI w.heap.size (x5.setCell ⟨T, 1, none⟩ (.slice a5 (m + 1) c5)) (.slice ai j ci) l) := Lib.hid (OwnI.set13 (OwnI.keptO13 (HOI2.out.alloc _) (OwnO.alloc13 HOO2.out _) hg5) h5.tb)
            have hDF : Hid (∀ x ∈ outs ++ [(⟨am, lk⟩ : Tr.Out)], Tr.OutDr x) := Lib.hid fun x hx => by
              rcases List.mem_append.1 hx with h | h
              · exact HDO.out x h
              · rw [List.mem_singleton] at h
                subst h
                exact ⟨⟨am0, am1⟩, lk0⟩
            have hl1 : Hid ((outs ++ [(⟨am, lk⟩ : Tr.Out)]).length = m + 1) := Lib.hid (by rw [List.length_append, hmm.out]; rfl)
            clear h5 hown5 hg5 h2 hG2 hD2 HO2 HOO2 HOI2 HTD HOID HOOD hmm HDO
            go_wp2
            go_roundw
            case rel => exact ⟨k2 - 1, m + 1, a5, c5, _, _, by rw [Int.ofNat_sub hlt2]; rfl, by omega, by omega, by omega, HTF.out, hl1, HIF, HOF, hDF⟩
            case measure => simp [intOf]; omega
        · have hq8 : q2 ≤ p + 1700 := by omega
          clear hkm hlt
          go_wp2_with fail
          refine (pick_any B a len cap zs _ 40 _ (by omega) (by omega) hTS.dw).mono ?_
          rintro e w8 ⟨v8, rfl, a8, b8, hD8, hG8⟩
          have hT8 := hTS.draw hD8 hG8
          have HI8 := Lib.hid (HOI.out.kept hG8 hBlt)
          have HO8 := Lib.hid (HOO.out.kept hG8 hBlt)
          clear hTS HOI HOO hD8 hG8 hlt2
          have HLL : Hid (l.length ≤ 3 ∧ outs.length ≤ 3) := Lib.hid ⟨by rw [hll.out]; exact hj3, by rw [hmm.out]; exact hm3⟩
          by_cases hv0 : v8 = 0
          · subst hv0
            have hT9 := hT8.put1 (.slice none 0 0)
            obtain ⟨⟨c0, c1, c2, c3⟩, f0, f1, f2, f3⟩ := hT8.cells
            obtain ⟨⟨d0, d1, d2, d3⟩, _⟩ := hT9.cells
            obtain ⟨⟨r0, r1, r2, r3⟩, g0, g1, g2, g3⟩ := hT9.rcells
            have HX : Hid (OwnI w.heap.size (w8.setCell ⟨T, 1, none⟩ (.slice none 0 0)) (.slice ai j ci) l ∧ OwnO w.heap.size (w8.setCell ⟨T, 1, none⟩ (.slice none 0 0)) (.slice none 0 0) []) := Lib.hid ⟨HI8.out.set13 hT8.tb, ⟨rfl, .inl ⟨rfl, rfl⟩⟩⟩
            have hR := Bk.store4x hT9.rb (.slice ai j ci) (.slice none 0 0) (.int .i64 AF) (.string s)
            clear HI8 HO8
            go_wp2
            refine bodyPost_ret (results_cell_row (P := Tryz.prog) rfl _ _ w.heap.size 26 _ (0, 0) _ rfl hR.held Tryz.underlying26 rfl (by kernel_rfl)) rfl ?_
            exact TxDr.mk hT9 HX.out.1 HX.out.2 (by omega) (by omega) (by omega) (by omega) (by have := HLL.out.1; omega) (by simp) HDR.out (by intro x hx; cases hx)
          have hq0 : (v8 == 0) = false := by simpa using hv0
          clear hv0
          by_cases hv1 : v8 = 1
          · subst hv1
            have hpk : ∀ k : Nat, (k : Int) < 3 → ∃ am : Int, ([.int .i64 (-1), .int .i64 9999, .int .i64 10000] : List Value)[k]? = some (.int .i64 am) ∧ -1 ≤ am ∧ am ≤ 10000 := fun k hk => by
              match k, hk with
              | 0, _ => exact ⟨_, rfl, by omega, by omega⟩
              | 1, _ => exact ⟨_, rfl, by omega, by omega⟩
              | 2, _ => exact ⟨_, rfl, by omega, by omega⟩
            have hTA := hT8.alloc (.cells #[.int .i64 (-1), .int .i64 9999, .int .i64 10000] 3)
            have hcl : ∀ (k : Nat) (u : Value), ([.int .i64 (-1), .int .i64 9999, .int .i64 10000] : List Value)[k]? = some u → (w8.alloc (.cells #[.int .i64 (-1), .int .i64 9999, .int .i64 10000] 3)).cell? ⟨w8.heap.size, k, none⟩ = some u := fun k u h => lit_cellV [.int .i64 (-1), .int .i64 9999, .int .i64 10000] 3 w8 k _ h
            have HIA := Lib.hid (HI8.out.alloc (.cells #[.int .i64 (-1), .int .i64 9999, .int .i64 10000] 3))
            have HOA := Lib.hid (OwnO.alloc13 HO8.out (.cells #[.int .i64 (-1), .int .i64 9999, .int .i64 10000] 3))
            have hne8 : w8.heap.size ≠ B := by have := hT8.dw.lt; omega
            have HCL := Lib.hid hcl
            have HPK := Lib.hid hpk
            clear hT8 HI8 HO8 hpk hcl
            go_wp2_with fail
            refine (pick_any B a len cap zs _ 3 _ (by omega) (by omega) hTA.dw).mono ?_
            rintro e w9 ⟨v9, rfl, a9, b9, hD9, hG9⟩
            obtain ⟨kk, rfl⟩ := Int.eq_ofNat_of_zero_le a9
            obtain ⟨am, ham, am0, am1⟩ := HPK.out kk b9
            have hc9 : w9.cell? ⟨w8.heap.size, kk, none⟩ = some (.int .i64 am) := hG9.cell (HCL.out kk _ ham) (by simpa using hne8)
            have hT9 := hTA.draw hD9 hG9
            have HI9 := Lib.hid (HIA.out.kept hG9 hBlt)
            have HO9 := Lib.hid (HOA.out.kept hG9 hBlt)
            clear hTA HIA HOA hD9 hG9 ham
            have hTB := hT9.put2 (.int .i64 am)
            obtain ⟨⟨c0, c1, c2, c3⟩, f0, f1, f2, f3⟩ := hT9.cells
            obtain ⟨⟨d0, d1, d2, d3⟩, _⟩ := hTB.cells
            obtain ⟨⟨r0, r1, r2, r3⟩, g0, g1, g2, g3⟩ := hTB.rcells
            have HX : Hid (OwnI w.heap.size (w9.setCell ⟨T, 2, none⟩ (.int .i64 am)) (.slice ai j ci) l ∧ OwnO w.heap.size (w9.setCell ⟨T, 2, none⟩ (.int .i64 am)) (.slice bi m di) outs) := Lib.hid ⟨HI9.out.set13 hT9.tb, HO9.out.set13 hT9.tb⟩
            have hR := Bk.store4x hTB.rb (.slice ai j ci) (.slice bi m di) (.int .i64 am) (.string s)
            clear HI9 HO9
            go_wp2
            refine bodyPost_ret (results_cell_row (P := Tryz.prog) rfl _ _ w.heap.size 26 _ (0, 0) _ rfl hR.held Tryz.underlying26 rfl (by kernel_rfl)) rfl ?_
            exact TxDr.mk hTB HX.out.1 HX.out.2 (by omega) (by omega) ⟨am0, am1⟩ (by omega) (by have := HLL.out.1; omega) HLL.out.2 HDR.out HDO.out
          have hq1 : (v8 == 1) = false := by simpa using hv1
          clear hv1
          by_cases hv2 : v8 = 2
          · subst hv2
            go_wp2_with fail
            refine (pick_any B a len cap zs _ 2 _ (by omega) (by omega) hT8.dw).mono ?_
            rintro e w9 ⟨v9, rfl, a9, b9, hD9, hG9⟩
            have hT9 := hT8.draw hD9 hG9
            have HI9 := Lib.hid (HI8.out.kept hG9 hBlt)
            have HO9 := Lib.hid (HO8.out.kept hG9 hBlt)
            have hw1 : IntKind.i64.wrap (20 + v9) = 20 + v9 := IntWalk.i64_in _ (by omega)
            clear hT8 HI8 HO8 hD9 hG9
            go_wp2_with fail
            refine (l6Many_any ⟨#[110]⟩ (20 + v9) 21 _ (by omega) (by omega) (by rw [show (ByteArray.mk #[110]).size = 1 from rfl]; omega) (by omega)).mono ?_
            rintro e wz ⟨s2, rfl, hs2, hwz⟩
            subst hwz
            have hTB := hT9.put3 (.string s2)
            obtain ⟨⟨c0, c1, c2, c3⟩, f0, f1, f2, f3⟩ := hT9.cells
            obtain ⟨⟨d0, d1, d2, d3⟩, _⟩ := hTB.cells
            obtain ⟨⟨r0, r1, r2, r3⟩, g0, g1, g2, g3⟩ := hTB.rcells
            have HX : Hid (OwnI w.heap.size (w9.setCell ⟨T, 3, none⟩ (.string s2)) (.slice ai j ci) l ∧ OwnO w.heap.size (w9.setCell ⟨T, 3, none⟩ (.string s2)) (.slice bi m di) outs) := Lib.hid ⟨HI9.out.set13 hT9.tb, HO9.out.set13 hT9.tb⟩
            have hR := Bk.store4x hTB.rb (.slice ai j ci) (.slice bi m di) (.int .i64 AF) (.string s2)
            clear HI9 HO9 hw1
            go_wp2
            refine bodyPost_ret (results_cell_row (P := Tryz.prog) rfl _ _ w.heap.size 26 _ (0, 0) _ rfl hR.held Tryz.underlying26 rfl (by kernel_rfl)) rfl ?_
            exact TxDr.mk hTB HX.out.1 HX.out.2 (by omega) (by omega) (by omega) (by omega) (by have := HLL.out.1; omega) HLL.out.2 HDR.out HDO.out
          have hq2' : (v8 == 2) = false := by simpa using hv2
          clear hv2
          by_cases hv3 : v8 = 3
          · subst hv3
            have HTD := Lib.hid hT8.drew
            have HID : Hid (OwnI w.heap.size w8.drew (.slice ai j ci) l) := Lib.hid HI8.out
            have HOD : Hid (OwnO w.heap.size w8.drew (.slice bi m di) outs) := Lib.hid HO8.out
            obtain ⟨⟨k0, _, _, _⟩, _⟩ := HTD.out.cells
            clear hT8 HI8 HO8
            go_wp2
            go_region_law (first
              | (refine step_append_own rfl _ _ 23 rfl w.heap.size 64 i0 (.agg #[.int .i64 0, .int .i64 0, .slice none 0 0]) 3 40 Tryz.underlying23 hi hz0 hz1 hz2 rfl (by decide) (.slice ai j ci) j (Tr.ics l) rfl (by exact (HR9.out.alloc _)) ⟨w9.heap.size, 0, none⟩ 2 2 [.int .i64 7, .int .i64 (5 + v9), .slice none 0 0, .int .i64 7, .int .i64 5, .slice none 0 0] rfl rfl (news13 w9 [.int .i64 7, .int .i64 (5 + v9), .slice none 0 0, .int .i64 7, .int .i64 5, .slice none 0 0] 64) (ones13 _ _) (by unfold maxLen; omega) (by omega) (by simp; omega) (fun v' x5 hown5 hg5 => ?_)
                 obtain ⟨a5, c5, rfl⟩ := own_shape13 hown5
                 have h5 := (hT9.alloc (.cells #[.int .i64 7, .int .i64 (5 + v9), .slice none 0 0, .int .i64 7, .int .i64 5, .slice none 0 0] 64)).own (HR9.out.alloc _) (by decide) hg5
                 have hTB := h5.put0 (.slice a5 (j + 2) c5)
                 obtain ⟨⟨s0, _, _, _⟩, ff0, _⟩ := h5.cells)
              | (rw [if_pos (by simp [Region.wanted])]; go_simp; go_at_call 30; refine (pick_any B a len cap zs (q2 + 1) 2 _ (by omega) (by omega) (by exact HTD.out.dw)).mono ?_; rintro e w9 ⟨v9, rfl, a9, b9, hD9, hG9⟩
                 have hT9 := HTD.out.draw hD9 hG9
                 have hw1 : IntKind.i64.wrap (5 + v9) = 5 + v9 := IntWalk.i64_in _ (by omega)
                 obtain ⟨⟨k9, _, _, _⟩, _⟩ := hT9.cells
                 obtain ⟨⟨k9', _, _, _⟩, _⟩ := (hT9.alloc (.cells #[.int .i64 7, .int .i64 (5 + v9), .slice none 0 0, .int .i64 7, .int .i64 5, .slice none 0 0] 64)).cells
                 have HI9 := Lib.hid (HID.out.kept hG9 hBlt)
                 have HO9 := Lib.hid (HOD.out.kept hG9 hBlt)
                 have HR9 : Hid (w9.ownsRow w.heap.size 64 3 (.slice ai j ci) j (Tr.ics l)) := Lib.hid (by have := HI9.out.1; rw [hll.out] at this; exact this)
                 have hsz9 := hT9.gr.size))
            all_goals
              have HX : Hid (OwnI w.heap.size (x5.setCell ⟨T, 0, none⟩ (.slice a5 (j + 2) c5)) (.slice a5 (j + 2) c5) (l ++ [((⟨7, 5 + v9, []⟩ : Tr.In), Value.slice none 0 0), (⟨7, 5, []⟩, Value.slice none 0 0)]) ∧ OwnO w.heap.size (x5.setCell ⟨T, 0, none⟩ (.slice a5 (j + 2) c5)) (.slice bi m di) outs) := Lib.hid (by
                have hr := HR9.out.alloc (.cells #[.int .i64 7, .int .i64 (5 + v9), .slice none 0 0, .int .i64 7, .int .i64 5, .slice none 0 0] 64)
                have hm2 : ∀ y ∈ l, OwnW w.heap.size x5 y := fun y hy => ⟨(HI9.out.2 y hy).1, own_typesG13 ((HI9.out.2 y hy).2.alloc _) hr (by decide) hg5⟩
                have h1 : OwnI w.heap.size x5 (.slice a5 (j + 2) c5) (l ++ [((⟨7, 5 + v9, []⟩ : Tr.In), Value.slice none 0 0), (⟨7, 5, []⟩, Value.slice none 0 0)]) := by
                  refine ⟨?_, fun y hy => ?_⟩
                  · rw [Tr.ics_append, List.length_append, hll.out]
                    exact hown5
                  · rcases List.mem_append.1 hy with hy | hy
                    · exact hm2 y hy
                    · simp only [List.mem_cons, List.not_mem_nil, or_false] at hy
                      rcases hy with rfl | rfl
                      · exact ⟨⟨none, 0, rfl⟩, World.ownsRow_nil _ _ _ _⟩
                      · exact ⟨⟨none, 0, rfl⟩, World.ownsRow_nil _ _ _ _⟩
                have h2 : OwnO w.heap.size x5 (.slice bi m di) outs := own_typesG13 (World.ownsRow.alloc HO9.out _) hr (by decide) hg5
                exact ⟨h1.set13 h5.tb, h2.set13 h5.tb⟩)
              have hDF : Hid (∀ x ∈ l ++ [((⟨7, 5 + v9, []⟩ : Tr.In), Value.slice none 0 0), (⟨7, 5, []⟩, Value.slice none 0 0)], Tr.InDr x.1) := Lib.hid fun x hx => by
                rcases List.mem_append.1 hx with h | h
                · exact HDR.out x h
                · simp only [List.mem_cons, List.not_mem_nil, or_false] at h
                  rcases h with rfl | rfl
                  · exact ⟨by simp, (by intro s hs; cases hs), by simp, by simp only; omega⟩
                  · exact ⟨by simp, (by intro s hs; cases hs), by simp, by simp⟩
              have hll2 : (l ++ [((⟨7, 5 + v9, []⟩ : Tr.In), Value.slice none 0 0), (⟨7, 5, []⟩, Value.slice none 0 0)]).length ≤ 5 := by have := HLL.out.1; simp; omega
              obtain ⟨⟨d0, d1, d2, d3⟩, _⟩ := hTB.cells
              obtain ⟨⟨r0, r1, r2, r3⟩, g0, g1, g2, g3⟩ := hTB.rcells
              have hR := Bk.store4x hTB.rb (.slice a5 (j + 2) c5) (.slice bi m di) (.int .i64 AF) (.string s)
              clear h5 hown5 hg5 hD9 hG9 HI9 HO9 HR9 HTD HID HOD
              go_wp2
              refine bodyPost_ret (results_cell_row (P := Tryz.prog) rfl _ _ w.heap.size 26 _ (0, 0) _ rfl hR.held Tryz.underlying26 rfl (by kernel_rfl)) rfl ?_
              exact TxDr.mk hTB HX.out.1 HX.out.2 (by omega) (by omega) (by omega) (by omega) hll2 HLL.out.2 hDF.out HDO.out
          have hq3' : (v8 == 3) = false := by simpa using hv3
          clear hv3
          obtain ⟨⟨c0, c1, c2, c3⟩, f0, f1, f2, f3⟩ := hT8.cells
          obtain ⟨⟨r0, r1, r2, r3⟩, g0, g1, g2, g3⟩ := hT8.rcells
          have hR := Bk.store4x hT8.rb (.slice ai j ci) (.slice bi m di) (.int .i64 AF) (.string s)
          go_wp2
          refine bodyPost_ret (results_cell_row (P := Tryz.prog) rfl _ _ w.heap.size 26 _ (0, 0) _ rfl hR.held Tryz.underlying26 rfl (by kernel_rfl)) rfl ?_
          exact TxDr.mk hT8 HI8.out HO8.out (by omega) (by omega) (by omega) (by omega) (by have := HLL.out.1; omega) HLL.out.2 HDR.out HDO.out
end Go.Proofs.YtcbpdibkindnfaaGreat
