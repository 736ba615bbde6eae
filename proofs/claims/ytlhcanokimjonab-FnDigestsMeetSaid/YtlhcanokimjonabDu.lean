/-
  Drawing the lists that DigestsMeet is asked.
-/
import Derived.Test.YtlhcanokimjonabDt
import Derived.Deep.RegionLaw
namespace Go.Proofs.Ytlhcanokimjonab
open Go.RowKit

set_option maxRecDepth 100000 in
set_option maxHeartbeats 1600000 in
theorem drawDigestsMeet_any (a : Option Addr) (len cap : Nat) (zs : List Int) (w : World) (hr : IsRow .u8 w a len cap zs) (hlm : len ≤ 1048576) :
    Calls Try.prog 19 #[.slice a len cap] w (DrawTexts 7 30 w) := by
  obtain ⟨i0, hi, hz0, hz1, hz2⟩ := info_parts info_str
  go_enter Try.func19, Try.ntmps19
  go_wp2_with fail
  refine (l6Open_any a len cap zs _ hr hlm).mono ?_
  rintro e w1 ⟨B, a', l', c', zs', rfl, hB, hD, hb1⟩
  clear hr
  have hB1 := hD.lt
  go_wp2_with fail
  refine (l91Texts_any B a' l' c' zs' 0 5 _ (by omega) (by omega) hD).mono ?_
  rintro e w2 ⟨ss, q, g, cp, rfl, h1, h2, q0, q1, hD2, hG2, hown2⟩
  have hne := own_ne hown2 hB1
  clear hD
  go_wp2_with fail
  refine (pick_any B a' l' c' zs' q 2 _ (by omega) (by omega) hD2).mono ?_
  rintro e w3 ⟨x, rfl, x0, x1, hD3, hG3⟩
  have hown3 := hown2.kept hG3 hne
  have hG3 := gtrans hG2 hG3
  clear hown2 hG2 hD2
  by_cases hx : x = 0
  · have hx0 : (x == 0) = true := by simpa using hx
    clear hx
    go_wp2_with fail
    refine (l91Word_any B a' l' c' zs' _ _ (by omega) hD3).mono ?_
    rintro e w4 ⟨s4, q4, rfl, z4, p4, r4, hD4, hG4⟩
    have hown4 := hown3.kept hG4 hne
    have hG4 := gtrans hG3 hG4
    clear hown3 hG3 hD3
    go_wp2_with fail
    refine (pick_any B a' l' c' zs' _ _ _ (by omega) (by omega) hD4).mono ?_
    rintro e w5 ⟨y, rfl, y0, y1, hD5, hG5⟩
    have hown5 := hown4.kept hG5 hne
    have hG5 := gtrans hG4 hG5
    clear hown4 hG4 hD4
    obtain ⟨k, rfl⟩ := Int.eq_ofNat_of_zero_le y0
    have hkn : k ≤ ss.length := by omega
    have hcpn : ss.length ≤ cp ∧ cp ≤ 9223372036854775807 := by
      rcases hown5.2 with ⟨h, _⟩ | ⟨g', cap', cur, h, _, _, h3, h4, _⟩
      · cases h
      · cases h
        unfold maxLen at h4
        omega
    have HS5 := Lib.hid (SR.own hown5).2
    obtain ⟨t1, HT1⟩ : ∃ t, Hid ((⟨#[0, 120, 119, 108, 108]⟩ : ByteArray) ++ s4 = t) := ⟨_, Lib.hid rfl⟩
    obtain ⟨t2, HT2⟩ : ∃ t, Hid ((⟨#[0, 48, 113, 100, 98]⟩ : ByteArray) ++ s4 = t) := ⟨_, Lib.hid rfl⟩
    have hadd1 : ∀ W, (Op.stringOp .add (⟨#[0, 120, 119, 108, 108]⟩ : ByteArray) s4).run Try.prog W = .ok (.string t1) W := fun W => by
      rw [← HT1.out]; exact run_string_add_sum (P := Try.prog) W _ _ (by have : (⟨#[0, 120, 119, 108, 108]⟩ : ByteArray).size = 5 := rfl; omega)
    have hadd2 : ∀ W, (Op.stringOp .add (⟨#[0, 48, 113, 100, 98]⟩ : ByteArray) s4).run Try.prog W = .ok (.string t2) W := fun W => by
      rw [← HT2.out]; exact run_string_add_sum (P := Try.prog) W _ _ (by have : (⟨#[0, 48, 113, 100, 98]⟩ : ByteArray).size = 5 := rfl; omega)
    have hz1' : t1.size ≤ 30 := by rw [← HT1.out, ByteArray.size_append]; have : (⟨#[0, 120, 119, 108, 108]⟩ : ByteArray).size = 5 := rfl; omega
    have hz2' : t2.size ≤ 30 := by rw [← HT2.out, ByteArray.size_append]; have : (⟨#[0, 48, 113, 100, 98]⟩ : ByteArray).size = 5 := rfl; omega
    have HST : Hid (∀ l : List ByteArray, ∀ u ∈ l.map Value.string, u.oneCell' = true) := Lib.hid (by
      intro l u hu
      obtain ⟨t, _, rfl⟩ := List.mem_map.1 hu
      rfl)
    have HTK : Hid (∀ W, SR W (some ⟨g, 0, none⟩) ss.length ss → ∀ j u, ((ss.take k).map Value.string)[j]? = some u → W.cell? ((⟨g, 0, none⟩ : Addr).add j) = some u) := Lib.hid (by
      intro W h j u hj
      refine h.news j u ?_
      rw [List.map_take, List.getElem?_take] at hj
      split at hj
      · exact hj
      · cases hj)
    obtain ⟨ad, had⟩ : ∃ ad : Addr, (if cp = k then (⟨g, 0, none⟩ : Addr) else ⟨g, k, none⟩) = ad := ⟨_, rfl⟩
    have HDR : Hid (∀ W, SR W (some ⟨g, 0, none⟩) ss.length ss → ∀ j u, ((ss.drop k).map Value.string)[j]? = some u → W.cell? (ad.add j) = some u) := Lib.hid (by
      intro W h j u hj
      have h2 := h.news (k + j) u (by rw [List.map_drop, List.getElem?_drop] at hj; exact hj)
      by_cases hc : cp = k
      · rw [List.drop_eq_nil_of_le (by omega)] at hj
        cases hj
      · rw [← had, if_neg hc]
        have e1 : (⟨g, 0, none⟩ : Addr).add (k + j) = (⟨g, k, none⟩ : Addr).add j := by
          unfold Addr.add
          by_cases hj0 : j = 0
          · by_cases hk0 : k = 0 <;> simp [hj0, hk0]
          · by_cases hk0 : k = 0 <;> simp [hj0, hk0]
        rw [← e1]; exact h2)
    have hcp1 := hcpn.1
    have hcp2 := hcpn.2
    have hsl1 : ∀ W, (Instr.slice 33 (.slice (some ⟨g, 0, none⟩) ss.length cp) none (some (.int .i64 (k : Int))) none).run Try.prog W = .ok (.slice (some ⟨g, 0, none⟩) k cp) W := by
      intro W
      have e1 : (0 : Int) ≤ (k : Int) := by omega
      have e2 : k ≤ cp := by omega
      simp [Instr.slice, Instr.sliceBounds, Instr.sliceBound, asIntOf, run_underlying Try.underlying33, e1, e2, Addr.add]
    have hsl2 : ∀ W, (Instr.slice 33 (.slice (some ⟨g, 0, none⟩) ss.length cp) (some (.int .i64 (k : Int))) none none).run Try.prog W = .ok (.slice (some ad) (ss.length - k) (cp - k)) W := by
      intro W
      have e1 : (0 : Int) ≤ (k : Int) := by omega
      have e2 : k ≤ ss.length := by omega
      simp [Instr.slice, Instr.sliceBounds, Instr.sliceBound, asIntOf, run_underlying Try.underlying33, e1, e2]
      rw [← had]
      by_cases hc : cp = k
      · simp [hc]
      · by_cases hk0 : k = 0 <;> simp [hc, Addr.add, hk0]
    have HZ := Lib.hid h2
    clear hown5 h2
    have HM1 : Hid (∀ W : World, w5.heap.size ≤ W.heap.size → (W.alloc (.cells #[] 9)).ownsRow w5.heap.size 9 1 (.slice (some ⟨W.heap.size, 0, none⟩) 0 0) 0 []) := Lib.hid fun W h => World.ownsRow_made (e := 9) (size := 1) W #[] 0 h (by decide) rfl
    have HX3 : Hid (((w5.alloc (.cells #[.string t1] 9)).alloc (.cells #[] 9)).ownsRow w5.heap.size 9 1 (.slice (some ⟨w5.heap.size + 1, 0, none⟩) 0 0) 0 []) := Lib.hid (by
      have h := HM1.out (w5.alloc (.cells #[.string t1] 9)) (by simp)
      rw [show (w5.alloc (.cells #[.string t1] 9)).heap.size = w5.heap.size + 1 by simp] at h
      exact h)
    have HN2 : Hid (∀ j u, [Value.string t1][j]? = some u → ((w5.alloc (.cells #[] 9)).alloc (.cells #[.string t1] 9)).cell? ((⟨w5.heap.size + 1, 0, none⟩ : Addr).add j) = some u) := Lib.hid (by
      have h := one_new (w5.alloc (.cells #[] 9)) (.string t1) 9
      rw [show (w5.alloc (.cells #[] 9)).heap.size = w5.heap.size + 1 by simp] at h
      exact h)
    have HN3 : Hid (∀ j u, [Value.string t1][j]? = some u → ((w5.alloc (.cells #[.string t1] 9)).alloc (.cells #[] 9)).cell? ((⟨w5.heap.size, 0, none⟩ : Addr).add j) = some u) := Lib.hid (by
      intro j u hj
      have h := one_new w5 (.string t1) 9 j u hj
      exact (World.grownBy_alloc (w5.alloc (.cells #[.string t1] 9)) (.cells #[] 9) none).cell h (by simp))
    have HA2 : Hid (∀ (W : World) (n : Nat) j u, [Value.string t1][j]? = some u → W.cell? ((⟨n, 0, none⟩ : Addr).add j) = some u → True) := Lib.hid fun _ _ _ _ _ _ => trivial
    clear HM1 HA2
    go_wp2
    go_region_law (first
      | (fail_if_success have := hg25
         refine step_append_own rfl _ _ 33 rfl w5.heap.size 9 i0 (.string ByteArray.empty) 1 16 Try.underlying33 hi hz0 hz1 hz2 rfl (by decide) (.slice (some ⟨w5.heap.size, 0, none⟩) 0 0) 0 [] rfl (by exact World.ownsRow_made (e := 9) (size := 1) w5 #[] 0 (Nat.le_refl _) (by decide) rfl) ⟨g, 0, none⟩ k cp ((ss.take k).map Value.string) rfl (by simp <;> omega) (by exact HTK.out (w5.alloc _) (HS5.out.alloc _)) (HST.out _) (by unfold maxLen; omega) (by omega) (by simp) (fun v25 W2 hown25 hg25 => ?_)
         have hG25 : w5.grownBy W2 none := gtrans_own (grownBy_drew (World.grownBy_alloc w5 (.cells #[] 9) none)) hg25 (fun j he => by cases he; exact Nat.le_refl _))
      | (fail_if_success have := hg25
         refine step_append_own rfl _ _ 33 rfl w5.heap.size 9 i0 (.string ByteArray.empty) 1 16 Try.underlying33 hi hz0 hz1 hz2 rfl (by decide) (.slice (some ⟨w5.heap.size, 0, none⟩) 0 0) 0 [] rfl (by exact (World.ownsRow_made (e := 9) (size := 1) w5 #[] 0 (Nat.le_refl _) (by decide) rfl).alloc _) ⟨g, 0, none⟩ k cp ((ss.take k).map Value.string) rfl (by simp <;> omega) (by exact HTK.out ((w5.alloc _).alloc _) ((HS5.out.alloc _).alloc _)) (HST.out _) (by unfold maxLen; omega) (by omega) (by simp <;> omega) (fun v25 W2 hown25 hg25 => ?_)
         have hG25 : w5.grownBy W2 none := gtrans_own (grownBy_drew (gtrans (World.grownBy_alloc w5 (.cells #[] 9) none) (World.grownBy_alloc _ (.cells #[.string t1] 9) none))) hg25 (fun j he => by cases he; exact Nat.le_refl _)
         have hX25 : ∀ j u, [Value.string t1][j]? = some u → W2.cell? ((⟨w5.heap.size + 1, 0, none⟩ : Addr).add j) = some u := fun j u hj => hg25.cell (HN2.out j u hj) (by
           have : ((⟨w5.heap.size + 1, 0, none⟩ : Addr).add j).block = w5.heap.size + 1 := by unfold Addr.add; split <;> rfl
           rw [this]; simp [Value.ownBlock]))
      | (fail_if_success have := hg25
         refine step_append_own rfl _ _ 33 rfl w5.heap.size 9 i0 (.string ByteArray.empty) 1 16 Try.underlying33 hi hz0 hz1 hz2 rfl (by decide) (.slice (some ⟨w5.heap.size + 1, 0, none⟩) 0 0) 0 [] rfl (by exact HX3.out) ⟨g, 0, none⟩ k cp ((ss.take k).map Value.string) rfl (by simp <;> omega) (by exact HTK.out ((w5.alloc _).alloc _) ((HS5.out.alloc _).alloc _)) (HST.out _) (by unfold maxLen; omega) (by omega) (by simp <;> omega) (fun v25 W2 hown25 hg25 => ?_)
         have hG25 : w5.grownBy W2 none := gtrans_own (grownBy_drew (gtrans (World.grownBy_alloc w5 (.cells #[.string t1] 9) none) (World.grownBy_alloc _ (.cells #[] 9) none))) hg25 (fun j he => by cases he; exact Nat.le_succ _)
         have hX25 : ∀ j u, [Value.string t1][j]? = some u → W2.cell? ((⟨w5.heap.size, 0, none⟩ : Addr).add j) = some u := fun j u hj => hg25.cell (HN3.out j u hj) (by
           have : ((⟨w5.heap.size, 0, none⟩ : Addr).add j).block = w5.heap.size := by unfold Addr.add; split <;> rfl
           rw [this]; simp [Value.ownBlock]))
      | (fail_if_success have := hg29
         refine step_append_own rfl _ _ 33 rfl w5.heap.size 9 i0 (.string ByteArray.empty) 1 16 Try.underlying33 hi hz0 hz1 hz2 rfl (by decide) v25 _ _ rfl (by exact hown25) _ 1 1 [.string t1] rfl rfl hX25 (by intro u hu; simp at hu; subst hu; rfl) (by unfold maxLen; omega) (by omega) (by exact hG25.size) (fun v29 W4 hown29 hg29 => ?_)
         have hG29 : w5.grownBy W4 none := gtrans_own hG25 hg29 (fun j he => (hown25.lt _ he).1))
      | (fail_if_success have := hg29
         refine step_append_own rfl _ _ 33 rfl w5.heap.size 9 i0 (.string ByteArray.empty) 1 16 Try.underlying33 hi hz0 hz1 hz2 rfl (by decide) v25 _ _ rfl (by exact hown25.alloc _) ⟨W2.heap.size, 0, none⟩ 1 1 [.string t1] rfl rfl (by exact one_new W2 _ _) (by intro u hu; simp at hu; subst hu; rfl) (by unfold maxLen; omega) (by omega) (by have := hG25.size; simp <;> omega) (fun v29 W4 hown29 hg29 => ?_)
         have hG29 : w5.grownBy W4 none := gtrans_own (gtrans hG25 (World.grownBy_alloc _ _ _)) hg29 (fun j he => (hown25.lt _ he).1))
      | (refine step_append_own rfl _ _ 33 rfl w5.heap.size 9 i0 (.string ByteArray.empty) 1 16 Try.underlying33 hi hz0 hz1 hz2 rfl (by decide) v29 _ _ rfl (by exact hown29) ad (ss.length - k) (cp - k) ((ss.drop k).map Value.string) rfl (by simp) (HDR.out _ (HS5.out.grown hG29 (fun _ _ _ _ => by simp))) (HST.out _) (by unfold maxLen; omega) (by omega) (by exact hG29.size) (fun v33 W5 hown33 hg33 => ?_)
         have hG33 : w5.grownBy W5 none := gtrans_own hG29 hg33 (fun j he => (hown29.lt _ he).1)))
    all_goals
      have hownF : W5.ownsRow w5.heap.size 9 1 v33 (ss.length + 1) ((ss.take k ++ [t1] ++ ss.drop k).map Value.string) := by
        rw [show ss.length + 1 = 0 + k + 1 + (ss.length - k) by omega, List.map_append, List.map_append]
        exact hown33
      obtain ⟨l33, HL33⟩ : ∃ l, Hid (ss.take k ++ [t1] ++ ss.drop k = l) := ⟨_, Lib.hid rfl⟩
      rw [HL33.out] at hownF
      have hs33 := hG33.size
      clear hown33 hg33 hown29 hg29 hown25 hg25 hG25 hG29 hsl1 hsl2
      go_wp2_with (at_builtin; refine wpList_append_own _ rfl _ _ 33 rfl w5.heap.size 9 i0 (.string ByteArray.empty) 1 16 Try.underlying33 hi hz0 hz1 hz2 rfl (by decide) v33 (ss.length + 1) _ rfl (hownF.alloc _) ⟨W5.heap.size, 0, none⟩ 1 1 [.string t2] rfl rfl ?c1 ?c2 ?c3 ?c4 ?c5 ?_)
      case c1 => exact one_new _ _ _
      case c2 => intro u hu; simp at hu; subst hu; rfl
      case c3 => unfold maxLen; omega
      case c4 => omega
      case c5 => simp; omega
      intro v6 w6 hown6 hg6 _
      have hG6 : w5.grownBy w6 none := gtrans_own (gtrans hG33 (World.grownBy_alloc _ _ _)) hg6 (fun j he => (hownF.lt _ he).1)
      have hbel := Below.grown hb1 (gtrans hG5 ⟨hG6.os, hG6.tape, hG6.output, hG6.size, fun j hj _ => hG6.block j hj (by simp)⟩) hb1.size (fun j hj => by cases hj; exact hB)
      obtain ⟨g6, cp6, rfl⟩ : ∃ g cp, v6 = .slice (some ⟨g, 0, none⟩) (l33 ++ [t2]).length cp := by
        have hl : (l33 ++ [t2]).length = ss.length + 1 + 1 := by
          rw [List.length_append, ← HL33.out]
          simp
          omega
        rw [hl]
        rcases hown6.2 with ⟨h, h0⟩ | ⟨g, cap, cur, h, _⟩
        · omega
        · exact ⟨_, _, h⟩
      have hl : (l33 ++ [t2]).length = ss.length + 1 + 1 := by
        rw [List.length_append, ← HL33.out]
        simp
        omega
      have hown7 : w6.ownsRow w.heap.size 9 1 (.slice (some ⟨g6, 0, none⟩) (l33 ++ [t2]).length cp6) (l33 ++ [t2]).length ((l33 ++ [t2]).map Value.string) := by
        refine ownsRow_base (base := w5.heap.size) ?_ (Nat.le_trans hb1.size hG5.size)
        rw [List.map_append]
        rw [hl] at hown6 ⊢
        exact hown6
      have HSZ : Hid (∀ s ∈ l33 ++ [t2], s.size ≤ 30) := Lib.hid (by
        intro s hs
        rw [← HL33.out] at hs
        simp only [List.mem_append, List.mem_singleton] at hs
        rcases hs with ((hs | hs) | hs) | hs
        · exact HZ.out s (List.mem_of_mem_take hs)
        · subst hs; exact hz1'
        · exact HZ.out s (List.mem_of_mem_drop hs)
        · subst hs; exact hz2')
      generalize l33 ++ [t2] = lF at hown7 HSZ hl ⊢
      clear hown6 hg6 hG6 hownF
      go_wp2
      go_ret
      exact ⟨lF, g6, cp6, rfl, by omega, HSZ.out, hbel, hown7⟩
  · have hx0 : (x == 0) = false := by simpa using hx
    clear hx
    go_wp2
    go_ret
    exact ⟨ss, g, cp, rfl, by omega, h2, Below.grown hb1 hG3 hb1.size (fun j hj => by cases hj; exact hB), ownsRow_base hown3 hb1.size⟩
end Go.Proofs.Ytlhcanokimjonab
