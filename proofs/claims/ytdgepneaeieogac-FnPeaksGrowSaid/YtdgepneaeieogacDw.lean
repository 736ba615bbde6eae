/-
  What the laws of chapter 3 draw.
-/
import Derived.Test.YtdgepneaeieogacDv
import Derived.Test.YtdgepneaeieogacMu
namespace Go.Proofs.Ytdgepneaeieogac
open Go.RowKit

set_option maxRecDepth 100000 in
set_option maxHeartbeats 1600000 in
theorem drawMerklePeaks_any (a : Option Addr) (len cap : Nat) (zs : List Int) (w : World) (hr : IsRow .u8 w a len cap zs) (hlm : len ≤ 1048576) :
    Calls Try.prog 14 #[.slice a len cap] w (DrawTexts 34 30 w) := by
  go_enter Try.func14, Try.ntmps14
  go_wp2_with fail
  refine (l6Open_any a len cap zs _ hr hlm).mono ?_
  rintro e w1 ⟨B, a', l', c', zs', rfl, hB, hD, hb1⟩
  go_wp2_with fail
  refine (l91Texts_any B a' l' c' zs' 0 34 _ (by omega) (by omega) hD).mono ?_
  rintro e w2 ⟨ss, q, g, cp, rfl, h1, h2, _, _, _, hG, hown⟩
  go_wp2
  go_ret
  exact ⟨ss, g, cp, rfl, h1, h2, Below.grown hb1 hG hb1.size (fun j hj => by cases hj; exact hB), ownsRow_base hown hb1.size⟩

/-- What DrawMerkleProof draws. -/
def DrawPf (w : World) (e : Ending) (w' : World) : Prop :=
  ∃ (ss : List ByteArray) (g cp : Nat) (i : Int), e = .returned (.tuple #[.slice (some ⟨g, 0, none⟩) ss.length cp, .int .i64 i]) ∧ ss.length ≤ 20 ∧ (∀ s ∈ ss, s.size ≤ 30) ∧ -1 ≤ i ∧ i ≤ 21 ∧ Below w.heap.size w w' ∧
    w'.ownsRow w.heap.size 9 1 (.slice (some ⟨g, 0, none⟩) ss.length cp) ss.length (ss.map Value.string)
/-- What DrawMerkleCollision draws. -/
def DrawTree (w : World) (e : Ending) (w' : World) : Prop :=
  ∃ (ss : List ByteArray) (g cp : Nat) (i : Int) (s : ByteArray) (g' cp' : Nat) (pr : List Int),
    e = .returned (.tuple #[.slice (some ⟨g, 0, none⟩) ss.length cp, .int .i64 i, .string s, .slice (some ⟨g', 0, none⟩) pr.length cp']) ∧
    1 ≤ ss.length ∧ ss.length ≤ 13 ∧ (∀ t ∈ ss, t.size ≤ 40) ∧ s.size ≤ 40 ∧ -1 ≤ i ∧ i ≤ 14 ∧ pr.length ≤ 70 ∧
    SR w' (some ⟨g, 0, none⟩) ss.length ss ∧ (ss.length ≤ cp ∧ cp ≤ 9223372036854775807) ∧ IR w' (some ⟨g', 0, none⟩) pr.length pr ∧ (pr.length ≤ cp' ∧ cp' ≤ 9223372036854775807) ∧ Below w.heap.size w w'
set_option maxRecDepth 100000 in
set_option maxHeartbeats 1600000 in
theorem drawMerkleCollision_any (a : Option Addr) (len cap : Nat) (zs : List Int) (w : World) (hr : IsRow .u8 w a len cap zs) (hlm : len ≤ 1048576) :
    Calls Try.prog 18 #[.slice a len cap] w (DrawTree w) := by
  go_enter Try.func18, Try.ntmps18
  go_wp2_with fail
  refine (l6Open_any a len cap zs _ hr hlm).mono ?_
  rintro e w1 ⟨B, a', l', c', zs', rfl, hB, hD, hb1⟩
  go_wp2_with fail
  refine (l93Tree_any B a' l' c' zs' 0 _ (by omega) hD).mono ?_
  rintro e w2 ⟨ss, g, cp, i, s, g', cp', pr, q, rfl, h1, h2, h3, h4, h5, h6, h7, hS, hc, hI, hc', _, _, _, hG, _, _⟩
  have hb2 := Below.grown hb1 hG hb1.size (fun j hj => by cases hj; exact hB)
  clear hD hG hb1
  go_wp2
  (try simp only [Exit.inBlock, Exit.then])
  refine bodyPost_ret (results_tmp4 rfl _ _ _) rfl ?_
  exact ⟨ss, g, cp, i, s, g', cp', pr, rfl, h1, h2, h3, h4, h5, h6, h7, hS, hc, hI, hc', hb2⟩

/-- What DrawMerkleCheck draws. -/
def DrawCk (w : World) (e : Ending) (w' : World) : Prop :=
  ∃ (r n i : Int) (s : ByteArray) (g' cp' : Nat) (pr : List Int),
    e = .returned (.tuple #[.int .i64 r, .int .i64 n, .int .i64 i, .string s, .slice (some ⟨g', 0, none⟩) pr.length cp']) ∧ s.size ≤ 40 ∧ pr.length ≤ 70 ∧
    IR w' (some ⟨g', 0, none⟩) pr.length pr ∧ (pr.length ≤ cp' ∧ cp' ≤ 9223372036854775807) ∧ Below w.heap.size w w'
/-- What l93Peaks draws. -/
def PeaksR (B : Nat) (a : Option Addr) (len cap : Nat) (zs : List Int) (p : Nat) (w : World) (e : Ending) (w' : World) : Prop :=
  ∃ (n : Int) (b : Option Addr) (cp : Nat) (pr : List Int) (q : Nat), e = .returned (.tuple #[.int .i64 n, .slice b pr.length cp]) ∧ -1 ≤ n ∧ n ≤ 40 ∧ pr.length ≤ 40 ∧
    w'.ownsRow w.heap.size 3 1 (.slice b pr.length cp) pr.length (pr.map (Value.int .i64)) ∧ p ≤ q ∧ q ≤ p + 3000 ∧ Dw B a len cap zs w' q ∧ w.grownBy w' (some B)
set_option maxRecDepth 100000 in
set_option maxHeartbeats 1600000 in
theorem l93Peaks_any (B : Nat) (a : Option Addr) (len cap : Nat) (zs : List Int) (p : Nat) (w : World) (hp : p ≤ 500000000) (hD0 : Dw B a len cap zs w p) :
    Calls Try.prog 50 #[.pointer (some ⟨B, 0, none⟩)] w (PeaksR B a len cap zs p w) := by
  obtain ⟨j0, ji, jz0, jz1, jz2⟩ := info_parts info_int
  have hBw := hD0.lt
  go_enter Try.func50, Try.ntmps50
  go_wp2_with fail
  refine (l91Texts_any B a len cap zs p 32 _ (by omega) (by omega) hD0).mono ?_
  rintro e w1 ⟨ss, q, g, cp, rfl, h1, h2, q0, q1, hD1, hG1, hown1⟩
  have HS := Lib.hid (SR.own hown1).2
  have hcc := own_capV hown1
  have HZ : Hid (∀ s ∈ ss, s.size ≤ 4611686018427387904) := Lib.hid fun s h => by have := h2 s h; omega
  have hpl : (Me.peaksL ss).length ≤ 32 := by
    rw [show Me.peaksL ss = Me.peaks ss from if_pos h1]
    have := Me.peaks_len ss.length ss rfl
    omega
  have HC := Lib.hid (specMerklePeaks_any _ ss.length cp ss w1 HS.out hcc.1 hcc.2 HZ.out)
  obtain ⟨P, HPP⟩ : ∃ P, Hid (Me.peaksL ss = P) := ⟨_, Lib.hid rfl⟩
  obtain ⟨ok, HO⟩ : ∃ P, Hid (Me.peaksB ss = P) := ⟨_, Lib.hid rfl⟩
  rw [HPP.out, HO.out] at HC
  rw [HPP.out] at hpl
  obtain ⟨m, hm⟩ : ∃ m, ss.length = m := ⟨_, rfl⟩
  rw [hm] at h1 HC
  rw [hm]
  have hle1 := hG1.size
  clear hm h2 hD0 hown1 hcc
  go_wp2_with fail
  refine HC.out.mono ?_
  rintro e w2 ⟨b2, cp2, rfl, hb2, hown2⟩
  have hD2 := hD1.below hb2
  have hG2 := grown_below hG1 hb2
  have hown2' := ownsRow_base hown2 hle1
  clear hD1 hG1 hb2 hown2 HC
  go_wp2_with fail
  refine (pick_any B a len cap zs _ 12 _ (by omega) (by omega) hD2).mono ?_
  rintro e w3 ⟨x, rfl, x0, x1, hD3, hG3⟩
  have hown3 := hown2'.kept hG3 (own_ne hown2' hBw)
  have hGr3 := gtrans hG2 hG3
  clear hD2 hG2 hG3 hown2'
  have hx : x = 0 ∨ x = 1 ∨ 2 ≤ x := by omega
  rcases hx with rfl | rfl | hx
  · go_wp2_with fail
    refine (pick_any B a len cap zs _ 4 _ (by omega) (by omega) (hD3.alloc _)).mono ?_
    rintro e w4 ⟨y, rfl, y0, y1, hD4, hG4⟩
    have hne : w3.heap.size ≠ B := by have := hD3.lt; omega
    obtain ⟨k, rfl⟩ := Int.eq_ofNat_of_zero_le y0
    have hb := getD_bd ([-1, 32, 33, (m : Int) + 1] : List Int) (-1) 40 (by simp; omega) k (by simp; omega)
    have hc : w4.cell? ⟨w3.heap.size, k, none⟩ = some (.int .i64 (([-1, 32, 33, (m : Int) + 1] : List Int).getD k 0)) :=
      hG4.cell (lit_cell ([-1, 32, 33, (m : Int) + 1] : List Int) _ _ _ (show k < 4 by omega)) (by simpa using hne)
    have hown4 := (hown3.alloc (.cells (([-1, 32, 33, (m : Int) + 1] : List Int).map (Value.int .i64)).toArray 3)).kept hG4 (own_ne hown3 hBw)
    have hGr4 := gtrans hGr3 (gtrans (World.grownBy_alloc _ _ _) hG4)
    generalize ([-1, 32, 33, (m : Int) + 1] : List Int).getD k 0 = v at hc hb
    clear hown3 hGr3 hD3 hG4
    go_wp2
    go_ret2
    exact ⟨v, _, cp2, P, _, rfl, hb.1, hb.2, by omega, hown4, by omega, by omega, hD4, hGr4⟩
  · go_wp2_with fail
    refine (l91Num_any B a len cap zs _ _ (by omega) hD3).mono ?_
    rintro e w4 ⟨v, q4, rfl, v0, v1, p4, r4, hD4, hG4⟩
    have hown4 := hown3.kept hG4 (own_ne hown3 hBw)
    have hGr4 := gtrans hGr3 hG4
    have hgl := hGr4.size
    have hPv : (P ++ [v]).length = P.length + 1 := by simp
    have HPV := Lib.hid hPv
    clear hPv hown3 hD3 hGr3 hG4
    go_wp2_with (at_builtin; refine wpList_append_own _ rfl _ _ 23 rfl w.heap.size 3 j0 (.int .i64 0) 1 8 Try.underlying23 ji jz0 jz1 jz2 rfl (by decide) _ _ _ rfl (hown4.alloc _) ⟨w4.heap.size, 0, none⟩ 1 1 [.int .i64 v] rfl rfl ?c1 ?c2 ?c3 ?c4 ?c5 ?_)
    case c1 => exact one_new _ _ _
    case c2 => intro u hu; simp at hu; subst hu; rfl
    case c3 => unfold maxLen; omega
    case c4 => omega
    case c5 => simp; omega
    intro v' w5 hown5 hgrow5 _
    have hD5 : Dw B a len cap zs w5 q4 := (hD4.alloc _).of fun k hk => hgrow5.block k (by have := hD4.lt; simp; omega) (fun e => by have := (hown4.lt _ e.symm).1; omega)
    have hG5 := gtrans_own (gtrans hGr4 (World.grownBy_alloc _ _ _)) hgrow5 (fun j he => (hown4.lt _ he).1)
    have hown6 : w5.ownsRow w.heap.size 3 1 v' (P ++ [v]).length ((P ++ [v]).map (Value.int .i64)) := by
      rw [HPV.out, List.map_append]
      exact hown5
    obtain ⟨g6, cp6, rfl⟩ : ∃ g cp, v' = .slice (some ⟨g, 0, none⟩) (P ++ [v]).length cp := by
      rcases hown6.2 with ⟨h, h0⟩ | ⟨g, cap, cur, h, _⟩
      · have := HPV.out; omega
      · exact ⟨_, _, h⟩
    obtain ⟨P9, HP9⟩ : ∃ l, Hid (P ++ [v] = l) := ⟨_, Lib.hid rfl⟩
    have hp9 : P9.length ≤ 40 := by rw [← HP9.out]; have := HPV.out; omega
    rw [HP9.out] at hown6
    rw [HP9.out]
    clear hown4 hown5 hgrow5 hD4 hGr4
    go_wp2
    go_ret2
    exact ⟨_, _, cp6, P9, _, rfl, by omega, by omega, hp9, hown6, by omega, by omega, hD5, hG5⟩
  · have hx0 : (x == 0) = false := by simp; omega
    have hx1 : (x == 1) = false := by simp; omega
    go_wp2
    go_ret2
    exact ⟨_, _, cp2, P, _, rfl, by omega, by omega, by omega, hown3, by omega, by omega, hD3, hGr3⟩

/-- What DrawPeaksAdd draws. -/
def DrawPk (w : World) (e : Ending) (w' : World) : Prop :=
  ∃ (n : Int) (b : Option Addr) (cp : Nat) (pr : List Int) (s : ByteArray), e = .returned (.tuple #[.int .i64 n, .slice b pr.length cp, .string s]) ∧ pr.length ≤ 40 ∧ s.size ≤ 30 ∧ Below w.heap.size w w' ∧
    w'.ownsRow w.heap.size 3 1 (.slice b pr.length cp) pr.length (pr.map (Value.int .i64))
set_option maxRecDepth 100000 in
set_option maxHeartbeats 1600000 in
theorem l93PeaksLeaf_any (B : Nat) (a : Option Addr) (len cap : Nat) (zs : List Int) (p : Nat) (w : World) (hp : p ≤ 400000000) (hD0 : Dw B a len cap zs w p) :
    Calls Try.prog 25 #[.pointer (some ⟨B, 0, none⟩)] w fun e w' => ∃ (n : Int) (b : Option Addr) (cp : Nat) (pr : List Int) (s : ByteArray), e = .returned (.tuple #[.int .i64 n, .slice b pr.length cp, .string s]) ∧ pr.length ≤ 40 ∧ s.size ≤ 30 ∧ w.grownBy w' (some B) ∧
      w'.ownsRow w.heap.size 3 1 (.slice b pr.length cp) pr.length (pr.map (Value.int .i64)) := by
  have hBw := hD0.lt
  go_enter Try.func25, Try.ntmps25
  go_wp2_with fail
  refine (l93Peaks_any B a len cap zs p _ (by omega) hD0).mono ?_
  rintro e w1 ⟨n, b, cp, pr, q, rfl, n0, n1, hl, hown1, q0, q1, hD1, hG1⟩
  clear hD0
  go_wp2_with fail
  refine (l91Word_any B a len cap zs _ _ (by omega) hD1).mono ?_
  rintro e w2 ⟨s2, q2, rfl, z2, p2, r2, hD2, hG2⟩
  have hown2 := hown1.kept hG2 (own_ne hown1 hBw)
  have hGr2 := gtrans hG1 hG2
  clear hD1 hD2 hG1 hG2 hown1
  go_wp2
  go_ret3
  exact ⟨n, b, cp, pr, s2, rfl, hl, by omega, hGr2, hown2⟩
set_option maxRecDepth 100000 in
set_option maxHeartbeats 1600000 in
theorem drawPeaksAdd_any (a : Option Addr) (len cap : Nat) (zs : List Int) (w : World) (hr : IsRow .u8 w a len cap zs) (hlm : len ≤ 1048576) :
    Calls Try.prog 7 #[.slice a len cap] w (DrawPk w) := by
  go_enter Try.func7, Try.ntmps7
  go_wp2_with fail
  refine (l6Open_any a len cap zs _ hr hlm).mono ?_
  rintro e w1 ⟨B, a', l', c', zs', rfl, hB, hD, hb1⟩
  go_wp2_with fail
  refine (l93PeaksLeaf_any B a' l' c' zs' 0 _ (by omega) hD).mono ?_
  rintro e w2 ⟨n, b, cp, pr, s, rfl, h1, h2, hG, hown⟩
  have hb2 := Below.grown hb1 hG hb1.size (fun j hj => by cases hj; exact hB)
  have hown2 := ownsRow_base hown hb1.size
  clear hD hG hb1 hown
  go_wp2
  go_ret3
  exact ⟨n, b, cp, pr, s, rfl, h1, h2, hb2, hown2⟩

/-- What DrawPeaksRoot draws. -/
def DrawPr (w : World) (e : Ending) (w' : World) : Prop :=
  ∃ (b : Option Addr) (cp : Nat) (pr : List Int), e = .returned (.slice b pr.length cp) ∧ pr.length ≤ 40 ∧ Below w.heap.size w w' ∧
    w'.ownsRow w.heap.size 3 1 (.slice b pr.length cp) pr.length (pr.map (Value.int .i64))
set_option maxRecDepth 100000 in
set_option maxHeartbeats 1600000 in
theorem l93PeaksOnly_any (B : Nat) (a : Option Addr) (len cap : Nat) (zs : List Int) (p : Nat) (w : World) (hp : p ≤ 400000000) (hD0 : Dw B a len cap zs w p) :
    Calls Try.prog 37 #[.pointer (some ⟨B, 0, none⟩)] w fun e w' => ∃ (b : Option Addr) (cp : Nat) (pr : List Int), e = .returned (.slice b pr.length cp) ∧ pr.length ≤ 40 ∧ w.grownBy w' (some B) ∧
      w'.ownsRow w.heap.size 3 1 (.slice b pr.length cp) pr.length (pr.map (Value.int .i64)) := by
  go_enter Try.func37, Try.ntmps37
  go_wp2_with fail
  refine (l93Peaks_any B a len cap zs p _ (by omega) hD0).mono ?_
  rintro e w1 ⟨n, b, cp, pr, q, rfl, n0, n1, hl, hown1, q0, q1, hD1, hG1⟩
  clear hD0 hD1
  go_wp2
  go_ret
  exact ⟨b, cp, pr, rfl, hl, hG1, hown1⟩
set_option maxRecDepth 100000 in
set_option maxHeartbeats 1600000 in
theorem drawPeaksRoot_any (a : Option Addr) (len cap : Nat) (zs : List Int) (w : World) (hr : IsRow .u8 w a len cap zs) (hlm : len ≤ 1048576) :
    Calls Try.prog 11 #[.slice a len cap] w (DrawPr w) := by
  go_enter Try.func11, Try.ntmps11
  go_wp2_with fail
  refine (l6Open_any a len cap zs _ hr hlm).mono ?_
  rintro e w1 ⟨B, a', l', c', zs', rfl, hB, hD, hb1⟩
  go_wp2_with fail
  refine (l93PeaksOnly_any B a' l' c' zs' 0 _ (by omega) hD).mono ?_
  rintro e w2 ⟨b, cp, pr, rfl, h1, hG, hown⟩
  have hb2 := Below.grown hb1 hG hb1.size (fun j hj => by cases hj; exact hB)
  have hown2 := ownsRow_base hown hb1.size
  clear hD hG hb1 hown
  go_wp2
  go_ret
  exact ⟨b, cp, pr, rfl, h1, hb2, hown2⟩
end Go.Proofs.Ytdgepneaeieogac
