/-
  What the laws of chapter 3 draw.
-/
import Derived.Test.YtdgepneaeieogabDv
import Derived.Test.YtdgepneaeieogabMu
namespace Go.Proofs.Ytdgepneaeieogab
open Go.RowKit

set_option maxRecDepth 100000 in
set_option maxHeartbeats 1600000 in
theorem drawMerkleRoot_any (a : Option Addr) (len cap : Nat) (zs : List Int) (w : World) (hr : IsRow .u8 w a len cap zs) (hlm : len ≤ 1048576) :
    Calls Try.prog 13 #[.slice a len cap] w (DrawTexts 33 30 w) := by
  go_enter Try.func13, Try.ntmps13
  go_wp2_with fail
  refine (l6Open_any a len cap zs _ hr hlm).mono ?_
  rintro e w1 ⟨B, a', l', c', zs', rfl, hB, hD, hb1⟩
  go_wp2_with fail
  refine (l91Texts_any B a' l' c' zs' 0 33 _ (by omega) (by omega) hD).mono ?_
  rintro e w2 ⟨ss, q, g, cp, rfl, h1, h2, _, _, _, hG, hown⟩
  go_wp2
  go_ret
  exact ⟨ss, g, cp, rfl, h1, h2, Below.grown hb1 hG hb1.size (fun j hj => by cases hj; exact hB), ownsRow_base hown hb1.size⟩

set_option maxRecDepth 100000 in
set_option maxHeartbeats 1600000 in
theorem drawMerklePeaks_any (a : Option Addr) (len cap : Nat) (zs : List Int) (w : World) (hr : IsRow .u8 w a len cap zs) (hlm : len ≤ 1048576) :
    Calls Try.prog 28 #[.slice a len cap] w (DrawTexts 34 30 w) := by
  go_enter Try.func28, Try.ntmps28
  go_wp2_with fail
  refine (l6Open_any a len cap zs _ hr hlm).mono ?_
  rintro e w1 ⟨B, a', l', c', zs', rfl, hB, hD, hb1⟩
  go_wp2_with fail
  refine (l91Texts_any B a' l' c' zs' 0 34 _ (by omega) (by omega) hD).mono ?_
  rintro e w2 ⟨ss, q, g, cp, rfl, h1, h2, _, _, _, hG, hown⟩
  go_wp2
  go_ret
  exact ⟨ss, g, cp, rfl, h1, h2, Below.grown hb1 hG hb1.size (fun j hj => by cases hj; exact hB), ownsRow_base hown hb1.size⟩

/-- What DrawMerkleProof draws. -/
def DrawPf (w : World) (e : Ending) (w' : World) : Prop :=
  ∃ (ss : List ByteArray) (g cp : Nat) (i : Int), e = .returned (.tuple #[.slice (some ⟨g, 0, none⟩) ss.length cp, .int .i64 i]) ∧ ss.length ≤ 20 ∧ (∀ s ∈ ss, s.size ≤ 30) ∧ -1 ≤ i ∧ i ≤ 21 ∧ Below w.heap.size w w' ∧
    w'.ownsRow w.heap.size 9 1 (.slice (some ⟨g, 0, none⟩) ss.length cp) ss.length (ss.map Value.string)
set_option maxRecDepth 100000 in
set_option maxHeartbeats 1600000 in
theorem drawMerkleProof_any (a : Option Addr) (len cap : Nat) (zs : List Int) (w : World) (hr : IsRow .u8 w a len cap zs) (hlm : len ≤ 1048576) :
    Calls Try.prog 17 #[.slice a len cap] w (DrawPf w) := by
  go_enter Try.func17, Try.ntmps17
  go_wp2_with fail
  refine (l6Open_any a len cap zs _ hr hlm).mono ?_
  rintro e w1 ⟨B, a', l', c', zs', rfl, hB, hD, hb1⟩
  go_wp2_with fail
  refine (l91Texts_any B a' l' c' zs' 0 20 _ (by omega) (by omega) hD).mono ?_
  rintro e w2 ⟨ss, q, g, cp, rfl, h1, h2, _, _, hD2, hG, hown⟩
  have hBw := hD.lt
  have hne := own_ne hown hBw
  clear hD
  go_wp2_with fail
  refine (pick_any B a' l' c' zs' _ _ _ (by omega) (by omega) hD2).mono ?_
  rintro e w3 ⟨v, rfl, x0, x1, hD3, hG3⟩
  have hown3 := ownsRow_base (hown.kept hG3 hne) hb1.size
  have hb3 := Below.grown hb1 (gtrans hG hG3) hb1.size (fun j hj => by cases hj; exact hB)
  clear hD2 hD3 hG hG3 hown hb1 hne
  go_wp2
  go_ret2
  exact ⟨ss, g, cp, _, rfl, h1, h2, by omega, by omega, hb3, hown3⟩

/-- What DrawMerkleCollision draws. -/
def DrawTree (w : World) (e : Ending) (w' : World) : Prop :=
  ∃ (ss : List ByteArray) (g cp : Nat) (i : Int) (s : ByteArray) (g' cp' : Nat) (pr : List Int),
    e = .returned (.tuple #[.slice (some ⟨g, 0, none⟩) ss.length cp, .int .i64 i, .string s, .slice (some ⟨g', 0, none⟩) pr.length cp']) ∧
    1 ≤ ss.length ∧ ss.length ≤ 13 ∧ (∀ t ∈ ss, t.size ≤ 40) ∧ s.size ≤ 40 ∧ -1 ≤ i ∧ i ≤ 14 ∧ pr.length ≤ 70 ∧
    SR w' (some ⟨g, 0, none⟩) ss.length ss ∧ (ss.length ≤ cp ∧ cp ≤ 9223372036854775807) ∧ IR w' (some ⟨g', 0, none⟩) pr.length pr ∧ (pr.length ≤ cp' ∧ cp' ≤ 9223372036854775807) ∧ Below w.heap.size w w'
set_option maxRecDepth 100000 in
set_option maxHeartbeats 1600000 in
theorem drawMerkleCollision_any (a : Option Addr) (len cap : Nat) (zs : List Int) (w : World) (hr : IsRow .u8 w a len cap zs) (hlm : len ≤ 1048576) :
    Calls Try.prog 25 #[.slice a len cap] w (DrawTree w) := by
  go_enter Try.func25, Try.ntmps25
  go_wp2_with fail
  refine (l6Open_any a len cap zs _ hr hlm).mono ?_
  rintro e w1 ⟨B, a', l', c', zs', rfl, hB, hD, hb1⟩
  go_wp2_with fail
  refine (l93Tree_any B a' l' c' zs' 0 _ (by omega) hD).mono ?_
  rintro e w2 ⟨ss, g, cp, i, s, g', cp', pr, q, rfl, h1, h2, h3, h4, h5, h6, h7, hS, hc, hI, hc', _, _, _, hG, _, _⟩
  have hb2 := Below.grown hb1 hG hb1.size (fun j hj => by cases hj; exact hB)
  clear hD hG hb1
  go_wp2
  (try simp only [Exit.inBlock, Exit.then])
  refine bodyPost_ret (results_tmp4 rfl _ _ _) rfl ?_
  exact ⟨ss, g, cp, i, s, g', cp', pr, rfl, h1, h2, h3, h4, h5, h6, h7, hS, hc, hI, hc', hb2⟩

/-- What DrawMerkleCheck draws. -/
def DrawCk (w : World) (e : Ending) (w' : World) : Prop :=
  ∃ (r n i : Int) (s : ByteArray) (g' cp' : Nat) (pr : List Int),
    e = .returned (.tuple #[.int .i64 r, .int .i64 n, .int .i64 i, .string s, .slice (some ⟨g', 0, none⟩) pr.length cp']) ∧ s.size ≤ 40 ∧ pr.length ≤ 70 ∧
    IR w' (some ⟨g', 0, none⟩) pr.length pr ∧ (pr.length ≤ cp' ∧ cp' ≤ 9223372036854775807) ∧ Below w.heap.size w w'
set_option maxRecDepth 100000 in
set_option maxHeartbeats 1600000 in
theorem l93Told_any (B : Nat) (a : Option Addr) (len cap : Nat) (zs : List Int) (p : Nat) (w : World) (hp : p ≤ 500000000) (hD0 : Dw B a len cap zs w p) :
    Calls Try.prog 47 #[.pointer (some ⟨B, 0, none⟩)] w fun e w' => ∃ (r n i : Int) (s : ByteArray) (g' cp' : Nat) (pr : List Int),
      e = .returned (.tuple #[.int .i64 r, .int .i64 n, .int .i64 i, .string s, .slice (some ⟨g', 0, none⟩) pr.length cp']) ∧ s.size ≤ 40 ∧ pr.length ≤ 70 ∧
      IR w' (some ⟨g', 0, none⟩) pr.length pr ∧ (pr.length ≤ cp' ∧ cp' ≤ 9223372036854775807) ∧ w.grownBy w' (some B) := by
  have hBw := hD0.lt
  go_enter Try.func47, Try.ntmps47
  go_wp2_with fail
  refine (l93Tree_any B a len cap zs p _ (by omega) hD0).mono ?_
  rintro e w1 ⟨ss, g, cp, i, s, g', cp', pr, q, rfl, h1, h2, h3, h4, h5, h6, h7, hS, hc, hI, hc', hq0, hq1, hD1, hG1, hgB, hgB'⟩
  have HZ : Hid (∀ s ∈ ss, s.size ≤ 4611686018427387904) := Lib.hid fun s h => by have := h3 s h; omega
  obtain ⟨R, HR⟩ : ∃ r, Hid (Me.root ss = r) := ⟨_, Lib.hid rfl⟩
  have HRC : Hid (Calls Try.prog 40 #[.slice (some ⟨g, 0, none⟩) ss.length cp] w1 fun e w' => e = .returned (.int .i64 R) ∧ Below w1.heap.size w1 w') := Lib.hid (by
    have := l3Root_any ss.length g 0 cp ss w1 hS h1 (by omega) hc.1 hc.2 HZ.out
    rw [HR.out] at this
    exact this)
  obtain ⟨m, hm⟩ : ∃ m, ss.length = m := ⟨_, rfl⟩
  rw [hm] at h1 h2 hc hS HRC
  rw [hm]
  clear hm h3 hD0
  go_wp2_with fail
  refine HRC.out.mono ?_
  rintro e w2 ⟨rfl, hb2⟩
  have hD2 := hD1.below hb2
  have hG2 := grown_below hG1 hb2
  have hI2 := hI.below hb2
  clear hD1 hG1 hI hb2 hS HRC
  go_wp2_with fail
  refine (pick_any B a len cap zs _ 12 _ (by omega) (by omega) hD2).mono ?_
  rintro e w3 ⟨x, rfl, x0, x1, hD3, hG3⟩
  have hI3 := hI2.grown hG3 (fun _ b off he => by cases he; simpa using hgB')
  have hGr3 := gtrans hG2 hG3
  clear hD2 hG2 hI2 hG3
  by_cases hx : x = 0
  · have hx0 : (x == 0) = true := by simpa using hx
    clear hx
    go_wp2_with fail
    refine (pick_any B a len cap zs _ 5 _ (by omega) (by omega) hD3).mono ?_
    rintro e w4 ⟨y, rfl, y0, y1, hD4, hG4⟩
    have hI4 := hI3.grown hG4 (fun _ b off he => by cases he; simpa using hgB')
    have hGr4 := gtrans hGr3 hG4
    clear hD3 hGr3 hI3 hG4
    go_wp2_with fail
    refine (pick_any B a len cap zs _ 12 _ (by omega) (by omega) hD4).mono ?_
    rintro e w5 ⟨z, rfl, z0, z1, hD5, hG5⟩
    have hI5 := hI4.grown hG5 (fun _ b off he => by cases he; simpa using hgB')
    have hGr5 := gtrans hGr4 hG5
    clear hD4 hGr4 hI4 hG5
    by_cases hz : z = 0
    · have hz0 : (z == 0) = true := by simpa using hz
      clear hz
      go_wp2_with fail
      refine (l91Num_any B a len cap zs _ _ (by omega) hD5).mono ?_
      rintro e w6 ⟨v, q6, rfl, v0, v1, _, _, hD6, hG6⟩
      have hI6 := hI5.grown hG6 (fun _ b off he => by cases he; simpa using hgB')
      have hGr6 := gtrans hGr5 hG6
      clear hD5 hGr5 hI5 hG6
      go_wp2
      (try simp only [Exit.inBlock, Exit.then])
      refine bodyPost_ret (results_tmp5 rfl _ _ _) rfl ?_
      exact ⟨_, _, _, _, _, _, pr, rfl, h4, h7, hI6, hc', hGr6⟩
    · have hz0 : (z == 0) = false := by simpa using hz
      clear hz
      go_wp2
      (try simp only [Exit.inBlock, Exit.then])
      refine bodyPost_ret (results_tmp5 rfl _ _ _) rfl ?_
      exact ⟨_, _, _, _, _, _, pr, rfl, h4, h7, hI5, hc', hGr5⟩
  · have hx0 : (x == 0) = false := by simpa using hx
    clear hx
    go_wp2_with fail
    refine (pick_any B a len cap zs _ 12 _ (by omega) (by omega) hD3).mono ?_
    rintro e w5 ⟨z, rfl, z0, z1, hD5, hG5⟩
    have hI5 := hI3.grown hG5 (fun _ b off he => by cases he; simpa using hgB')
    have hGr5 := gtrans hGr3 hG5
    clear hD3 hGr3 hI3 hG5
    by_cases hz : z = 0
    · have hz0 : (z == 0) = true := by simpa using hz
      clear hz
      go_wp2_with fail
      refine (l91Num_any B a len cap zs _ _ (by omega) hD5).mono ?_
      rintro e w6 ⟨v, q6, rfl, v0, v1, _, _, hD6, hG6⟩
      have hI6 := hI5.grown hG6 (fun _ b off he => by cases he; simpa using hgB')
      have hGr6 := gtrans hGr5 hG6
      clear hD5 hGr5 hI5 hG6
      go_wp2
      (try simp only [Exit.inBlock, Exit.then])
      refine bodyPost_ret (results_tmp5 rfl _ _ _) rfl ?_
      exact ⟨_, _, _, _, _, _, pr, rfl, h4, h7, hI6, hc', hGr6⟩
    · have hz0 : (z == 0) = false := by simpa using hz
      clear hz
      go_wp2
      (try simp only [Exit.inBlock, Exit.then])
      refine bodyPost_ret (results_tmp5 rfl _ _ _) rfl ?_
      exact ⟨_, _, _, _, _, _, pr, rfl, h4, h7, hI5, hc', hGr5⟩

set_option maxRecDepth 100000 in
set_option maxHeartbeats 1600000 in
theorem drawMerkleCheck_any (a : Option Addr) (len cap : Nat) (zs : List Int) (w : World) (hr : IsRow .u8 w a len cap zs) (hlm : len ≤ 1048576) :
    Calls Try.prog 22 #[.slice a len cap] w (DrawCk w) := by
  go_enter Try.func22, Try.ntmps22
  go_wp2_with fail
  refine (l6Open_any a len cap zs _ hr hlm).mono ?_
  rintro e w1 ⟨B, a', l', c', zs', rfl, hB, hD, hb1⟩
  go_wp2_with fail
  refine (l93Told_any B a' l' c' zs' 0 _ (by omega) hD).mono ?_
  rintro e w2 ⟨r, n, i, s, g', cp', pr, rfl, h1, h2, hI, hc', hG⟩
  have hb2 := Below.grown hb1 hG hb1.size (fun j hj => by cases hj; exact hB)
  clear hD hG hb1
  go_wp2
  (try simp only [Exit.inBlock, Exit.then])
  refine bodyPost_ret (results_tmp5 rfl _ _ _) rfl ?_
  exact ⟨r, n, i, s, g', cp', pr, rfl, h1, h2, hI, hc', hb2⟩

/-- What l93Peaks draws. -/
def PeaksR (B : Nat) (a : Option Addr) (len cap : Nat) (zs : List Int) (p : Nat) (w : World) (e : Ending) (w' : World) : Prop :=
  ∃ (n : Int) (b : Option Addr) (cp : Nat) (pr : List Int) (q : Nat), e = .returned (.tuple #[.int .i64 n, .slice b pr.length cp]) ∧ -1 ≤ n ∧ n ≤ 40 ∧ pr.length ≤ 40 ∧
    w'.ownsRow w.heap.size 3 1 (.slice b pr.length cp) pr.length (pr.map (Value.int .i64)) ∧ p ≤ q ∧ q ≤ p + 3000 ∧ Dw B a len cap zs w' q ∧ w.grownBy w' (some B)
/-- What DrawPeaksAdd draws. -/
def DrawPk (w : World) (e : Ending) (w' : World) : Prop :=
  ∃ (n : Int) (b : Option Addr) (cp : Nat) (pr : List Int) (s : ByteArray), e = .returned (.tuple #[.int .i64 n, .slice b pr.length cp, .string s]) ∧ pr.length ≤ 40 ∧ s.size ≤ 30 ∧ Below w.heap.size w w' ∧
    w'.ownsRow w.heap.size 3 1 (.slice b pr.length cp) pr.length (pr.map (Value.int .i64))
/-- What DrawPeaksRoot draws. -/
def DrawPr (w : World) (e : Ending) (w' : World) : Prop :=
  ∃ (b : Option Addr) (cp : Nat) (pr : List Int), e = .returned (.slice b pr.length cp) ∧ pr.length ≤ 40 ∧ Below w.heap.size w w' ∧
    w'.ownsRow w.heap.size 3 1 (.slice b pr.length cp) pr.length (pr.map (Value.int .i64))
end Go.Proofs.Ytdgepneaeieogab
