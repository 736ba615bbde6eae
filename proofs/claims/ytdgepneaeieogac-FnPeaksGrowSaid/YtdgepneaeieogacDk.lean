/-
  Drawing lists of strings: l91Texts.
-/
import Derived.Test.YtdgepneaeieogacDs
import Derived.Test.YtdgepneaeieogacSl
namespace Go.Proofs.Ytdgepneaeieogac
open Go.RowKit

/-- What a drawing function does that hands back a list: at most m strings of at most L bytes each; the place goes on by at most c. -/
def TextsR (B : Nat) (a : Option Addr) (len cap : Nat) (zs : List Int) (p c : Nat) (m L : Nat) (w : World) (e : Ending) (w' : World) : Prop :=
  ∃ (ss : List ByteArray) (q g cp : Nat), e = .returned (.slice (some ⟨g, 0, none⟩) ss.length cp) ∧ ss.length ≤ m ∧ (∀ s ∈ ss, s.size ≤ L) ∧ p ≤ q ∧ q ≤ p + c ∧ Dw B a len cap zs w' q ∧ w.grownBy w' (some B) ∧
    w'.ownsRow w.heap.size 9 1 (.slice (some ⟨g, 0, none⟩) ss.length cp) ss.length (ss.map Value.string)

set_option maxRecDepth 100000 in
set_option maxHeartbeats 1600000 in
theorem l91Texts_any (B : Nat) (a : Option Addr) (len cap : Nat) (zs : List Int) (p : Nat) (m : Nat) (w : World) (hm : m ≤ 1000) (hp : p ≤ 700000000) (hD0 : Dw B a len cap zs w p) :
    Calls Try.prog 38 #[.pointer (some ⟨B, 0, none⟩), .int .i64 (m : Int)] w (TextsR B a len cap zs p (50 * (m + 1)) m 30 w) := by
  obtain ⟨i0, hi, hz0, hz1, hz2⟩ := info_parts info_str
  have hBw := hD0.lt
  go_enter Try.func38, Try.ntmps38
  go_wp2_with fail
  refine (pick_any B a len cap zs _ _ _ (by omega) (by omega) (hD0.alloc _)).mono ?_
  rintro e w1 ⟨v1, rfl, a1, b1, hD1, hG1⟩
  have hown1 : w1.ownsRow w.heap.size 9 1 (.slice (some ⟨w.heap.size, 0, none⟩) 0 0) 0 [] :=
    (World.ownsRow_made (e := 9) (size := 1) w #[] 0 (Nat.le_refl _) (by decide) rfl).kept hG1 (.inr (by simp [Value.ownBlock]; omega))
  have hG := gtrans (World.grownBy_alloc w (.cells #[] 9) (some B)) hG1
  clear hG1 hD0
  go_wp2
  go_loopw [5, 6] (fun v i wr => ∃ (k : Nat) (ss : List ByteArray) (q g cp : Nat), i = .int .i64 (k : Int) ∧ (k : Int) + ss.length = v1 ∧ v = .slice (some ⟨g, 0, none⟩) ss.length cp ∧ (∀ s ∈ ss, s.size ≤ 30) ∧ p ≤ q ∧ q ≤ p + 1 + 45 * ss.length ∧ Dw B a len cap zs wr q ∧ w.grownBy wr (some B) ∧
      wr.ownsRow w.heap.size 9 1 (.slice (some ⟨g, 0, none⟩) ss.length cp) ss.length (ss.map Value.string))
    (fun _ i _ => (intOf i).toNat)
  case atStart => exact ⟨v1.toNat, [], p + 1, w.heap.size, 0, by rw [Int.toNat_of_nonneg a1], by simp; omega, rfl, fun s hs => absurd hs (by simp), by omega, by simp, hD1, hG, hown1⟩
  case round =>
    obtain ⟨k, ss, q, g, cp, rfl, hks, rfl, hsz, q0, q1, hD, hGr, hown⟩ := hrel
    clear hD1 hG hown1
    have hne := own_ne hown hBw
    have hbw := hGr.size
    by_cases hlt : 0 < k
    · go_wp2_with fail
      refine (l91Word_any B a len cap zs _ _ (by omega) hD).mono ?_
      rintro e w2 ⟨s2, q2, rfl, z2, p2, r2, hD2, hG2⟩
      have hown2 := hown.kept hG2 hne
      have hGr2 := gtrans hGr hG2
      clear hD hown hG2 hGr
      go_wp2_with fail
      refine (l91Bytes_any B a len cap zs _ _ (by omega) hD2).mono ?_
      rintro e w3 ⟨s3, q3, rfl, z3, p3, r3, hD3, hG3⟩
      have hown3 := hown2.kept hG3 hne
      have hGr3 := gtrans hGr2 hG3
      clear hD2 hown2 hG3 hGr2
      go_wp2_with fail
      refine (pick_any B a len cap zs _ 2 _ (by omega) (by omega) (hD3.alloc _)).mono ?_
      rintro e w4 ⟨x, rfl, x0, x1, hD4, hG4⟩
      have hne4 : w3.heap.size ≠ B := by have := hD3.lt; omega
      obtain ⟨j, rfl⟩ := Int.eq_ofNat_of_zero_le x0
      obtain ⟨t, ht, htz⟩ : ∃ t : ByteArray, ([.string s2, .string s3] : List Value)[j]? = some (.string t) ∧ t.size ≤ 30 := by
        match j, x1 with
        | 0, _ => exact ⟨s2, rfl, by omega⟩
        | 1, _ => exact ⟨s3, rfl, by omega⟩
      have hc : w4.cell? ⟨w3.heap.size, j, none⟩ = some (.string t) := hG4.cell (lit_cellV [.string s2, .string s3] 9 w3 j _ ht) (by simpa using hne4)
      have hown4 := (hown3.alloc (.cells #[.string s2, .string s3] 9)).kept hG4 hne
      have hGr4 := gtrans hGr3 (gtrans (World.grownBy_alloc _ (.cells #[.string s2, .string s3] 9) _) hG4)
      have hbw4 := hGr4.size
      clear hD3 hown3 hG4 hGr3 ht
      go_wp2_with (at_builtin; refine wpList_append_own _ rfl _ _ 33 rfl w.heap.size 9 i0 (.string ByteArray.empty) 1 16 Try.underlying33 hi hz0 hz1 hz2 rfl (by decide) _ _ _ rfl (hown4.alloc _) ⟨w4.heap.size, 0, none⟩ 1 1 [.string t] rfl rfl ?c1 ?c2 ?c3 ?c4 ?c5 ?_)
      case c1 => exact one_new _ _ _
      case c2 => intro u hu; simp at hu; subst hu; rfl
      case c3 => unfold maxLen; omega
      case c4 => omega
      case c5 => simp; omega
      intro v' w5 hown5 hgrow _
      have hD5 : Dw B a len cap zs w5 (q3 + 1) := (hD4.alloc _).of fun k hk => hgrow.block k (by have := hD4.lt; simp; omega) (fun e => by have := (hown4.lt _ e.symm).1; omega)
      have hG5 := gtrans_own (gtrans hGr4 (World.grownBy_alloc _ _ _)) hgrow (fun j he => (hown4.lt _ he).1)
      obtain ⟨g5, cp5, rfl⟩ : ∃ g cp, v' = .slice (some ⟨g, 0, none⟩) (ss.length + 1) cp := by
        rcases hown5.2 with ⟨h, h0⟩ | ⟨g, cap, cur, h, _⟩
        · omega
        · exact ⟨_, _, h⟩
      have hown6 : w5.ownsRow w.heap.size 9 1 (.slice (some ⟨g5, 0, none⟩) (ss ++ [t]).length cp5) (ss ++ [t]).length ((ss ++ [t]).map Value.string) := by
        rw [List.length_append, List.map_append]
        exact hown5
      clear hown4 hgrow hGr4 hD4 hown5
      go_wp2
      go_roundw
      case rel =>
        refine ⟨k - 1, ss ++ [t], q3 + 1, g5, cp5, by rw [Int.ofNat_sub hlt]; rfl, by simp; omega, by simp, fun s hs => ?_, by omega, by simp; omega, hD5, hG5, hown6⟩
        rcases List.mem_append.1 hs with h | h
        · exact hsz s h
        · simp at h; subst h; exact htz
      case measure => simp [intOf]; omega
    · clear hne
      go_wp2
      go_ret
      exact ⟨ss, q, g, cp, rfl, by omega, hsz, q0, by omega, hD, hGr, hown⟩

theorem SR.news {w : World} {ad : Addr} {len : Nat} {ss : List ByteArray} (h : SR w (some ad) len ss) : ∀ j u, (ss.map Value.string)[j]? = some u → w.cell? (ad.add j) = some u := by
  intro j u hj
  have hjl : j < ss.length := by
    rcases Nat.lt_or_ge j ss.length with h' | h'
    · exact h'
    · rw [List.getElem?_eq_none (by simpa using h')] at hj; cases hj
  obtain ⟨b, off, he, _, hc⟩ := h.2 (by have := h.1; omega)
  cases he
  have hadr : (⟨b, off, none⟩ : Addr).add j = ⟨b, off + j, none⟩ := by unfold Addr.add; split <;> simp_all
  rw [hadr, hc j (by have := h.1; omega)]
  rw [List.getElem?_map, List.getElem?_eq_getElem hjl] at hj
  rw [List.getD_eq_getElem?_getD, List.getElem?_eq_getElem hjl]
  simpa using hj
/-- Drawing a list out of a code. -/
def DrawTexts (m L : Nat) (w : World) (e : Ending) (w' : World) : Prop :=
  ∃ (ss : List ByteArray) (g cp : Nat), e = .returned (.slice (some ⟨g, 0, none⟩) ss.length cp) ∧ ss.length ≤ m ∧ (∀ s ∈ ss, s.size ≤ L) ∧ Below w.heap.size w w' ∧
    w'.ownsRow w.heap.size 9 1 (.slice (some ⟨g, 0, none⟩) ss.length cp) ss.length (ss.map Value.string)
end Go.Proofs.Ytdgepneaeieogac
