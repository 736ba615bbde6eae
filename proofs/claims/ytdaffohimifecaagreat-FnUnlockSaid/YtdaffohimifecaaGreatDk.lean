/-
  Drawing lists of strings: l91Texts.
-/
import Derived.Test.YtdaffohimifecaaGreatDs
import Derived.Test.YtdaffohimifecaaGreatSl
namespace Go.Proofs.YtdaffohimifecaaGreat
open Go.RowKit

/-- What a drawing function does that hands back a list: at most m strings of at most L bytes each; the place goes on by at most c. -/
def TextsR (B : Nat) (a : Option Addr) (len cap : Nat) (zs : List Int) (p c : Nat) (m L : Nat) (w : World) (e : Ending) (w' : World) : Prop :=
  ∃ (ss : List ByteArray) (q g cp : Nat), e = .returned (.slice (some ⟨g, 0, none⟩) ss.length cp) ∧ ss.length ≤ m ∧ (∀ s ∈ ss, s.size ≤ L) ∧ p ≤ q ∧ q ≤ p + c ∧ Dw B a len cap zs w' q ∧ w.grownBy w' (some B) ∧
    w'.ownsRow w.heap.size 9 1 (.slice (some ⟨g, 0, none⟩) ss.length cp) ss.length (ss.map Value.string)

theorem SR.news {w : World} {ad : Addr} {len : Nat} {ss : List ByteArray} (h : SR w (some ad) len ss) : ∀ j u, (ss.map Value.string)[j]? = some u → w.cell? (ad.add j) = some u := by
  intro j u hj
  have hjl : j < ss.length := by
    rcases Nat.lt_or_ge j ss.length with h' | h'
    · exact h'
    · rw [List.getElem?_eq_none (by simpa using h')] at hj; cases hj
  obtain ⟨b, off, he, _, hc⟩ := h.2 (by have := h.1; omega)
  cases he
  have hadr : (⟨b, off, none⟩ : Addr).add j = ⟨b, off + j, none⟩ := by unfold Addr.add; split <;> simp_all
  rw [hadr, hc j (by have := h.1; omega)]
  rw [List.getElem?_map, List.getElem?_eq_getElem hjl] at hj
  rw [List.getD_eq_getElem?_getD, List.getElem?_eq_getElem hjl]
  simpa using hj
/-- Drawing a list out of a code. -/
def DrawTexts (m L : Nat) (w : World) (e : Ending) (w' : World) : Prop :=
  ∃ (ss : List ByteArray) (g cp : Nat), e = .returned (.slice (some ⟨g, 0, none⟩) ss.length cp) ∧ ss.length ≤ m ∧ (∀ s ∈ ss, s.size ≤ L) ∧ Below w.heap.size w w' ∧
    w'.ownsRow w.heap.size 9 1 (.slice (some ⟨g, 0, none⟩) ss.length cp) ss.length (ss.map Value.string)
end Go.Proofs.YtdaffohimifecaaGreat
