/-
  What calls answer that hand back coins, made so that they can be marked.
-/
import Derived.Test.YtohameoomlehlabCn
import Derived.Test.YtohameoomlehlabCf
namespace Go.Proofs.Ytohameoomlehlab
open Go.RowKit

theorem OwnC.mk {base N : Nat} {w : World} {v : Value} {l : List Co} (h : OwnC base w v l) (hN : l.length = N) : ∃ a c g, v = .slice a N c ∧ Hid (CoL base w a N l) ∧ Hid (N ≤ c) ∧ base ≤ g ∧ Hid (0 < N → a = some ⟨g, 0, none⟩) ∧ Hid (0 < N → ∀ l', CB g N 0 l' w) := by
  obtain ⟨a, c, hv, hc, hl⟩ := h.coL
  rw [hN] at hv hc hl
  have hr := h.row
  rw [hN] at hr
  rcases hr.2 with ⟨he, h0⟩ | ⟨g, cap', cur, he, hg, _⟩
  · exact ⟨a, c, base, hv, Lib.hid hl, Lib.hid hc, Nat.le_refl _, Lib.hid fun h => absurd h (by omega), Lib.hid fun h => absurd h (by omega)⟩
  · rw [hv] at he
    cases he
    rw [hv] at hr
    exact ⟨_, c, g, hv, Lib.hid hl, Lib.hid hc, hg, Lib.hid fun _ => rfl, Lib.hid fun _ l' => CB.of_own l' hr⟩
theorem CoAA.mk {l : List Co} {N : Nat} (hN : l.length = N) {ok : Bool} {w w' : World} {e : Ending} (h : CoAA l ok w e w') : ∃ a c g, e = .returned (.tuple #[.slice a N c, .bool ok]) ∧ Hid (CoL w.heap.size w' a N l) ∧ Hid (N ≤ c) ∧ w.heap.size ≤ g ∧ Hid (0 < N → a = some ⟨g, 0, none⟩) ∧ Hid (0 < N → ∀ l', CB g N 0 l' w') ∧ Below w.heap.size w w' := by
  obtain ⟨v, he, hO, hb⟩ := h
  obtain ⟨a, c, g, hv, h1, h2, h3, h4, h5⟩ := hO.out.mk hN
  exact ⟨a, c, g, by rw [he, hv], h1, h2, h3, h4, h5, hb⟩
theorem CoSA.mk {l : List Co} {x : Co} {N : Nat} (hN : l.length = N) {ok : Bool} {w w' : World} {e : Ending} (h : CoSA l x ok w e w') : ∃ a c g, e = .returned (.tuple #[.slice a N c, .agg #[.int .i64 x.tx, .int .i64 x.out, .int .i64 x.amt, .string x.lock, .int .i64 x.ht, .bool x.rew], .bool ok]) ∧ Hid (CoL w.heap.size w' a N l) ∧ Hid (N ≤ c) ∧ w.heap.size ≤ g ∧ Hid (0 < N → a = some ⟨g, 0, none⟩) ∧ Hid (0 < N → ∀ l', CB g N 0 l' w') ∧ Below w.heap.size w w' := by
  obtain ⟨v, he, hO, hb⟩ := h
  obtain ⟨a, c, g, hv, h1, h2, h3, h4, h5⟩ := hO.out.mk hN
  exact ⟨a, c, g, by rw [he, hv], h1, h2, h3, h4, h5, hb⟩
theorem CoL.marks {g N : Nat} {a : Option Addr} {w : World} {lo : Nat} (ha : 0 < N → a = some ⟨g, 0, none⟩) (hB : 0 < N → CB g N N (marksCoin N) w) (hlo : lo ≤ g) : CoL lo w a N (marksCoin N) :=
  ⟨marksCoin_len N, fun h0 => by rw [ha h0]; exact ((hB h0).ol (marksCoin_len N) hlo).2 h0⟩
theorem CB.roomBelow {g N : Nat} {w w' : World} (h : 0 < N → ∀ l', CB g N 0 l' w) (hb : Below w.heap.size w w') : 0 < N → ∀ l', CB g N 0 l' w' := fun h0 l' => (h h0 l').below hb
theorem CB.roomKept {g N r : Nat} {w w' : World} (h : 0 < N → ∀ l', CB g N 0 l' w) (hg : w.grownBy w' (some r)) (hne : g ≠ r) : 0 < N → ∀ l', CB g N 0 l' w' := fun h0 l' => (h h0 l').kept (hg.block g (h h0 l').lt (by simpa using hne))
end Go.Proofs.Ytohameoomlehlab
