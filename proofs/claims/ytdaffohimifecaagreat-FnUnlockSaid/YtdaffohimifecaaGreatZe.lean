/-
  What the laws of chapter 11 ask besides.
-/
import Derived.Test.YtdaffohimifecaaGreatZd
import Derived.Test.YtdaffohimifecaaGreatWo
import Derived.Test.YtdaffohimifecaaGreatWi
namespace Go.Proofs.YtdaffohimifecaaGreat
open Go.RowKit

theorem OL.news {w : World} {ad : Addr} {len : Nat} {l : List Jo} (h : OL w (some ad) len l) : ∀ j u, (Jo.cells l)[j]? = some u → w.cell? (ad.add j) = some u := by
  intro j u hj
  have hjl : j < l.length * 4 := by
    rcases Nat.lt_or_ge j (l.length * 4) with h' | h'
    · exact h'
    · rw [List.getElem?_eq_none (by rw [Jo.cells_length]; exact h')] at hj; cases hj
  obtain ⟨b, off, he, _, hc⟩ := h.2 (by have := h.1; omega)
  cases he
  have hadr : (⟨b, off, none⟩ : Addr).add j = ⟨b, off + j, none⟩ := by unfold Addr.add; split <;> simp_all
  rw [hadr]
  obtain ⟨k, r, rfl, hr⟩ : ∃ k r, j = k * 4 + r ∧ r < 4 := ⟨j / 4, j % 4, by omega, by omega⟩
  have hk : k < l.length := by omega
  obtain ⟨c0, c1, c2, c3⟩ := hc k (by have := h.1; omega)
  obtain ⟨e0, e1, e2, e3⟩ := Jo.cells_get l k hk
  match r, hr with
  | 0, _ =>
    rw [Nat.add_zero] at hj ⊢
    rw [e0] at hj; cases hj; exact c0
  | 1, _ => rw [e1] at hj; cases hj; rw [← Nat.add_assoc]; exact c1
  | 2, _ => rw [e2] at hj; cases hj; rw [← Nat.add_assoc]; exact c2
  | 3, _ => rw [e3] at hj; cases hj; rw [← Nat.add_assoc]; exact c3
theorem Jo.cells_one (l : List Jo) : ∀ u ∈ Jo.cells l, u.oneCell' = true := by
  induction l with
  | nil => intro u hu; cases hu
  | cons x l ih =>
    intro u hu
    simp only [Jo.cells, List.mem_cons] at hu
    rcases hu with rfl | rfl | rfl | rfl | h
    · rfl
    · rfl
    · rfl
    · rfl
    · exact ih u h
/-- The bytes of a list that came in. -/
theorem IsRow.at10 {w : World} {a : Option Addr} {len cap : Nat} {zs : List Int} (h : IsRow .u8 w a len cap zs) (h0 : 0 < len) :
    ∃ b off, a = some ⟨b, off, none⟩ ∧ b < w.heap.size ∧ (∀ i, i < len → w.cell? ⟨b, off + i, none⟩ = some (.int .u8 (zs.getD i 0))) ∧ ∀ i, 0 ≤ zs.getD i 0 ∧ zs.getD i 0 < 256 := by
  have hB : ∀ i, 0 ≤ zs.getD i 0 ∧ zs.getD i 0 < 256 := by
    intro i
    rcases h with ⟨_, _, _, rfl⟩ | ⟨x, _, _, _, _, _, hw⟩
    · simp
    · by_cases hi : i < zs.length
      · rw [List.getD_eq_getElem?_getD, List.getElem?_eq_getElem hi]
        exact wf_u8 (hw _ (List.getElem_mem hi))
      · rw [List.getD_eq_getElem?_getD, List.getElem?_eq_none (by omega)]; simp
  rcases h with ⟨_, h, _, _⟩ | ⟨x, rfl, hle, _, hz, hc, _⟩
  · omega
  · obtain ⟨b, off, rfl, hcc⟩ := ints_at hc (by omega)
    exact ⟨b, off, rfl, block_lt (hcc 0 (by omega)), fun i hi => hcc i (by omega), hB⟩
/-- Drawing operations out of a code: a block of them. -/
def DrawOpsG (w : World) (e : Ending) (w' : World) : Prop := ∃ (g n cap2 : Nat) (l : List Jo), e = .returned (.slice (some ⟨g, 0, none⟩) n cap2) ∧ OL w' (some ⟨g, 0, none⟩) n l ∧ n ≤ 100 ∧ Below w.heap.size w w'
set_option maxRecDepth 100000 in
set_option maxHeartbeats 3200000 in
theorem drawScriptOk_own (a : Option Addr) (len cap : Nat) (zs : List Int) (w : World) (hr : IsRow .u8 w a len cap zs) (hlm : len ≤ 1048576) :
    Calls Tryz.prog 17 #[.slice a len cap] w (DrawOpsG w) := by
  go_enter Tryz.func17, Tryz.ntmps17
  go_wp2_with fail
  refine (l6Open_any a len cap zs _ hr hlm).mono ?_
  rintro e w1 ⟨B, a', l', c', zs', rfl, hB, hD, hb1⟩
  clear hr
  go_wp2_with fail
  refine (l91Ops_own B a' l' c' zs' _ _ (by omega) hD).mono ?_
  rintro e w2 ⟨g, n, cap2, l, q, rfl, _, hol, hn, _, _, _, hG2⟩
  have hbel := Below.grown hb1 hG2 hb1.size (fun j hj => by cases hj; exact hB)
  go_wp2
  go_ret
  exact ⟨g, n, cap2, l, rfl, hol, hn, hbel⟩
/-- What a run of either side hands back, its list and its code abstracted. -/
def RunP (n : Nat) (L : List ByteArray) (cd : Int) (w : World) (e : Ending) (w' : World) : Prop :=
  ∃ a c, e = .returned (.tuple #[.slice a n c, .int .i64 cd]) ∧ SR w' a n L ∧ Below w.heap.size w w' ∧ (a = none → c = 0)
theorem RunP.of {E : Vm} {l : List Jo} {ss L : List ByteArray} {cd : Int} {n : Nat} {w w' : World} {e : Ending} (hl : (Vm.run E l ss).1 = L) (hc : (Vm.run E l ss).2 = cd) (hn : L.length = n) (h : RsP E l ss w e w') : RunP n L cd w e w' := by
  unfold RsP at h
  rw [hl, hc, hn] at h
  obtain ⟨a, c, he, hown, hb⟩ := h
  refine ⟨a, c, he, (SR.own hown).2, hb, fun h0 => ?_⟩
  subst h0
  rcases hown.2 with ⟨h, _⟩ | ⟨g, cap, cur, h, _⟩
  · cases h; rfl
  · cases h
theorem implRun {E : Vm} {l : List Jo} {ss L : List ByteArray} {cd : Int} {n len m cap c : Nat} {a b : Option Addr} (hl : (Vm.run E l ss).1 = L) (hc : (Vm.run E l ss).2 = cd) (hn : L.length = n) (h1 : len ≤ 1048576) (h2 : m ≤ 1048576) (hz : ∀ s ∈ ss, s.size ≤ 1048576) (hbn : b = none → c = 0) (ht : E.t.size ≤ 1048576) :
    Hid (∀ W, OL W a len l → SR W b m ss → Calls Tryz.prog 10 #[.slice a len cap, .slice b m c, .agg #[.string E.t, .int .i64 E.h, .int .i64 E.a]] W (RunP n L cd W)) :=
  Lib.hid fun W ho hs => (implRunScript_any a b len cap m c l ss E W ho (by omega) hs (by omega) (fun s h => by have := hz s h; omega) hbn ht).mono fun _ _ h => RunP.of hl hc hn h
theorem specRun {E : Vm} {l : List Jo} {ss L : List ByteArray} {cd : Int} {n len m cap c : Nat} {a b : Option Addr} (hl : (Vm.run E l ss).1 = L) (hc : (Vm.run E l ss).2 = cd) (hn : L.length = n) (h1 : len ≤ 1048576) (h2 : m ≤ 1048576) (hz : ∀ s ∈ ss, s.size ≤ 1048576) (ht : E.t.size ≤ 1048576) :
    Hid (∀ W, OL W a len l → SR W b m ss → Calls Tryz.prog 11 #[.slice a len cap, .slice b m c, .agg #[.string E.t, .int .i64 E.h, .int .i64 E.a]] W (RunP n L cd W)) :=
  Lib.hid fun W ho hs => (specRunScript_any a b len cap m c l ss E W ho (by omega) hs (by omega) (fun s h => by have := hz s h; omega) ht).mono fun _ _ h => RunP.of hl hc hn h
end Go.Proofs.YtdaffohimifecaaGreat
