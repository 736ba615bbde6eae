/-
  Contracts of the program: slices.Clone at inputs, outputs and strings; clone.
-/
import Derived.Test.YtcbpdibkindnfaaTy
import Derived.Deep.RegionWith
import Derived.Laws.Cover3
import Derived.Test.YtcbpdibkindnfaaTq
namespace Go.Proofs.Ytcbpdibkindnfaa
open Go.RowKit

/-- One cell of a row that the call owns. -/
theorem own_setcell {w : World} {base k n g c j : Nat} {e : TypeId} {xs : List Value} (h : w.ownsRow base e k (.slice (some ⟨g, 0, none⟩) n c) n xs) (u : Value) : (w.setCell ⟨g, j, none⟩ u).ownsRow base e k (.slice (some ⟨g, 0, none⟩) n c) n (xs.set j u) := by
  obtain ⟨hl, h⟩ := h
  rcases h with ⟨he, _⟩ | ⟨g', cap, cur, he, hg, hh, hn, hm, hs, ht⟩
  · cases he
  · cases he
    refine ⟨by simpa using hl, .inr ⟨g, c, cur.setIfInBounds j u, rfl, hg, block_setCell hh j u, hn, hm, by simpa using hs, ?_⟩⟩
    rw [Array.toList_setIfInBounds, ← ht]
    exact List.take_set
theorem Tr.ics_set (l1 l2 : List (Tr.In × Value)) (x : Tr.In) (v u : Value) : (Tr.ics (l1 ++ (x, v) :: l2)).set (l1.length * 3 + 2) u = Tr.ics (l1 ++ (x, u) :: l2) := by
  rw [Tr.ics_append, Tr.ics_append, List.set_append_right _ _ (by rw [Tr.ics_length]; omega), Tr.ics_length]
  rw [show l1.length * 3 + 2 - l1.length * 3 = 2 by omega]
  rfl
/-- What a slice of inputs holds, with its witnesses' slices. -/
theorem InL.pairs {lo : Nat} {w : World} {ad : Addr} {n : Nat} {l : List Tr.In} (h : InL lo w (some ad) n l) : ∃ l0 : List (Tr.In × Value), l0.map Prod.fst = l ∧ AnyI w l0 ∧ ∀ j u, (Tr.ics l0)[j]? = some u → w.cell? (ad.add j) = some u := by
  by_cases h0 : 0 < n
  · obtain ⟨g, off, he, _, _, hc⟩ := h.2 h0
    cases he
    have each : ∀ j, ∃ v : Value, j < n → ∃ wa wc, v = .slice wa (Tr.inAt l j).wit.length wc ∧ SR w wa (Tr.inAt l j).wit.length (Tr.inAt l j).wit ∧ w.cell? ⟨g, off + j * 3, none⟩ = some (.int .i64 (Tr.inAt l j).tx) ∧ w.cell? ⟨g, off + j * 3 + 1, none⟩ = some (.int .i64 (Tr.inAt l j).out) ∧ w.cell? ⟨g, off + j * 3 + 2, none⟩ = some v := fun j => by
      by_cases hj : j < n
      · obtain ⟨wa, wc, q0, q1, q2, q3, _⟩ := hc j hj
        exact ⟨_, fun _ => ⟨wa, wc, rfl, q3, q0, q1, q2⟩⟩
      · exact ⟨.bool false, fun h => absurd h hj⟩
    obtain ⟨f, hf⟩ := Classical.skolem.1 each
    have hg : ∀ j (hj : j < l.length), ((List.range n).map fun j => (Tr.inAt l j, f j))[j]? = some (Tr.inAt l j, f j) := fun j hj => by
      rw [List.getElem?_map, List.getElem?_range (by rw [← h.1]; exact hj)]
      rfl
    refine ⟨(List.range n).map fun j => (Tr.inAt l j, f j), ?_, fun x hx => ?_, fun j u hu => ?_⟩
    · apply List.ext_getElem?
      intro j
      rw [List.getElem?_map, List.getElem?_map]
      by_cases hj : j < n
      · rw [List.getElem?_range hj, Tr.inAt_get (by rw [h.1]; exact hj)]
        rfl
      · rw [List.getElem?_eq_none (by simp; omega), List.getElem?_eq_none (by rw [h.1]; omega)]
        rfl
    · obtain ⟨j, hj, rfl⟩ := List.mem_map.1 hx
      rw [List.mem_range] at hj
      obtain ⟨wa, wc, he, hs, _⟩ := hf j hj
      exact ⟨wa, wc, he, hs⟩
    · have hjl : j < (Tr.ics ((List.range n).map fun j => (Tr.inAt l j, f j))).length := by
        rcases Nat.lt_or_ge j (Tr.ics ((List.range n).map fun j => (Tr.inAt l j, f j))).length with h | h
        · exact h
        · rw [List.getElem?_eq_none h] at hu; cases hu
      rw [Tr.ics_length] at hjl
      simp only [List.length_map, List.length_range] at hjl
      have hq : j / 3 < n := by omega
      obtain ⟨wa, wc, _, _, c0, c1, c2⟩ := hf (j / 3) hq
      have hl3 : j / 3 < ((List.range n).map fun j => (Tr.inAt l j, f j)).length := by simpa using hq
      obtain ⟨e0, e1, e2⟩ := Tr.ics_get _ (j / 3) hl3
      simp only [List.getElem_map, List.getElem_range] at e0 e1 e2
      have hadr : (⟨g, off, none⟩ : Addr).add j = ⟨g, off + j, none⟩ := by unfold Addr.add; split <;> simp_all
      rw [hadr]
      have hm : j % 3 = 0 ∨ j % 3 = 1 ∨ j % 3 = 2 := by omega
      rcases hm with hm | hm | hm
      · rw [show j = j / 3 * 3 by omega, e0] at hu
        cases hu
        rw [show off + j = off + j / 3 * 3 by omega]; exact c0
      · rw [show j = j / 3 * 3 + 1 by omega, e1] at hu
        cases hu
        rw [show off + j = off + j / 3 * 3 + 1 by omega]; exact c1
      · rw [show j = j / 3 * 3 + 2 by omega, e2] at hu
        cases hu
        rw [show off + j = off + j / 3 * 3 + 2 by omega]; exact c2
  · have hl : l = [] := List.eq_nil_of_length_eq_zero (by rw [h.1]; omega)
    subst hl
    exact ⟨[], rfl, (fun x hx => by cases hx), (fun j u hu => by simp [Tr.ics] at hu)⟩
theorem OuL.newsZ {lo : Nat} {w : World} {ad : Addr} {n : Nat} {l : List Tr.Out} (h : OuL lo w (some ad) n l) : ∀ j u, (Tr.ocs l)[j]? = some u → w.cell? (ad.add j) = some u := by
  intro j u hu
  have hjl : j < (Tr.ocs l).length := by
    rcases Nat.lt_or_ge j (Tr.ocs l).length with h | h
    · exact h
    · rw [List.getElem?_eq_none h] at hu; cases hu
  rw [Tr.ocs_length] at hjl
  have hq : j / 2 < l.length := by omega
  obtain ⟨g, off, he, _, _, hc⟩ := h.2 (by rw [← h.1]; omega)
  cases he
  obtain ⟨c0, c1⟩ := hc (j / 2) (by rw [← h.1]; exact hq)
  obtain ⟨e0, e1⟩ := Tr.ocs_get l (j / 2) hq
  have hadr : (⟨g, off, none⟩ : Addr).add j = ⟨g, off + j, none⟩ := by unfold Addr.add; split <;> simp_all
  rw [hadr]
  have hm : j % 2 = 0 ∨ j % 2 = 1 := by omega
  rcases hm with hm | hm
  · rw [show j = j / 2 * 2 by omega, e0] at hu
    cases hu
    rw [show off + j = off + j / 2 * 2 by omega]; exact c0
  · rw [show j = j / 2 * 2 + 1 by omega, e1] at hu
    cases hu
    rw [show off + j = off + j / 2 * 2 + 1 by omega]; exact c1
theorem SR.newsZ {w : World} {ad : Addr} {len : Nat} {zs : List ByteArray} (h : SR w (some ad) len zs) : ∀ j u, (zs.map Value.string)[j]? = some u → w.cell? (ad.add j) = some u := by
  intro j u hu
  rw [List.getElem?_map] at hu
  cases hz : zs[j]? with
  | none => rw [hz] at hu; cases hu
  | some s =>
    rw [hz] at hu
    cases hu
    have hj : j < zs.length := by
      rcases Nat.lt_or_ge j zs.length with h | h
      · exact h
      · rw [List.getElem?_eq_none h] at hz; cases hz
    obtain ⟨g, off, he, _, hc⟩ := h.2 (by rw [← h.1]; omega)
    cases he
    have := hc j (by rw [← h.1]; exact hj)
    rw [List.getD_eq_getElem?_getD, hz] at this
    have hadr : (⟨g, off, none⟩ : Addr).add j = ⟨g, off + j, none⟩ := by unfold Addr.add; split <;> simp_all
    rw [hadr]
    exact this
theorem ics_oneZ (l : List (Tr.In × Value)) (h : ∀ x ∈ l, x.2.oneCell' = true) : ∀ u ∈ Tr.ics l, u.oneCell' = true := by
  induction l with
  | nil => intro u hu; cases hu
  | cons x l ih =>
    intro u hu
    simp only [Tr.ics, List.mem_cons] at hu
    rcases hu with rfl | rfl | rfl | hu
    · rfl
    · rfl
    · exact h x (by simp)
    · exact ih (fun y hy => h y (by simp [hy])) u hu
theorem ocs_oneZ (l : List Tr.Out) : ∀ u ∈ Tr.ocs l, u.oneCell' = true := by
  induction l with
  | nil => intro u hu; cases hu
  | cons x l ih =>
    intro u hu
    simp only [Tr.ocs, List.mem_cons] at hu
    rcases hu with rfl | rfl | hu
    · rfl
    · rfl
    · exact ih u hu

theorem eqlnil_in (a : Option Addr) (l c : Nat) (W : World) : (binOp .eql 23 (.slice a l c) (.slice none 0 0)).run Try.prog W = .ok (.bool a.isNone) W := by
  simp only [binOp]
  simp [run_equal_slice_nil W 23 45 a l c Try.underlying23]
set_option maxRecDepth 100000 in
set_option maxHeartbeats 3200000 in
theorem clone_in (ad : Addr) (n c : Nat) (xs : List Value) (w : World) (hl : xs.length = n * 3) (hx : ∀ j u, xs[j]? = some u → w.cell? (ad.add j) = some u) (h1 : ∀ u ∈ xs, u.oneCell' = true) (hn : n ≤ 1048576) :
    Calls Try.prog 70 #[.slice (some ad) n c] w fun e w' => ∃ a2 c2, e = .returned (.slice a2 n c2) ∧ w'.ownsRow w.heap.size 45 3 (.slice a2 n c2) n xs ∧ Below w.heap.size w w' := by
  obtain ⟨i0, hi, hz0, hz1, hz2⟩ := info_parts info_in13
  have he := eqlnil_in (some ad) n c
  simp only [Option.isNone_some] at he
  have HN : Hid (∀ j u, xs[j]? = some u → (w.alloc (.cells #[] 45)).cell? (ad.add j) = some u) := Lib.hid fun j u hu => by
    have h := hx j u hu
    exact (World.grownBy_alloc w _ none).cell h (by simp)
  have hown := World.ownsRow_made (e := 45) (size := 3) (base := w.heap.size) w #[] 0 (Nat.le_refl _) (by decide) rfl
  clear hx
  go_enter Try.func70, Try.ntmps70
  go_wp2_with (at_builtin; refine wpList_append_own _ rfl _ _ 23 rfl w.heap.size 45 i0 (.agg #[.int .i64 0, .int .i64 0, .slice none 0 0]) 3 40 Try.underlying23 hi hz0 hz1 hz2 rfl (by decide) _ _ _ rfl hown ad n c xs rfl hl HN.out h1 ?c3 ?c4 ?c5 ?_)
  case c3 => unfold maxLen; omega
  case c4 => omega
  case c5 => simp
  intro v' w5 hown5 hgrow5 _
  have hbel := ((Below.refl w.heap.size w).alloc (Nat.le_refl _) (.cells #[] 45)).grown hgrow5 (by simp) (fun q hq => (hown.lt _ hq).1)
  obtain ⟨a6, cp6, rfl⟩ := own_shape13 hown5
  clear hown hgrow5
  go_wp2
  go_ret
  exact ⟨_, cp6, rfl, hown5, hbel⟩
set_option maxRecDepth 100000 in
set_option maxHeartbeats 3200000 in
theorem clonenil_in (n c : Nat) (w : World) :
    Calls Try.prog 70 #[.slice none n c] w fun e w' => e = .returned (.slice none 0 0) ∧ w' = w := by
  have he := eqlnil_in none n c
  simp only [Option.isNone_none] at he
  go_enter Try.func70, Try.ntmps70
  go_wp2
  go_ret
  exact ⟨rfl, rfl⟩

theorem eqlnil_out (a : Option Addr) (l c : Nat) (W : World) : (binOp .eql 24 (.slice a l c) (.slice none 0 0)).run Try.prog W = .ok (.bool a.isNone) W := by
  simp only [binOp]
  simp [run_equal_slice_nil W 24 66 a l c Try.underlying24]
set_option maxRecDepth 100000 in
set_option maxHeartbeats 3200000 in
theorem clone_out (ad : Addr) (n c : Nat) (xs : List Value) (w : World) (hl : xs.length = n * 2) (hx : ∀ j u, xs[j]? = some u → w.cell? (ad.add j) = some u) (h1 : ∀ u ∈ xs, u.oneCell' = true) (hn : n ≤ 1048576) :
    Calls Try.prog 71 #[.slice (some ad) n c] w fun e w' => ∃ a2 c2, e = .returned (.slice a2 n c2) ∧ w'.ownsRow w.heap.size 66 2 (.slice a2 n c2) n xs ∧ Below w.heap.size w w' := by
  obtain ⟨i0, hi, hz0, hz1, hz2⟩ := info_parts info_out13
  have he := eqlnil_out (some ad) n c
  simp only [Option.isNone_some] at he
  have HN : Hid (∀ j u, xs[j]? = some u → (w.alloc (.cells #[] 66)).cell? (ad.add j) = some u) := Lib.hid fun j u hu => by
    have h := hx j u hu
    exact (World.grownBy_alloc w _ none).cell h (by simp)
  have hown := World.ownsRow_made (e := 66) (size := 2) (base := w.heap.size) w #[] 0 (Nat.le_refl _) (by decide) rfl
  clear hx
  go_enter Try.func71, Try.ntmps71
  go_wp2_with (at_builtin; refine wpList_append_own _ rfl _ _ 24 rfl w.heap.size 66 i0 (.agg #[.int .i64 0, .string ⟨#[]⟩]) 2 24 Try.underlying24 hi hz0 hz1 hz2 rfl (by decide) _ _ _ rfl hown ad n c xs rfl hl HN.out h1 ?c3 ?c4 ?c5 ?_)
  case c3 => unfold maxLen; omega
  case c4 => omega
  case c5 => simp
  intro v' w5 hown5 hgrow5 _
  have hbel := ((Below.refl w.heap.size w).alloc (Nat.le_refl _) (.cells #[] 66)).grown hgrow5 (by simp) (fun q hq => (hown.lt _ hq).1)
  obtain ⟨a6, cp6, rfl⟩ := own_shape13 hown5
  clear hown hgrow5
  go_wp2
  go_ret
  exact ⟨_, cp6, rfl, hown5, hbel⟩
set_option maxRecDepth 100000 in
set_option maxHeartbeats 3200000 in
theorem clonenil_out (n c : Nat) (w : World) :
    Calls Try.prog 71 #[.slice none n c] w fun e w' => e = .returned (.slice none 0 0) ∧ w' = w := by
  have he := eqlnil_out none n c
  simp only [Option.isNone_none] at he
  go_enter Try.func71, Try.ntmps71
  go_wp2
  go_ret
  exact ⟨rfl, rfl⟩

theorem info_strZ : (Try.prog.info? 9).map (fun i => (i.zero, i.size, i.bytes)) = some (some (.string ⟨#[]⟩), 1, 16) := by kernel_rfl
theorem eqlnil_str (a : Option Addr) (l c : Nat) (W : World) : (binOp .eql 35 (.slice a l c) (.slice none 0 0)).run Try.prog W = .ok (.bool a.isNone) W := by
  simp only [binOp]
  simp [run_equal_slice_nil W 35 9 a l c Try.underlying35]
set_option maxRecDepth 100000 in
set_option maxHeartbeats 3200000 in
theorem clone_str (ad : Addr) (n c : Nat) (xs : List Value) (w : World) (hl : xs.length = n * 1) (hx : ∀ j u, xs[j]? = some u → w.cell? (ad.add j) = some u) (h1 : ∀ u ∈ xs, u.oneCell' = true) (hn : n ≤ 1048576) :
    Calls Try.prog 41 #[.slice (some ad) n c] w fun e w' => ∃ a2 c2, e = .returned (.slice a2 n c2) ∧ w'.ownsRow w.heap.size 9 1 (.slice a2 n c2) n xs ∧ Below w.heap.size w w' := by
  obtain ⟨i0, hi, hz0, hz1, hz2⟩ := info_parts info_strZ
  have he := eqlnil_str (some ad) n c
  simp only [Option.isNone_some] at he
  have HN : Hid (∀ j u, xs[j]? = some u → (w.alloc (.cells #[] 9)).cell? (ad.add j) = some u) := Lib.hid fun j u hu => by
    have h := hx j u hu
    exact (World.grownBy_alloc w _ none).cell h (by simp)
  have hown := World.ownsRow_made (e := 9) (size := 1) (base := w.heap.size) w #[] 0 (Nat.le_refl _) (by decide) rfl
  clear hx
  go_enter Try.func41, Try.ntmps41
  go_wp2_with (at_builtin; refine wpList_append_own _ rfl _ _ 35 rfl w.heap.size 9 i0 (.string ⟨#[]⟩) 1 16 Try.underlying35 hi hz0 hz1 hz2 rfl (by decide) _ _ _ rfl hown ad n c xs rfl hl HN.out h1 ?c3 ?c4 ?c5 ?_)
  case c3 => unfold maxLen; omega
  case c4 => omega
  case c5 => simp
  intro v' w5 hown5 hgrow5 _
  have hbel := ((Below.refl w.heap.size w).alloc (Nat.le_refl _) (.cells #[] 9)).grown hgrow5 (by simp) (fun q hq => (hown.lt _ hq).1)
  obtain ⟨a6, cp6, rfl⟩ := own_shape13 hown5
  clear hown hgrow5
  go_wp2
  go_ret
  exact ⟨_, cp6, rfl, hown5, hbel⟩
set_option maxRecDepth 100000 in
set_option maxHeartbeats 3200000 in
theorem clonenil_str (n c : Nat) (w : World) :
    Calls Try.prog 41 #[.slice none n c] w fun e w' => e = .returned (.slice none 0 0) ∧ w' = w := by
  have he := eqlnil_str none n c
  simp only [Option.isNone_none] at he
  go_enter Try.func41, Try.ntmps41
  go_wp2
  go_ret
  exact ⟨rfl, rfl⟩

theorem clone_strings (a : Option Addr) (n c : Nat) (ss : List ByteArray) (w : World) (h : SR w a n ss) (hn : n ≤ 1048576) :
    Calls Try.prog 41 #[.slice a n c] w fun e w' => ∃ a2 c2, e = .returned (.slice a2 n c2) ∧ w'.ownsRow w.heap.size 9 1 (.slice a2 n c2) n (ss.map Value.string) ∧ Below w.heap.size w w' := by
  have hl := h.1
  cases a with
  | some ad => exact clone_str ad n c (ss.map Value.string) w (by simp [hl]) h.newsZ (by intro u hu; obtain ⟨s, _, rfl⟩ := List.mem_map.1 hu; rfl) hn
  | none =>
    have hn0 : n = 0 := by
      rcases Nat.eq_zero_or_pos n with h0 | h0
      · exact h0
      · obtain ⟨_, _, he, _⟩ := h.2 h0; cases he
    subst hn0
    have : ss = [] := List.eq_nil_of_length_eq_zero hl
    subst this
    refine (clonenil_str 0 c w).mono ?_
    rintro e w' ⟨rfl, rfl⟩
    exact ⟨none, 0, rfl, World.ownsRow_nil _ _ _ _, Below.refl _ _⟩
theorem clone_outs (lo : Nat) (a : Option Addr) (n c : Nat) (l : List Tr.Out) (w : World) (h : OuL lo w a n l) (hn : n ≤ 1048576) :
    Calls Try.prog 71 #[.slice a n c] w fun e w' => ∃ a2 c2, e = .returned (.slice a2 n c2) ∧ OwnO w.heap.size w' (.slice a2 n c2) l ∧ Below w.heap.size w w' := by
  have hl := h.1
  unfold OwnO
  rw [hl]
  cases a with
  | some ad => exact clone_out ad n c (Tr.ocs l) w (by rw [Tr.ocs_length, hl]) h.newsZ (ocs_oneZ l) hn
  | none =>
    have hn0 : n = 0 := by
      rcases Nat.eq_zero_or_pos n with h0 | h0
      · exact h0
      · obtain ⟨_, _, he, _⟩ := h.2 h0; cases he
    subst hn0
    have : l = [] := List.eq_nil_of_length_eq_zero hl
    subst this
    refine (clonenil_out 0 c w).mono ?_
    rintro e w' ⟨rfl, rfl⟩
    exact ⟨none, 0, rfl, World.ownsRow_nil _ _ _ _, Below.refl _ _⟩
theorem clone_ins (lo : Nat) (a : Option Addr) (n c : Nat) (l : List Tr.In) (w0 w : World) (h : InL lo w0 a n l) (hw : Below w0.heap.size w0 w) (hn : n ≤ 1048576) :
    Calls Try.prog 70 #[.slice a n c] w fun e w' => ∃ a2 c2 l0, e = .returned (.slice a2 n c2) ∧ l0.map Prod.fst = l ∧ AnyI w0 l0 ∧ w'.ownsRow w.heap.size 45 3 (.slice a2 n c2) n (Tr.ics l0) ∧ Below w.heap.size w w' := by
  have hl := h.1
  cases a with
  | some ad =>
    obtain ⟨l0, h1, h2, h3⟩ := h.pairs
    have hl0 : l0.length = n := by rw [← hl, ← h1, List.length_map]
    have h4 : ∀ j u, (Tr.ics l0)[j]? = some u → w.cell? (ad.add j) = some u := fun j u hu =>
      (⟨hw.os, hw.tape, hw.output, hw.size, fun k hk _ => hw.block k hk⟩ : w0.grownBy w none).cell (h3 j u hu) (by simp)
    refine (clone_in ad n c (Tr.ics l0) w (by rw [Tr.ics_length, hl0]) h4 (ics_oneZ l0 (fun x hx => by obtain ⟨wa, wc, he, _⟩ := h2 x hx; rw [he]; rfl)) hn).mono ?_
    rintro e w' ⟨a2, c2, he, ho, hb⟩
    exact ⟨a2, c2, l0, he, h1, h2, ho, hb⟩
  | none =>
    have hn0 : n = 0 := by
      rcases Nat.eq_zero_or_pos n with h0 | h0
      · exact h0
      · obtain ⟨_, _, he, _⟩ := h.2 h0; cases he
    subst hn0
    have : l = [] := List.eq_nil_of_length_eq_zero hl
    subst this
    refine (clonenil_in 0 c w).mono ?_
    rintro e w' ⟨rfl, rfl⟩
    exact ⟨none, 0, [], rfl, rfl, (fun x hx => by cases hx), World.ownsRow_nil _ _ _ _, Below.refl _ _⟩
theorem own_at {w : World} {base k n g c j : Nat} {e : TypeId} {xs : List Value} {u : Value} (h : w.ownsRow base e k (.slice (some ⟨g, 0, none⟩) n c) n xs) (hj : xs[j]? = some u) : w.cell? ⟨g, j, none⟩ = some u ∧ w.frozen? ⟨g, j, none⟩ = false := by
  have h1 := h.cells (g := g) rfl _ _ hj
  have hadr : (⟨g, 0, none⟩ : Addr).add j = ⟨g, j, none⟩ := by unfold Addr.add; split <;> simp_all
  rw [hadr] at h1
  refine ⟨h1, ?_⟩
  rcases h.2 with ⟨he, _⟩ | ⟨g', cap, cur, he, _, hh, _⟩
  · cases he
  · cases he
    exact Lib.frozen_of_heap hh j
theorem own_bkZ {w : World} {base k n g c : Nat} {e : TypeId} {xs : List Value} (h : w.ownsRow base e k (.slice (some ⟨g, 0, none⟩) n c) n xs) : (∃ cs, Bk g e cs w) ∧ base ≤ g := by
  rcases h.2 with ⟨he, _⟩ | ⟨g', cap, cur, he, hg, hh, _⟩
  · cases he
  · cases he
    exact ⟨⟨cur, ⟨hh⟩⟩, hg⟩
theorem own_posZ {w : World} {base k n c : Nat} {e : TypeId} {a : Option Addr} {xs : List Value} (h : w.ownsRow base e k (.slice a n c) n xs) (hn : 0 < n) : ∃ g, a = some ⟨g, 0, none⟩ := by
  rcases h.2 with ⟨_, h0⟩ | ⟨g, cap, cur, he, _⟩
  · omega
  · cases he
    exact ⟨g, rfl⟩

theorem any_cons {l1 l2 : List (Tr.In × Value)} {x : Tr.In × Value} {w : World} (h : AnyI w (l1 ++ x :: l2)) : ∃ wa wc, x.2 = .slice wa x.1.wit.length wc ∧ SR w wa x.1.wit.length x.1.wit := h x (by simp)
set_option maxRecDepth 100000 in
set_option maxHeartbeats 3200000 in
theorem txclone_any (lo : Nat) (a : Option Addr) (n c : Nat) (b : Option Addr) (m d : Nat) (t : Tr) (w : World) (h : TrR lo w a n b m t) (hn : n ≤ 1048576) (hm : m ≤ 1048576) (hz : ∀ x ∈ t.ins, x.wit.length ≤ 1048576) :
    Calls Try.prog 40 #[.agg #[.slice a n c, .slice b m d, .int .i64 t.after, .string t.note]] w (CopyQ n m t w) := by
  have HL := Lib.hid h.ins.1
  have HM := Lib.hid h.outs.1
  have HH := Lib.hid h
  have HZ := Lib.hid hz
  have vT0 : Bk w.heap.size 26 #[.slice a n c, .slice b m d, .int .i64 t.after, .string t.note] ((w.alloc (.cells #[.slice a n c, .slice b m d, .int .i64 t.after, .string t.note] 26 (0, 0))).alloc (.cells #[.slice none 0 0, .slice none 0 0, .int .i64 0, .string ⟨#[]⟩] 26 (0, 0))) := (Bk.new _ _ _).alloc _
  have vT1 : Bk (w.heap.size + 1) 26 #[.slice none 0 0, .slice none 0 0, .int .i64 0, .string ⟨#[]⟩] ((w.alloc (.cells #[.slice a n c, .slice b m d, .int .i64 t.after, .string t.note] 26 (0, 0))).alloc (.cells #[.slice none 0 0, .slice none 0 0, .int .i64 0, .string ⟨#[]⟩] 26 (0, 0))) := Bk.new' _ _ _ _ (by simp)
  have hb0 : Below w.heap.size w ((w.alloc (.cells #[.slice a n c, .slice b m d, .int .i64 t.after, .string t.note] 26 (0, 0))).alloc (.cells #[.slice none 0 0, .slice none 0 0, .int .i64 0, .string ⟨#[]⟩] 26 (0, 0))) := ((Below.refl _ _).alloc (Nat.le_refl _) _).alloc (by simp) _
  have hcI := clone_ins lo a n c t.ins w _ h.ins hb0 hn
  obtain ⟨d0, d1, d2, d3⟩ := Bk.c4 vT0
  clear h hz
  unfold CopyQ
  go_enter Try.func40, Try.ntmps40
  go_wp2_with fail
  refine hcI.mono ?_
  rintro e w1 ⟨a2, c2, l0, rfl, hf0, hany0, hown, hx⟩
  have hb1 := hb0.trans (hx.mono hb0.size)
  have u0 := vT0.below hx
  have u1 := vT1.below hx
  have hown1 := ownsRow_base hown hb0.size
  have v0 := u0.set 0 (.slice a2 n c2)
  have v1 := u1.oset w.heap.size 0 (.slice a2 n c2) (by omega)
  have HO0 := Lib.hid (own_grownQ hown1 u0 (by decide) (grownBy_set w1 w.heap.size 0 (.slice a2 n c2)))
  have hb2 := hb1.setCell (p := ⟨w.heap.size, 0, none⟩) (Nat.le_refl _) (.slice a2 n c2)
  have HF0 := Lib.hid hf0
  have HA0 := Lib.hid hany0
  obtain ⟨e0, e1, e2, e3⟩ := Bk.c4 u0
  obtain ⟨f0, f1, f2, f3⟩ := Bk.f4 u0
  obtain ⟨g0, g1, g2, g3⟩ := Bk.c4 v0
  clear hx hcI d0 d1 d2 d3 vT0 vT1 hown hown1 hb1 hb0 u0 u1 hf0 hany0
  go_wp2
  clear e0 e1 e2 e3 f0 f1 f2 f3 g0 g1 g2 g3
  go_loopw [3, 11] (fun _ iv wr => ∃ k : Nat, k ≤ n ∧ iv = .int .i64 (k : Int) ∧ (∃ l1 l2 : List (Tr.In × Value), l1.length = k ∧ Hid (l1.map Prod.fst ++ l2.map Prod.fst = t.ins) ∧ Hid (AnyI w l2) ∧ Hid (∀ x ∈ l1, OwnW w.heap.size wr x) ∧ Hid (DistW l1) ∧ Hid (wr.ownsRow w.heap.size 45 3 (.slice a2 n c2) n (Tr.ics (l1 ++ l2)))) ∧ Bk w.heap.size 26 #[.slice a2 n c2, .slice b m d, .int .i64 t.after, .string t.note] wr ∧ Bk (w.heap.size + 1) 26 #[.slice none 0 0, .slice none 0 0, .int .i64 0, .string ⟨#[]⟩] wr ∧ Below w.heap.size w wr)
    (fun _ iv _ => n - (intOf iv).toNat)
  case atStart => exact ⟨0, by omega, rfl, ⟨[], l0, rfl, HF0, HA0, Lib.hid (by intro x hx; cases hx), Lib.hid DistW.nil, HO0⟩, v0, v1, hb2⟩
  case round =>
    obtain ⟨k, hk, rfl, ⟨l1, l2, hl1, hfst, hany, how, hdi, hro⟩, vB, vR, hbel⟩ := hrel
    clear v0 v1 hb2 HO0 HF0 HA0
    by_cases hlt : k < n
    · obtain ⟨g, rfl⟩ := own_posZ hro.out (by omega)
      have hlen : (l1 ++ l2).length = n := by
        have h1 := congrArg List.length hfst.out
        rw [HL.out] at h1
        simpa using h1
      obtain ⟨⟨x, v⟩, l3, rfl⟩ : ∃ y l3, l2 = y :: l3 := by
        cases l2 with
        | nil => simp at hlen; omega
        | cons y l3 => exact ⟨y, l3, rfl⟩
      obtain ⟨wa, wc, hv, hs⟩ := any_cons (l1 := []) hany.out
      simp only at hv hs
      subst hv
      have hxm : x ∈ t.ins := by rw [← hfst.out]; simp
      have hzk := HZ.out x hxm
      have hat : (Tr.ics (l1 ++ (x, Value.slice wa x.wit.length wc) :: l3))[k * 3 + 2]? = some (.slice wa x.wit.length wc) := by
        have h1 := (Tr.ics_get (l1 ++ (x, Value.slice wa x.wit.length wc) :: l3) k (by rw [hlen]; exact hlt)).2.2
        rw [h1]
        simp [List.getElem_append_right, hl1]
      obtain ⟨tx, out, wit⟩ := x
      simp only at hs hzk hat
      obtain ⟨r, hr⟩ : ∃ r, Hid (wit.length = r) := ⟨_, Lib.hid rfl⟩
      rw [hr.out] at hs hzk hat
      have HRO : Hid (wr.ownsRow w.heap.size 45 3 (.slice (some ⟨g, 0, none⟩) n c2) n (Tr.ics (l1 ++ (⟨tx, out, wit⟩, Value.slice wa r wc) :: l3))) := Lib.hid (by have := hro.out; simp only [hr.out] at this; exact this)
      have HFS : Hid (l1.map Prod.fst ++ ((⟨tx, out, wit⟩ : Tr.In) :: l3.map Prod.fst) = t.ins) := hfst
      have HAN : Hid (AnyI w l3) := Lib.hid fun y hy => hany.out y (by simp [hy])
      clear hro hfst hany
      have hcs := clone_strings wa r wc wit wr.drew (hs.below hbel.drew) hzk
      obtain ⟨q0, _⟩ := own_at (own_drewQ HRO.out) hat
      obtain ⟨d0, d1, d2, d3⟩ := Bk.c4 vB.drew
      have HIS := Lib.hid (Tr.ics_set l1 l3 ⟨tx, out, wit⟩ (.slice wa r wc))
      rw [hl1] at HIS
      clear hs hzk hxm hlen
      go_wp2
      go_region_with (first | (go_at_call 41; refine hcs.mono ?_; rintro e w5 ⟨a5, c5, rfl, ho5, hx5⟩; have ha5 := own_at (own_belQ (own_drewQ HRO.out) hx5) hat; obtain ⟨q5, f5⟩ := ha5; obtain ⟨j0, j1, j2, j3⟩ := Bk.c4 (vB.drew.below hx5)))
      all_goals
        obtain ⟨⟨cs5, hbk5⟩, hg5⟩ := own_bkZ (own_belQ (own_drewQ HRO.out) hx5)
        have hgr := grownBy_set w5 g (k * 3 + 2) (.slice a5 r c5)
        have hne0 : w.heap.size ≠ g := fun h => by have h1 := hbk5.held; rw [← h, (vB.drew.below hx5).held] at h1; cases h1
        have hne1 : w.heap.size + 1 ≠ g := fun h => by have h1 := hbk5.held; rw [← h, (vR.drew.below hx5).held] at h1; cases h1
        have q1 := (vB.drew.below hx5).oset g (k * 3 + 2) (.slice a5 r c5) hne0
        have q2 := (vR.drew.below hx5).oset g (k * 3 + 2) (.slice a5 r c5) hne1
        have HRO2 : Hid ((w5.setCell ⟨g, k * 3 + 2, none⟩ (.slice a5 r c5)).ownsRow w.heap.size 45 3 (.slice (some ⟨g, 0, none⟩) n c2) n (Tr.ics ((l1 ++ [((⟨tx, out, wit⟩ : Tr.In), Value.slice a5 r c5)]) ++ l3))) := Lib.hid (by
          have h1 := own_setcell (j := k * 3 + 2) (own_belQ (own_drewQ HRO.out) hx5) (.slice a5 r c5)
          rw [HIS.out] at h1
          simpa using h1)
        have HW2 : Hid (∀ y ∈ l1 ++ [((⟨tx, out, wit⟩ : Tr.In), Value.slice a5 r c5)], OwnW w.heap.size (w5.setCell ⟨g, k * 3 + 2, none⟩ (.slice a5 r c5)) y) := Lib.hid fun y hy => by
          rcases List.mem_append.1 hy with hy | hy
          · have h1 := how.out y hy
            exact ⟨h1.1, own_grownQ (own_belQ (own_drewQ h1.2) hx5) hbk5 (by decide) hgr⟩
          · rw [List.mem_singleton] at hy
            subst hy
            refine ⟨⟨a5, c5, by simp only; rw [hr.out]⟩, ?_⟩
            simp only
            rw [hr.out]
            exact own_grownQ (ownsRow_base ho5 hbel.drew.size) hbk5 (by decide) hgr
        have HD2 : Hid (DistW (l1 ++ [((⟨tx, out, wit⟩ : Tr.In), Value.slice a5 r c5)])) := Lib.hid (hdi.out.push fun y hy => own_later (how.out y hy).2 ho5 (Nat.le_refl _))
        have HF2 : Hid ((l1 ++ [((⟨tx, out, wit⟩ : Tr.In), Value.slice a5 r c5)]).map Prod.fst ++ l3.map Prod.fst = t.ins) := Lib.hid (by rw [← HFS.out]; simp)
        have hb6 := (hbel.drew.trans (hx5.mono hbel.drew.size)).setCell (p := ⟨g, k * 3 + 2, none⟩) hg5 (.slice a5 r c5)
        have hll : (l1 ++ [((⟨tx, out, wit⟩ : Tr.In), Value.slice a5 r c5)]).length = k + 1 := by rw [List.length_append, hl1]; rfl
        clear hgr hbk5 ho5 hx5 HRO HFS how hdi vB vR hbel q0 q5 f5 d0 d1 d2 d3 j0 j1 j2 j3 hcs hat hl1 HIS
        go_wp2
        go_roundw
        case rel => exact ⟨k + 1, by omega, by simp, ⟨_, l3, hll, HF2, HAN, HW2, HD2, HRO2⟩, q1, q2, hb6⟩
        case measure => simp [intOf]; omega
    · have hl2 : l2 = [] := by
        have h1 := congrArg List.length hfst.out
        rw [HL.out] at h1
        simp at h1
        exact List.eq_nil_of_length_eq_zero (by omega)
      subst hl2
      have HF : Hid (l1.map Prod.fst = t.ins) := Lib.hid (by have := hfst.out; simpa using this)
      have HLN : Hid (l1.length = n) := Lib.hid (by omega)
      have HOI : Hid (OwnI w.heap.size wr (.slice a2 n c2) l1) := Lib.hid ⟨by have := hro.out; rw [List.append_nil] at this; rw [HLN.out]; exact this, how.out⟩
      have hcO := clone_outs lo b m d t.outs wr (HH.out.outs.below hbel) hm
      obtain ⟨d0, d1, d2, d3⟩ := Bk.c4 vB
      clear hfst hany how hro hl1
      go_wp2_with fail
      refine hcO.mono ?_
      rintro e w5 ⟨b2, e2, rfl, ho5, hx5⟩
      have u0 := vB.below hx5
      have u1 := vR.below hx5
      have hb5 := hbel.trans (hx5.mono hbel.size)
      have HOI5 := Lib.hid (HOI.out.below13 hx5)
      have HOO5 : Hid (OwnO w.heap.size w5 (.slice b2 m e2) t.outs) := Lib.hid (ownsRow_base (show World.ownsRow _ _ 66 2 (.slice b2 m e2) t.outs.length (Tr.ocs t.outs) from ho5) hbel.size)
      have s0 := u0.set 1 (.slice b2 m e2)
      have s1 := u1.oset w.heap.size 1 (.slice b2 m e2) (by omega)
      have HOI6 := Lib.hid (HOI5.out.set13 (i := 1) (u := .slice b2 m e2) u0)
      have HOO6 := Lib.hid (OwnO.set13 HOO5.out (i := 1) (u := .slice b2 m e2) u0)
      have hb6 := hb5.setCell (p := ⟨w.heap.size, 1, none⟩) (Nat.le_refl _) (.slice b2 m e2)
      have HR := Lib.hid (s1.store4 (.slice a2 n c2) (.slice b2 m e2) (.int .i64 t.after) (.string t.note))
      have HB := Lib.hid (below_store4 hb6 (w.heap.size + 1) (by omega) (.slice a2 n c2) (.slice b2 m e2) (.int .i64 t.after) (.string t.note))
      have HOI9 := Lib.hid ((((HOI6.out.set13 (i := 0) (u := .slice a2 n c2) s1).set13 (i := 1) (u := .slice b2 m e2) (s1.set 0 _)).set13 (i := 2) (u := .int .i64 t.after) ((s1.set 0 _).set 1 _)).set13 (i := 3) (u := .string t.note) (((s1.set 0 _).set 1 _).set 2 _))
      have HOO9 := Lib.hid (OwnO.set13 (OwnO.set13 (OwnO.set13 (OwnO.set13 HOO6.out (i := 0) (u := .slice a2 n c2) s1) (i := 1) (u := .slice b2 m e2) (s1.set 0 _)) (i := 2) (u := .int .i64 t.after) ((s1.set 0 _).set 1 _)) (i := 3) (u := .string t.note) (((s1.set 0 _).set 1 _).set 2 _))
      obtain ⟨e0', e1', e2', e3'⟩ := Bk.c4 u0
      obtain ⟨f0', f1', f2', f3'⟩ := Bk.f4 u0
      obtain ⟨x0, x1, x2, x3⟩ := Bk.c4 s0
      obtain ⟨y0, y1, y2, y3⟩ := Bk.c4 s1
      obtain ⟨z0, z1, z2, z3⟩ := Bk.f4 s1
      clear d0 d1 d2 d3 hcO hx5 ho5 HOI5 HOO5 HOI HOI6 HOO6 hb6 hb5 hbel vB vR u0 u1 s0 s1
      go_wp2
      refine bodyPost_ret (results_cell_row (P := Try.prog) rfl _ _ (w.heap.size + 1) 26 _ (0, 0) _ rfl HR.out.held Try.underlying26 rfl (by kernel_rfl)) rfl ?_
      exact ⟨a2, c2, b2, e2, l1, rfl, HF, HOI9.out, HOO9.out, hdi, HB.out⟩

end Go.Proofs.Ytcbpdibkindnfaa
