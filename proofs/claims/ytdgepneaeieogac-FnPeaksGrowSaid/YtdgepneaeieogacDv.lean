/-
  Drawing lists, leaves and proofs.
-/
import Derived.Test.YtdgepneaeieogacDk
import Derived.Test.YtdgepneaeieogacMt
import Derived.Test.YtdgepneaeieogacSm
namespace Go.Proofs.Ytdgepneaeieogac
open Go.RowKit

theorem Dw.below {B : Nat} {a : Option Addr} {len cap : Nat} {zs : List Int} {w w' : World} {p : Nat} (h : Dw B a len cap zs w p) (hb : Below w.heap.size w w') : Dw B a len cap zs w' p :=
  h.of fun k hk => hb.block k (by have := h.lt; omega)
theorem grown_below {w a b : World} {row : Option Nat} (h : w.grownBy a row) (hb : Below a.heap.size a b) : w.grownBy b row :=
  gtrans h ⟨hb.os, hb.tape, hb.output, hb.size, fun j hj _ => hb.block j hj⟩
theorem below_grown {w a b : World} {row : Option Nat} {base : Nat} (h : Below base w a) (hg : a.grownBy b row) (hle : base ≤ a.heap.size) (hr : ∀ j, row = some j → base ≤ j) : Below base w b := Below.grown h hg hle hr
theorem getD_setS {ss : List ByteArray} {i j : Nat} {t : ByteArray} (hi : i < ss.length) : (ss.set i t).getD j ByteArray.empty = if j = i then t else ss.getD j ByteArray.empty := by
  rw [List.getD_eq_getElem?_getD, List.getD_eq_getElem?_getD, List.getElem?_set]
  by_cases h : j = i
  · subst h; simp [hi]
  · rw [if_neg (fun h' => h h'.symm), if_neg h]
theorem getD_setI {ss : List Int} {i j : Nat} {t : Int} (hi : i < ss.length) : (ss.set i t).getD j 0 = if j = i then t else ss.getD j 0 := by
  rw [List.getD_eq_getElem?_getD, List.getD_eq_getElem?_getD, List.getElem?_set]
  by_cases h : j = i
  · subst h; simp [hi]
  · rw [if_neg (fun h' => h h'.symm), if_neg h]
theorem SR.set {w : World} {g n i : Nat} {ss : List ByteArray} (h : SR w (some ⟨g, 0, none⟩) n ss) (hi : i < n) (t : ByteArray) : SR (w.setCell ⟨g, i, none⟩ (.string t)) (some ⟨g, 0, none⟩) n (ss.set i t) := by
  have hl := h.1
  refine ⟨by rw [List.length_set, hl], fun h0 => ?_⟩
  obtain ⟨b, off, he, hb, hc⟩ := h.2 h0
  cases he
  refine ⟨g, 0, rfl, by simpa [World.setCell] using hb, fun j hj => ?_⟩
  rw [getD_setS (by omega), Nat.zero_add]
  by_cases hji : j = i
  · subst hji
    rw [if_pos rfl]
    have := hc j hj
    rw [Nat.zero_add] at this
    exact World.cell?_setCell_same _ _ _ this
  · rw [if_neg hji]
    have := hc j hj
    rw [Nat.zero_add] at this
    exact (World.cell?_setCell_other _ _ _ _ (by intro e; cases e; exact hji rfl)).trans this
theorem IR.set {w : World} {g n i : Nat} {ss : List Int} (h : IR w (some ⟨g, 0, none⟩) n ss) (hi : i < n) (t : Int) : IR (w.setCell ⟨g, i, none⟩ (.int .i64 t)) (some ⟨g, 0, none⟩) n (ss.set i t) := by
  have hl := h.1
  refine ⟨by rw [List.length_set, hl], fun h0 => ?_⟩
  obtain ⟨b, off, he, hb, hc⟩ := h.2 h0
  cases he
  refine ⟨g, 0, rfl, by simpa [World.setCell] using hb, fun j hj => ?_⟩
  rw [getD_setI (by omega), Nat.zero_add]
  by_cases hji : j = i
  · subst hji
    rw [if_pos rfl]
    have := hc j hj
    rw [Nat.zero_add] at this
    exact World.cell?_setCell_same _ _ _ this
  · rw [if_neg hji]
    have := hc j hj
    rw [Nat.zero_add] at this
    exact (World.cell?_setCell_other _ _ _ _ (by intro e; cases e; exact hji rfl)).trans this
theorem own_capV {w : World} {base n cap : Nat} {e : TypeId} {a : Option Addr} {xs : List Value} (h : w.ownsRow base e 1 (.slice a n cap) n xs) : n ≤ cap ∧ cap ≤ 9223372036854775807 := by
  rcases h.2 with ⟨h, h0⟩ | ⟨g', cap', cur, h, _, _, h3, h4, _⟩
  · cases h
    omega
  · cases h
    unfold maxLen at h4
    omega

theorem own_keep {w w' : World} {base n : Nat} {e : TypeId} {v : Value} {xs : List Value} (h : w.ownsRow base e 1 v n xs) (hb : Below w.heap.size w w') : w'.ownsRow base e 1 v n xs :=
  h.kept (row := none) ⟨hb.os, hb.tape, hb.output, hb.size, fun q hq _ => hb.block q hq⟩ (by cases v.ownBlock with | none => exact .inl rfl | some k => exact .inr (by simp))
theorem results_tmp4 {fn : Func} {t u v x : Tmp} (h : fn.results = #[.tmp t, .tmp u, .tmp v, .tmp x]) (tmps : Array Value) (P : Program) (w : World) :
    (results fn tmps).run P w = .ok (.tuple #[tmps.getD t undef, tmps.getD u undef, tmps.getD v undef, tmps.getD x undef]) w := by
  simp [results, h]
theorem results_tmp5 {fn : Func} {t u v x y : Tmp} (h : fn.results = #[.tmp t, .tmp u, .tmp v, .tmp x, .tmp y]) (tmps : Array Value) (P : Program) (w : World) :
    (results fn tmps).run P w = .ok (.tuple #[tmps.getD t undef, tmps.getD u undef, tmps.getD v undef, tmps.getD x undef, tmps.getD y undef]) w := by
  simp [results, h]
/-- What l93Tree draws: a list, an index, a leaf, a proof. -/
def TreeR (B : Nat) (a : Option Addr) (len cap : Nat) (zs : List Int) (p : Nat) (w : World) (e : Ending) (w' : World) : Prop :=
  ∃ (ss : List ByteArray) (g cp : Nat) (i : Int) (s : ByteArray) (g' cp' : Nat) (pr : List Int) (q : Nat),
    e = .returned (.tuple #[.slice (some ⟨g, 0, none⟩) ss.length cp, .int .i64 i, .string s, .slice (some ⟨g', 0, none⟩) pr.length cp']) ∧
    1 ≤ ss.length ∧ ss.length ≤ 13 ∧ (∀ t ∈ ss, t.size ≤ 40) ∧ s.size ≤ 40 ∧ -1 ≤ i ∧ i ≤ 14 ∧ pr.length ≤ 70 ∧
    SR w' (some ⟨g, 0, none⟩) ss.length ss ∧ (ss.length ≤ cp ∧ cp ≤ 9223372036854775807) ∧ IR w' (some ⟨g', 0, none⟩) pr.length pr ∧ (pr.length ≤ cp' ∧ cp' ≤ 9223372036854775807) ∧
    p ≤ q ∧ q ≤ p + 1000 ∧ Dw B a len cap zs w' q ∧ w.grownBy w' (some B) ∧ g ≠ B ∧ g' ≠ B

set_option maxRecDepth 100000 in
set_option maxHeartbeats 3200000 in
theorem l93Tree_any (B : Nat) (a : Option Addr) (len cap : Nat) (zs : List Int) (p : Nat) (w : World) (hp : p ≤ 600000000) (hD0 : Dw B a len cap zs w p) :
    Calls Try.prog 43 #[.pointer (some ⟨B, 0, none⟩)] w (TreeR B a len cap zs p w) := by
  obtain ⟨i0, hi, hz0, hz1, hz2⟩ := info_parts info_str
  obtain ⟨j0, ji, jz0, jz1, jz2⟩ := info_parts info_int
  have hBw := hD0.lt
  go_enter Try.func43, Try.ntmps43
  go_wp2_with fail
  refine (l91Texts_any B a len cap zs p 12 _ (by omega) (by omega) hD0).mono ?_
  rintro e w1 ⟨ss, q1, g1, cp1, rfl, n1, z1, p1, r1, hD1, hG1, hown1⟩
  have hne1 := own_ne hown1 hBw
  clear hD0
  go_wp2_with fail
  refine (l91Word_any B a len cap zs _ _ (by omega) hD1).mono ?_
  rintro e w2 ⟨s2, q2, rfl, z2, p2, r2, hD2, hG2⟩
  have hown2 := hown1.kept hG2 hne1
  have hGr2 := gtrans hG1 hG2
  have hle2 := hGr2.size
  clear hD1 hown1 hG1 hG2 hne1
  go_wp2_with (at_builtin; refine wpList_append_own _ rfl _ _ 33 rfl w.heap.size 9 i0 (.string ByteArray.empty) 1 16 Try.underlying33 hi hz0 hz1 hz2 rfl (by decide) _ _ _ rfl (hown2.alloc _) ⟨w2.heap.size, 0, none⟩ 1 1 [.string s2] rfl rfl ?c1 ?c2 ?c3 ?c4 ?c5 ?_)
  case c1 => exact one_new _ _ _
  case c2 => intro u hu; simp at hu; subst hu; rfl
  case c3 => unfold maxLen; omega
  case c4 => omega
  case c5 => simp; omega
  intro v' w3 hown3 hgrow3 _
  have hD3 : Dw B a len cap zs w3 q2 := (hD2.alloc _).of fun k hk => hgrow3.block k (by have := hD2.lt; simp; omega) (fun e => by have := (hown2.lt _ e.symm).1; omega)
  have hG3 := gtrans_own (gtrans hGr2 (World.grownBy_alloc _ _ _)) hgrow3 (fun j he => (hown2.lt _ he).1)
  obtain ⟨s3, HS3⟩ : ∃ l, Hid (ss ++ [s2] = l) := ⟨_, Lib.hid rfl⟩
  have hl3 : s3.length = ss.length + 1 := by rw [← HS3.out]; simp
  have hz3 : ∀ t ∈ s3, t.size ≤ 30 := by
    rw [← HS3.out]
    intro t ht
    rcases List.mem_append.1 ht with h | h
    · exact z1 t h
    · simp at h; subst h; omega
  have hown3' : w3.ownsRow w.heap.size 9 1 v' s3.length (s3.map Value.string) := by
    rw [hl3, ← HS3.out, List.map_append]
    exact hown3
  obtain ⟨g3, cp3, rfl⟩ : ∃ g cp, v' = .slice (some ⟨g, 0, none⟩) s3.length cp := by
    rcases hown3'.2 with ⟨h, h0⟩ | ⟨g, cap, cur, h, _⟩
    · omega
    · exact ⟨_, _, h⟩
  have hg3 : w.heap.size ≤ g3 := (hown3'.lt g3 rfl).1
  obtain ⟨hc3, hd3⟩ := own_capV hown3'
  have hne3 := own_ne hown3' hBw
  obtain ⟨n, hn⟩ : ∃ n, s3.length = n := ⟨_, rfl⟩
  have HN3 := Lib.hid hn
  rw [hn] at hown3' hc3 hne3 hl3
  have hn13 : n ≤ 13 := by omega
  have hn1 : 1 ≤ n := by omega
  rw [hn]
  clear hD2 hown2 hown3 hgrow3 hGr2 hl3 z1 z2 n1 hn
  go_wp2_with fail
  refine (pick_any B a len cap zs _ _ _ (by omega) (by omega) hD3).mono ?_
  rintro e w4 ⟨v4, rfl, x4, y4, hD4, hG4⟩
  have hown4 := hown3'.kept hG4 hne3
  have hGr4 := gtrans hG3 hG4
  obtain ⟨i, rfl⟩ := Int.eq_ofNat_of_zero_le x4
  clear hD3 hown3' hG3 hG4
  have hS4 := (SR.own hown4).2
  have hci : w4.cell? ⟨g3, i, none⟩ = some (.string (s3.getD i ByteArray.empty)) := by
    obtain ⟨b', off', he, _, hc⟩ := hS4.2 (by omega)
    cases he
    have := hc i (by omega)
    rw [Nat.zero_add] at this
    exact this
  have hzi := hz3 _ (getD_mem (ss := s3) (i := i) (by have := HN3.out; omega))
  obtain ⟨lf, HLF⟩ : ∃ t, Hid (s3.getD i ByteArray.empty = t) := ⟨_, Lib.hid rfl⟩
  rw [HLF.out] at hci hzi
  have HZ3 := Lib.hid hz3
  have HZ3' : Hid (∀ s ∈ s3, s.size ≤ 4611686018427387904) := Lib.hid fun s h => by have := hz3 s h; omega
  have HP := Lib.hid (l3Proof_any n g3 0 cp3 i s3 w4 hS4 hn1 (by omega) (by omega) hc3 hd3 HZ3'.out)
  clear hS4 hz3
  go_wp2_with fail
  refine HP.out.mono ?_
  rintro e w5 ⟨g5, cp5, rfl, hb5, hown5⟩
  have hD5 := hD4.below hb5
  have hG5 := grown_below hGr4 hb5
  have hrow5 := own_keep hown4 hb5
  have hle4 := hGr4.size
  have hbl := hb5.size
  have hg5 : w4.heap.size ≤ g5 := (hown5.lt g5 rfl).1
  have hPl : (Me.proof s3 i).length ≤ 13 := by
    have h1 := (Me.told_proof n s3 i HN3.out (by omega)).2
    have h2 := Me.steps_le n i
    omega
  obtain ⟨P, HPP⟩ : ∃ P, Hid (Me.proof s3 i = P) := ⟨_, Lib.hid rfl⟩
  rw [HPP.out] at hown5 hPl
  rw [HPP.out]
  have hgg : g5 ≠ g3 := by have := (hown4.lt g3 rfl).2; omega
  clear hD4 hGr4 hown4 hb5 hci HP
  go_wp2_with fail
  refine (pick_any B a len cap zs _ 8 _ (by omega) (by omega) hD5).mono ?_
  rintro e w6 ⟨x, rfl, x6, y6, hD6, hG6⟩
  have hrow6 := hrow5.kept hG6 hne3
  have hown6 := hown5.kept hG6 (own_ne hown5 (by omega))
  have hGr6 := gtrans hG5 hG6
  have hS6 := (SR.own hrow6).2
  have hI6 := (IR.own hown6).2
  obtain ⟨hcp5, hdp5⟩ := own_capV hown6
  clear hD5 hG5 hrow5 hown5 hG6 hbl
  have hx : x = 0 ∨ x = 1 ∨ x = 2 ∨ x = 3 ∨ x = 4 ∨ x = 5 ∨ x = 6 ∨ x = 7 := by omega
  have HD6 := Lib.hid hD6
  have HFIN : Hid (∀ (W : World) (ss' : List ByteArray) (i' : Int) (s' : ByteArray) (g' c' : Nat) (pr : List Int) (q : Nat), ss'.length = n → (∀ t ∈ ss', t.size ≤ 40) → s'.size ≤ 40 → -1 ≤ i' → i' ≤ 14 → pr.length ≤ 70 → SR W (some ⟨g3, 0, none⟩) n ss' → IR W (some ⟨g', 0, none⟩) pr.length pr → (pr.length ≤ c' ∧ c' ≤ 9223372036854775807) →
      p ≤ q → q ≤ p + 1000 → Dw B a len cap zs W q → w.grownBy W (some B) → g' ≠ B → TreeR B a len cap zs p w (.returned (.tuple #[.slice (some ⟨g3, 0, none⟩) n cp3, .int .i64 i', .string s', .slice (some ⟨g', 0, none⟩) pr.length c'])) W) := Lib.hid fun W ss' i' s' g' c' pr q h1 h2 h3 h4 h5 h6 h7 h8 h9 h10 h11 h12 h13 h14 =>
    ⟨ss', g3, cp3, i', s', g', c', pr, q, by rw [h1], by omega, by omega, h2, h3, h4, h5, h6, by rw [h1]; exact h7, ⟨by omega, hd3⟩, h8, h9, h10, h11, h12, h13, by omega, h14⟩
  have HZ40 : Hid (∀ t ∈ s3, t.size ≤ 40) := Lib.hid fun t h => by have := HZ3.out t h; omega
  have HNL := Lib.hid HN3.out
  rcases hx with rfl | rfl | rfl | rfl | rfl | rfl | rfl | rfl
  case inl =>
    go_wp2_with fail
    refine (l91Word_any B a len cap zs _ _ (by omega) hD6).mono ?_
    rintro e w7 ⟨s7, q7, rfl, z7, p7, r7, hD7, hG7⟩
    have hS7 := (SR.own (hrow6.kept hG7 hne3)).2
    have hI7 := (IR.own (hown6.kept hG7 (own_ne hown6 (by omega)))).2
    have hGr7 := gtrans hGr6 hG7
    go_wp2
    (try simp only [Exit.inBlock, Exit.then])
    refine bodyPost_ret (results_tmp4 rfl _ _ _) rfl ?_
    exact HFIN.out _ s3 _ s7 g5 cp5 P _ HNL.out HZ40.out (by omega) (by omega) (by omega) (by omega) hS7 hI7 ⟨hcp5, hdp5⟩ (by omega) (by omega) hD7 hGr7 (by omega)
  case inr.inl =>
    go_wp2_with fail
    refine (pick_any B a len cap zs _ _ _ (by omega) (by omega) hD6).mono ?_
    rintro e w7 ⟨v7, rfl, x7, y7, hD7, hG7⟩
    have hS7 := (SR.own (hrow6.kept hG7 hne3)).2
    have hI7 := (IR.own (hown6.kept hG7 (own_ne hown6 (by omega)))).2
    have hGr7 := gtrans hGr6 hG7
    go_wp2
    (try simp only [Exit.inBlock, Exit.then])
    refine bodyPost_ret (results_tmp4 rfl _ _ _) rfl ?_
    exact HFIN.out _ s3 _ lf g5 cp5 P _ HNL.out HZ40.out (by omega) (by omega) (by omega) (by omega) hS7 hI7 ⟨hcp5, hdp5⟩ (by omega) (by omega) hD7 hGr7 (by omega)
  case inr.inr.inl =>
    go_wp2_with fail
    refine (l91Digest_any B a len cap zs _ _ (by omega) hD6).mono ?_
    rintro e w7 ⟨v7, q7, rfl, x7, y7, p7, r7, hD7, hG7⟩
    have hS7 := (SR.own (hrow6.kept hG7 hne3)).2
    have hown7 := hown6.kept hG7 (own_ne hown6 (by omega))
    have hGr7 := gtrans hGr6 hG7
    have hown7' := ownsRow_base hown7 hle4
    have hgl := hGr7.size
    have hPv : (P ++ [v7]).length = P.length + 1 := by simp
    have HPV := Lib.hid hPv
    clear hPv hown7
    go_wp2_with (at_builtin; refine wpList_append_own _ rfl _ _ 23 rfl w.heap.size 3 j0 (.int .i64 0) 1 8 Try.underlying23 ji jz0 jz1 jz2 rfl (by decide) _ _ _ rfl (hown7'.alloc _) ⟨w7.heap.size, 0, none⟩ 1 1 [.int .i64 v7] rfl rfl ?c1 ?c2 ?c3 ?c4 ?c5 ?_)
    case c1 => exact one_new _ _ _
    case c2 => intro u hu; simp at hu; subst hu; rfl
    case c3 => unfold maxLen; omega
    case c4 => omega
    case c5 => simp; omega
    intro v' w8 hown8 hgrow8 _
    have hD8 : Dw B a len cap zs w8 q7 := (hD7.alloc _).of fun k hk => hgrow8.block k (by have := hD7.lt; simp; omega) (fun e => by have := (hown7'.lt _ e.symm).1; omega)
    have hG8 := gtrans_own (gtrans hGr7 (World.grownBy_alloc _ _ _)) hgrow8 (fun j he => (hown7'.lt _ he).1)
    have hS8 : SR w8 (some ⟨g3, 0, none⟩) n s3 := (hS7.alloc (.cells #[.int .i64 v7] 3)).grown hgrow8 (fun _ b off he => by cases he; simp [Value.ownBlock]; exact fun h => hgg h.symm)
    have hown9 : w8.ownsRow w.heap.size 3 1 v' (P ++ [v7]).length ((P ++ [v7]).map (Value.int .i64)) := by
      rw [HPV.out, List.map_append]
      exact hown8
    obtain ⟨g9, cp9, rfl⟩ : ∃ g cp, v' = .slice (some ⟨g, 0, none⟩) (P ++ [v7]).length cp := by
      rcases hown9.2 with ⟨h, h0⟩ | ⟨g, cap, cur, h, _⟩
      · have := HPV.out; omega
      · exact ⟨_, _, h⟩
    have hI9 := (IR.own hown9).2
    have hcc9 := own_capV hown9
    have hg9 := (hown9.lt g9 rfl).1
    obtain ⟨P9, HP9⟩ : ∃ l, Hid (P ++ [v7] = l) := ⟨_, Lib.hid rfl⟩
    have hp9 : P9.length ≤ 70 := by rw [← HP9.out]; have := HPV.out; omega
    rw [HP9.out] at hI9 hcc9
    rw [HP9.out]
    clear hown8 hown9 hgrow8 hown7'
    go_wp2
    (try simp only [Exit.inBlock, Exit.then])
    refine bodyPost_ret (results_tmp4 rfl _ _ _) rfl ?_
    exact HFIN.out _ s3 _ lf g9 cp9 P9 _ HNL.out HZ40.out (by omega) (by omega) (by omega) hp9 hS8 hI9 hcc9 (by omega) (by omega) hD8 hG8 (by omega)
  case inr.inr.inr.inl =>
    by_cases hP0 : P.length = 0
    · have HP0 := Lib.hid hP0
      have hP0' : ¬ (0 : Int) < (P.length : Int) := by omega
      clear hP0
      go_wp2
      (try simp only [Exit.inBlock, Exit.then])
      refine bodyPost_ret (results_tmp4 rfl _ _ _) rfl ?_
      exact HFIN.out _ s3 _ lf g5 cp5 P _ HNL.out HZ40.out (by omega) (by omega) (by omega) (by omega) hS6 hI6 ⟨hcp5, hdp5⟩ (by omega) (by omega) hD6 hGr6 (by omega)
    · have hPp : (0 : Int) < (P.length : Int) := by omega
      go_wp2_with fail
      refine (pick_any B a len cap zs _ _ _ (by omega) (by omega) hD6).mono ?_
      rintro e w7 ⟨v7, rfl, x7, y7, hD7, hG7⟩
      have hrow7 := hrow6.kept hG7 hne3
      have hown7 := hown6.kept hG7 (own_ne hown6 (by omega))
      have hGr7 := gtrans hGr6 hG7
      obtain ⟨j, rfl⟩ := Int.eq_ofNat_of_zero_le x7
      go_wp2_with fail
      refine (l91Num_any B a len cap zs _ _ (by omega) hD7).mono ?_
      rintro e w8 ⟨v8, q8, rfl, x8, y8, p8, r8, hD8, hG8⟩
      have hrow8 := hrow7.kept hG8 hne3
      have hown8 := hown7.kept hG8 (own_ne hown7 (by omega))
      have hGr8 := gtrans hGr7 hG8
      have hS8 := (SR.own hrow8).2
      obtain ⟨gc, hgc1, hgc2, _, hgc4⟩ := own_cellsN hown8 (Nat.le_of_lt (Nat.lt_of_le_of_lt (hown8.lt g5 rfl).1 (hown8.lt g5 rfl).2))
      obtain rfl : gc = g5 := by have := hgc1 (by omega); cases this; rfl
      have hf : w8.frozen? ⟨gc, j, none⟩ = false := (hgc4 j (by omega)).2
      obtain ⟨u0, hu0⟩ : ∃ u, w8.cell? ⟨gc, j, none⟩ = some u := Option.isSome_iff_exists.1 (hgc4 j (by omega)).1
      have hI9 := (IR.own hown8).2.set (i := j) (by omega) v8
      have hS9 : SR (w8.setCell ⟨gc, j, none⟩ (.int .i64 v8)) (some ⟨g3, 0, none⟩) n s3 := hS8.grown (grownBy_set' w8 gc j (.int .i64 v8)) (fun _ b off he => by cases he; simp; exact fun h => hgg h.symm)
      have hD9 : Dw B a len cap zs (w8.setCell ⟨gc, j, none⟩ (.int .i64 v8)) q8 := hD8.of fun k hk => Below.heap_setCell _ _ _ _ (by simp; omega)
      have hG9 := gtrans_own hGr8 (grownBy_set' w8 gc j (.int .i64 v8)) (fun j he => by cases he; omega)
      obtain ⟨P9, HP9⟩ : ∃ l, Hid (P.set j v8 = l) := ⟨_, Lib.hid rfl⟩
      have hpl9 : P9.length = P.length := by rw [← HP9.out, List.length_set]
      have HPL9 := Lib.hid hpl9
      have HF9 := HFIN.out _ s3 (i : Int) lf gc cp5 P9 q8 HNL.out HZ40.out (by omega) (by omega) (by omega) (by omega) hS9 (by rw [hpl9, ← HP9.out]; exact hI9) (by rw [hpl9]; exact ⟨hcp5, hdp5⟩) (by omega) (by omega) hD9 hG9 (by omega)
      rw [hpl9] at HF9
      have HF := Lib.hid HF9
      clear hpl9 HF9 hI9 hS9 hD9 hG9 hgc1 hgc2 hgc4 hrow7 hrow8 hown7 hown8 hS8
      go_wp2
      (try simp only [Exit.inBlock, Exit.then])
      refine bodyPost_ret (results_tmp4 rfl _ _ _) rfl ?_
      exact HF.out
  case inr.inr.inr.inr.inl =>
    go_wp2_with fail
    refine (l91Word_any B a len cap zs _ _ (by omega) hD6).mono ?_
    rintro e w7 ⟨s7, q7, rfl, z7, p7, r7, hD7, hG7⟩
    have hrow7 := hrow6.kept hG7 hne3
    have hGr7 := gtrans hGr6 hG7
    obtain ⟨t1, HT1⟩ : ∃ t, Hid ((⟨#[120, 119, 108, 108]⟩ : ByteArray) ++ s7 = t) := ⟨_, Lib.hid rfl⟩
    obtain ⟨t2, HT2⟩ : ∃ t, Hid ((⟨#[48, 113, 100, 98]⟩ : ByteArray) ++ s7 = t) := ⟨_, Lib.hid rfl⟩
    have hadd1 : ∀ W, (Op.stringOp .add (⟨#[120, 119, 108, 108]⟩ : ByteArray) s7).run Try.prog W = .ok (.string t1) W := fun W => by
      rw [← HT1.out]; exact run_string_add_sum (P := Try.prog) W _ _ (by have : (⟨#[120, 119, 108, 108]⟩ : ByteArray).size = 4 := rfl; omega)
    have hadd2 : ∀ W, (Op.stringOp .add (⟨#[48, 113, 100, 98]⟩ : ByteArray) s7).run Try.prog W = .ok (.string t2) W := fun W => by
      rw [← HT2.out]; exact run_string_add_sum (P := Try.prog) W _ _ (by have : (⟨#[48, 113, 100, 98]⟩ : ByteArray).size = 4 := rfl; omega)
    have hz1' : t1.size ≤ 30 := by rw [← HT1.out, ByteArray.size_append]; have : (⟨#[120, 119, 108, 108]⟩ : ByteArray).size = 4 := rfl; omega
    have hz2' : t2.size ≤ 30 := by rw [← HT2.out, ByteArray.size_append]; have : (⟨#[48, 113, 100, 98]⟩ : ByteArray).size = 4 := rfl; omega
    obtain ⟨gc, hgc1, hgc2, _, hgc4⟩ := own_cellsN hrow7 (Nat.le_trans hGr7.size (Nat.le_refl _))
    obtain rfl : gc = g3 := by have := hgc1 (by omega); cases this; rfl
    have hu : (w7.cell? ⟨gc, i, none⟩).isSome = true := (hgc4 i (by omega)).1
    have hf : w7.frozen? ⟨gc, i, none⟩ = false := (hgc4 i (by omega)).2
    obtain ⟨u0, hu0⟩ : ∃ u, w7.cell? ⟨gc, i, none⟩ = some u := Option.isSome_iff_exists.1 hu
    have hS8 := (SR.own hrow7).2.set (i := i) (by omega) t1
    obtain ⟨s8, HS8⟩ : ∃ l, Hid (s3.set i t1 = l) := ⟨_, Lib.hid rfl⟩
    have hl8 : s8.length = n := by rw [← HS8.out, List.length_set]; exact HNL.out
    have hz8 : ∀ t ∈ s8, t.size ≤ 40 := by
      rw [← HS8.out]
      intro t ht
      rcases List.mem_or_eq_of_mem_set ht with h | h
      · exact HZ40.out t h
      · subst h; omega
    have HZ8' : Hid (∀ s ∈ s8, s.size ≤ 4611686018427387904) := Lib.hid fun s h => by have := hz8 s h; omega
    have HL8 := Lib.hid hl8
    have HZ8 := Lib.hid hz8
    have hD8 : Dw B a len cap zs (w7.setCell ⟨gc, i, none⟩ (.string t1)) q7 := hD7.of fun k hk => Below.heap_setCell _ _ _ _ (by simp; have := hD7.lt; omega)
    have hG8 := gtrans_own hGr7 (grownBy_set' w7 gc i (.string t1)) (fun j he => by cases he; exact hg3)
    rw [HS8.out] at hS8
    have HP8 := Lib.hid (l3Proof_any n gc 0 cp3 i s8 _ hS8 hn1 (by omega) (by omega) hc3 hd3 HZ8'.out)
    have hPl8 : (Me.proof s8 i).length ≤ 13 := by
      have h1 := (Me.told_proof n s8 i HL8.out (by omega)).2
      have h2 := Me.steps_le n i
      omega
    obtain ⟨P8, HPP8⟩ : ∃ P, Hid (Me.proof s8 i = P) := ⟨_, Lib.hid rfl⟩
    rw [HPP8.out] at HP8 hPl8
    clear hz8 hl8 hgc1 hgc2 hgc4 hu hrow7
    go_wp2_with fail
    refine HP8.out.mono ?_
    rintro e w9 ⟨g9, cp9, rfl, hb9, hown9⟩
    have hI9 := (IR.own hown9).2
    have hcc9 := own_capV hown9
    have hg9 := (hown9.lt g9 rfl).1
    have hgs9 := hG8.size
    have hS9 := hS8.below hb9
    have hD9 := hD8.below hb9
    have hG9 := grown_below hG8 hb9
    clear hown9 hb9
    go_wp2
    (try simp only [Exit.inBlock, Exit.then])
    refine bodyPost_ret (results_tmp4 rfl _ _ _) rfl ?_
    exact HFIN.out _ s8 _ t2 g9 cp9 P8 _ HL8.out HZ8.out (by omega) (by omega) (by omega) (by omega) hS9 hI9 hcc9 (by omega) (by omega) hD9 hG9 (by omega)
  case inr.inr.inr.inr.inr.inl =>
    go_wp2_with fail
    refine (l91Word_any B a len cap zs _ _ (by omega) hD6).mono ?_
    rintro e w7 ⟨s7, q7, rfl, z7, p7, r7, hD7, hG7⟩
    have hrow7 := hrow6.kept hG7 hne3
    have hGr7 := gtrans hGr6 hG7
    obtain ⟨t1, HT1⟩ : ∃ t, Hid ((⟨#[120, 119, 108, 108]⟩ : ByteArray) ++ s7 = t) := ⟨_, Lib.hid rfl⟩
    obtain ⟨t2, HT2⟩ : ∃ t, Hid ((⟨#[48, 113, 100, 98]⟩ : ByteArray) ++ s7 = t) := ⟨_, Lib.hid rfl⟩
    have hadd1 : ∀ W, (Op.stringOp .add (⟨#[120, 119, 108, 108]⟩ : ByteArray) s7).run Try.prog W = .ok (.string t1) W := fun W => by
      rw [← HT1.out]; exact run_string_add_sum (P := Try.prog) W _ _ (by have : (⟨#[120, 119, 108, 108]⟩ : ByteArray).size = 4 := rfl; omega)
    have hadd2 : ∀ W, (Op.stringOp .add (⟨#[48, 113, 100, 98]⟩ : ByteArray) s7).run Try.prog W = .ok (.string t2) W := fun W => by
      rw [← HT2.out]; exact run_string_add_sum (P := Try.prog) W _ _ (by have : (⟨#[48, 113, 100, 98]⟩ : ByteArray).size = 4 := rfl; omega)
    have hz1' : t1.size ≤ 30 := by rw [← HT1.out, ByteArray.size_append]; have : (⟨#[120, 119, 108, 108]⟩ : ByteArray).size = 4 := rfl; omega
    have hz2' : t2.size ≤ 30 := by rw [← HT2.out, ByteArray.size_append]; have : (⟨#[48, 113, 100, 98]⟩ : ByteArray).size = 4 := rfl; omega
    obtain ⟨gc, hgc1, hgc2, _, hgc4⟩ := own_cellsN hrow7 (Nat.le_trans hGr7.size (Nat.le_refl _))
    obtain rfl : gc = g3 := by have := hgc1 (by omega); cases this; rfl
    have hu : (w7.cell? ⟨gc, i, none⟩).isSome = true := (hgc4 i (by omega)).1
    have hf : w7.frozen? ⟨gc, i, none⟩ = false := (hgc4 i (by omega)).2
    obtain ⟨u0, hu0⟩ : ∃ u, w7.cell? ⟨gc, i, none⟩ = some u := Option.isSome_iff_exists.1 hu
    have hS8 := (SR.own hrow7).2.set (i := i) (by omega) t1
    obtain ⟨s8, HS8⟩ : ∃ l, Hid (s3.set i t1 = l) := ⟨_, Lib.hid rfl⟩
    have hl8 : s8.length = n := by rw [← HS8.out, List.length_set]; exact HNL.out
    have hz8 : ∀ t ∈ s8, t.size ≤ 40 := by
      rw [← HS8.out]
      intro t ht
      rcases List.mem_or_eq_of_mem_set ht with h | h
      · exact HZ40.out t h
      · subst h; omega
    have HZ8' : Hid (∀ s ∈ s8, s.size ≤ 4611686018427387904) := Lib.hid fun s h => by have := hz8 s h; omega
    have HL8 := Lib.hid hl8
    have HZ8 := Lib.hid hz8
    have hD8 : Dw B a len cap zs (w7.setCell ⟨gc, i, none⟩ (.string t1)) q7 := hD7.of fun k hk => Below.heap_setCell _ _ _ _ (by simp; have := hD7.lt; omega)
    have hG8 := gtrans_own hGr7 (grownBy_set' w7 gc i (.string t1)) (fun j he => by cases he; exact hg3)
    rw [HS8.out] at hS8
    have HP8 := Lib.hid (l3Proof_any n gc 0 cp3 i s8 _ hS8 hn1 (by omega) (by omega) hc3 hd3 HZ8'.out)
    have hPl8 : (Me.proof s8 i).length ≤ 13 := by
      have h1 := (Me.told_proof n s8 i HL8.out (by omega)).2
      have h2 := Me.steps_le n i
      omega
    obtain ⟨P8, HPP8⟩ : ∃ P, Hid (Me.proof s8 i = P) := ⟨_, Lib.hid rfl⟩
    rw [HPP8.out] at HP8 hPl8
    clear hz8 hl8 hgc1 hgc2 hgc4 hu hrow7
    go_wp2_with fail
    refine HP8.out.mono ?_
    rintro e w9 ⟨g9, cp9, rfl, hb9, hown9⟩
    have hI9 := (IR.own hown9).2
    have hcc9 := own_capV hown9
    have hg9 := (hown9.lt g9 rfl).1
    have hgs9 := hG8.size
    have hS9 := hS8.below hb9
    have hD9 := hD8.below hb9
    have hG9 := grown_below hG8 hb9
    clear hown9 hb9
    go_wp2
    (try simp only [Exit.inBlock, Exit.then])
    refine bodyPost_ret (results_tmp4 rfl _ _ _) rfl ?_
    exact HFIN.out _ s8 _ t2 g9 cp9 P8 _ HL8.out HZ8.out (by omega) (by omega) (by omega) (by omega) hS9 hI9 hcc9 (by omega) (by omega) hD9 hG9 (by omega)
  case inr.inr.inr.inr.inr.inr.inl =>
    go_wp2
    (try simp only [Exit.inBlock, Exit.then])
    refine bodyPost_ret (results_tmp4 rfl _ _ _) rfl ?_
    exact HFIN.out _ s3 _ lf g5 cp5 P _ HNL.out HZ40.out (by omega) (by omega) (by omega) (by omega) hS6 hI6 ⟨hcp5, hdp5⟩ (by omega) (by omega) hD6 hGr6 (by omega)
  case inr.inr.inr.inr.inr.inr.inr =>
    go_wp2
    (try simp only [Exit.inBlock, Exit.then])
    refine bodyPost_ret (results_tmp4 rfl _ _ _) rfl ?_
    exact HFIN.out _ s3 _ lf g5 cp5 P _ HNL.out HZ40.out (by omega) (by omega) (by omega) (by omega) hS6 hI6 ⟨hcp5, hdp5⟩ (by omega) (by omega) hD6 hGr6 (by omega)
end Go.Proofs.Ytdgepneaeieogac
