/-
  Contracts of scripts: scriptOfText; of the program.
-/
import Derived.Test.YtpldoffjclmacaaGreatDoorYr
import Derived.Test.YtpldoffjclmacaaGreatDoorYb
import Derived.Test.YtpldoffjclmacaaGreatDoorYm
import Derived.Test.YtpldoffjclmacaaGreatDoorOb
namespace Go.Proofs.YtpldoffjclmacaaGreatDoor
open Go.RowKit Go.Maps

theorem Jo.ops_get {ws : List (List Int)} : ∀ {l : List Jo}, Jo.ops ws = some l → ∀ {k}, k < ws.length → Jo.opOf (ws.getD k []) = some (Jo.at_ l k) := by
  induction ws with
  | nil => intro l _ k hk; simp at hk
  | cons v r ih =>
    intro l h k hk
    simp only [Jo.ops] at h
    cases hv : Jo.opOf v with
    | none => rw [hv] at h; cases h
    | some x =>
      rw [hv] at h
      simp only at h
      cases hr : Jo.ops r with
      | none => rw [hr] at h; cases h
      | some m =>
        rw [hr] at h
        cases h
        cases k with
        | zero => exact hv
        | succ k => exact ih hr (by simpa using hk)
theorem Jo.parse_fact {L : List Int} {l : List Jo} (h0 : L ≠ []) (h : Jo.parse L = some l) : Jo.ops (Jo.split 32 L) = some l ∧ Jo.ok l = true := by
  unfold Jo.parse at h
  rw [if_neg h0] at h
  split at h
  · cases h
  · split at h
    · cases h
    · rename_i m hm
      split at h
      · rename_i hok
        cases h
        exact ⟨hm, hok⟩
      · cases h
theorem Jo.parse_badW {L : List Int} {k : Nat} (h0 : L ≠ []) (hk : k < (Jo.split 32 L).length) (h : ∀ x, Jo.opOf ((Jo.split 32 L).getD k []) = some x → Jo.fld x = false) : Jo.parse L = none := by
  cases hp : Jo.parse L with
  | none => rfl
  | some l =>
    obtain ⟨h1, h2⟩ := Jo.parse_fact h0 hp
    have h4 := ((Jo.ok_iff l).1 h2).2.1 (Jo.at_ l k) (List.mem_of_getElem? (Jo.at_get (by rw [Jo.ops_len h1]; exact hk)))
    rw [h _ (Jo.ops_get h1 hk)] at h4
    cases h4
theorem Jo.parse_manyW {L : List Int} (h0 : L ≠ []) (hk : 40 < (Jo.split 32 L).length) : Jo.parse L = none := by
  cases hp : Jo.parse L with
  | none => rfl
  | some l =>
    obtain ⟨h1, h2⟩ := Jo.parse_fact h0 hp
    have h4 := ((Jo.ok_iff l).1 h2).1
    rw [Jo.ops_len h1] at h4
    omega
theorem Jo.parse_endW {s : ByteArray} {l : List Jo} (h0 : Jo.L s ≠ []) (h : Jo.ops (Jo.split 32 (Jo.L s)) = some l) : Jo.parse (Jo.L s) = if Jo.ok l = true then some l else none := by
  unfold Jo.parse
  rw [if_neg h0]
  by_cases h7 : 7000 < (Jo.L s).length
  · rw [if_pos h7, if_neg]
    intro hok
    have h1 := Jo.words_ops (Jo.split_bd (m := 32) (Jo.L_bd (s := s))) h ((Jo.ok_iff l).1 hok).2.1
    have ht : Jo.text l = Jo.L s := by unfold Jo.text; rw [h1, Jo.join_split]
    have := (Jo.text_bd hok).1
    rw [ht] at this
    omega
  · rw [if_neg h7, h]
/-- Two lists are one, or neither is valid. -/
def Jo.Same (lp lm : List Jo) : Prop := lp.length = lm.length ∧ (lp = lm ∨ ((∃ x ∈ lp, Jo.fld x = false) ∧ ∃ x ∈ lm, Jo.fld x = false))
theorem Jo.Same.snoc {lp lm : List Jo} (h : Jo.Same lp lm) {x y : Jo} (hxy : x = y ∨ (Jo.fld x = false ∧ Jo.fld y = false)) : Jo.Same (lp ++ [y]) (lm ++ [x]) := by
  refine ⟨by simp [h.1], ?_⟩
  rcases h.2 with rfl | ⟨⟨u, hu, fu⟩, v, hv, fv⟩
  · rcases hxy with rfl | ⟨h1, h2⟩
    · exact .inl rfl
    · exact .inr ⟨⟨y, by simp, h2⟩, x, by simp, h1⟩
  · exact .inr ⟨⟨u, by simp [hu], fu⟩, v, by simp [hv], fv⟩
theorem Jo.bad_ok {l : List Jo} {x : Jo} (hx : x ∈ l) (h : Jo.fld x = false) : Jo.ok l = false := by
  rw [Bool.eq_false_iff]
  intro g
  have := ((Jo.ok_iff l).1 g).2.1 x hx
  rw [h] at this
  cases this
theorem Jo.Same.ok {lp lm : List Jo} (h : Jo.Same lp lm) : Jo.ok lp = Jo.ok lm ∧ (Jo.ok lp = true → lp = lm) := by
  rcases h.2 with rfl | ⟨⟨u, hu, fu⟩, v, hv, fv⟩
  · exact ⟨rfl, fun _ => rfl⟩
  · have e1 := Jo.bad_ok hu fu
    exact ⟨by rw [e1, Jo.bad_ok hv fv], fun g => by rw [e1] at g; cases g⟩
theorem Jo.at_snoc (l : List Jo) (y : Jo) (j : Nat) (h : j < l.length) : Jo.at_ (l ++ [y]) j = Jo.at_ l j := by
  unfold Jo.at_
  rw [List.getD_eq_getElem?_getD, List.getD_eq_getElem?_getD, List.getElem?_append_left h]
theorem Jo.at_last (l : List Jo) (y : Jo) : Jo.at_ (l ++ [y]) l.length = y := by
  unfold Jo.at_
  rw [List.getD_eq_getElem?_getD, List.getElem?_append_right (Nat.le_refl _)]
  simp
/-- A block of the program's operations, k of n of them laid. -/
def OX (g n k : Nat) (l : List Jo) (w : World) : Prop :=
  ∃ cs : Array Value, w.heap[g]? = some (.cells cs 40 (0, 0)) ∧ cs.size = n * 4 ∧ ∀ j, j < k → cs[j * 4]? = some (.int .i64 (Jo.at_ l j).c) ∧ cs[j * 4 + 1]? = some (.int .i64 (Jo.at_ l j).a) ∧ cs[j * 4 + 2]? = some (.int .i64 (Jo.at_ l j).b) ∧ cs[j * 4 + 3]? = some (.string (Jo.at_ l j).t)
theorem OX.step {g n k : Nat} {l : List Jo} {w : World} (h : OX g n k l w) (hl : l.length = k) (hk : k < n) (C A B : Int) (t : ByteArray) : OX g n (k + 1) (l ++ [(⟨C, A, B, t⟩ : Jo)]) (((((w).setCell ⟨g, k * 4, none⟩ (.int .i64 C)).setCell ⟨g, k * 4 + 1, none⟩ (.int .i64 A)).setCell ⟨g, k * 4 + 2, none⟩ (.int .i64 B)).setCell ⟨g, k * 4 + 3, none⟩ (.string t)) := by
  obtain ⟨cs, h1, h2, h3⟩ := h
  refine ⟨_, block_setCell (block_setCell (block_setCell (block_setCell h1 (k * 4) _) (k * 4 + 1) _) (k * 4 + 2) _) (k * 4 + 3) _, by simpa using h2, fun j hj => ?_⟩
  by_cases hjk : j = k
  · subst hjk
    have e : Jo.at_ (l ++ [(⟨C, A, B, t⟩ : Jo)]) j = ⟨C, A, B, t⟩ := by rw [← hl]; exact Jo.at_last _ _
    rw [e]
    refine ⟨?_, ?_, ?_, ?_⟩ <;> simp [Array.getElem?_setIfInBounds] <;> omega
  · obtain ⟨c0, c1, c2, c3⟩ := h3 j (by omega)
    rw [Jo.at_snoc _ _ _ (by omega)]
    refine ⟨?_, ?_, ?_, ?_⟩ <;> simp only [Array.getElem?_setIfInBounds] <;> (repeat rw [if_neg (by omega)]) <;> assumption
theorem OX.ob {g n k : Nat} {l : List Jo} {w : World} (h : OX g n k l w) : OB g n k l w := by
  obtain ⟨cs, h1, h2, h3⟩ := h
  exact ⟨cs, h1, by omega, h3⟩
theorem OX.below {g n k : Nat} {l : List Jo} {w w' : World} (h : OX g n k l w) (hb : Below w.heap.size w w') : OX g n k l w' := by
  obtain ⟨cs, h1, h2, h3⟩ := h
  exact ⟨cs, (hb.block g (lt_of_block h1)).trans h1, h2, h3⟩
theorem OX.own {g n : Nat} {l : List Jo} {w : World} (h : OX g n n l w) (hl : l.length = n) (hn : n ≤ 41) (base : Nat) (hb : base ≤ g) : w.ownsRow base 40 4 (.slice (some ⟨g, 0, none⟩) n n) n (Jo.cells l) := by
  obtain ⟨cs, h1, h2, h3⟩ := h
  refine ⟨by rw [Jo.cells_length, hl], .inr ⟨g, n, cs, rfl, hb, h1, Nat.le_refl _, by unfold maxLen; omega, h2, ?_⟩⟩
  apply List.ext_getElem?
  intro i
  by_cases hi : i < n * 4
  · rw [List.getElem?_take_of_lt hi, Array.getElem?_toList]
    obtain ⟨j, r, rfl, hr⟩ : ∃ j r, i = j * 4 + r ∧ r < 4 := ⟨i / 4, i % 4, by omega, by omega⟩
    obtain ⟨c0, c1, c2, c3⟩ := h3 j (by omega)
    obtain ⟨d0, d1, d2, d3⟩ := Jo.cells_get l j (by omega)
    match r, hr with
    | 0, _ => exact c0.trans d0.symm
    | 1, _ => exact c1.trans d1.symm
    | 2, _ => exact c2.trans d2.symm
    | 3, _ => exact c3.trans d3.symm
  · rw [List.getElem?_eq_none (by simp; omega), List.getElem?_eq_none (by rw [Jo.cells_length]; omega)]
theorem SB.set {w : World} {g n : Nat} {ss : List ByteArray} (h : SB w g n ss) (D i : Nat) (v : Value) (hne : g ≠ D) : SB (w.setCell ⟨D, i, none⟩ v) g n ss :=
  ⟨h.1, by simpa [World.setCell] using h.2.1, fun j hj => (World.cell?_setCell_other _ _ _ _ (by intro e; cases e; exact hne rfl)).trans (h.2.2 j hj)⟩
theorem map_set {w : World} {M n : Nat} {D : DataW Unit} (h : w.ownsMap Tryz.prog 9 (plainElem Tryz.prog 3) M n D) (X i : Nat) (u : Value) (hne : M ≠ X) : (w.setCell ⟨X, i, none⟩ u).ownsMap Tryz.prog 9 (plainElem Tryz.prog 3) M n D :=
  h.kept (row := some X) ⟨rfl, rfl, rfl, by simp [World.setCell], fun j _ hr => Below.heap_setCell _ _ _ _ (fun e => hr (by simp [e]))⟩ (by simpa using hne)
theorem map_below {w w' : World} {M n : Nat} {D : DataW Unit} (h : w.ownsMap Tryz.prog 9 (plainElem Tryz.prog 3) M n D) (hb : Below w.heap.size w w') : w'.ownsMap Tryz.prog 9 (plainElem Tryz.prog 3) M n D :=
  h.kept (row := none) ⟨hb.os, hb.tape, hb.output, hb.size, fun q hq _ => hb.block q hq⟩ (by simp)
theorem opOfWord_any (s : ByteArray) (M : Nat) (D : DataW Unit) (w : World) (hs : s.size ≤ 1048576) (hg : GX w) (hown : w.ownsMap Tryz.prog 9 (plainElem Tryz.prog 3) M 15 D) (hM : Jo.MP 15 D) :
    Calls Tryz.prog 46 #[.string s, .map (some M)] w (OwR s w) := by
  cases hp : Lib.hasPrefix s.data.toList (strOfNums (Jo.name 0)).data.toList with
  | true => exact opOfWord_x s M w hs hg hp
  | false => exact opOfWord_w s M D w hs hg hown hM hp
/-- What scriptOfText hands back. -/
def JoTx (s : ByteArray) (w : World) (e : Ending) (w' : World) : Prop :=
  (∃ z, Jo.parse (Jo.L s) = none ∧ e = .returned (.tuple #[.slice none 0 0, .iface 49 (.agg #[.string z])]) ∧ Below w.heap.size w w') ∨
  (∃ l a cap, Jo.parse (Jo.L s) = some l ∧ e = .returned (.tuple #[.slice a l.length cap, .nilIface]) ∧ w'.ownsRow w.heap.size 40 4 (.slice a l.length cap) l.length (Jo.cells l) ∧ Below w.heap.size w w')
set_option maxRecDepth 100000 in
set_option maxHeartbeats 6400000 in
theorem scriptOfText_any (s : ByteArray) (w : World) (hs : s.size ≤ 1048576) (hg : GX w) : Calls Tryz.prog 23 #[.string s] w (JoTx s w) := by
  obtain ⟨i0, hi, hz0, hz1, hz2⟩ := info_parts info_op
  have hE := str_empty_iff s
  by_cases h0 : s.size = 0
  · have hne : s.toList.isEmpty = true := by rw [hE]; exact decide_eq_true h0
    have HP := Lib.hid (Jo.parse_nil h0)
    clear hE h0 hg hi hz0 hz1 hz2
    go_enter Tryz.func23, Tryz.ntmps23
    go_wp2
    go_ret2
    exact .inr ⟨[], none, 0, HP.out, rfl, ⟨rfl, .inl ⟨rfl, rfl⟩⟩, Below.refl _ _⟩
  have hne : s.toList.isEmpty = false := by rw [hE]; exact decide_eq_false h0
  have HNE : Hid (Jo.L s ≠ []) := Lib.hid fun e => h0 (Jo.L_nil.1 e)
  clear hE h0
  go_enter Tryz.func23, Tryz.ntmps23
  go_wp2_with fail
  refine (wordCodes_any _ hg.1).mono ?_
  rintro e w1 ⟨D, rfl, ho1, hM, hb1, hlt1⟩
  have hg1 := hg.below hb1
  have HM := Lib.hid hM
  obtain ⟨m, hm⟩ := hg1.2.1
  have HG0 := Lib.hid hg
  clear hg hM
  go_wp2_with fail
  refine (cut_any s m _ hs hm).mono ?_
  rintro e w2 ⟨n, cap, ss, rfl, hnc, hc41, hSB2, hb2, hlt2, hn1, hsz, hsplit⟩
  have hn41 : n ≤ 41 := Nat.le_trans hnc hc41
  have HG2 := Lib.hid (hg1.below hb2)
  have HO2 := Lib.hid (map_below ho1 hb2)
  have hbel2 := below_aft9 hb1 hb2
  obtain ⟨g, HGB⟩ : ∃ g, Hid (w1.heap.size = g) := ⟨_, Lib.hid rfl⟩
  rw [HGB.out] at hSB2 hlt2 ⊢
  have hMg : w.heap.size < g := by rw [← HGB.out]; exact hlt1
  have HSB2 := Lib.hid hSB2
  have HSPL := Lib.hid hsplit
  have HSZ : Hid (∀ j, (ss.getD j ByteArray.empty).size ≤ s.size) := Lib.hid fun j => by
    rw [List.getD_eq_getElem?_getD]
    cases hk : ss[j]? with
    | none => exact Nat.zero_le _
    | some q => exact hsz q (List.mem_of_getElem? hk)
  have HLS : Hid (ss.length = n) := Lib.hid hSB2.1
  -- the word and its part of the text
  have HWK : Hid ((Jo.split 32 (Jo.L s)).length ≤ 40 → ∀ k, k < n → k < (Jo.split 32 (Jo.L s)).length ∧ (Jo.split 32 (Jo.L s)).getD k [] = Jo.L (ss.getD k ByteArray.empty)) := Lib.hid fun h40 k hk => by
    rcases hsplit with ⟨_, h2⟩ | ⟨h2, _⟩
    · rw [← h2]
      have hk2 : k < ss.length := by rw [HLS.out]; exact hk
      refine ⟨by simpa using hk2, ?_⟩
      rw [List.getD_eq_getElem?_getD, List.getElem?_map, List.getD_eq_getElem?_getD, List.getElem?_eq_getElem hk2]
      rfl
    · omega
  have HLN : Hid ((Jo.split 32 (Jo.L s)).length ≤ 40 → (Jo.split 32 (Jo.L s)).length = n) := Lib.hid fun h40 => by
    rcases hsplit with ⟨_, h2⟩ | ⟨h2, _⟩
    · rw [← h2, List.length_map]; exact HLS.out
    · omega
  have HN41 : Hid (40 < (Jo.split 32 (Jo.L s)).length → n = 41) := Lib.hid fun h => by
    rcases hsplit with ⟨h2, _⟩ | ⟨_, h2⟩
    · omega
    · exact h2
  have hmk : ∀ W : World, (Instr.makeSlice 23 (.int .i64 (n : Int)) (.int .i64 (n : Int))).run Tryz.prog W = .ok (.slice (some ⟨W.heap.size, 0, none⟩) n n) (W.alloc (.cells (madeCells #[.int .i64 0, .int .i64 0, .int .i64 0, .string ⟨#[]⟩] (n * 4)) 40)) := fun W => by
    have := run_make (P := Tryz.prog) W 23 40 i0 _ Tryz.underlying23 hi hz0 .i64 .i64 (n : Int) (n : Int) (by omega) (by omega) (by rw [hz2]; omega) (by omega)
    rw [hz1] at this
    simpa [Value.cells] using this
  clear hi hz0 hz1 hz2 ho1 hb1 hlt1 hg1 hm hb2 hsz hsplit HGB hSB2
  have hwX : w.heap.size ≤ w2.heap.size := hbel2.size
  have hMX : w.heap.size ≠ w2.heap.size := by omega
  have hgX : g ≠ w2.heap.size := by omega
  have hb0 := hbel2.alloc hwX (.cells (madeCells #[.int .i64 0, .int .i64 0, .int .i64 0, .string ⟨#[]⟩] (n * 4)) 40 (0, 0))
  have HB3 : Hid (Below w2.heap.size w2 (w2.alloc (.cells (madeCells #[.int .i64 0, .int .i64 0, .int .i64 0, .string ⟨#[]⟩] (n * 4)) 40 (0, 0)))) := Lib.hid ((Below.refl _ _).alloc (Nat.le_refl _) _)
  go_wp2
  go_loopw [21] (fun i wr => ∃ (k : Nat) (lp : List Jo), k ≤ n ∧ i = .int .i64 (k : Int) ∧ Hid (OX w2.heap.size n k lp wr) ∧ Hid (lp.length = k) ∧ Hid (SB wr g n ss) ∧ Hid (GX wr) ∧ Hid (wr.ownsMap Tryz.prog 9 (plainElem Tryz.prog 3) w.heap.size 15 D) ∧ Hid ((Jo.split 32 (Jo.L s)).length ≤ 40 → ∃ lm, Jo.ops ((Jo.split 32 (Jo.L s)).take k) = some lm ∧ Jo.Same lp lm) ∧ w2.heap.size < wr.heap.size ∧ Below w.heap.size w wr)
    (fun i _ => n - (intOf i).toNat)
  case atStart => exact ⟨0, [], by omega, rfl, Lib.hid ⟨_, heap_alloc_new _ _, size_madeCells _ _, fun j hj => absurd hj (by omega)⟩, Lib.hid rfl, Lib.hid (HSB2.out.below HB3.out), Lib.hid (HG2.out.below HB3.out), Lib.hid (map_below HO2.out HB3.out), Lib.hid (fun _ => ⟨[], rfl, rfl, .inl rfl⟩), by simp, hb0⟩
  case round =>
    obtain ⟨k, lp, hk, rfl, HOX, HLP, HSB, HGX, HOM, HREL, hlt0, hbel⟩ := hrel
    clear hb0 HB3 hmk HSB2 HO2 HG0
    by_cases hlt : k < n
    · have ck := HSB.out.2.2 k hlt
      have HOPW := Lib.hid (opOfWord_any (ss.getD k ByteArray.empty) w.heap.size D wr (by have := HSZ.out k; omega) HGX.out HOM.out HM.out)
      have HWW := Lib.hid (fun h40 => HWK.out h40 k hlt)
      obtain ⟨S, HS⟩ : ∃ S, Hid (ss.getD k ByteArray.empty = S) := ⟨_, Lib.hid rfl⟩
      rw [HS.out] at ck
      have HOPW2 : Hid (Calls Tryz.prog 46 #[.string S, .map (some w.heap.size)] wr (OwR S wr)) := Lib.hid (by rw [← HS.out]; exact HOPW.out)
      have HWW2 : Hid ((Jo.split 32 (Jo.L s)).length ≤ 40 → k < (Jo.split 32 (Jo.L s)).length ∧ (Jo.split 32 (Jo.L s)).getD k [] = Jo.L S) := Lib.hid (by rw [← HS.out]; exact HWW.out)
      clear HOPW HWW HS
      go_wp2_with fail
      refine HOPW2.out.mono ?_
      rintro e w3 hend
      rcases hend with ⟨c, a, b, t, rfl, HY, hb3⟩ | ⟨z, rfl, HN, hb3⟩
      · have vX := Bk.new w3 40 #[.int .i64 c, .int .i64 a, .int .i64 b, .string t]
        obtain ⟨y0, y1, y2, y3⟩ := Bk.c4 vX
        have HB4 : Hid (Below wr.heap.size wr (w3.alloc (.cells #[.int .i64 c, .int .i64 a, .int .i64 b, .string t] 40 (0, 0)))) := Lib.hid (hb3.alloc hb3.size _)
        have hbel4 := below_aft9 hbel HB4.out
        have hlt4 : w2.heap.size < (w3.alloc (.cells #[.int .i64 c, .int .i64 a, .int .i64 b, .string t] 40 (0, 0))).heap.size := Nat.lt_of_lt_of_le hlt0 HB4.out.size
        have HOX4 := Lib.hid (HOX.out.below HB4.out)
        have hob := HOX4.out.ob
        obtain ⟨z0, s0⟩ := hob.slot (k * 4) (by omega)
        obtain ⟨z1, s1⟩ := hob.slot (k * 4 + 1) (by omega)
        obtain ⟨z2, s2⟩ := hob.slot (k * 4 + 2) (by omega)
        obtain ⟨z3, s3⟩ := hob.slot (k * 4 + 3) (by omega)
        have f0 := hob.fro (k * 4)
        have f1 := hob.fro (k * 4 + 1)
        have f2 := hob.fro (k * 4 + 2)
        have f3 := hob.fro (k * 4 + 3)
        have HOX5 := Lib.hid (HOX4.out.step HLP.out hlt c a b t)
        have HSB5 := Lib.hid (((((HSB.out.below HB4.out).set w2.heap.size (k * 4) (.int .i64 c) hgX).set w2.heap.size (k * 4 + 1) (.int .i64 a) hgX).set w2.heap.size (k * 4 + 2) (.int .i64 b) hgX).set w2.heap.size (k * 4 + 3) (.string t) hgX)
        have HGX5 := Lib.hid (GX.set (GX.set (GX.set (GX.set (HGX.out.below HB4.out) HG2.out (D := w2.heap.size) (k * 4) (.int .i64 c) (Nat.le_refl _)) HG2.out (D := w2.heap.size) (k * 4 + 1) (.int .i64 a) (Nat.le_refl _)) HG2.out (D := w2.heap.size) (k * 4 + 2) (.int .i64 b) (Nat.le_refl _)) HG2.out (D := w2.heap.size) (k * 4 + 3) (.string t) (Nat.le_refl _))
        have HOM5 := Lib.hid (map_set (map_set (map_set (map_set (map_below HOM.out HB4.out) w2.heap.size (k * 4) (.int .i64 c) hMX) w2.heap.size (k * 4 + 1) (.int .i64 a) hMX) w2.heap.size (k * 4 + 2) (.int .i64 b) hMX) w2.heap.size (k * 4 + 3) (.string t) hMX)
        have hbel5 := ((((hbel4).setCell (p := ⟨w2.heap.size, k * 4, none⟩) hwX (.int .i64 c)).setCell (p := ⟨w2.heap.size, k * 4 + 1, none⟩) hwX (.int .i64 a)).setCell (p := ⟨w2.heap.size, k * 4 + 2, none⟩) hwX (.int .i64 b)).setCell (p := ⟨w2.heap.size, k * 4 + 3, none⟩) hwX (.string t)
        have HL5 : Hid ((lp ++ [(⟨c, a, b, t⟩ : Jo)]).length = k + 1) := Lib.hid (by rw [List.length_append, HLP.out]; rfl)
        have HR5 : Hid ((Jo.split 32 (Jo.L s)).length ≤ 40 → ∃ lm, Jo.ops ((Jo.split 32 (Jo.L s)).take (k + 1)) = some lm ∧ Jo.Same (lp ++ [(⟨c, a, b, t⟩ : Jo)]) lm) := Lib.hid fun h40 => by
          obtain ⟨lm, e1, e2⟩ := HREL.out h40
          obtain ⟨e3, e4⟩ := HWW2.out h40
          obtain ⟨x, e5, e6⟩ := HY.out
          have := Jo.ops_take e3 e1
          rw [e4, e5] at this
          exact ⟨_, this, e2.snoc e6⟩
        clear HOX HLP HSB HGX HOM HREL HWW2 HY hb3 HB4 HOX4 hob vX hbel HOPW2 HWK HSZ
        go_wp2
        go_roundw
        case rel => exact ⟨k + 1, _, by omega, by simp, HOX5, HL5, HSB5, HGX5, HOM5, HR5, by simpa [World.setCell] using hlt4, hbel5⟩
        case measure => simp [intOf]; omega
      · have HP : Hid (Jo.parse (Jo.L s) = none) := Lib.hid (by
          by_cases h40 : (Jo.split 32 (Jo.L s)).length ≤ 40
          · obtain ⟨e3, e4⟩ := HWW2.out h40
            exact Jo.parse_badW HNE.out e3 (by rw [e4]; exact HN.out)
          · exact Jo.parse_manyW HNE.out (by omega))
        have hbel4 := (below_aft9 hbel hb3).alloc (below_aft9 hbel hb3).size (.cells #[.int .i64 0, .int .i64 0, .int .i64 0, .string ⟨#[]⟩] 40 (0, 0))
        clear HOX HLP HSB HGX HOM HREL HWW2 HN hb3 hbel HOPW2 HWK HSZ
        go_wp2
        go_ret2
        exact .inl ⟨z, HP.out, rfl, hbel4⟩
    · obtain rfl : k = n := by omega
      have hol := HOX.out.ob.ol HLP.out
      have hcon := implScriptOk_any _ _ k lp wr hol (by omega)
      obtain ⟨f, HF⟩ : ∃ f, Hid (Jo.ok lp = f) := ⟨_, Lib.hid rfl⟩
      rw [HF.out] at hcon
      have HPP : Hid ((f = false → Jo.parse (Jo.L s) = none) ∧ (f = true → Jo.parse (Jo.L s) = some lp)) := Lib.hid (by
        by_cases h40 : (Jo.split 32 (Jo.L s)).length ≤ 40
        · obtain ⟨lm, e1, e2⟩ := HREL.out h40
          rw [List.take_of_length_le (by rw [HLN.out h40]; exact Nat.le_refl _)] at e1
          have e3 := Jo.parse_endW HNE.out e1
          obtain ⟨e4, e5⟩ := e2.ok
          rw [← e4, HF.out] at e3
          constructor
          · rintro rfl; rw [e3]; rfl
          · rintro rfl; rw [e3, e5 HF.out]; rfl
        · have h41 := HN41.out (by omega)
          refine ⟨fun _ => Jo.parse_manyW HNE.out (by omega), fun hf => ?_⟩
          rw [hf] at HF
          have := ((Jo.ok_iff lp).1 HF.out).1
          rw [HLP.out] at this
          omega)
      clear hol HREL HSB HGX HOM HWK HSZ HF HLN HN41
      go_wp2_with fail
      refine hcon.mono ?_
      rintro e w4 ⟨rfl, hb4⟩
      have hbel4 := below_aft9 hbel hb4
      have HO4 := Lib.hid ((HOX.out.below hb4).own HLP.out hn41 w.heap.size hwX)
      clear hcon HOX hbel hb4
      cases f
      · have HP := Lib.hid (HPP.out.1 rfl)
        go_wp2
        go_ret2
        exact .inl ⟨_, HP.out, rfl, hbel4⟩
      · have HP := Lib.hid (HPP.out.2 rfl)
        go_wp2
        go_ret2
        exact .inr ⟨lp, some ⟨w2.heap.size, 0, none⟩, k, HP.out, by rw [HLP.out]; rfl, by rw [HLP.out]; exact HO4.out, hbel4⟩
end Go.Proofs.YtpldoffjclmacaaGreatDoor
