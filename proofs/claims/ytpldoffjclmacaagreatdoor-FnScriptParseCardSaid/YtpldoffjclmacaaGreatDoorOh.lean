/-
  Contracts of scripts: l10Split, l10Num; of the model.
-/
import Derived.Test.YtpldoffjclmacaaGreatDoorOd
namespace Go.Proofs.YtpldoffjclmacaaGreatDoor
open Go.RowKit

theorem sl_mid9 (s : ByteArray) (i k : Nat) (j j2 : Int) (hj : j = (i : Int)) (hj2 : j2 = (k : Int)) (h : i ≤ k) (h2 : k ≤ s.size) (W : World) : (Instr.slice 9 (.string s) (some (.int .i64 j)) (some (.int .i64 j2)) none).run Tryz.prog W = .ok (.string (s.extract i k)) W := by
  subst hj
  subst hj2
  simp [Instr.slice, Instr.sliceBounds, Instr.sliceBound, asIntOf, run_underlying Tryz.underlying9, h, h2]
theorem Jo.put_mark (m : Int) (p : List Int) (ps : List (List Int)) : Jo.put m m (p :: ps) = p :: ps ++ [[]] := by
  induction ps generalizing p with
  | nil => unfold Jo.put; rw [if_pos rfl]; rfl
  | cons q r ih => show p :: Jo.put m m (q :: r) = _; rw [ih q]; rfl
theorem Jo.put_char {m c : Int} (h : c ≠ m) (ps : List (List Int)) (n : Nat) (hn : ps.length = n + 1) : Jo.put m c ps = ps.set n ((ps.getD n []) ++ [c]) := by
  induction ps generalizing n with
  | nil => cases hn
  | cons p ps ih =>
    cases ps with
    | nil =>
      obtain rfl : n = 0 := by simpa using hn.symm
      unfold Jo.put
      rw [if_neg h]; rfl
    | cons q r =>
      obtain ⟨k, rfl⟩ : ∃ k, n = k + 1 := ⟨n - 1, by simp at hn; omega⟩
      show p :: Jo.put m c (q :: r) = _
      rw [ih k (by simpa using hn)]
      rfl
theorem Jo.split_len (m : Int) (l : List Int) : (Jo.split m l).length ≤ l.length + 1 ∧ ∀ p ∈ Jo.split m l, p.length ≤ l.length := by
  induction l with
  | nil => exact ⟨by simp [Jo.split], fun p hp => by simp [Jo.split] at hp; subst hp; simp⟩
  | cons c l ih =>
    obtain ⟨p, ps, hp⟩ := Jo.split_ne m l
    rw [hp] at ih
    unfold Jo.split
    rw [hp]
    split
    · refine ⟨by have := ih.1; simp only [List.length_cons] at this ⊢; omega, fun q hq => ?_⟩
      rcases List.mem_cons.1 hq with rfl | hq
      · simp
      · have := ih.2 q hq; simp only [List.length_cons]; omega
    · refine ⟨by have := ih.1; simp only [List.length_cons] at this ⊢; omega, fun q hq => ?_⟩
      rcases List.mem_cons.1 hq with rfl | hq
      · have := ih.2 p (List.mem_cons_self ..); simp only [List.length_cons]; omega
      · have := ih.2 q (List.mem_cons_of_mem _ hq); simp only [List.length_cons]; omega
theorem Jo.L_take {s : ByteArray} {k : Nat} (h : k < s.size) : (Jo.L s).take (k + 1) = (Jo.L s).take k ++ [En.byt s k] := by
  have hl : k < (Jo.L s).length := by rw [Jo.L_len]; exact h
  rw [List.take_succ_eq_append_getElem hl]
  congr 2
  have := Jo.L_get s k h
  rw [List.getElem?_eq_getElem hl] at this
  exact Option.some.inj this
/-- The parts of the first k characters. -/
def Jo.sp (m : Int) (s : ByteArray) (k : Nat) : List (List Int) := Jo.split m ((Jo.L s).take k)
theorem Jo.sp_succ {m : Int} {s : ByteArray} {k : Nat} (h : k < s.size) : Jo.sp m s (k + 1) = Jo.put m (En.byt s k) (Jo.sp m s k) := by
  unfold Jo.sp
  rw [Jo.L_take h, Jo.split_snoc]
theorem Jo.sp_len (m : Int) (s : ByteArray) (k : Nat) : 1 ≤ (Jo.sp m s k).length ∧ (Jo.sp m s k).length ≤ s.size + 1 ∧ ∀ j, ((Jo.sp m s k).getD j []).length ≤ s.size := by
  have hl : ((Jo.L s).take k).length ≤ s.size := by rw [List.length_take, Jo.L_len]; omega
  obtain ⟨p, ps, hp⟩ := Jo.split_ne m ((Jo.L s).take k)
  have h := Jo.split_len m ((Jo.L s).take k)
  unfold Jo.sp
  refine ⟨by rw [hp]; simp, by omega, fun j => ?_⟩
  rw [List.getD_eq_getElem?_getD]
  cases hj : (Jo.split m ((Jo.L s).take k))[j]? with
  | none => simp
  | some q => have := h.2 q (List.mem_of_getElem? hj); simp only [Option.getD_some]; omega
theorem ownsRow_set {w : World} {base : Nat} {e : TypeId} {g n cap : Nat} {xs : List Value} (h : w.ownsRow base e 1 (.slice (some ⟨g, 0, none⟩) n cap) n xs) (i : Nat) (u : Value) : (w.setCell ⟨g, i, none⟩ u).ownsRow base e 1 (.slice (some ⟨g, 0, none⟩) n cap) n (xs.set i u) := by
  have hl := h.1
  rcases h.2 with ⟨he, _⟩ | ⟨g', cap', cur, he, hg, hh, hn, hm, hs, ht⟩
  · cases he
  · cases he
    refine ⟨by rw [List.length_set]; exact hl, .inr ⟨g, cap, cur.setIfInBounds i u, rfl, hg, block_setCell hh i u, hn, hm, by simpa using hs, ?_⟩⟩
    rw [Array.toList_setIfInBounds, List.take_set, ht]
/-- The strings of parts. -/
def Jo.vals (ps : List (List Int)) : List Value := ps.map fun p => Value.string (strOfNums p)
/-- What l10Split hands back. -/
def JoSp (ps : List (List Int)) (w : World) (e : Ending) (w' : World) : Prop :=
  ∃ g cap, e = .returned (.slice (some ⟨g, 0, none⟩) ps.length cap) ∧ w.heap.size ≤ g ∧ g < w'.heap.size ∧ (∀ j, j < ps.length → w'.cell? ⟨g, j, none⟩ = some (.string (strOfNums (ps.getD j [])))) ∧ Below w.heap.size w w'
theorem info_str9 : (Tryz.prog.info? 9).map (fun i => (i.zero, i.size, i.bytes)) = some (some (.string ⟨#[]⟩), 1, 16) := by kernel_rfl
set_option maxRecDepth 100000 in
set_option maxHeartbeats 1600000 in
theorem l10Split_any (s : ByteArray) (m : Int) (w : World) (hs : s.size ≤ 900000) (m0 : 0 ≤ m) (m1 : m < 256) :
    Calls Tryz.prog 26 #[.string s, .int .u8 m] w (JoSp (Jo.split m (Jo.L s)) w) := by
  obtain ⟨i0, hi, hz0, hz1, hz2⟩ := info_parts info_str9
  have HALL : Hid (Jo.split m (Jo.L s) = Jo.sp m s s.size) := Lib.hid (by
    unfold Jo.sp
    rw [List.take_of_length_le (by rw [Jo.L_len]; exact Nat.le_refl _)])
  go_enter Tryz.func26, Tryz.ntmps26
  go_wp2
  go_loopw [5, 6] (fun v i wr => ∃ k : Nat, k ≤ s.size ∧ i = .int .i64 (k : Int) ∧ Hid (wr.ownsRow w.heap.size 9 1 v (Jo.sp m s k).length (Jo.vals (Jo.sp m s k))) ∧ Below w.heap.size w wr)
    (fun _ i _ => s.size - (intOf i).toNat)
  case atStart => exact ⟨0, by omega, rfl, Lib.hid ⟨rfl, .inr ⟨w.heap.size, 1, #[.string ⟨#[]⟩], rfl, Nat.le_refl _, heap_alloc_new w _, Nat.le_refl _, by decide, rfl, rfl⟩⟩, (Below.refl _ _).alloc (Nat.le_refl _) _⟩
  case round =>
    obtain ⟨k, hk, rfl, HOWN, hbel⟩ := hrel
    obtain ⟨l1, l2, l3⟩ := Jo.sp_len m s k
    obtain ⟨n, hn⟩ : ∃ n, (Jo.sp m s k).length = n + 1 := ⟨(Jo.sp m s k).length - 1, by omega⟩
    have hown := HOWN.out
    rw [hn] at hown l2
    obtain ⟨g, cp, rfl⟩ : ∃ g cp, u5 = .slice (some ⟨g, 0, none⟩) (n + 1) cp := by
      rcases hown.2 with ⟨_, h0⟩ | ⟨g, cap', cur, h1, _⟩
      · omega
      · exact ⟨_, _, h1⟩
    have hncp : n + 1 ≤ cp := by
      rcases hown.2 with ⟨h0, _⟩ | ⟨g', cap', cur, h1, _, _, h2, _⟩
      · cases h0
      · cases h1; exact h2
    have hglt := (hown.lt g rfl)
    have HN := Lib.hid hn
    clear HOWN l1
    by_cases hlt : k < s.size
    · have hb := En.byt_bd s k
      have hx : ∀ h : k < s.size, ((s[k]'h).toNat : Int) = En.byt s k := fun h => En.byt_eq _ _ h
      have HSUC := Lib.hid (Jo.sp_succ (m := m) hlt)
      have hsl0 : ∀ W, (Instr.slice 9 (.string s) (some (.int .i64 (k : Int))) (some (.int .i64 ((k : Int) + 1))) none).run Tryz.prog W = .ok (.string (strOfNums [En.byt s k])) W := fun W => by
        have e : s.extract k (k + 1) = strOfNums [En.byt s k] := by
          apply Jo.L_inj
          rw [Jo.L_str _ (fun x hx => by simp at hx; subst hx; exact En.byt_bd s k), Jo.L_extract, show k + 1 - k = 1 by omega]
          have hl : k < (Jo.L s).length := by rw [Jo.L_len]; exact hlt
          rw [List.drop_eq_getElem_cons hl]
          have := Jo.L_get s k hlt
          rw [List.getElem?_eq_getElem hl] at this
          rw [Option.some.inj this]
          rfl
        rw [← e]
        exact sl_mid9 s k (k + 1) _ _ rfl (by omega) (by omega) (by omega) W
      obtain ⟨x, HX⟩ : ∃ x, Hid (En.byt s k = x) := ⟨_, Lib.hid rfl⟩
      rw [HX.out] at hb HSUC
      simp only [HX.out] at hx hsl0
      by_cases hxm : x = m
      · subst hxm
        have hq : (x == x) = true := by simp
        have hbs := hbel.size
        have HNX : Hid (Jo.sp x s (k + 1) = Jo.sp x s k ++ [[]]) := Lib.hid (by
          rw [HSUC.out]
          obtain ⟨p, ps, hp⟩ := Jo.split_ne x ((Jo.L s).take k)
          have : Jo.sp x s k = p :: ps := hp
          rw [this, Jo.put_mark])
        have S1 := Lib.hid (one_new wr (.string ⟨#[]⟩) 9)
        clear hsl0 hn
        go_wp2_with (at_builtin; refine wpList_append_own _ rfl _ _ 38 rfl w.heap.size 9 i0 (.string ⟨#[]⟩) 1 16 Tryz.underlying38 hi hz0 hz1 hz2 rfl (by decide) _ _ _ rfl (hown.alloc (.cells #[.string ⟨#[]⟩] 9 (0, 0))) ⟨wr.heap.size, 0, none⟩ 1 1 [.string ⟨#[]⟩] rfl rfl ?_ ?_ ?_ ?_ ?_ ?_)
        any_goals first | exact S1.out | (intro u hu; simp at hu; subst hu; rfl) | (unfold maxLen; omega) | omega | (simp; omega)
        intro v' w5 hown5 hgrow _
        have hown6 : Hid (w5.ownsRow w.heap.size 9 1 v' (Jo.sp x s (k + 1)).length (Jo.vals (Jo.sp x s (k + 1)))) := Lib.hid (by
          rw [HNX.out, List.length_append, HN.out]
          unfold Jo.vals
          rw [List.map_append]
          exact hown5)
        have hbel2 : Below w.heap.size w w5 := (hbel.alloc hbs (.cells #[.string ⟨#[]⟩] 9)).grown hgrow (by simp; omega) (fun q hq => (hown.lt _ hq).1)
        clear hown hown5 hgrow hbel
        go_wp2
        go_roundw
        case rel => exact ⟨k + 1, by omega, by simp, hown6, hbel2⟩
        case measure => simp [intOf]; omega
      · have hq : (x == m) = false := by simpa using hxm
        have HNX : Hid (Jo.sp m s (k + 1) = (Jo.sp m s k).set n ((Jo.sp m s k).getD n [] ++ [x])) := Lib.hid (by rw [HSUC.out, Jo.put_char hxm _ n hn])
        have hpl := l3 n
        have hcell : wr.cell? ⟨g, n, none⟩ = some (.string (strOfNums ((Jo.sp m s k).getD n []))) := by
          have h1 := hown.cells (g := g) rfl n (.string (strOfNums ((Jo.sp m s k).getD n []))) (by
            unfold Jo.vals
            rw [List.getElem?_map, List.getD_eq_getElem?_getD, List.getElem?_eq_getElem (by omega)]
            rfl)
          have hadr : (⟨g, 0, none⟩ : Addr).add n = ⟨g, n, none⟩ := by unfold Addr.add; split <;> simp_all
          rwa [hadr] at h1
        obtain ⟨P, HP⟩ : ∃ P, Hid ((Jo.sp m s k).getD n [] = P) := ⟨_, Lib.hid rfl⟩
        rw [HP.out] at hcell hpl HNX
        have hfro : wr.frozen? ⟨g, n, none⟩ = false := by
          rcases hown.2 with ⟨h0, _⟩ | ⟨g', cap', cur, h1, _, hh, _⟩
          · cases h0
          · cases h1
            simp [World.frozen?, hh]
        have hadd := fun W => str_add W P [x] (by simp; omega)
        have hw1 : IntKind.i64.wrap ((k : Int) + 1) = (k : Int) + 1 := IntWalk.i64_in _ (by omega)
        have hown2 := ownsRow_set hown n (.string (strOfNums (P ++ [x])))
        have hb2 := hbel.setCell (p := ⟨g, n, none⟩) hglt.1 (.string (strOfNums (P ++ [x])))
        have hfd : wr.drew.frozen? ⟨g, n, none⟩ = false := hfro
        have hcd : wr.drew.cell? ⟨g, n, none⟩ = some (.string (strOfNums P)) := hcell
        have HF : Hid (((wr.drew.setCell ⟨g, n, none⟩ (.string (strOfNums (P ++ [x])))).ownsRow w.heap.size 9 1 (.slice (some ⟨g, 0, none⟩) (n + 1) cp) (n + 1) ((Jo.vals (Jo.sp m s k)).set n (.string (strOfNums (P ++ [x]))))) ∧ Below w.heap.size w (wr.drew.setCell ⟨g, n, none⟩ (.string (strOfNums (P ++ [x]))))) := Lib.hid ⟨hown2, hbel.drew.setCell (p := ⟨g, n, none⟩) hglt.1 _⟩
        clear hown hown2 hb2 hbel hn l3 HP
        go_wp2
        go_region
        go_wp2
        go_roundw
        case rel => exact ⟨k + 1, by omega, by simp, Lib.hid (by
            rw [HNX.out, List.length_set, HN.out]
            unfold Jo.vals
            rw [List.map_set]
            exact HF.out.1), HF.out.2⟩
        case measure => simp [intOf]; omega
    · obtain rfl : k = s.size := by omega
      have hcells : Hid (∀ j, j < (Jo.sp m s s.size).length → wr.cell? ⟨g, j, none⟩ = some (.string (strOfNums ((Jo.sp m s s.size).getD j [])))) := Lib.hid fun j hj => by
        have h1 := hown.cells (g := g) rfl j (.string (strOfNums ((Jo.sp m s s.size).getD j []))) (by
          unfold Jo.vals
          rw [List.getElem?_map, List.getD_eq_getElem?_getD, List.getElem?_eq_getElem hj]
          rfl)
        have hadr : (⟨g, 0, none⟩ : Addr).add j = ⟨g, j, none⟩ := by unfold Addr.add; split <;> simp_all
        rwa [hadr] at h1
      have HG := Lib.hid hglt
      clear hown hn l3 hglt
      go_wp2
      go_ret
      exact ⟨g, cp, by rw [HALL.out, HN.out]; rfl, HG.out.1, HG.out.2, by rw [HALL.out]; exact hcells.out, hbel⟩
end Go.Proofs.YtpldoffjclmacaaGreatDoor
