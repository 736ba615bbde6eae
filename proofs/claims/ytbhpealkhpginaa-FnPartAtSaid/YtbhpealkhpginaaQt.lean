/-
  Contracts of chapter 8: SplitSecret; of the model.
-/
import Derived.Test.YtbhpealkhpginaaQs
import Derived.Test.YtbhpealkhpginaaIl
import Derived.Test.YtbhpealkhpginaaOw
namespace Go.Proofs.Ytbhpealkhpginaa
open Go.RowKit

/-- The cells of a list of shares. -/
def Po.enc : List (Int × Int) → List Value
  | [] => []
  | x :: l => .int .i64 x.1 :: .int .i64 x.2 :: Po.enc l
theorem Po.enc_append (l m : List (Int × Int)) : Po.enc (l ++ m) = Po.enc l ++ Po.enc m := by
  induction l with
  | nil => rfl
  | cons x l ih => simp [Po.enc, ih]
theorem Po.enc_get (l : List (Int × Int)) : ∀ j, j < l.length → (Po.enc l)[j * 2]? = some (.int .i64 (Po.X l j)) ∧ (Po.enc l)[j * 2 + 1]? = some (.int .i64 (Po.Y l j)) := by
  induction l with
  | nil => intro j hj; simp at hj
  | cons x l ih =>
    intro j hj
    cases j with
    | zero => simp [Po.enc, Po.X, Po.Y]
    | succ j =>
      have g : ∀ i, (Po.enc (x :: l))[i + 2]? = (Po.enc l)[i]? := fun i => by
        show ([.int .i64 x.1, .int .i64 x.2] ++ Po.enc l)[i + 2]? = _
        rw [List.getElem?_append_right (by simp)]
        rfl
      have := ih j (by simpa using hj)
      rw [show (j + 1) * 2 = j * 2 + 2 by omega, show j * 2 + 2 + 1 = j * 2 + 1 + 2 by omega, g, g]
      exact this
theorem Po.enc_length (l : List (Int × Int)) : (Po.enc l).length = l.length * 2 := by
  induction l with
  | nil => rfl
  | cons x l ih => simp [Po.enc, ih]; omega
/-- Shares that the call owns. -/
theorem QR.own {w : World} {base : Nat} {e : TypeId} {a : Option Addr} {len cap n : Nat} {l : List (Int × Int)} (h : w.ownsRow base e 2 (.slice a len cap) n (Po.enc l)) : len = n ∧ QR w a len l := by
  have hl : l.length = n := by have := h.1; rw [Po.enc_length] at this; omega
  rcases h.2 with ⟨he, h0⟩ | ⟨g, cap', cur, he, hg, hh, hn, _, _, _⟩
  · cases he
    exact ⟨h0.symm, by omega, fun h => absurd h (by omega)⟩
  · cases he
    refine ⟨rfl, hl, fun h0 => ⟨g, 0, rfl, lt_of_block hh, fun j hj => ?_⟩⟩
    obtain ⟨e0, e1⟩ := Po.enc_get l j (by omega)
    have hadr : ∀ i, (⟨g, 0, none⟩ : Addr).add i = ⟨g, 0 + i, none⟩ := fun i => by unfold Addr.add; split <;> simp_all
    have f0 := h.cells (g := g) rfl _ _ e0
    have f1 := h.cells (g := g) rfl _ _ e1
    rw [hadr] at f0 f1
    exact ⟨f0, f1⟩
theorem info_part : (Try.prog.info? 35).map (fun i => (i.zero, i.size, i.bytes)) = some (some (.agg #[.int .i64 0, .int .i64 0]), 2, 16) := by kernel_rfl
theorem info_int9 : (Try.prog.info? 3).map (fun i => (i.zero, i.size, i.bytes)) = some (some (.int .i64 0), 1, 8) := by kernel_rfl
theorem two_new (w : World) (n : Nat) (x0 x1 : Value) (t : TypeId) (hn : n = w.heap.size) : ∀ j u, [x0, x1][j]? = some u → (w.alloc (.cells #[x0, x1] t)).cell? ((⟨n, 0, none⟩ : Addr).add j) = some u := by
  subst hn
  intro j u hj
  have hadr : (⟨w.heap.size, 0, none⟩ : Addr).add j = ⟨w.heap.size, j, none⟩ := by unfold Addr.add; split <;> simp_all
  rw [hadr]
  exact (World.cell?_alloc_mark w _ _ _ j).trans (by simpa using hj)
theorem kept2 {w w' : World} {base n s : Nat} {e : TypeId} {v : Value} {xs : List Value} (h : w.ownsRow base e s v n xs) (hb : Below w.heap.size w w') : w'.ownsRow base e s v n xs :=
  h.kept (row := none) ⟨hb.os, hb.tape, hb.output, hb.size, fun k hk _ => hb.block k hk⟩ (Classical.em _)
set_option maxRecDepth 100000 in
set_option maxHeartbeats 800000 in
theorem l8Value_any (a : Option Addr) (len cap : Nat) (cs : List Int) (x : Int) (w : World) (h : IR w a len cs) (hm : len ≤ 1048577) (x0 : 0 ≤ x) (x1 : x ≤ 1073741788) (hc : ∀ j, j < len → 0 ≤ cs.getD j 0 ∧ cs.getD j 0 ≤ 1073741788) :
    Calls Try.prog 42 #[.slice a len cap, .int .i64 x] w fun e w' => e = .returned (.int .i64 (Po.hv cs x)) ∧ Below w.heap.size w w' := by
  have hl := h.1
  go_enter Try.func42, Try.ntmps42
  go_wp2
  go_loopw [5, 6] (fun o i wr => ((∃ m : Nat, m < len ∧ i = .int .i64 (m : Int) ∧ o = .int .i64 (Po.hv (cs.drop (m + 1)) x)) ∨ (i = .int .i64 (-1) ∧ o = .int .i64 (Po.hv cs x))) ∧ Below w.heap.size w wr)
    (fun _ i _ => (intOf i + 1).toNat)
  case atStart =>
    refine ⟨?_, Below.refl _ _⟩
    by_cases h0 : len = 0
    · exact Or.inr ⟨by rw [h0]; rfl, by rw [List.eq_nil_of_length_eq_zero (by omega : cs.length = 0)]; rfl⟩
    · exact Or.inl ⟨len - 1, by omega, by congr 1 <;> omega, by rw [show len - 1 + 1 = cs.length by omega, List.drop_length]; rfl⟩
  case round =>
    obtain ⟨⟨m, hm2, rfl, rfl⟩ | ⟨rfl, rfl⟩, hbel⟩ := hrel
    · obtain ⟨b, off, rfl, hb, hcc⟩ := (h.below hbel).2 (by omega)
      have c0 := hcc m hm2
      obtain ⟨v0, v1⟩ := hc m hm2
      have HD : Hid (cs.drop m = cs.getD m 0 :: cs.drop (m + 1)) := Lib.hid (by rw [List.drop_eq_getElem_cons (by omega : m < cs.length), List.getD_eq_getElem?_getD, List.getElem?_eq_getElem (by omega : m < cs.length)]; rfl)
      have HV : Hid (Po.hv (cs.drop m) x = (Po.hv (cs.drop (m + 1)) x * x + cs.getD m 0) % 1073741789) := Lib.hid (by rw [HD.out]; rfl)
      obtain ⟨p0, p1⟩ := Po.hv_bd x (cs.drop (m + 1))
      obtain ⟨P, HP⟩ : ∃ P, Hid (Po.hv (cs.drop (m + 1)) x = P) := ⟨_, Lib.hid rfl⟩
      obtain ⟨V, HV2⟩ : ∃ P, Hid (cs.getD m 0 = P) := ⟨_, Lib.hid rfl⟩
      rw [HP.out] at p0 p1 HV ⊢
      rw [HV2.out] at c0 v0 v1 HV
      obtain ⟨m0, m1⟩ := Gr.mul_bd P x 1073741789 p0 p1 x0 (by omega) (by omega)
      have HN : Hid (m = 0 → cs.drop m = cs) := Lib.hid fun h => by rw [h]; exact List.drop_zero
      clear h hc hcc HD HP HV2
      go_wp2
      go_roundw
      case rel =>
        refine ⟨?_, hbel⟩
        by_cases hz : m = 0
        · refine Or.inr ⟨by rw [hz]; rfl, ?_⟩
          rw [← HN.out hz, HV.out]
        · exact Or.inl ⟨m - 1, by omega, by congr 1 <;> omega, by rw [show m - 1 + 1 = m by omega, HV.out]⟩
      case measure => simp [intOf]
    · obtain ⟨P, HP⟩ : ∃ P, Hid (Po.hv cs x = P) := ⟨_, Lib.hid rfl⟩
      rw [HP.out]
      clear h hc
      go_wp2
      go_ret
      exact ⟨by rw [HP.out]; rfl, hbel⟩
/-- The first k numbers are scalars. -/
def Po.cg (cs : List Int) : Nat → Bool
  | 0 => true
  | k + 1 => Po.cg cs k && Po.inY (cs.getD k 0)
theorem Po.cg_at (cs : List Int) : ∀ n, Po.cg cs n = true → ∀ j, j < n → 0 ≤ cs.getD j 0 ∧ cs.getD j 0 ≤ 1073741788 := by
  intro n
  induction n with
  | zero => intro _ j hj; omega
  | succ n ih =>
    intro h j hj
    unfold Po.cg at h
    rw [Bool.and_eq_true] at h
    by_cases hjn : j = n
    · rw [hjn]; exact (Po.inY_iff _).mp h.2
    · exact ih h.1 j (by omega)
theorem Po.cg_no (cs : List Int) (k : Nat) (h : Po.inY (cs.getD k 0) = false) : ∀ n, k < n → Po.cg cs n = false := by
  intro n
  induction n with
  | zero => intro hk; omega
  | succ n ih =>
    intro hk
    unfold Po.cg
    by_cases hkn : k = n
    · rw [← hkn, h, Bool.and_false]
    · rw [ih (by omega), Bool.false_and]
def Po.to : Nat → List Int := Po.sub fun _ => true
theorem Po.to_succ (k : Nat) : Po.to (k + 1) = Po.to k ++ [(k : Int) + 1] := rfl
theorem Po.to_len (k : Nat) : (Po.to k).length = k := Po.sub_all k
/-- Whether SplitSecret answers. -/
def Po.spOk (s : Int) (cs : List Int) (n : Int) : Bool := decide (1 ≤ n) && decide (n ≤ 8) && decide ((cs.length : Int) ≤ n - 1) && Po.cg (s :: cs) (cs.length + 1)
theorem Po.spOk_iff (s : Int) (cs : List Int) (n : Int) : Po.spOk s cs n = true ↔ (1 ≤ n ∧ n ≤ 8) ∧ (cs.length : Int) ≤ n - 1 ∧ Po.cg (s :: cs) (cs.length + 1) = true := by
  unfold Po.spOk
  rw [Bool.and_eq_true, Bool.and_eq_true, Bool.and_eq_true, decide_eq_true_iff, decide_eq_true_iff, decide_eq_true_iff, and_assoc]
theorem Po.spOk_no {s : Int} {cs : List Int} {n : Int} (h : ¬ ((1 ≤ n ∧ n ≤ 8) ∧ (cs.length : Int) ≤ n - 1 ∧ Po.cg (s :: cs) (cs.length + 1) = true)) : Po.spOk s cs n = false := by
  cases hf : Po.spOk s cs n
  · rfl
  · exact absurd ((Po.spOk_iff s cs n).mp hf) h
/-- What SplitSecret answers. -/
def SP (s : Int) (cs : List Int) (n : Int) (w : World) (e : Ending) (w' : World) : Prop := Below w.heap.size w w' ∧
  ((Po.spOk s cs n = false ∧ e = .returned (.tuple #[.slice none 0 0, .bool false])) ∨
   (Po.spOk s cs n = true ∧ ∃ g cp m : Nat, n = (m : Int) ∧ e = .returned (.tuple #[.slice (some ⟨g, 0, none⟩) m cp, .bool true]) ∧ w'.ownsRow w.heap.size 35 2 (.slice (some ⟨g, 0, none⟩) m cp) m (Po.enc (Po.sh (s :: cs) (Po.to m)))))
theorem SP.no {s : Int} {cs : List Int} {n : Int} {w w' : World} (h : Below w.heap.size w w') (k : Po.spOk s cs n = false) : SP s cs n w (.returned (.tuple #[.slice none 0 0, .bool false])) w' := ⟨h, Or.inl ⟨k, rfl⟩⟩
set_option maxRecDepth 100000 in
set_option maxHeartbeats 3200000 in
theorem specSplitSecret_any (s : Int) (a : Option Addr) (len cap : Nat) (cs : List Int) (n : Int) (w : World) (h : IR w a len cs) (hm : len ≤ 9223372036854775807) :
    Calls Try.prog 14 #[.int .i64 s, .slice a len cap, .int .i64 n] w fun e w' => SP s cs n w e w' := by
  have hl := h.1
  obtain ⟨i0, hi, hz0, hz1, hz2⟩ := info_parts info_int9
  obtain ⟨j0, hj, hy0, hy1, hy2⟩ := info_parts info_part
  by_cases hn : ¬ (1 ≤ n ∧ n ≤ 8)
  · have HN : Hid (Po.spOk s cs n = false) := Lib.hid (Po.spOk_no fun h => hn h.1)
    have HT : Hid ((decide (1 ≤ n) && decide (n ≤ 8)) = false) := Lib.hid (by simp; omega)
    clear hn h
    go_enter Try.func14, Try.ntmps14
    go_wp2_with fail
    refine (l6In_any n 1 8 _).mono ?_
    rw [HT.out]
    rintro e1 w1 ⟨rfl, rfl⟩
    go_wp2
    go_ret2
    exact SP.no (Below.refl _ _) HN.out
  replace hn := Decidable.not_not.mp hn
  have HT : Hid ((decide (1 ≤ n) && decide (n ≤ 8)) = true) := Lib.hid (by simp; omega)
  obtain ⟨hn1, hn8⟩ := hn
  by_cases hle : n - 1 < (len : Int)
  · have HN : Hid (Po.spOk s cs n = false) := Lib.hid (Po.spOk_no fun h => by have := h.2.1; omega)
    clear h
    go_enter Try.func14, Try.ntmps14
    go_wp2_with fail
    refine (l6In_any n 1 8 _).mono ?_
    rw [HT.out]
    rintro e1 w1 ⟨rfl, rfl⟩
    go_wp2
    go_ret2
    exact SP.no (Below.refl _ _) HN.out
  have hown0 : (w.alloc (.cells #[.int .i64 s] 3)).ownsRow w.heap.size 3 1 (.slice (some ⟨w.heap.size, 0, none⟩) 1 1) 1 ([s].map (Value.int .i64)) :=
    World.ownsRow_lit (e := 3) (size := 1) w #[.int .i64 s] 1 (Nat.le_refl _) (by decide) rfl
  have hb0 : Below w.heap.size w (w.alloc (.cells #[.int .i64 s] 3)) := below_alloc (Below.refl _ _) _
  go_enter Try.func14, Try.ntmps14
  go_wp2_with fail
  refine (l6In_any n 1 8 _).mono ?_
  rw [HT.out]
  rintro e1 w1 ⟨rfl, rfl⟩
  go_wp2
  go_loopw [8, 9] (fun o i wr => ∃ (k g cp : Nat), k ≤ len ∧ i = .int .i64 (k : Int) ∧ o = .slice (some ⟨g, 0, none⟩) (k + 1) cp ∧ wr.ownsRow w.heap.size 3 1 (.slice (some ⟨g, 0, none⟩) (k + 1) cp) (k + 1) ((s :: cs.take k).map (Value.int .i64)) ∧ Below w.heap.size w wr)
    (fun _ i _ => len - (intOf i).toNat)
  case atStart => exact ⟨0, w.heap.size, 1, by omega, rfl, rfl, hown0, hb0⟩
  case round =>
    clear hown0 hb0
    obtain ⟨k, g, cp, hk, rfl, rfl, hown, hbel⟩ := hrel
    by_cases hlt : k < len
    · obtain ⟨ba, offa, rfl, hba, hca⟩ := (h.below hbel).2 (by omega)
      have c0 := hca k hlt
      have HL : Hid (cs.take (k + 1) = cs.take k ++ [cs.getD k 0]) := Lib.hid (by rw [List.take_succ_eq_append_getElem (by omega : k < cs.length), List.getD_eq_getElem?_getD, List.getElem?_eq_getElem (by omega : k < cs.length)]; rfl)
      obtain ⟨V, HV⟩ : ∃ V, Hid (cs.getD k 0 = V) := ⟨_, Lib.hid rfl⟩
      rw [HV.out] at c0 HL
      have hbw := hbel.size
      clear hca HV
      go_wp2_with (at_builtin; refine wpList_append_own _ rfl _ _ 23 rfl w.heap.size 3 i0 (.int .i64 0) 1 8 Try.underlying23 hi hz0 hz1 hz2 rfl (by decide) _ _ _ rfl (hown.alloc (.cells #[.int .i64 V] 3 (0, 0))) ⟨wr.heap.size, 0, none⟩ 1 1 [.int .i64 V] rfl rfl ?c1 ?c2 ?c3 ?c4 ?c5 ?_)
      case c1 => exact one_new _ _ _
      case c2 => intro u hu; simp at hu; subst hu; rfl
      case c3 => unfold maxLen; omega
      case c4 => omega
      case c5 => simp; omega
      intro v' w5 hown5 hgrow _
      have hb5 : Below w.heap.size w w5 := Below.grown (below_alloc hbel (.cells #[.int .i64 V] 3 (0, 0))) hgrow (below_alloc hbel (.cells #[.int .i64 V] 3 (0, 0))).size (fun j he => (hown.lt _ he).1)
      obtain ⟨g5, cp5, rfl⟩ : ∃ g cp, v' = .slice (some ⟨g, 0, none⟩) (k + 1 + 1) cp := by
        rcases hown5.2 with ⟨h, h0⟩ | ⟨g, cap, cur, h, _⟩
        · omega
        · exact ⟨_, _, h⟩
      have hown6 : w5.ownsRow w.heap.size 3 1 (.slice (some ⟨g5, 0, none⟩) (k + 1 + 1) cp5) (k + 1 + 1) ((s :: cs.take (k + 1)).map (Value.int .i64)) := by
        rw [HL.out, ← List.cons_append, List.map_append]
        simpa using hown5
      clear hown5 hgrow hown HL h
      go_wp2
      go_roundw
      case rel => exact ⟨k + 1, g5, cp5, by omega, by simp, rfl, hown6, hb5⟩
      case measure => simp [intOf]; omega
    · have hk2 : k = len := by omega
      subst hk2
      rw [show cs.take k = cs from by rw [← hl, List.take_length]] at hown
      have hI := (IR.own hown).2
      have HCG : Hid (∀ j, j < k + 1 → Po.inY ((s :: cs).getD j 0) = false → Po.spOk s cs n = false) := Lib.hid fun j hj hf => Po.spOk_no fun hh => by
        have := Po.cg_no (s :: cs) j hf (cs.length + 1) (by omega)
        rw [this] at hh
        exact absurd hh.2.2 (by simp)
      have HOK : Hid (Po.cg (s :: cs) (k + 1) = true → Po.spOk s cs n = true) := Lib.hid fun hh => (Po.spOk_iff s cs n).mpr ⟨⟨hn1, hn8⟩, by omega, by rw [hl]; exact hh⟩
      clear hown h
      go_wp2
      go_loopw [10] (fun i wr2 => ∃ j : Nat, j ≤ k + 1 ∧ i = .int .i64 (j : Int) ∧ Hid (Po.cg (s :: cs) j = true) ∧ Below wr.heap.size wr wr2)
        (fun i _ => k + 1 - (intOf i).toNat)
      case atStart => exact ⟨0, by omega, rfl, Lib.hid rfl, Below.refl _ _⟩
      case round =>
        obtain ⟨j, hj1, rfl, hcg, hbel2⟩ := hrel
        have hI2 := hI.below hbel2
        have hc2 := below_after hbel hbel2
        by_cases hlj : j < k + 1
        · obtain ⟨ba, offa, hae, hba, hca⟩ := hI2.2 (by omega)
          cases hae
          have c0 := hca j hlj
          rw [Nat.zero_add] at c0
          have HN := Lib.hid (HCG.out j hlj)
          have HY : Hid (Po.cg (s :: cs) (j + 1) = Po.inY ((s :: cs).getD j 0)) := Lib.hid (by show (Po.cg (s :: cs) j && _) = _; rw [hcg.out, Bool.true_and])
          obtain ⟨V, HV⟩ : ∃ V, Hid ((s :: cs).getD j 0 = V) := ⟨_, Lib.hid rfl⟩
          rw [HV.out] at c0 HN HY
          have hyi : (decide (0 ≤ V) && decide (V ≤ 1073741788)) = Po.inY V := rfl
          have hconY := fun W => l6In_any V 0 1073741788 W
          rw [hyi] at hconY
          clear hca hyi HV hI hI2 HCG HOK hbel hcg
          cases hy : Po.inY V
          · have HN2 := Lib.hid (HN.out hy)
            rw [hy] at hconY
            clear hy HN HY
            go_wp2_with fail
            refine (hconY _).mono ?_
            rintro e2 w2 ⟨rfl, hw2⟩
            subst hw2
            go_wp2
            go_ret2
            exact SP.no hc2 HN2.out
          · rw [hy] at hconY HY
            clear hy HN
            go_wp2_with fail
            refine (hconY _).mono ?_
            rintro e2 w2 ⟨rfl, hw2⟩
            subst hw2
            go_wp2
            go_roundw
            case rel => exact ⟨j + 1, by omega, by simp, Lib.hid HY.out, hbel2⟩
            case measure => simp [intOf]; omega
        · have hj2 : j = k + 1 := by omega
          have hcg2 := hcg.out
          rw [hj2] at hcg2
          have HS := Lib.hid (HOK.out hcg2)
          have HC := Lib.hid (Po.cg_at (s :: cs) (k + 1) hcg2)
          have hj3 : ¬ (j : Int) < (k : Int) + 1 := by omega
          clear HCG HOK hcg hcg2 hI hbel hbel2 hj2 hlj hj1
          obtain ⟨m, rfl⟩ := Int.eq_ofNat_of_zero_le (show 0 ≤ n by omega)
          have hown3 := World.ownsRow_made (e := 35) (size := 2) wr #[] 0 (Nat.le_refl _) (by decide) rfl
          have hb3 := below_alloc (Below.refl wr.heap.size wr) (.cells #[] 35)
          obtain ⟨B2, hB2⟩ : ∃ B, Hid (B = wr.heap.size) := ⟨_, Lib.hid rfl⟩
          rw [← hB2.out] at hown3 hb3
          have hle2 := hc2.size
          rw [← hB2.out] at hle2
          go_wp2
          go_loopw [11, 12] (fun o i wr3 => ∃ (q g3 cp3 : Nat), q ≤ m ∧ i = .int .i64 ((q : Int) + 1) ∧ o = .slice (some ⟨g3, 0, none⟩) q cp3 ∧ wr3.ownsRow B2 35 2 (.slice (some ⟨g3, 0, none⟩) q cp3) q (Po.enc (Po.sh (s :: cs) (Po.to q))) ∧ Below B2 wr wr3)
            (fun _ i _ => m + 1 - (intOf i).toNat)
          case atStart => exact ⟨0, B2, 0, by omega, rfl, by rw [hB2.out], hown3, hb3⟩
          case round =>
            clear hown3 hb3
            obtain ⟨q, g3, cp3, hq, rfl, rfl, hown4, hbel4⟩ := hrel
            have hbel5 := hbel4
            rw [hB2.out] at hbel5
            have hI4 := hI2.below hbel5
            have hc4 := below_after hc2 hbel5
            by_cases hlq : q < m
            · have hcon := fun W (hh : IR W (some ⟨g, 0, none⟩) (k + 1) (s :: cs)) => l8Value_any (some ⟨g, 0, none⟩) (k + 1) cp (s :: cs) ((q : Int) + 1) W hh (by omega) (by omega) (by omega) HC.out
              have HE : Hid (Po.sh (s :: cs) (Po.to (q + 1)) = Po.sh (s :: cs) (Po.to q) ++ [((q : Int) + 1, Po.hv (s :: cs) ((q : Int) + 1))]) := Lib.hid (by rw [Po.to_succ, Po.sh_app])
              obtain ⟨V, HV⟩ : ∃ V, Hid (Po.hv (s :: cs) ((q : Int) + 1) = V) := ⟨_, Lib.hid rfl⟩
              rw [HV.out] at hcon HE
              have hbw := hbel4.size
              clear HV hbel5 hI2 hc2 hc4 HS HC
              go_wp2_with fail
              refine (hcon _ hI4).mono ?_
              rintro e6 w6 ⟨rfl, hb6⟩
              have hown6 := kept2 hown4 hb6
              have hlt6 := hown4.lt _ rfl
              have hbel6 := hbel4.trans (hb6.mono (Nat.le_of_lt (Nat.lt_of_le_of_lt hlt6.1 hlt6.2)))
              have hlt7 := hown6.lt _ rfl
              have hal := hbel6.alloc (by omega) (.cells #[.int .i64 ((q : Int) + 1), .int .i64 V] 35 (0, 0))
              clear hown4 hbel4 hb6 hI4 hcon hbel6
              go_wp2_with (at_builtin; refine wpList_append_own _ rfl _ _ 26 rfl B2 35 j0 (.agg #[.int .i64 0, .int .i64 0]) 2 16 Try.underlying26 hj hy0 hy1 hy2 rfl (by decide) _ _ _ rfl (hown6.alloc (.cells #[.int .i64 ((q : Int) + 1), .int .i64 V] 35 (0, 0))) ⟨w6.heap.size, 0, none⟩ 1 1 [.int .i64 ((q : Int) + 1), .int .i64 V] rfl rfl ?c1 ?c2 ?c3 ?c4 ?c5 ?_)
              case c1 => exact two_new _ _ _ _ _ (by simp)
              case c2 => intro u hu; simp at hu; rcases hu with h | h <;> (subst h; rfl)
              case c3 => unfold maxLen; omega
              case c4 => omega
              case c5 => simp; omega
              intro v' w7 hown7 hgrow _
              have hb7 := Below.grown hal hgrow (by simp; omega) (fun j he => (hown6.lt _ he).1)
              obtain ⟨g5, cp5, rfl⟩ : ∃ g cp, v' = .slice (some ⟨g, 0, none⟩) (q + 1) cp := by
                rcases hown7.2 with ⟨h, h0⟩ | ⟨g, cap, cur, h, _⟩
                · omega
                · exact ⟨_, _, h⟩
              have hown8 : w7.ownsRow B2 35 2 (.slice (some ⟨g5, 0, none⟩) (q + 1) cp5) (q + 1) (Po.enc (Po.sh (s :: cs) (Po.to (q + 1)))) := by
                rw [HE.out, Po.enc_append]
                exact hown7
              clear hown7 hgrow hown6 HE hal
              go_wp2
              go_roundw
              case rel => exact ⟨q + 1, g5, cp5, by omega, by simp, rfl, hown8, hb7⟩
              case measure => simp [intOf]; omega
            · have hq2 : q = m := by omega
              subst hq2
              have hown5 := ownsRow_base hown4 hle2
              clear hown4 hbel4 hbel5 hI4 hI2 hc2
              go_wp2
              go_ret2
              exact ⟨hc4, Or.inr ⟨HS.out, g3, cp3, q, rfl, rfl, hown5⟩⟩
end Go.Proofs.Ytbhpealkhpginaa
