/-
  Contracts of chapter 8: a point of a polynomial; of the program.
-/
import Derived.Test.YtbhpealkhpginaaRm
import Derived.Test.YtbhpealkhpginaaBk
namespace Go.Proofs.Ytbhpealkhpginaa
open Go.RowKit Go.Shelf
attribute [local go_sem] Oper.semAt_some

theorem Bk.own {B : Nat} {t : TypeId} {cs : Array Value} {A A' : World} {row : Option Nat} (h : Bk B t cs A) (hg : A.grownBy A' row) (hr : ∀ r, row = some r → ∃ o : Obj, A.heap[r]? = some o ∧ o.isCells = false) : Bk B t cs A' := by
  refine ⟨(hg.block B h.lt (fun e => ?_)).trans h.held⟩
  obtain ⟨o, ho, hc⟩ := hr B e.symm
  rw [h.held] at ho
  cases ho
  cases hc
theorem keepsOthers_below {A B : World} (h : Below A.heap.size A B) : KeepsOthers A B := ⟨h.size, fun k _ hk _ => (h.block k (Array.getElem?_eq_some_iff.1 hk).1).trans hk⟩
/-- The ways through a statement meet again. -/
theorem wpIn_meet8 {F : Fence} {n : Nat} {P : Program} {c : Code} {Q : Exit → Act → World → Prop} {a : Act} {w : World} (G : World → Prop) (A : Act)
    (h1 : c.wpIn F n P (fun e a' w' => match e with | .normal => a' = A ∧ G w' | _ => False) a w) (h2 : ∀ w', G w' → Q .normal A w') : c.wpIn F n P Q a w :=
  wpIn_mono h1 (fun e a' w' h => by
    cases e <;> first | exact (h : False).elim | (obtain ⟨ha, hF⟩ := h; subst ha; exact h2 w' hF))
/-- A scalar. -/
abbrev Sca : Type := { c : Int // 0 ≤ c ∧ c ≤ 1073741788 }
/-- A loop's body that goes on. -/
theorem ownPost_meet8 {α : Type} {F : Fence} {n : Nat} {P : Program} {c : Code} {Kp : World → World → Prop} {I : List α → World → Prop} {Ix : Code → List α → World → Prop} {xs : List α} {W : World} {a : Act} {w : World} (G : World → Prop)
    (h1 : c.wpIn F n P (fun e _ w' => match e with | .normal => G w' | _ => False) a w) (h2 : ∀ w', G w' → KeepsOthers W w' ∧ Kp W w' ∧ I xs w') : c.wpIn F n P (ownPostK Kp I Ix xs W) a w :=
  wpIn_mono h1 (fun e a' w' h => by
    cases e <;> first | exact (h : False).elim | exact h2 w' h)
set_option maxRecDepth 100000 in
set_option maxHeartbeats 6400000 in
theorem pointOf_any (Bs Bc : Nat) (s x : Int) (a : Option Addr) (len cap : Nat) (cs : List Int) (w : World) (h : PV w Bs Bc s a len cap cs) (hm : len ≤ 9223372036854775807) (hok : ∀ j, j < len + 1 → 0 ≤ (s :: cs).getD j 0 ∧ (s :: cs).getD j 0 ≤ 1073741788) (x0 : 0 ≤ x) (x1 : x ≤ 1073741788) :
    Calls Try.prog 40 #[(Value.func (.func 54) #[] #[.pointer (some ⟨Bs, 0, none⟩), .pointer (some ⟨Bc, 0, none⟩)]), .int .i64 x] w fun e w' => e = .returned (.agg #[.int .i64 x, .int .i64 (Po.hv (s :: cs) x)]) ∧ Below w.heap.size w w' := by
  have hl : (s :: cs).length = len + 1 := by rw [List.length_cons, h.ir.1]
  have hall : ∀ j, 0 ≤ (s :: cs).getD j 0 ∧ (s :: cs).getD j 0 ≤ 1073741788 := fun j => by
    by_cases hj : j < len + 1
    · exact hok j hj
    · rw [List.getD_eq_getElem?_getD, List.getElem?_eq_none (by omega)]
      exact ⟨Int.le_refl 0, (show (0 : Int) ≤ 1073741788 by decide)⟩
  have HUP : Hid ((Sq.upto (fun j => (⟨(s :: cs).getD j 0, hall j⟩ : Sca)) (len + 1)).map Subtype.val = s :: cs) := Lib.hid (by
    rw [← hl]
    apply List.ext_getElem
    · simp [Sq.upto]
    · intro i h1 h2
      simp [Sq.upto, List.getD_eq_getElem?_getD, List.getElem?_eq_getElem h2])
  have hX0 : Bk w.heap.size 3 #[.int .i64 x] ((((w.alloc (.cells #[.int .i64 x] 3 (0, 0))).alloc (.cells #[.int .i64 0, .int .i64 0] 35 (0, 0))).alloc (.cells #[.int .i64 0, .int .i64 1073741789] 77 (0, 0))).alloc (.cells #[.int .i64 1, .int .i64 1073741789] 77 (0, 0))) := (((Bk.new _ _ _).alloc _).alloc _).alloc _
  have hP0 : Bk (w.heap.size + 1) 35 #[.int .i64 0, .int .i64 0] ((((w.alloc (.cells #[.int .i64 x] 3 (0, 0))).alloc (.cells #[.int .i64 0, .int .i64 0] 35 (0, 0))).alloc (.cells #[.int .i64 0, .int .i64 1073741789] 77 (0, 0))).alloc (.cells #[.int .i64 1, .int .i64 1073741789] 77 (0, 0))) := ((Bk.new' _ _ _ _ (by simp)).alloc _).alloc _
  have hS0 : Bk (w.heap.size + 1 + 1) 77 #[.int .i64 0, .int .i64 1073741789] ((((w.alloc (.cells #[.int .i64 x] 3 (0, 0))).alloc (.cells #[.int .i64 0, .int .i64 0] 35 (0, 0))).alloc (.cells #[.int .i64 0, .int .i64 1073741789] 77 (0, 0))).alloc (.cells #[.int .i64 1, .int .i64 1073741789] 77 (0, 0))) := (Bk.new' _ _ _ _ (by simp)).alloc _
  have hT0 : Bk (w.heap.size + 1 + 1 + 1) 77 #[.int .i64 1, .int .i64 1073741789] ((((w.alloc (.cells #[.int .i64 x] 3 (0, 0))).alloc (.cells #[.int .i64 0, .int .i64 0] 35 (0, 0))).alloc (.cells #[.int .i64 0, .int .i64 1073741789] 77 (0, 0))).alloc (.cells #[.int .i64 1, .int .i64 1073741789] 77 (0, 0))) := Bk.new' _ _ _ _ (by simp)
  have hB0 : Below w.heap.size w ((((w.alloc (.cells #[.int .i64 x] 3 (0, 0))).alloc (.cells #[.int .i64 0, .int .i64 0] 35 (0, 0))).alloc (.cells #[.int .i64 0, .int .i64 1073741789] 77 (0, 0))).alloc (.cells #[.int .i64 1, .int .i64 1073741789] 77 (0, 0))) := below_alloc (below_alloc (below_alloc (below_alloc (Below.refl _ _) _) _) _) _
  have hz0 : ((((w.alloc (.cells #[.int .i64 x] 3 (0, 0))).alloc (.cells #[.int .i64 0, .int .i64 0] 35 (0, 0))).alloc (.cells #[.int .i64 0, .int .i64 1073741789] 77 (0, 0))).alloc (.cells #[.int .i64 1, .int .i64 1073741789] 77 (0, 0))).heap.size = w.heap.size + 4 := by simp
  have hPV0 := h.below hB0
  obtain ⟨W0, HW0⟩ : ∃ W0, Hid (((((w.alloc (.cells #[.int .i64 x] 3 (0, 0))).alloc (.cells #[.int .i64 0, .int .i64 0] 35 (0, 0))).alloc (.cells #[.int .i64 0, .int .i64 1073741789] 77 (0, 0))).alloc (.cells #[.int .i64 1, .int .i64 1073741789] 77 (0, 0))) = W0) := ⟨_, Lib.hid rfl⟩
  rw [HW0.out] at hX0 hP0 hS0 hT0 hB0 hz0 hPV0
  refine (callsIn_wide (n := 4)).1 ?_
  refine callsIn_of_wp_marks Try.func40 rfl trivial ?_ rfl
  simp only [Try.ntmps40, List.size_toArray, List.length_cons, List.length_nil, Nat.reduceAdd, Nat.reduceSub, Array.replicate_succ, Array.replicate_zero, List.push_toArray, List.append_toArray, List.nil_append, List.cons_append]
  gi_wp2
  rw [HW0.out]
  refine wpIn_rangeFunc_ownF rfl (by omega) (gf := 54) (lb := #[.pointer (some ⟨Bs, 0, none⟩), .pointer (some ⟨Bc, 0, none⟩)]) rfl trivial (enters_of Try.func54 (by kernel_rfl) rfl)
    (coefs_stops (fun y : Sca => y.val) (fun j => ⟨(s :: cs).getD j 0, hall j⟩) Fence.wide _ trivial rfl (by omega) Bs Bc w.heap.size s a len cap cs hm _ hPV0 h.ltc (fun b off he hl => by obtain ⟨b', off', he', hb', _⟩ := h.ir.2 hl; rw [he] at he'; cases he'; exact hb') rfl (fun j hj => rfl)) belowK_t (belowK_b (by omega)) (Below.refl _ _) (fun _ => rfl)
    (fun pre W => (Bk w.heap.size 3 #[.int .i64 x] W ∧ Bk (w.heap.size + 1) 35 #[.int .i64 0, .int .i64 0] W ∧ Bk (w.heap.size + 1 + 1) 77 #[.int .i64 (Po.fs x (pre.map Subtype.val)).1, .int .i64 1073741789] W ∧ Bk (w.heap.size + 1 + 1 + 1) 77 #[.int .i64 (Po.fs x (pre.map Subtype.val)).2, .int .i64 1073741789] W) ∧ Below w.heap.size w W)
    (fun _ _ _ => False)
    (OwnFrom.and (Own.from (fun s A B row hs hg hr => ⟨hs.1.own hg hr, hs.2.1.own hg hr, hs.2.2.1.own hg hr, hs.2.2.2.own hg hr⟩) _) (ownFrom_below (Nat.le_refl _) (by omega)))
    (fun _ _ _ _ _ hs _ _ => hs)
    ⟨⟨hX0, hP0, hS0, hT0⟩, hB0⟩
    (fun y => { tmps := #[(Value.func (.func 54) #[] #[.pointer (some ⟨Bs, 0, none⟩), .pointer (some ⟨Bc, 0, none⟩)]), .int .i64 x, undef, .pointer (some ⟨w.heap.size, 0, none⟩), .pointer (some ⟨(w.heap.size + 1), 0, none⟩), .pointer (some ⟨(w.heap.size + 1 + 1), 0, none⟩), .pointer (some ⟨(w.heap.size + 1 + 1 + 1), 0, none⟩), .int .i64 y.val, .agg #[.int .i64 0, .int .i64 1073741789], .agg #[.int .i64 1, .int .i64 1073741789], (Value.func (.func 54) #[] #[.pointer (some ⟨Bs, 0, none⟩), .pointer (some ⟨Bc, 0, none⟩)]), .int .i64 y.val, undef, undef, undef, undef, undef, undef, undef, undef, undef, undef, undef, undef, undef, undef], defers := [] }) ?assign ?body ?done ?stop
  case assign =>
    intro l y W K hK
    gi_wp2
    exact hK
  case body =>
    rintro l pre y W ⟨⟨HX, HP, HS, HT⟩, hB⟩ _
    have hmx : Try.prog.follows .mixedOrders = true := by kernel_rfl
    have hd : 1 ≤ 4 - 1 - 1 := by decide
    have hsz := HT.lt
    have HN := Lib.hid (Po.fs_snoc x (pre.map Subtype.val) y.val)
    obtain ⟨⟨s0, s1⟩, t0, t1⟩ := Po.fs_bd x (pre.map Subtype.val)
    have HM : Hid ((pre ++ [y]).map Subtype.val = pre.map Subtype.val ++ [y.val]) := Lib.hid (by rw [List.map_append]; rfl)
    obtain ⟨c0, c1⟩ := y.2
    obtain ⟨c, HC⟩ : ∃ c, Hid (y.val = c) := ⟨_, Lib.hid rfl⟩
    obtain ⟨U, HU⟩ : ∃ K, Hid ((Po.fs x (pre.map Subtype.val)).1 = K) := ⟨_, Lib.hid rfl⟩
    obtain ⟨T, HTT⟩ : ∃ K, Hid ((Po.fs x (pre.map Subtype.val)).2 = K) := ⟨_, Lib.hid rfl⟩
    rw [HU.out] at HS HN s0 s1
    rw [HTT.out] at HT HN t0 t1
    rw [HC.out] at c0 c1 HN HM
    have hc1 := fun W => times_any T c 1073741789 W (by omega) (by omega) t0 t1 c0 (by omega)
    have m0 := Int.emod_nonneg (T * c) (show (1073741789 : Int) ≠ 0 by decide)
    have m1 := Int.emod_lt_of_pos (T * c) (show (0 : Int) < 1073741789 by decide)
    obtain ⟨M, HMM⟩ : ∃ K, Hid (T * c % 1073741789 = K) := ⟨_, Lib.hid rfl⟩
    rw [HMM.out] at hc1 m0 m1 HN
    have hc2 := fun W => plus_any U M 1073741789 W (by omega) (by omega) s0 s1 m0 m1
    obtain ⟨U2, HU2⟩ : ∃ K, Hid ((U + M) % 1073741789 = K) := ⟨_, Lib.hid rfl⟩
    rw [HU2.out] at hc2 HN
    have hc3 := fun W => times_any T x 1073741789 W (by omega) (by omega) t0 t1 x0 (by omega)
    obtain ⟨T2, HT2⟩ : ∃ K, Hid (T * x % 1073741789 = K) := ⟨_, Lib.hid rfl⟩
    rw [HT2.out] at hc3 HN
    rw [HC.out]
    refine ownPost_meet8 (fun w' => (KeepsOthers W w' ∧ Below w.heap.size W w') ∧ Bk w.heap.size 3 #[.int .i64 x] w' ∧ Bk (w.heap.size + 1) 35 #[.int .i64 0, .int .i64 0] w' ∧ Bk (w.heap.size + 1 + 1) 77 #[.int .i64 U2, .int .i64 1073741789] w' ∧ Bk (w.heap.size + 1 + 1 + 1) 77 #[.int .i64 T2, .int .i64 1073741789] w') ?b1 ?b2
    case b2 =>
      rintro w' ⟨⟨k1, k2⟩, k3, k4, k5, k6⟩
      exact ⟨k1, k2, ⟨k3, k4, by rw [HM.out, HN.out.1]; exact k5, by rw [HM.out, HN.out.2]; exact k6⟩, hB.trans k2⟩
    case b1 =>
      obtain ⟨a0, a1⟩ := Bk.c2 HS.drew
      obtain ⟨g0, g1⟩ := Bk.c2 HT.drew
      clear HN HM HC HU HTT HMM HU2 HT2 hPV0 hX0 hP0 hS0 hT0 hB0 HW0 HUP hall hok h hl hz0 s0 s1 t0 t1 c0 c1 m0 m1 x0 x1
      gi_wp2
      apply wpIn_meet8 (fun w' => (KeepsOthers W w' ∧ Below w.heap.size W w') ∧ Bk w.heap.size 3 #[.int .i64 x] w' ∧ Bk (w.heap.size + 1) 35 #[.int .i64 0, .int .i64 0] w' ∧ Bk (w.heap.size + 1 + 1) 77 #[.int .i64 U2, .int .i64 1073741789] w' ∧ Bk (w.heap.size + 1 + 1 + 1) 77 #[.int .i64 T, .int .i64 1073741789] w')
      case h1 =>
        gi_region_with_o (first
          | (refine ⟨trivial, ?_⟩; gi_at_call 56; refine (CallsIn.inRound l (callsIn_wide.2 (hc1 _))).mono ?_; rintro e1 v1 ⟨rfl, hb1⟩; have HS1 := HS.drew.below hb1; have HT1 := HT.drew.below hb1; obtain ⟨a10, a11⟩ := Bk.c2 HS1; obtain ⟨g10, g11⟩ := Bk.c2 HT1; have hd1 : Below W.heap.size W v1 := below_after (Below.refl _ _).drew hb1)
          | (refine ⟨trivial, ?_⟩; gi_at_call 55; refine (CallsIn.inRound l (callsIn_wide.2 (hc2 v1))).mono ?_; rintro e2 v2 ⟨rfl, hb2⟩; have HS2 := HS1.below hb2; have hd2 := below_after hd1 hb2; obtain ⟨f20, f21⟩ := HS2.f2; obtain ⟨a20, a21⟩ := Bk.c2 HS2; have HS3 := Bk.store2 HS2 (.int .i64 U2) (.int .i64 1073741789); have HT3 := (HT.below hd2).other2 (w.heap.size + 1 + 1) (by omega) (.int .i64 U2) (.int .i64 1073741789); have HX3 := (HX.below hd2).other2 (w.heap.size + 1 + 1) (by omega) (.int .i64 U2) (.int .i64 1073741789); have HP3 := (HP.below hd2).other2 (w.heap.size + 1 + 1) (by omega) (.int .i64 U2) (.int .i64 1073741789); have hk3 := ((keepsOthers_below hd2).trans (KeepsOthers.setCell _ ⟨(w.heap.size + 1 + 1), 0, none⟩ (.int .i64 U2))).trans (KeepsOthers.setCell _ ⟨(w.heap.size + 1 + 1), 1, none⟩ (.int .i64 1073741789)); have hb3 := ((hd2.mono (by omega : w.heap.size ≤ W.heap.size)).setCell (p := ⟨(w.heap.size + 1 + 1), 0, none⟩) (show w.heap.size ≤ (w.heap.size + 1 + 1) by omega) (.int .i64 U2)).setCell (p := ⟨(w.heap.size + 1 + 1), 1, none⟩) (show w.heap.size ≤ (w.heap.size + 1 + 1) by omega) (.int .i64 1073741789)))
        all_goals exact ⟨rfl, ⟨hk3, hb3⟩, HX3, HP3, HS3, HT3⟩
      case h2 =>
        rintro w3 ⟨⟨hk3, hb3⟩, HX3, HP3, HS3, HT3⟩
        obtain ⟨g30, g31⟩ := Bk.c2 HT3
        have x30 := HX3.cell 0
        simp at x30
        clear HX HP HS HT a0 a1 g0 g1 hc1 hc2
        gi_wp2_with (first | (refine ⟨trivial, ?_⟩; gi_at_call 56; refine (CallsIn.inRound l (callsIn_wide.2 (hc3 _))).mono ?_; rintro e4 v4 ⟨rfl, hb4⟩; have HT4 := HT3.below hb4; obtain ⟨f40, f41⟩ := HT4.f2; obtain ⟨a40, a41⟩ := Bk.c2 HT4; have HT5 := Bk.store2 HT4 (.int .i64 T2) (.int .i64 1073741789); have HS5 := (HS3.below hb4).other2 (w.heap.size + 1 + 1 + 1) (by omega) (.int .i64 T2) (.int .i64 1073741789); have HX5 := (HX3.below hb4).other2 (w.heap.size + 1 + 1 + 1) (by omega) (.int .i64 T2) (.int .i64 1073741789); have HP5 := (HP3.below hb4).other2 (w.heap.size + 1 + 1 + 1) (by omega) (.int .i64 T2) (.int .i64 1073741789); have hsz3 := HT3.lt; have hk5 := ((hk3.trans (keepsOthers_below hb4)).trans (KeepsOthers.setCell _ ⟨(w.heap.size + 1 + 1 + 1), 0, none⟩ (.int .i64 T2))).trans (KeepsOthers.setCell _ ⟨(w.heap.size + 1 + 1 + 1), 1, none⟩ (.int .i64 1073741789)); have hb5 := ((hb3.trans (hb4.mono (by omega))).setCell (p := ⟨(w.heap.size + 1 + 1 + 1), 0, none⟩) (show w.heap.size ≤ (w.heap.size + 1 + 1 + 1) by omega) (.int .i64 T2)).setCell (p := ⟨(w.heap.size + 1 + 1 + 1), 1, none⟩) (show w.heap.size ≤ (w.heap.size + 1 + 1 + 1) by omega) (.int .i64 1073741789)))
  case done =>
    rintro D ys W hD rfl ⟨⟨HX, HP, HS, HT⟩, hB⟩ hK
    rw [HUP.out] at HS HT
    rw [Po.fs_hv] at HS
    obtain ⟨V, HV⟩ : ∃ K, Hid (Po.hv (s :: cs) x = K) := ⟨_, Lib.hid rfl⟩
    rw [HV.out] at HS
    have x30 := HX.cell 0
    simp at x30
    obtain ⟨a0, a1⟩ := Bk.c2 HS
    obtain ⟨f0, f1⟩ := HP.f2
    obtain ⟨p0, p1⟩ := Bk.c2 HP
    have HP3 := Bk.store2 HP (.int .i64 x) (.int .i64 V)
    have hK' := ((KeepsOthers.setCell W ⟨(w.heap.size + 1), 0, none⟩ (.int .i64 x)).trans (KeepsOthers.setCell _ ⟨(w.heap.size + 1), 1, none⟩ (.int .i64 V))).same D _ hK rfl
    have hB3 := (hB.setCell (p := ⟨(w.heap.size + 1), 0, none⟩) (show w.heap.size ≤ (w.heap.size + 1) by omega) (.int .i64 x)).setCell (p := ⟨(w.heap.size + 1), 1, none⟩) (show w.heap.size ≤ (w.heap.size + 1) by omega) (.int .i64 V)
    clear hPV0 hX0 hP0 hS0 hT0 hB0 HW0 HUP hall hok h hl x0 x1 hB HP HS HT HX
    gi_wp2
    refine ⟨by simp, .inl ⟨_, _, rfl, run_takeDeferred hK', ?_⟩⟩
    have HP4 := HP3.own (grownBy_putObj' _ D (.deferred none)) (fun r e => by cases e; exact ⟨_, hK', rfl⟩)
    refine ⟨_, results_cell_row (P := Try.prog) rfl _ _ (w.heap.size + 1) 35 _ (0, 0) _ rfl HP4.held Try.underlying35 rfl (by kernel_rfl), by rw [HV.out], hB3.trans (belowK_b (w := w) (Nat.le_refl _) _ D _ _ (by omega) hK' rfl rfl)⟩
  case stop =>
    rintro D c pre W _ _ h _
    exact h.elim
end Go.Proofs.Ytbhpealkhpginaa
