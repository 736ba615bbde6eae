/-
  The machine of the program: the table of its steps; a run.
-/
import Derived.Test.YtdaffohimifecaaGreatWe
import Derived.Test.YtdaffohimifecaaGreatWf
import Derived.Test.YtdaffohimifecaaGreatWg
import Derived.Test.YtdaffohimifecaaGreatYb
import Derived.Defers
import Derived.Recover
import Derived.Laws.Rows
import Derived.Laws.EntriesVeiled
import Derived.Shelf.Abstract
namespace Go.Proofs.YtdaffohimifecaaGreat
open Go.RowKit

def Vm.fnum (k : Nat) : Nat := [92, 94, 95, 97, 98, 99, 102, 103, 104, 105, 107, 110, 111, 112, 113].getD k 0
def Vm.tab : Array Value := #[.func (Fn.func 92) #[] #[], .func (Fn.func 94) #[] #[], .func (Fn.func 95) #[] #[], .func (Fn.func 97) #[] #[], .func (Fn.func 98) #[] #[], .func (Fn.func 99) #[] #[], .func (Fn.func 102) #[] #[], .func (Fn.func 103) #[] #[], .func (Fn.func 104) #[] #[], .func (Fn.func 105) #[] #[], .func (Fn.func 107) #[] #[], .func (Fn.func 110) #[] #[], .func (Fn.func 111) #[] #[], .func (Fn.func 112) #[] #[], .func (Fn.func 113) #[] #[]]
theorem Vm.tab_get (k : Nat) (h : k < 15) : Vm.tab[k]? = some (.func (Fn.func (Vm.fnum k)) #[] #[]) := by
  rcases k with _ | _ | _ | _ | _ | _ | _ | _ | _ | _ | _ | _ | _ | _ | _ | k
  all_goals first | rfl | omega
theorem enters_step (k : Nat) (h : k < 15) : ∀ args w, (callFunc (Vm.fnum k) args).run Tryz.prog w = .ok (.enter (Vm.fnum k) args) w := by
  rcases k with _ | _ | _ | _ | _ | _ | _ | _ | _ | _ | _ | _ | _ | _ | _ | k
  · exact enters_of Tryz.func92 (by kernel_rfl) rfl
  · exact enters_of Tryz.func94 (by kernel_rfl) rfl
  · exact enters_of Tryz.func95 (by kernel_rfl) rfl
  · exact enters_of Tryz.func97 (by kernel_rfl) rfl
  · exact enters_of Tryz.func98 (by kernel_rfl) rfl
  · exact enters_of Tryz.func99 (by kernel_rfl) rfl
  · exact enters_of Tryz.func102 (by kernel_rfl) rfl
  · exact enters_of Tryz.func103 (by kernel_rfl) rfl
  · exact enters_of Tryz.func104 (by kernel_rfl) rfl
  · exact enters_of Tryz.func105 (by kernel_rfl) rfl
  · exact enters_of Tryz.func107 (by kernel_rfl) rfl
  · exact enters_of Tryz.func110 (by kernel_rfl) rfl
  · exact enters_of Tryz.func111 (by kernel_rfl) rfl
  · exact enters_of Tryz.func112 (by kernel_rfl) rfl
  · exact enters_of Tryz.func113 (by kernel_rfl) rfl
  · omega
set_option maxRecDepth 100000 in
set_option maxHeartbeats 1600000 in
theorem stepsOfCodes_any (w : World) : Calls Tryz.prog 65 #[] w fun e w' => e = .returned (.agg Vm.tab) ∧ Below w.heap.size w w' := by
  have hb : Below w.heap.size w (w.alloc (.cells Vm.tab 100 (0, 0))) := (Below.refl _ _).alloc (Nat.le_refl _) _
  have hX : Bk w.heap.size 100 Vm.tab (w.alloc (.cells Vm.tab 100 (0, 0))) := Bk.new _ _ _
  have HX := Lib.hid hX
  have HB := Lib.hid hb
  clear hX hb
  go_enter Tryz.func65, Tryz.ntmps65
  go_wp2
  refine bodyPost_ret (results_cell_row (P := Tryz.prog) rfl _ _ w.heap.size 100 Vm.tab (0, 0) _ rfl HX.out.held Tryz.underlying100 rfl (by kernel_rfl)) rfl ?_
  exact ⟨rfl, HB.out⟩
/-- What the operation does, whichever it is. -/
def Vm.exec (E : Vm) (x : Jo) (s : List ByteArray) (br : List Bool) : Except Int (List ByteArray × List Bool) := if 6 ≤ x.c ∧ x.c ≤ 8 then Vm.cond x.c s br else Vm.fin br (Vm.act E x s)
theorem Vm.step_exec {E : Vm} {x : Jo} {s : List ByteArray} {br : List Bool} (h : (6 ≤ x.c ∧ x.c ≤ 8) ∨ Vm.live br = true) : Vm.step E x s br = Vm.exec E x s br := by
  unfold Vm.step Vm.exec
  by_cases hc : 6 ≤ x.c ∧ x.c ≤ 8
  · rw [if_pos hc, if_pos hc]
  · rw [if_neg hc, if_neg hc, if_pos (h.resolve_left hc)]
    cases Vm.act E x s <;> rfl
theorem Vm.step_skip {E : Vm} {x : Jo} {s : List ByteArray} {br : List Bool} (h : ¬ (6 ≤ x.c ∧ x.c ≤ 8)) (h2 : Vm.live br = false) : Vm.step E x s br = .ok (s, br) := by
  unfold Vm.step
  rw [if_neg h, h2]
  rfl
theorem stepAny (k : Nat) (hk : k < 15) (base D : Nat) (E : Vm) (x : Jo) (s : List ByteArray) (br : List Bool) (w : World) (h : MPs base D E s br w) (hb : base ≤ w.heap.size) (hs : Vm.fits s) (hc : x.c = (k : Int)) (hf : Jo.fld x = true) (hbr : br.length ≤ 4) (hne : x.c = 7 ∨ x.c = 8 → br ≠ []) (ht : E.t.size ≤ 1048576) :
    Calls Tryz.prog (Vm.fnum k) #[.pointer (some ⟨D, 0, none⟩), x.val] w (StP base D E (Vm.exec E x s br) w) := by
  unfold Vm.exec
  rcases k with _ | _ | _ | _ | _ | _ | _ | _ | _ | _ | _ | _ | _ | _ | _ | k
  · rw [if_neg (by rw [hc]; decide)]
    exact op0_any base D E x s br w h hb hs hc
  · rw [if_neg (by rw [hc]; decide)]
    exact op1_any base D E x s br w h hb hs hc
  · rw [if_neg (by rw [hc]; decide)]
    exact op2_any base D E x s br w h hb hs hc
  · rw [if_neg (by rw [hc]; decide)]
    exact op3_any base D E x s br w h hb hs hc
  · rw [if_neg (by rw [hc]; decide)]
    exact op4_any base D E x s br w h hb hs hc
  · rw [if_neg (by rw [hc]; decide)]
    exact op5_any base D E x s br w h hb hs hc
  · rw [if_pos (by rw [hc]; decide)]
    cases hl : Vm.live br
    · exact op6_skip base D E x s br w h hb hc hbr hl
    · exact op6_live base D E x s br w h hb hs hc hbr hl
  · rw [if_pos (by rw [hc]; decide)]
    exact op7_any base D E x s br w h hb hc hbr (hne (by rw [hc]; decide))
  · rw [if_pos (by rw [hc]; decide)]
    exact op8_any base D E x s br w h hb hc hbr (hne (by rw [hc]; decide))
  · rw [if_neg (by rw [hc]; decide)]
    exact op9_any base D E x s br w h hb hs hc
  · rw [if_neg (by rw [hc]; decide)]
    exact op10_any base D E x s br w h hb hs hc
  · rw [if_neg (by rw [hc]; decide)]
    exact op11_any base D E x s br w h hb hs hc ht
  · rw [if_neg (by rw [hc]; decide)]
    exact op12_any base D E x s br w h hb hs hc hf ht
  · rw [if_neg (by rw [hc]; decide)]
    exact op13_any base D E x s br w h hb hs hc
  · rw [if_neg (by rw [hc]; decide)]
    exact op14_any base D E x s br w h hb hs hc
  · omega

/-! ### the deferred closure -/
set_option maxRecDepth 100000 in
theorem catch_panicking (B : Nat) (x c : Int) (w : World) (hX : Bk B 3 #[.int .i64 x] w) :
    CallsD Tryz.prog 64 #[.pointer (some ⟨B, 0, none⟩)] (.panicking [{ v := .iface 96 (.agg #[.int .i64 c]), recovered := false }]) w fun e u' w' =>
      e = .returned (.tuple #[]) ∧ u' = .panicking [{ v := .iface 96 (.agg #[.int .i64 c]), recovered := true }] ∧ w' = (w.alloc (.cells #[.int .i64 c] 96 (0, 0))).setCell ⟨B, 0, none⟩ (.int .i64 c) := by
  have hta : ∀ w : World, (Instr.typeAssert (.iface 96 (.agg #[.int .i64 c])) 20 96 true).run Tryz.prog w = .ok (.tuple #[.agg #[.int .i64 c], .bool true]) w := fun _ => by kernel_rfl
  have hY := hX.alloc (.cells #[.int .i64 c] 96 (0, 0))
  have hN : Bk w.heap.size 96 #[.int .i64 c] (w.alloc (.cells #[.int .i64 c] 96 (0, 0))) := Bk.new _ _ _
  have y0 := (hY.cell 0).trans rfl
  have yf := hY.fro 0
  have n0 := (hN.cell 0).trans rfl
  refine callsD_of_wpS Tryz.func64 rfl fun c₀ cs hu => ?_
  apply wpS_seq
  apply wpS_region
  simp [wpOpsS, go_sem, recoverD, hu, Tryz.ntmps64, Exit.thenS, hta]
  apply wpS_seq
  apply wpS_region
  simp [wpOpsS, go_sem, Exit.thenS]
  refine wpS_cond (t := true) (by simp [Act.eval, Array.replicate]) ?_
  simp only [if_true]
  apply wpS_region
  simp [wpOpsS, go_sem, y0, yf, bodyPostS, results, Tryz.results64]
set_option maxRecDepth 100000 in
theorem catch_idle (B : Nat) (w : World) :
    CallsD Tryz.prog 64 #[.pointer (some ⟨B, 0, none⟩)] .returning w fun e u' w' => e = .returned (.tuple #[]) ∧ u' = .returning ∧ w' = w.alloc (.cells #[.int .i64 0] 96 (0, 0)) := by
  have hta : ∀ w : World, (Instr.typeAssert .nilIface 20 96 true).run Tryz.prog w = .ok (.tuple #[.agg #[.int .i64 0], .bool false]) w := fun _ => by kernel_rfl
  refine callsD_of_wpS Tryz.func64 rfl fun c₀ cs hu => ?_
  apply wpS_seq
  apply wpS_region
  simp [wpOpsS, go_sem, recoverD, hu, Tryz.ntmps64, Exit.thenS, hta]
  apply wpS_seq
  apply wpS_region
  simp [wpOpsS, go_sem, Exit.thenS]
  refine wpS_cond (t := false) (by simp [Act.eval, Array.replicate]) ?_
  simp only [Bool.false_eq_true, if_false]
  refine wpS_of_wp (wp_skip ?_)
  cases c₀
  simp_all [bodyPostS, results, Tryz.results64]
theorem wp_toPanic {P : Program} {c : Code} {Q : Exit → Act → World → Prop} {a : Act} {w : World} (G : List PanicEntry → Act → World → Prop)
    (h1 : c.wp P (fun e a' w' => match e with | .panic ch => G ch a' w' | _ => False) a w) (h2 : ∀ ch a' w', G ch a' w' → Q (.panic ch) a' w') : c.wp P Q a w :=
  Code.wp_mono (fun e a' w' h => by cases e <;> first | exact (h : False).elim | exact h2 _ _ _ h) h1
theorem put_far (a : Act) (k j : Nat) (v : Value) (h : k ≠ j) : (a.put (some k) v).tmps.getD j undef = a.tmps.getD j undef := by
  unfold Act.put
  simp [Array.getD_eq_getD_getElem?, Array.getElem?_setIfInBounds_ne h]
theorem MPs.other {base D X : Nat} {E : Vm} {s : List ByteArray} {br : List Bool} {w : World} {t : TypeId} {cs : Array Value} (h : MPs base D E s br w) (hX : Bk X t cs w) (h1 : t ≠ 9) (h2 : t ≠ 4) (hD : X ≠ D) (i : Nat) (v : Value) : MPs base D E s br (w.setCell ⟨X, i, none⟩ v) := by
  obtain ⟨vi, vb, h⟩ := h
  exact ⟨vi, vb, h.hD, h.blk.oset X i v (fun e => hD e.symm), own_set h.its X i v (own_type h.its h1 hX.held), own_set h.brs X i v (own_type h.brs h2 hX.held)⟩
theorem MPs.below {base D : Nat} {E : Vm} {s : List ByteArray} {br : List Bool} {w w' : World} (h : MPs base D E s br w) (hb : Below w.heap.size w w') : MPs base D E s br w' := by
  obtain ⟨vi, vb, h⟩ := h
  exact ⟨vi, vb, h.below hb⟩
theorem MPs.alloc {base D : Nat} {E : Vm} {s : List ByteArray} {br : List Bool} {w : World} (h : MPs base D E s br w) (o : Obj) : MPs base D E s br (w.alloc o) := h.below ((Below.refl _ _).alloc (Nat.le_refl _) o)
theorem Vm.go_next {E : Vm} {x : Jo} {l : List Jo} {s : List ByteArray} {br : List Bool} {m R} (h : Vm.go E (x :: l) s br = R) (hs : Vm.step E x s br = .ok m) : Vm.go E l m.1 m.2 = R := by
  unfold Vm.go at h
  rw [hs] at h
  exact h
theorem Vm.go_stop {E : Vm} {x : Jo} {l : List Jo} {s : List ByteArray} {br : List Bool} {c : Int} {R} (h : Vm.go E (x :: l) s br = R) (hs : Vm.step E x s br = .error c) : R = .error c := by
  unfold Vm.go at h
  rw [hs] at h
  exact h.symm
theorem Jo.nest_next {st : List Bool} {x : Jo} {l : List Jo} (h : Jo.nest st (x :: l) = some []) : ∃ st2, Jo.step st x.c = some st2 ∧ Jo.nest st2 l = some [] := by
  unfold Jo.nest at h
  cases hs : Jo.step st x.c with
  | none => rw [hs] at h; cases h
  | some s2 => rw [hs] at h; exact ⟨s2, rfl, h⟩
theorem Jo.step_ne {st st2 : List Bool} {c : Int} (h : Jo.step st c = some st2) (hc : c = 7 ∨ c = 8) : st ≠ [] := by
  intro e
  subst e
  unfold Jo.step at h
  rcases hc with rfl | rfl <;> simp at h
theorem Jo.drop_at {l : List Jo} {j : Nat} (h : j < l.length) : l.drop j = Jo.at_ l j :: l.drop (j + 1) := by
  rw [List.drop_eq_getElem_cons h]
  congr 1
  exact Option.some.inj ((List.getElem?_eq_getElem h).symm.trans (Jo.at_get h))
/-- What a run leaves. -/
def RnP (base D : Nat) (E : Vm) (r : Except Int (List ByteArray × List Bool)) (w : World) (e : Ending) (w' : World) : Prop := match r with
  | .ok m => e = .returned (.int .i64 0) ∧ MPs base D E m.1 m.2 w' ∧ Below base w w'
  | .error c => e = .returned (.int .i64 c) ∧ Below base w w'
set_option maxRecDepth 100000 in
set_option maxHeartbeats 6400000 in
theorem run_any (base D : Nat) (E : Vm) (a : Option Addr) (len cap : Nat) (l : List Jo) (s : List ByteArray) (w : World) (h : MPs base D E s [] w) (hb : base ≤ w.heap.size) (hs : Vm.fits s) (ho : OL w a len l) (hob : ∀ b off, 0 < len → a = some ⟨b, off, none⟩ → b < base) (hok : Jo.ok l = true) (ht : E.t.size ≤ 1048576) :
    Calls Tryz.prog 36 #[.pointer (some ⟨D, 0, none⟩), .slice a len cap] w (RnP base D E (Vm.go E l s []) w) := by
  have hmf : ∀ (fn : Fn) (first cap : Array Value) (w : World), (Instr.makeFunc fn first cap).run Tryz.prog w = .ok (.func fn first cap) w := fun _ _ _ _ => rfl
  obtain ⟨hl40, hfl, hnest⟩ := (Jo.ok_iff l).1 hok
  have hlen := ho.1
  obtain ⟨R, HR⟩ : ∃ R, Hid (Vm.go E l s [] = R) := ⟨_, Lib.hid rfl⟩
  rw [HR.out]
  have hC : Bk w.heap.size 3 #[.int .i64 1] (w.alloc (.cells #[.int .i64 1] 3 (0, 0))) := Bk.new _ _ _
  have hf0 : Fr base D w (w.alloc (.cells #[.int .i64 1] 3 (0, 0))) := (Fr.refl base D w).alloc hb _
  obtain ⟨vi, vb, hM⟩ := h
  have hM0 := hM.alloc (.cells #[.int .i64 1] 3 (0, 0))
  have hDlt := hM.blk.lt
  clear hM
  go_enter_defers Tryz.func36, Tryz.ntmps36
  go_wp2_with fail
  have hsc := stepsOfCodes_any (w.alloc (.cells #[.int .i64 1] 3 (0, 0)))
  unfold Vm.tab at hsc
  refine hsc.mono ?_
  rintro e w1 ⟨rfl, hb1⟩
  have hM1 := hM0.below hb1
  have hC1 := hC.below hb1
  have hf1 := hf0.trans (Fr.of (Nat.le_trans hb hf0.size) hb1)
  have hb1' := Nat.le_trans hb hf1.size
  have hM2 := hM1.alloc (.cells Vm.tab 100 (0, 0))
  have hC2 := hC1.alloc (.cells Vm.tab 100 (0, 0))
  have hf2 := hf1.alloc hb1' (.cells Vm.tab 100 (0, 0))
  have hT2 : Bk w1.heap.size 100 Vm.tab (w1.alloc (.cells Vm.tab 100 (0, 0))) := Bk.new _ _ _
  obtain ⟨CB, HCB⟩ : ∃ CB, Hid (w.heap.size = CB) := ⟨_, Lib.hid rfl⟩
  obtain ⟨T0, HT0⟩ : ∃ T0, Hid (w1.heap.size = T0) := ⟨_, Lib.hid rfl⟩
  have hCD : CB ≠ D := by rw [← HCB.out]; omega
  have hTD : T0 ≠ D := by rw [← HT0.out]; have := hM1.blk.lt; omega
  obtain ⟨W2, HW⟩ : ∃ W2, Hid (w1.alloc (.cells Vm.tab 100 (0, 0)) = W2) := ⟨_, Lib.hid rfl⟩
  rw [HW.out] at hM2 hC2 hf2 hT2
  rw [HCB.out] at hC2
  rw [HT0.out] at hT2
  unfold Vm.tab at HW
  clear hM0 hC hf0 hM1 hC1 hf1 hb1 hb1' hsc
  have HM := Lib.hid (show MPs base D E s [] W2 from ⟨vi, vb, hM2⟩)
  have HC := Lib.hid hC2
  have HF := Lib.hid hf2
  have HT := Lib.hid hT2
  clear hM2 hC2 hf2 hT2
  go_wp2
  rw [HW.out, HCB.out, HT0.out]
  clear HW
  go_loopw [7, 12] (fun _ i wr => ∃ (j : Nat) (s' : List ByteArray) (br' : List Bool), j ≤ len ∧ i = .int .i64 (j : Int) ∧ MPs base D E s' br' wr ∧ Vm.fits s' ∧ Vm.go E (l.drop j) s' br' = R ∧ (∃ st, Jo.nest st (l.drop j) = some [] ∧ st.length = br'.length ∧ st.length ≤ 4) ∧ Fr base D w wr ∧ Bk CB 3 #[.int .i64 1] wr ∧ Bk T0 100 Vm.tab wr)
    (fun _ i _ => len - (intOf i).toNat)
  case atStart => exact ⟨0, s, [], by omega, rfl, HM.out, hs, HR.out, ⟨[], hnest, rfl, by simp⟩, HF.out, HC.out, HT.out⟩
  case round =>
    obtain ⟨j, s', br', hj, rfl, hMr, hsr, hgo, hst, hfr, hCr, hTr⟩ := hrel
    have hbr : base ≤ wr.heap.size := Nat.le_trans hb hfr.size
    by_cases hlt : j < len
    · obtain ⟨b, off, ha, _, hc⟩ := ho.2 (by omega)
      have hbb := hob b off (by omega) ha
      subst ha
      obtain ⟨e0, e1, e2, e3⟩ := hc j hlt
      have r0 := (hfr.bel.cell (p := ⟨b, off + j * 4, none⟩) hbb).trans e0
      have r1 := (hfr.bel.cell (p := ⟨b, off + j * 4 + 1, none⟩) hbb).trans e1
      have r2 := (hfr.bel.cell (p := ⟨b, off + j * 4 + 2, none⟩) hbb).trans e2
      have r3 := (hfr.bel.cell (p := ⟨b, off + j * 4 + 3, none⟩) hbb).trans e3
      have hjl : j < l.length := by omega
      have hx : Jo.fld (Jo.at_ l j) = true := hfl _ (List.mem_of_getElem? (Jo.at_get hjl))
      rw [Jo.drop_at hjl] at hgo hst
      obtain ⟨x, HX⟩ : ∃ x, Hid (Jo.at_ l j = x) := ⟨_, Lib.hid rfl⟩
      rw [HX.out] at r0 r1 r2 r3 hx hgo hst
      obtain ⟨st, hst1, hst2, hst3⟩ := hst
      obtain ⟨st2, hn1, hn2⟩ := Jo.nest_next hst1
      obtain ⟨C, A, B, t⟩ := x
      have hC14 : 0 ≤ C ∧ C ≤ 14 := by
        unfold Jo.fld at hx
        simp only [Bool.and_eq_true, decide_eq_true_eq] at hx
        exact hx.1
      obtain ⟨k, rfl⟩ := Int.eq_ofNat_of_zero_le hC14.1
      have hk : k < 15 := by omega
      have hk9 : ¬ (15 ≤ (k : Int)) := by omega
      have hne : (k : Int) = 7 ∨ (k : Int) = 8 → br' ≠ [] := fun h e => Jo.step_ne hn1 h (List.eq_nil_of_length_eq_zero (by rw [hst2, e]; rfl))
      have hMlt : D < wr.heap.size := by obtain ⟨_, _, h⟩ := hMr; exact h.blk.lt
      have hM3 := hMr.alloc (.cells #[.int .i64 k, .int .i64 A, .int .i64 B, .string t] 69 (0, 0))
      have hC3 := hCr.alloc (.cells #[.int .i64 k, .int .i64 A, .int .i64 B, .string t] 69 (0, 0))
      have hT3 := hTr.alloc (.cells #[.int .i64 k, .int .i64 A, .int .i64 B, .string t] 69 (0, 0))
      have hf3 := hfr.alloc hbr (.cells #[.int .i64 k, .int .i64 A, .int .i64 B, .string t] 69 (0, 0))
      have hO3 : Bk wr.heap.size 69 #[.int .i64 k, .int .i64 A, .int .i64 B, .string t] (wr.alloc (.cells #[.int .i64 k, .int .i64 A, .int .i64 B, .string t] 69 (0, 0))) := Bk.new _ _ _
      have hskp := fun (vi vb : Value) (h : MP base D vi vb E s' br' (wr.alloc (.cells #[.int .i64 k, .int .i64 A, .int .i64 B, .string t] 69 (0, 0)))) => isSkipping_any base D vi vb E s' br' _ h (by omega)
      have hsk : Calls Tryz.prog 66 #[.pointer (some ⟨D, 0, none⟩)] (wr.alloc (.cells #[.int .i64 k, .int .i64 A, .int .i64 B, .string t] 69 (0, 0))) fun e w' => e = .returned (.bool (!Vm.live br')) ∧ w' = (wr.alloc (.cells #[.int .i64 k, .int .i64 A, .int .i64 B, .string t] 69 (0, 0))) := by
        obtain ⟨vi, vb, h⟩ := hM3
        exact hskp vi vb h
      have hioc := isOfCondition_any ⟨k, A, B, t⟩ (wr.alloc (.cells #[.int .i64 k, .int .i64 A, .int .i64 B, .string t] 69 (0, 0)))
      have hstep := fun (V : World) (hV : MPs base D E s' br' V) (hbV : base ≤ V.heap.size) => stepAny k hk base D E ⟨k, A, B, t⟩ s' br' V hV hbV hsr rfl hx (by omega) hne ht
      obtain ⟨F, HF9⟩ : ∃ F, Hid (Vm.fnum k = F) := ⟨_, Lib.hid rfl⟩
      have hen := enters_step k hk
      have htg := Vm.tab_get k hk
      rw [HF9.out] at hstep hen htg
      have HNX := Lib.hid (fun (m : List ByteArray × List Bool) (h : Vm.step E ⟨k, A, B, t⟩ s' br' = .ok m) => Vm.step_nest (E := E) (s := s') (br := br') (x := ⟨k, A, B, t⟩) hn1 hst2 h)
      have HFX := Lib.hid (fun (m : List ByteArray × List Bool) (h : Vm.step E ⟨k, A, B, t⟩ s' br' = .ok m) => Vm.step_fits (E := E) (s := s') (br := br') (m := m) (x := ⟨k, A, B, t⟩) hx hsr h)
      have HGO := Lib.hid hgo
      have HSL := Lib.hid (Jo.step_len hn1 hst3)
      have HN2 := Lib.hid hn2
      have HSN := Lib.hid (hst2)
      have HOB := Lib.hid ho
      have HOL := Lib.hid hob
      clear hc e0 e1 e2 e3 hx hst1 hn1 hn2 hne hgo hMr hCr hTr hskp ho hob hfl hnest hok hs HR HM HC HF HT hfr hst2 hst3 hC14
      cases hlv : Vm.live br'
      · rw [hlv] at hsk
        by_cases hcd : 6 ≤ (k : Int) ∧ (k : Int) ≤ 8
        · have hcq : decide (6 ≤ (k : Int) ∧ (k : Int) ≤ 8) = true := decide_eq_true hcd
          simp only [hcq] at hioc
          go_wp2_with fail
          refine hsk.mono ?_
          rintro e w4 ⟨rfl, rfl⟩
          go_wp2_with fail
          refine hioc.mono ?_
          rintro e w4 ⟨rfl, hb4⟩
          have hM4 := hM3.below hb4
          have hC4 := hC3.below hb4
          have hT4 := hT3.below hb4
          have hO4 := hO3.below hb4
          have hf4 := hf3.trans (Fr.of (Nat.le_trans hb hf3.size) hb4)
          go_wp2
          have hS0 : (fun W => W.cell? ⟨wr.heap.size, 0, none⟩ = some (.int .i64 (k : Int)) ∧ W.cell? ⟨wr.heap.size, 1, none⟩ = some (.int .i64 A) ∧ W.cell? ⟨wr.heap.size, 2, none⟩ = some (.int .i64 B) ∧ W.cell? ⟨wr.heap.size, 3, none⟩ = some (.string t) ∧ W.cell? ⟨T0, k, none⟩ = some (.func (Fn.func F) #[] #[])) w4.drew := ⟨(Bk.c4 hO4.drew).1, (Bk.c4 hO4.drew).2.1, (Bk.c4 hO4.drew).2.2.1, (Bk.c4 hO4.drew).2.2.2, (hT4.drew.cell k).trans htg⟩
          simp only at hS0
          have hbV : base ≤ w4.drew.heap.size := Nat.le_trans hb hf4.size
          have hstp := hstep w4.drew (hM4.below (Below.refl _ _).drew) hbV
          cases hex : Vm.exec E ⟨k, A, B, t⟩ s' br' with
          | error c =>
            rw [hex] at hstp
            have hRe := Vm.go_stop HGO.out ((Vm.step_exec (.inl hcd)).trans hex)
            subst hRe
            apply wp_toPanic (fun ch a' w' => a'.defers = [{ target := Target.fn (Fn.func 64) #[.pointer (some ⟨CB, 0, none⟩)], args := #[] }] ∧ a'.tmps.getD 4 undef = .pointer (some ⟨CB, 0, none⟩) ∧ ch = [Vm.pe c] ∧ Fr base D w4.drew w')
            case h1 =>
              refine wp_region_held_drew (S := fun W => W.cell? ⟨wr.heap.size, 0, none⟩ = some (.int .i64 (k : Int)) ∧ W.cell? ⟨wr.heap.size, 1, none⟩ = some (.int .i64 A) ∧ W.cell? ⟨wr.heap.size, 2, none⟩ = some (.int .i64 B) ∧ W.cell? ⟨wr.heap.size, 3, none⟩ = some (.string t) ∧ W.cell? ⟨T0, k, none⟩ = some (.func (Fn.func F) #[] #[])) (by kernel_rfl) hS0 (fun hH => ?_)
              refine wpAnyH_take (i := 0) (v := .pointer (some ⟨wr.heap.size, 0, none⟩)) rfl (by kernel_rfl) (by kernel_rfl) (by kernel_rfl) (fun _ _ _ h => ⟨h.1, (put_far _ _ 4 _ (by decide)).symm.trans h.2.1, h.2.2⟩) (Or.inl ⟨by rfl, fun W hW => by obtain ⟨y0, y1, y2, y3, y4⟩ := hW; go_simp⟩) (by assumption) ?_
              simp only [Act.put, List.getElem_toArray, List.getElem_cons_zero, List.setIfInBounds_toArray, List.set_cons_zero, List.set_cons_succ]
              refine wpAnyH_take (i := 1) (v := .int .i64 (k : Int)) rfl (by kernel_rfl) (by kernel_rfl) (by kernel_rfl) (fun _ _ _ h => ⟨h.1, (put_far _ _ 4 _ (by decide)).symm.trans h.2.1, h.2.2⟩) (Or.inl ⟨by rfl, fun W hW => by obtain ⟨y0, y1, y2, y3, y4⟩ := hW; go_simp⟩) (by assumption) ?_
              simp only [Act.put, List.getElem_toArray, List.getElem_cons_succ, List.getElem_cons_zero, List.setIfInBounds_toArray, List.set_cons_zero, List.set_cons_succ]
              refine wpAnyH_take (i := 2) (v := .pointer (some ⟨T0, k, none⟩)) rfl (by kernel_rfl) (by kernel_rfl) (by kernel_rfl) (fun _ _ _ h => ⟨h.1, (put_far _ _ 4 _ (by decide)).symm.trans h.2.1, h.2.2⟩) (Or.inl ⟨by rfl, fun W hW => by obtain ⟨y0, y1, y2, y3, y4⟩ := hW; go_simp⟩) (by assumption) ?_
              simp only [Act.put, List.getElem_toArray, List.getElem_cons_succ, List.getElem_cons_zero, List.setIfInBounds_toArray, List.set_cons_zero, List.set_cons_succ]
              refine wpAnyH_take (i := 3) (v := .func (Fn.func F) #[] #[]) rfl (by kernel_rfl) (by kernel_rfl) (by kernel_rfl) (fun _ _ _ h => ⟨h.1, (put_far _ _ 4 _ (by decide)).symm.trans h.2.1, h.2.2⟩) (Or.inl ⟨by rfl, fun W hW => by obtain ⟨y0, y1, y2, y3, y4⟩ := hW; go_simp⟩) (by assumption) ?_
              simp only [Act.put, List.getElem_toArray, List.getElem_cons_succ, List.getElem_cons_zero, List.setIfInBounds_toArray, List.set_cons_zero, List.set_cons_succ]
              refine wpAnyH_take (i := 4) (v := .pointer (some ⟨D, 0, none⟩)) rfl (by kernel_rfl) (by kernel_rfl) (by kernel_rfl) (fun _ _ _ h => ⟨h.1, (put_far _ _ 4 _ (by decide)).symm.trans h.2.1, h.2.2⟩) (Or.inl ⟨by rfl, fun W hW => by obtain ⟨y0, y1, y2, y3, y4⟩ := hW; go_simp⟩) (by assumption) ?_
              simp only [Act.put, List.getElem_toArray, List.getElem_cons_succ, List.getElem_cons_zero, List.setIfInBounds_toArray, List.set_cons_zero, List.set_cons_succ]
              refine wpAnyH_take (i := 5) (v := .agg #[.int .i64 (k : Int), .int .i64 A, .int .i64 B, .string t]) rfl (by kernel_rfl) (by kernel_rfl) (by kernel_rfl) (fun _ _ _ h => ⟨h.1, (put_far _ _ 4 _ (by decide)).symm.trans h.2.1, h.2.2⟩) (Or.inl ⟨by rfl, fun W hW => by obtain ⟨y0, y1, y2, y3, y4⟩ := hW; go_simp⟩) (by assumption) ?_
              simp only [Act.put, List.getElem_toArray, List.getElem_cons_succ, List.getElem_cons_zero, List.setIfInBounds_toArray, List.set_cons_zero, List.set_cons_succ]
              refine wpAnyH_ready (rs := [6]) (by kernel_rfl) (by simp) ?_
              refine AllReadyH.cons rfl (fun K hK => ?_) AllReadyH.nil
              go_simp
              go_wp2_with fail
              refine hstp.mono ?_
              rintro e w5 ⟨rfl, hf5⟩
              exact ⟨rfl, hf5⟩
            case h2 =>
              rintro ch a' w5 ⟨ha1, ha2, rfl, hf5⟩
              have hC5 := (hC4.drew).fr hf5 hCD (by decide) (by decide)
              have n0 := (((hC5.alloc (.cells #[.int .i64 c] 96 (0, 0))).set 0 (.int .i64 c)).cell 0).trans rfl
              have HB6 := Lib.hid (((hf4.drew.trans hf5).bel.alloc (Nat.le_trans hbV hf5.size) (.cells #[.int .i64 c] 96 (0, 0))).setCell (p := ⟨CB, 0, none⟩) (by show base ≤ CB; rw [← HCB.out]; exact hb) (.int .i64 c))
              change bodyPostD Tryz.prog Tryz.f36 _ (Exit.panic _) a' w5
              unfold bodyPostD
              simp only
              rw [ha1]
              refine leaves_cons (f := 64) (args := #[.pointer (some ⟨CB, 0, none⟩)]) (by simp) (by simp [go_sem]) ?_
              refine (catch_panicking CB 1 c w5 hC5).mono ?_
              rintro e u' w6 ⟨rfl, rfl, rfl⟩
              rw [Array.getD_eq_getD_getElem?] at ha2
              simp [Leaves, settle, results, Tryz.results36, go_sem, ha2, n0]
              exact ⟨rfl, HB6.out⟩
          | ok m =>
            rw [hex] at hstp
            have hstm := (Vm.step_exec (.inl hcd)).trans hex
            obtain ⟨s2, br2⟩ := m
            apply wp_meetY (fun w' => MPs base D E s2 br2 w' ∧ Fr base D w4.drew w')
            case h1 =>
              refine wp_region_held_drew (S := fun W => W.cell? ⟨wr.heap.size, 0, none⟩ = some (.int .i64 (k : Int)) ∧ W.cell? ⟨wr.heap.size, 1, none⟩ = some (.int .i64 A) ∧ W.cell? ⟨wr.heap.size, 2, none⟩ = some (.int .i64 B) ∧ W.cell? ⟨wr.heap.size, 3, none⟩ = some (.string t) ∧ W.cell? ⟨T0, k, none⟩ = some (.func (Fn.func F) #[] #[])) (by kernel_rfl) hS0 (fun hH => ?_)
              refine wpAnyH_take (i := 0) (v := .pointer (some ⟨wr.heap.size, 0, none⟩)) rfl (by kernel_rfl) (by kernel_rfl) (by kernel_rfl) (fun _ _ _ h => h) (Or.inl ⟨by rfl, fun W hW => by obtain ⟨y0, y1, y2, y3, y4⟩ := hW; go_simp⟩) (by assumption) ?_
              simp only [Act.put, List.getElem_toArray, List.getElem_cons_zero, List.setIfInBounds_toArray, List.set_cons_zero, List.set_cons_succ]
              refine wpAnyH_take (i := 1) (v := .int .i64 (k : Int)) rfl (by kernel_rfl) (by kernel_rfl) (by kernel_rfl) (fun _ _ _ h => h) (Or.inl ⟨by rfl, fun W hW => by obtain ⟨y0, y1, y2, y3, y4⟩ := hW; go_simp⟩) (by assumption) ?_
              simp only [Act.put, List.getElem_toArray, List.getElem_cons_succ, List.getElem_cons_zero, List.setIfInBounds_toArray, List.set_cons_zero, List.set_cons_succ]
              refine wpAnyH_take (i := 2) (v := .pointer (some ⟨T0, k, none⟩)) rfl (by kernel_rfl) (by kernel_rfl) (by kernel_rfl) (fun _ _ _ h => h) (Or.inl ⟨by rfl, fun W hW => by obtain ⟨y0, y1, y2, y3, y4⟩ := hW; go_simp⟩) (by assumption) ?_
              simp only [Act.put, List.getElem_toArray, List.getElem_cons_succ, List.getElem_cons_zero, List.setIfInBounds_toArray, List.set_cons_zero, List.set_cons_succ]
              refine wpAnyH_take (i := 3) (v := .func (Fn.func F) #[] #[]) rfl (by kernel_rfl) (by kernel_rfl) (by kernel_rfl) (fun _ _ _ h => h) (Or.inl ⟨by rfl, fun W hW => by obtain ⟨y0, y1, y2, y3, y4⟩ := hW; go_simp⟩) (by assumption) ?_
              simp only [Act.put, List.getElem_toArray, List.getElem_cons_succ, List.getElem_cons_zero, List.setIfInBounds_toArray, List.set_cons_zero, List.set_cons_succ]
              refine wpAnyH_take (i := 4) (v := .pointer (some ⟨D, 0, none⟩)) rfl (by kernel_rfl) (by kernel_rfl) (by kernel_rfl) (fun _ _ _ h => h) (Or.inl ⟨by rfl, fun W hW => by obtain ⟨y0, y1, y2, y3, y4⟩ := hW; go_simp⟩) (by assumption) ?_
              simp only [Act.put, List.getElem_toArray, List.getElem_cons_succ, List.getElem_cons_zero, List.setIfInBounds_toArray, List.set_cons_zero, List.set_cons_succ]
              refine wpAnyH_take (i := 5) (v := .agg #[.int .i64 (k : Int), .int .i64 A, .int .i64 B, .string t]) rfl (by kernel_rfl) (by kernel_rfl) (by kernel_rfl) (fun _ _ _ h => h) (Or.inl ⟨by rfl, fun W hW => by obtain ⟨y0, y1, y2, y3, y4⟩ := hW; go_simp⟩) (by assumption) ?_
              simp only [Act.put, List.getElem_toArray, List.getElem_cons_succ, List.getElem_cons_zero, List.setIfInBounds_toArray, List.set_cons_zero, List.set_cons_succ]
              refine wpAnyH_ready (rs := [6]) (by kernel_rfl) (by simp) ?_
              refine AllReadyH.cons rfl (fun K hK => ?_) AllReadyH.nil
              go_simp
              go_wp2_with fail
              refine hstp.mono ?_
              rintro e w5 ⟨rfl, hM5, hf5⟩
              have hO5 := (hO4.drew).fr hf5 (by have := hMlt; omega) (by decide) (by decide)
              have hT5 := (hT4.drew).fr hf5 hTD (by decide) (by decide)
              have hS5 : (fun W => W.cell? ⟨wr.heap.size, 0, none⟩ = some (.int .i64 (k : Int)) ∧ W.cell? ⟨wr.heap.size, 1, none⟩ = some (.int .i64 A) ∧ W.cell? ⟨wr.heap.size, 2, none⟩ = some (.int .i64 B) ∧ W.cell? ⟨wr.heap.size, 3, none⟩ = some (.string t) ∧ W.cell? ⟨T0, k, none⟩ = some (.func (Fn.func F) #[] #[])) w5 := ⟨(Bk.c4 hO5).1, (Bk.c4 hO5).2.1, (Bk.c4 hO5).2.2.1, (Bk.c4 hO5).2.2.2, (hT5.cell k).trans htg⟩
              refine hK.out _ _ hS5 (fun hH5 => ?_)
              refine wpAnyH_done (by kernel_rfl) ?_ _
              exact ⟨rfl, hM5, hf5⟩
            case h2 =>
              rintro w5 ⟨hM5, hf5⟩
              have HC5 := Lib.hid ((hC4.drew).fr hf5 hCD (by decide) (by decide))
              have HT5 := Lib.hid ((hT4.drew).fr hf5 hTD (by decide) (by decide))
              have HF5 := Lib.hid (hf4.drew.trans hf5)
              have HM5 := Lib.hid hM5
              have HSM := Lib.hid hstm
              clear hM5 hf5 hstm hex hstp hS0
              go_wp2
              go_roundw
              case rel => exact ⟨j + 1, s2, br2, by omega, by simp, HM5.out, HFX.out _ HSM.out, Vm.go_next HGO.out HSM.out, ⟨st2, HN2.out, HNX.out _ HSM.out, HSL.out⟩, HF5.out, HC5.out, HT5.out⟩
              case measure => simp [intOf]; omega
        · have hcq : decide (6 ≤ (k : Int) ∧ (k : Int) ≤ 8) = false := decide_eq_false hcd
          simp only [hcq] at hioc
          have HSM := Lib.hid (Vm.step_skip (E := E) (x := ⟨k, A, B, t⟩) (s := s') hcd hlv)
          clear hcd hcq hlv
          go_wp2_with fail
          refine hsk.mono ?_
          rintro e w4 ⟨rfl, rfl⟩
          go_wp2_with fail
          refine hioc.mono ?_
          rintro e w4 ⟨rfl, hb4⟩
          have HM4 := Lib.hid (hM3.below hb4)
          have HC4 := Lib.hid (hC3.below hb4)
          have HT4 := Lib.hid (hT3.below hb4)
          have HF4 := Lib.hid (hf3.trans (Fr.of (Nat.le_trans hb hf3.size) hb4))
          clear hM3 hC3 hT3 hf3 hO3 hb4 hstep hsk hioc
          go_wp2
          go_roundw
          case rel => exact ⟨j + 1, s', br', by omega, by simp, HM4.out, HFX.out _ HSM.out, Vm.go_next HGO.out HSM.out, ⟨st2, HN2.out, HNX.out _ HSM.out, HSL.out⟩, HF4.out, HC4.out, HT4.out⟩
          case measure => simp [intOf]; omega
      · rw [hlv] at hsk
        go_wp2_with fail
        refine hsk.mono ?_
        rintro e w4 ⟨rfl, rfl⟩
        go_wp2
        have hS0 : (fun W => W.cell? ⟨wr.heap.size, 0, none⟩ = some (.int .i64 (k : Int)) ∧ W.cell? ⟨wr.heap.size, 1, none⟩ = some (.int .i64 A) ∧ W.cell? ⟨wr.heap.size, 2, none⟩ = some (.int .i64 B) ∧ W.cell? ⟨wr.heap.size, 3, none⟩ = some (.string t) ∧ W.cell? ⟨T0, k, none⟩ = some (.func (Fn.func F) #[] #[])) (wr.alloc (.cells #[.int .i64 k, .int .i64 A, .int .i64 B, .string t] 69 (0, 0))).drew := ⟨(Bk.c4 hO3.drew).1, (Bk.c4 hO3.drew).2.1, (Bk.c4 hO3.drew).2.2.1, (Bk.c4 hO3.drew).2.2.2, (hT3.drew.cell k).trans htg⟩
        simp only at hS0
        have hbV : base ≤ (wr.alloc (.cells #[.int .i64 k, .int .i64 A, .int .i64 B, .string t] 69 (0, 0))).drew.heap.size := Nat.le_trans hb hf3.size
        have hstp := hstep (wr.alloc (.cells #[.int .i64 k, .int .i64 A, .int .i64 B, .string t] 69 (0, 0))).drew (hM3.below (Below.refl _ _).drew) hbV
        cases hex : Vm.exec E ⟨k, A, B, t⟩ s' br' with
        | error c =>
          rw [hex] at hstp
          have hRe := Vm.go_stop HGO.out ((Vm.step_exec (.inr hlv)).trans hex)
          subst hRe
          apply wp_toPanic (fun ch a' w' => a'.defers = [{ target := Target.fn (Fn.func 64) #[.pointer (some ⟨CB, 0, none⟩)], args := #[] }] ∧ a'.tmps.getD 4 undef = .pointer (some ⟨CB, 0, none⟩) ∧ ch = [Vm.pe c] ∧ Fr base D (wr.alloc (.cells #[.int .i64 k, .int .i64 A, .int .i64 B, .string t] 69 (0, 0))).drew w')
          case h1 =>
            refine wp_region_held_drew (S := fun W => W.cell? ⟨wr.heap.size, 0, none⟩ = some (.int .i64 (k : Int)) ∧ W.cell? ⟨wr.heap.size, 1, none⟩ = some (.int .i64 A) ∧ W.cell? ⟨wr.heap.size, 2, none⟩ = some (.int .i64 B) ∧ W.cell? ⟨wr.heap.size, 3, none⟩ = some (.string t) ∧ W.cell? ⟨T0, k, none⟩ = some (.func (Fn.func F) #[] #[])) (by kernel_rfl) hS0 (fun hH => ?_)
            refine wpAnyH_take (i := 0) (v := .pointer (some ⟨wr.heap.size, 0, none⟩)) rfl (by kernel_rfl) (by kernel_rfl) (by kernel_rfl) (fun _ _ _ h => ⟨h.1, (put_far _ _ 4 _ (by decide)).symm.trans h.2.1, h.2.2⟩) (Or.inl ⟨by rfl, fun W hW => by obtain ⟨y0, y1, y2, y3, y4⟩ := hW; go_simp⟩) (by assumption) ?_
            simp only [Act.put, List.getElem_toArray, List.getElem_cons_zero, List.setIfInBounds_toArray, List.set_cons_zero, List.set_cons_succ]
            refine wpAnyH_take (i := 1) (v := .int .i64 (k : Int)) rfl (by kernel_rfl) (by kernel_rfl) (by kernel_rfl) (fun _ _ _ h => ⟨h.1, (put_far _ _ 4 _ (by decide)).symm.trans h.2.1, h.2.2⟩) (Or.inl ⟨by rfl, fun W hW => by obtain ⟨y0, y1, y2, y3, y4⟩ := hW; go_simp⟩) (by assumption) ?_
            simp only [Act.put, List.getElem_toArray, List.getElem_cons_succ, List.getElem_cons_zero, List.setIfInBounds_toArray, List.set_cons_zero, List.set_cons_succ]
            refine wpAnyH_take (i := 2) (v := .pointer (some ⟨T0, k, none⟩)) rfl (by kernel_rfl) (by kernel_rfl) (by kernel_rfl) (fun _ _ _ h => ⟨h.1, (put_far _ _ 4 _ (by decide)).symm.trans h.2.1, h.2.2⟩) (Or.inl ⟨by rfl, fun W hW => by obtain ⟨y0, y1, y2, y3, y4⟩ := hW; go_simp⟩) (by assumption) ?_
            simp only [Act.put, List.getElem_toArray, List.getElem_cons_succ, List.getElem_cons_zero, List.setIfInBounds_toArray, List.set_cons_zero, List.set_cons_succ]
            refine wpAnyH_take (i := 3) (v := .func (Fn.func F) #[] #[]) rfl (by kernel_rfl) (by kernel_rfl) (by kernel_rfl) (fun _ _ _ h => ⟨h.1, (put_far _ _ 4 _ (by decide)).symm.trans h.2.1, h.2.2⟩) (Or.inl ⟨by rfl, fun W hW => by obtain ⟨y0, y1, y2, y3, y4⟩ := hW; go_simp⟩) (by assumption) ?_
            simp only [Act.put, List.getElem_toArray, List.getElem_cons_succ, List.getElem_cons_zero, List.setIfInBounds_toArray, List.set_cons_zero, List.set_cons_succ]
            refine wpAnyH_take (i := 4) (v := .pointer (some ⟨D, 0, none⟩)) rfl (by kernel_rfl) (by kernel_rfl) (by kernel_rfl) (fun _ _ _ h => ⟨h.1, (put_far _ _ 4 _ (by decide)).symm.trans h.2.1, h.2.2⟩) (Or.inl ⟨by rfl, fun W hW => by obtain ⟨y0, y1, y2, y3, y4⟩ := hW; go_simp⟩) (by assumption) ?_
            simp only [Act.put, List.getElem_toArray, List.getElem_cons_succ, List.getElem_cons_zero, List.setIfInBounds_toArray, List.set_cons_zero, List.set_cons_succ]
            refine wpAnyH_take (i := 5) (v := .agg #[.int .i64 (k : Int), .int .i64 A, .int .i64 B, .string t]) rfl (by kernel_rfl) (by kernel_rfl) (by kernel_rfl) (fun _ _ _ h => ⟨h.1, (put_far _ _ 4 _ (by decide)).symm.trans h.2.1, h.2.2⟩) (Or.inl ⟨by rfl, fun W hW => by obtain ⟨y0, y1, y2, y3, y4⟩ := hW; go_simp⟩) (by assumption) ?_
            simp only [Act.put, List.getElem_toArray, List.getElem_cons_succ, List.getElem_cons_zero, List.setIfInBounds_toArray, List.set_cons_zero, List.set_cons_succ]
            refine wpAnyH_ready (rs := [6]) (by kernel_rfl) (by simp) ?_
            refine AllReadyH.cons rfl (fun K hK => ?_) AllReadyH.nil
            go_simp
            go_wp2_with fail
            refine hstp.mono ?_
            rintro e w5 ⟨rfl, hf5⟩
            exact ⟨rfl, hf5⟩
          case h2 =>
            rintro ch a' w5 ⟨ha1, ha2, rfl, hf5⟩
            have hC5 := (hC3.drew).fr hf5 hCD (by decide) (by decide)
            have n0 := (((hC5.alloc (.cells #[.int .i64 c] 96 (0, 0))).set 0 (.int .i64 c)).cell 0).trans rfl
            have HB6 := Lib.hid (((hf3.drew.trans hf5).bel.alloc (Nat.le_trans hbV hf5.size) (.cells #[.int .i64 c] 96 (0, 0))).setCell (p := ⟨CB, 0, none⟩) (by show base ≤ CB; rw [← HCB.out]; exact hb) (.int .i64 c))
            change bodyPostD Tryz.prog Tryz.f36 _ (Exit.panic _) a' w5
            unfold bodyPostD
            simp only
            rw [ha1]
            refine leaves_cons (f := 64) (args := #[.pointer (some ⟨CB, 0, none⟩)]) (by simp) (by simp [go_sem]) ?_
            refine (catch_panicking CB 1 c w5 hC5).mono ?_
            rintro e u' w6 ⟨rfl, rfl, rfl⟩
            rw [Array.getD_eq_getD_getElem?] at ha2
            simp [Leaves, settle, results, Tryz.results36, go_sem, ha2, n0]
            exact ⟨rfl, HB6.out⟩
        | ok m =>
          rw [hex] at hstp
          have hstm := (Vm.step_exec (.inr hlv)).trans hex
          obtain ⟨s2, br2⟩ := m
          apply wp_meetY (fun w' => MPs base D E s2 br2 w' ∧ Fr base D (wr.alloc (.cells #[.int .i64 k, .int .i64 A, .int .i64 B, .string t] 69 (0, 0))).drew w')
          case h1 =>
            refine wp_region_held_drew (S := fun W => W.cell? ⟨wr.heap.size, 0, none⟩ = some (.int .i64 (k : Int)) ∧ W.cell? ⟨wr.heap.size, 1, none⟩ = some (.int .i64 A) ∧ W.cell? ⟨wr.heap.size, 2, none⟩ = some (.int .i64 B) ∧ W.cell? ⟨wr.heap.size, 3, none⟩ = some (.string t) ∧ W.cell? ⟨T0, k, none⟩ = some (.func (Fn.func F) #[] #[])) (by kernel_rfl) hS0 (fun hH => ?_)
            refine wpAnyH_take (i := 0) (v := .pointer (some ⟨wr.heap.size, 0, none⟩)) rfl (by kernel_rfl) (by kernel_rfl) (by kernel_rfl) (fun _ _ _ h => h) (Or.inl ⟨by rfl, fun W hW => by obtain ⟨y0, y1, y2, y3, y4⟩ := hW; go_simp⟩) (by assumption) ?_
            simp only [Act.put, List.getElem_toArray, List.getElem_cons_zero, List.setIfInBounds_toArray, List.set_cons_zero, List.set_cons_succ]
            refine wpAnyH_take (i := 1) (v := .int .i64 (k : Int)) rfl (by kernel_rfl) (by kernel_rfl) (by kernel_rfl) (fun _ _ _ h => h) (Or.inl ⟨by rfl, fun W hW => by obtain ⟨y0, y1, y2, y3, y4⟩ := hW; go_simp⟩) (by assumption) ?_
            simp only [Act.put, List.getElem_toArray, List.getElem_cons_succ, List.getElem_cons_zero, List.setIfInBounds_toArray, List.set_cons_zero, List.set_cons_succ]
            refine wpAnyH_take (i := 2) (v := .pointer (some ⟨T0, k, none⟩)) rfl (by kernel_rfl) (by kernel_rfl) (by kernel_rfl) (fun _ _ _ h => h) (Or.inl ⟨by rfl, fun W hW => by obtain ⟨y0, y1, y2, y3, y4⟩ := hW; go_simp⟩) (by assumption) ?_
            simp only [Act.put, List.getElem_toArray, List.getElem_cons_succ, List.getElem_cons_zero, List.setIfInBounds_toArray, List.set_cons_zero, List.set_cons_succ]
            refine wpAnyH_take (i := 3) (v := .func (Fn.func F) #[] #[]) rfl (by kernel_rfl) (by kernel_rfl) (by kernel_rfl) (fun _ _ _ h => h) (Or.inl ⟨by rfl, fun W hW => by obtain ⟨y0, y1, y2, y3, y4⟩ := hW; go_simp⟩) (by assumption) ?_
            simp only [Act.put, List.getElem_toArray, List.getElem_cons_succ, List.getElem_cons_zero, List.setIfInBounds_toArray, List.set_cons_zero, List.set_cons_succ]
            refine wpAnyH_take (i := 4) (v := .pointer (some ⟨D, 0, none⟩)) rfl (by kernel_rfl) (by kernel_rfl) (by kernel_rfl) (fun _ _ _ h => h) (Or.inl ⟨by rfl, fun W hW => by obtain ⟨y0, y1, y2, y3, y4⟩ := hW; go_simp⟩) (by assumption) ?_
            simp only [Act.put, List.getElem_toArray, List.getElem_cons_succ, List.getElem_cons_zero, List.setIfInBounds_toArray, List.set_cons_zero, List.set_cons_succ]
            refine wpAnyH_take (i := 5) (v := .agg #[.int .i64 (k : Int), .int .i64 A, .int .i64 B, .string t]) rfl (by kernel_rfl) (by kernel_rfl) (by kernel_rfl) (fun _ _ _ h => h) (Or.inl ⟨by rfl, fun W hW => by obtain ⟨y0, y1, y2, y3, y4⟩ := hW; go_simp⟩) (by assumption) ?_
            simp only [Act.put, List.getElem_toArray, List.getElem_cons_succ, List.getElem_cons_zero, List.setIfInBounds_toArray, List.set_cons_zero, List.set_cons_succ]
            refine wpAnyH_ready (rs := [6]) (by kernel_rfl) (by simp) ?_
            refine AllReadyH.cons rfl (fun K hK => ?_) AllReadyH.nil
            go_simp
            go_wp2_with fail
            refine hstp.mono ?_
            rintro e w5 ⟨rfl, hM5, hf5⟩
            have hO5 := (hO3.drew).fr hf5 (by have := hMlt; omega) (by decide) (by decide)
            have hT5 := (hT3.drew).fr hf5 hTD (by decide) (by decide)
            have hS5 : (fun W => W.cell? ⟨wr.heap.size, 0, none⟩ = some (.int .i64 (k : Int)) ∧ W.cell? ⟨wr.heap.size, 1, none⟩ = some (.int .i64 A) ∧ W.cell? ⟨wr.heap.size, 2, none⟩ = some (.int .i64 B) ∧ W.cell? ⟨wr.heap.size, 3, none⟩ = some (.string t) ∧ W.cell? ⟨T0, k, none⟩ = some (.func (Fn.func F) #[] #[])) w5 := ⟨(Bk.c4 hO5).1, (Bk.c4 hO5).2.1, (Bk.c4 hO5).2.2.1, (Bk.c4 hO5).2.2.2, (hT5.cell k).trans htg⟩
            refine hK.out _ _ hS5 (fun hH5 => ?_)
            refine wpAnyH_done (by kernel_rfl) ?_ _
            exact ⟨rfl, hM5, hf5⟩
          case h2 =>
            rintro w5 ⟨hM5, hf5⟩
            have HC5 := Lib.hid ((hC3.drew).fr hf5 hCD (by decide) (by decide))
            have HT5 := Lib.hid ((hT3.drew).fr hf5 hTD (by decide) (by decide))
            have HF5 := Lib.hid (hf3.drew.trans hf5)
            have HM5 := Lib.hid hM5
            have HSM := Lib.hid hstm
            clear hM5 hf5 hstm hex hstp hS0
            go_wp2
            go_roundw
            case rel => exact ⟨j + 1, s2, br2, by omega, by simp, HM5.out, HFX.out _ HSM.out, Vm.go_next HGO.out HSM.out, ⟨st2, HN2.out, HNX.out _ HSM.out, HSL.out⟩, HF5.out, HC5.out, HT5.out⟩
            case measure => simp [intOf]; omega
    · have hjn : j = len := by omega
      have hdn : l.drop j = [] := List.drop_eq_nil_of_le (by omega)
      rw [hdn] at hgo hst
      obtain ⟨st, hst1, hst2, _⟩ := hst
      have hRe : R = .ok (s', br') := hgo.symm
      subst hRe
      have c0 := (hCr.cell 0).trans rfl
      have cf := hCr.fro 0
      have hC3 := hCr.set 0 (.int .i64 0)
      have hM9 := (hMr.other hCr (by decide) (by decide) hCD 0 (.int .i64 0)).alloc (.cells #[.int .i64 0] 96 (0, 0))
      have hB9 : Below base w ((wr.setCell ⟨CB, 0, none⟩ (.int .i64 0)).alloc (.cells #[.int .i64 0] 96 (0, 0))) :=
        (hfr.bel.setCell (p := ⟨CB, 0, none⟩) (by show base ≤ CB; rw [← HCB.out]; exact hb) _).alloc (by simpa [World.setCell] using hbr) _
      have n0 := ((hC3.alloc (.cells #[.int .i64 0] 96 (0, 0))).cell 0).trans rfl
      have HM9 := Lib.hid hM9
      have HB9 := Lib.hid hB9
      clear hM9 hB9 hC3 hgo hst1 hst2 hfr hMr hTr
      go_wp2
      refine leaves_cons (f := 64) (args := #[.pointer (some ⟨CB, 0, none⟩)]) (by simp) (by simp [go_sem]) ?_
      refine (catch_idle CB _).mono ?_
      rintro e u' w'' ⟨rfl, rfl, rfl⟩
      simp [Leaves, settle, results, Tryz.results36, go_sem, n0]
      exact ⟨rfl, HM9.out, HB9.out⟩
end Go.Proofs.YtdaffohimifecaaGreat
