/-
  The program's reader of transactions: its inputs and its outputs.
-/
import Derived.Test.YtcbpdibkindnfaaGreatUo
import Derived.Deep.RegionWith
import Derived.Deep.RegionLaw
namespace Go.Proofs.YtcbpdibkindnfaaGreat
open Go.RowKit

theorem own_drewP {w : World} {base k n : Nat} {e : TypeId} {v : Value} {xs : List Value} (h : w.ownsRow base e k v n xs) : w.drew.ownsRow base e k v n xs := h
def Tr.rdI (s : ByteArray) : Option (List Tr.In × ByteArray) := match En.bel s 6 with
  | none => none
  | some a => Tr.rep Tr.inP a.2 a.1.toNat
def Tr.rdU (s : ByteArray) : Option (List Tr.Out × ByteArray) := match En.bel s 6 with
  | none => none
  | some a => Tr.rep Tr.outR a.2 a.1.toNat
theorem Tr.rdI_some {s : ByteArray} {x : List Tr.In × ByteArray} (h : Tr.rdI s = some x) : Tr.rdA Tr.inP s = Tr.rdO x.1 x.2 := by
  unfold Tr.rdI at h
  split at h
  · cases h
  · rename_i a ha
    exact Tr.rdA_rep1 ha h
theorem Tr.rdI_none {s : ByteArray} (h : Tr.rdI s = none) : Tr.rdA Tr.inP s = none := by
  unfold Tr.rdI at h
  split at h
  · rename_i ha
    exact Tr.rdA_bel ha
  · rename_i a ha
    exact Tr.rdA_rep0 ha h
theorem Tr.rdU_some {l : List Tr.In} {s : ByteArray} {x : List Tr.Out × ByteArray} (h : Tr.rdU s = some x) : Tr.rdO l s = Tr.rdE ⟨l, x.1, 0, ByteArray.empty⟩ x.2 := by
  unfold Tr.rdU at h
  split at h
  · cases h
  · rename_i a ha
    exact Tr.rdO_rep1 ha h
theorem Tr.rdU_none {l : List Tr.In} {s : ByteArray} (h : Tr.rdU s = none) : Tr.rdO l s = none := by
  unfold Tr.rdU at h
  split at h
  · rename_i ha
    exact Tr.rdO_bel ha
  · rename_i a ha
    exact Tr.rdO_rep0 ha h
/-- One input more, read in three parts. -/
theorem Tr.three_parts {r1 r2 r3 r4 : ByteArray} {b1 b2 b3 b4 : Bool} {d q : Int} {l : List ByteArray} (h2 : (b2 = true → b1 = true ∨ Tr.dig r1 = none) ∧ (b2 = false → b1 = false ∧ Tr.dig r1 = some (d, r2))) (h3 : (b3 = true → b2 = true ∨ En.dec r2 = none) ∧ (b3 = false → b2 = false ∧ En.dec r2 = some (q, r3)))
    (h4 : (b4 = true → b3 = true ∨ Tr.wits 40 r3 = none) ∧ (b4 = false → b3 = false ∧ Tr.wits 40 r3 = some (l, r4))) : (b4 = true → b1 = true ∨ Tr.inP r1 = none) ∧ (b4 = false → b1 = false ∧ Tr.inP r1 = some (⟨d, q, l⟩, r4)) := by
  constructor
  · intro hb
    unfold Tr.inP
    cases hb2 : b2
    · obtain ⟨_, e2⟩ := h2.2 hb2
      rw [e2]
      simp only
      cases hb3 : b3
      · obtain ⟨_, e3⟩ := h3.2 hb3
        rw [e3]
        simp only
        rcases h4.1 hb with e | e
        · rw [hb3] at e; cases e
        · rw [e]; exact .inr rfl
      · rcases h3.1 hb3 with e | e
        · rw [hb2] at e; cases e
        · rw [e]; exact .inr rfl
    · rcases h2.1 hb2 with e | e
      · exact .inl e
      · rw [e]; exact .inr rfl
  · intro hb
    obtain ⟨e4, f4⟩ := h4.2 hb
    obtain ⟨e3, f3⟩ := h3.2 e4
    obtain ⟨e2, f2⟩ := h2.2 e3
    exact ⟨e2, Tr.inP_some f2 f3 f4⟩
theorem Tr.two_parts {r1 r2 r3 : ByteArray} {b1 b2 b3 : Bool} {q : Int} {l : ByteArray} (h2 : (b2 = true → b1 = true ∨ En.dec r1 = none) ∧ (b2 = false → b1 = false ∧ En.dec r1 = some (q, r2))) (h3 : (b3 = true → b2 = true ∨ En.decT r2 = none) ∧ (b3 = false → b2 = false ∧ En.decT r2 = some (l, r3))) :
    (b3 = true → b1 = true ∨ Tr.outR r1 = none) ∧ (b3 = false → b1 = false ∧ Tr.outR r1 = some (⟨q, l⟩, r3)) := by
  unfold Tr.outR
  constructor
  · intro hb
    cases hb2 : b2
    · obtain ⟨_, e2⟩ := h2.2 hb2
      rw [e2]
      simp only
      rcases h3.1 hb with e | e
      · rw [hb2] at e; cases e
      · rw [e]; exact .inr rfl
    · rcases h2.1 hb2 with e | e
      · exact .inl e
      · rw [e]; exact .inr rfl
  · intro hb
    obtain ⟨e3, f3⟩ := h3.2 hb
    obtain ⟨e2, f2⟩ := h2.2 e3
    rw [f2]
    simp only
    rw [f3]
    exact ⟨e2, rfl⟩
theorem RT.grown {D B base : Nat} {c0 c1 c2 c3 : Value} {r : ByteArray} {b : Bool} {w w' : World} {own : Option Nat} (h : RT D B c0 c1 c2 c3 r b w) (hg : w.grownBy w' own) (ho : ∀ j, own = some j → base ≤ j) (hD : D < base) (hB : B < base) : RT D B c0 c1 c2 c3 r b w' :=
  ⟨⟨(hg.block D h.blk.lt (fun e => by have := ho D e.symm; omega)).trans h.blk.held⟩, (hg.block B (lt_of_block h.str) (fun e => by have := ho B e.symm; omega)).trans h.str⟩
theorem Two.grown {D B : Nat} {w w1 w' : World} {own : Option Nat} (h : Two D B w w1) (hg : w1.grownBy w' own) (ho : ∀ j, own = some j → w.heap.size ≤ j) : Two D B w w' :=
  ⟨hg.os.trans h.os, hg.tape.trans h.tape, hg.output.trans h.output, Nat.le_trans h.size hg.size, fun k hk h1 h2 => (hg.block k (Nat.lt_of_lt_of_le hk h.size) (fun e => by have := ho k e.symm; omega)).trans (h.block k hk h1 h2)⟩
theorem Two.alloc {D B : Nat} {w w1 : World} (h : Two D B w w1) (o : Obj) : Two D B w (w1.alloc o) := h.trans (Two.below ((Below.refl _ _).alloc (Nat.le_refl _) o))
theorem ptexts_n (D B : Nat) (c0 c1 c2 c3 : Value) (r : ByteArray) (b : Bool) (w : World) (h : RT D B c0 c1 c2 c3 r b w) :
    Calls Tryz.prog 48 #[.pointer (some ⟨D, 4, none⟩)] w fun e w' => ∃ (l : List ByteArray) (a : Option Addr) (n c : Nat), Hid (l.length = n) ∧ e = .returned (.slice a n c) ∧ Hid (w'.ownsRow w.heap.size 9 1 (.slice a n c) n (l.map Value.string)) ∧ PartQ D B c0 c1 c2 c3 b (Tr.wits 40 r) l w w' := by
  refine (ptexts_any D B c0 c1 c2 c3 r b w h).mono ?_
  rintro e w' ⟨l, a, c, he, ho, hp⟩
  exact ⟨l, a, l.length, c, Lib.hid rfl, he, Lib.hid ho, hp⟩
/-- What readIns leaves. -/
def InsQ (D B : Nat) (c1 c2 c3 : Value) (r : ByteArray) (b : Bool) (w : World) (e : Ending) (w' : World) : Prop :=
  ∃ (a : Option Addr) (p c : Nat) (l : List (Tr.In × Value)) (r2 : ByteArray) (b2 : Bool), e = .returned (.tuple #[]) ∧ RT D B (.slice a p c) c1 c2 c3 r2 b2 w' ∧ l.length = p ∧ Hid (OwnI w.heap.size w' (.slice a p c) l) ∧ Hid (DistW l) ∧ Two D B w w' ∧
    Hid ((b2 = true → b = true ∨ Tr.rdI r = none) ∧ (b2 = false → b = false ∧ Tr.rdI r = some (l.map Prod.fst, r2)))
theorem InsQ.mk {D B : Nat} {c1 c2 c3 : Value} {r : ByteArray} {b : Bool} {w : World} {e : Ending} {w' : World} (h : ∃ (a : Option Addr) (p c : Nat) (l : List (Tr.In × Value)) (r2 : ByteArray) (b2 : Bool), e = .returned (.tuple #[]) ∧ RT D B (.slice a p c) c1 c2 c3 r2 b2 w' ∧ l.length = p ∧ Hid (OwnI w.heap.size w' (.slice a p c) l) ∧ Hid (DistW l) ∧ Two D B w w' ∧
    Hid ((b2 = true → b = true ∨ Tr.rdI r = none) ∧ (b2 = false → b = false ∧ Tr.rdI r = some (l.map Prod.fst, r2)))) : InsQ D B c1 c2 c3 r b w e w' := h

set_option maxRecDepth 100000 in
set_option maxHeartbeats 3200000 in
theorem readIns_any (D B : Nat) (c1 c2 c3 : Value) (r : ByteArray) (b : Bool) (w : World) (h : RT D B (.slice none 0 0) c1 c2 c3 r b w) :
    Calls Tryz.prog 19 #[.pointer (some ⟨D, 0, none⟩)] w (InsQ D B c1 c2 c3 r b w) := by
  obtain ⟨i0, hi, hz0, hz1, hz2⟩ := info_parts info_in13
  have hDw : D < w.heap.size := h.blk.lt
  have hBw : B < w.heap.size := lt_of_block h.str
  have hcc := pcount_any D B _ c1 c2 c3 r b w h
  have hne := h.ne
  clear h
  go_enter Tryz.func19, Tryz.ntmps19
  go_wp2_with fail
  refine hcc.mono ?_
  rintro e w1 ⟨n, m, rfl, hm, hmn, r0, b0, h0, t0, HB0⟩
  have HST : Hid ((b0 = true → b = true ∨ Tr.rdI r = none) ∧ (b0 = false → b = false ∧ En.bel r 6 = some (n, r0) ∧ n = m ∧ 0 ≤ n)) := Lib.hid ⟨fun hb => by
    rcases HB0.out.1 hb with e | e
    · exact .inl e
    · refine .inr ?_
      unfold Tr.rdI
      rw [e], fun hb => by
    obtain ⟨e1, e2⟩ := HB0.out.2 hb
    obtain ⟨_, e3, e4, _⟩ := En.bel_bw (s := r) (n := n) (t := r0) e2
    exact ⟨e1, e2, (hmn.out e4).symm, e3⟩⟩
  clear hcc HB0 hmn
  go_wp2
  go_loopw [6] (fun i wr => ∃ (j : Nat) (a : Option Addr) (c : Nat) (l : List (Tr.In × Value)) (r1 : ByteArray) (b1 : Bool), (j : Int) ≤ m ∧ i = .int .i64 (j : Int) ∧ RT D B (.slice a j c) c1 c2 c3 r1 b1 wr ∧ Hid (l.length = j) ∧ Hid (OwnI w.heap.size wr (.slice a j c) l) ∧ Hid (DistW l) ∧ Two D B w wr ∧
      Hid ((b1 = true → b = true ∨ Tr.rdI r = none) ∧ (b1 = false → b = false ∧ (En.bel r 6 = some (n, r0) ∧ n = m ∧ 0 ≤ n) ∧ Tr.rep Tr.inP r0 j = some (l.map Prod.fst, r1))))
    (fun i _ => (m - intOf i).toNat)
  case atStart => exact ⟨0, none, 0, [], r0, b0, by omega, rfl, h0, Lib.hid rfl, Lib.hid ⟨⟨rfl, .inl ⟨rfl, rfl⟩⟩, by intro x hx; cases hx⟩, Lib.hid DistW.nil, t0, Lib.hid ⟨HST.out.1, fun hb => ⟨(HST.out.2 hb).1, (HST.out.2 hb).2, rfl⟩⟩⟩
  case round =>
    obtain ⟨j, a, c, l, r1, b1, hjm, rfl, hR, hll, HOI, HDI, hT, HG⟩ := hrel
    clear h0 t0 HST
    by_cases hlt : (j : Int) < m
    · have hj6 : j ≤ 6 := by omega
      obtain ⟨⟨k0, _, _, _⟩, _⟩ := hR.drew.cells
      have hwr := hT.size
      have HRD := Lib.hid hR.drew
      have HTD := Lib.hid hT.drew
      have HOID : Hid (OwnI w.heap.size wr.drew (.slice a j c) l) := Lib.hid HOI.out
      clear hR hT
      go_wp2
      go_region_law (first
        | (refine step_append_own rfl _ _ 23 rfl w.heap.size 64 i0 (.agg #[.int .i64 0, .int .i64 0, .slice none 0 0]) 3 40 Tryz.underlying23 hi hz0 hz1 hz2 rfl (by decide) (.slice a j c) j (Tr.ics l) rfl (by exact (HO4.out.alloc _)) ⟨x4.heap.size, 0, none⟩ 1 1 [.int .i64 d, .int .i64 q, .slice aw nw cw] rfl rfl (three_new13 _ _ _ _ _ _ rfl) (by intro u hu; simp at hu; rcases hu with rfl | rfl | rfl <;> rfl) (by unfold maxLen; omega) (by omega) (by simp; omega) (fun v' x5 hown5 hg5 => ?_)
           obtain ⟨a5, c5, rfl⟩ := own_shape13 hown5
           have h5 := (h4.below ((Below.refl _ _).alloc (Nat.le_refl _) (.cells #[.int .i64 d, .int .i64 q, .slice aw nw cw] 64))).grown hg5 (fun q he => (HO4.out.lt q he).1) hDw hBw
           obtain ⟨⟨s0, _, _, _⟩, _⟩ := h5.cells
           have f0 := h5.blk.fro 0)
        | (rw [if_pos (by simp [Region.wanted])]; go_simp; go_at_call 47; refine (pdigest_any D B _ c1 c2 c3 r1 b1 _ (by exact HRD.out)).mono ?_; rintro e x2 ⟨d, rfl, r2, b2, h2, t2, HG2⟩
           obtain ⟨⟨k2, _, _, _⟩, _⟩ := h2.cells
           have HO2 := Lib.hid (HOID.out.two t2 hDw hBw)
           have HT2 := Lib.hid (HTD.out.trans t2))
        | (rw [if_pos (by simp [Region.wanted])]; go_simp; go_at_call 21; refine (pnumber_any D B _ c1 c2 c3 r2 b2 _ (by exact h2)).mono ?_; rintro e x3 ⟨q, rfl, _, r3, b3, h3, t3, HG3⟩
           obtain ⟨⟨k3, _, _, _⟩, _⟩ := h3.cells
           have HO3 := Lib.hid (HO2.out.two t3 hDw hBw)
           have HT3 := Lib.hid (HT2.out.trans t3))
        | (rw [if_pos (by simp [Region.wanted])]; go_simp; go_at_call 48; refine (ptexts_n D B _ c1 c2 c3 r3 b3 _ (by exact h3)).mono ?_; rintro e x4 ⟨lw, aw, nw, cw, hnw, rfl, HOW, r4, b4, h4, t4, HG4⟩
           obtain ⟨⟨k4, _, _, _⟩, _⟩ := h4.cells
           obtain ⟨⟨k4', _, _, _⟩, _⟩ := (h4.below ((Below.refl _ _).alloc (Nat.le_refl _) (.cells #[.int .i64 d, .int .i64 q, .slice aw nw cw] 64))).cells
           have HOI4 := Lib.hid (HO3.out.two t4 hDw hBw)
           have HO4 : Hid (x4.ownsRow w.heap.size 64 3 (.slice a j c) j (Tr.ics l)) := Lib.hid (by have := HOI4.out.1; rw [hll.out] at this; exact this)
           have HT4 := Lib.hid (HT3.out.trans t4)
           have hsz4 := HT4.out.size))
      all_goals
        have HRF := Lib.hid (h5.put0 (.slice a5 (j + 1) c5))
        have ho : ∀ q, (Value.slice a j c).ownBlock = some q → w.heap.size ≤ q := fun q he => (HO4.out.lt q he).1
        have HTF := Lib.hid (((HT4.out.alloc (.cells #[.int .i64 d, .int .i64 q, .slice aw nw cw] 64)).grown hg5 ho).trans (Two.set x5 0 (.slice a5 (j + 1) c5)))
        have HP := Lib.hid (Tr.three_parts HG2.out HG3.out HG4.out)
        have HNW : Hid (OwnW w.heap.size x4 (⟨d, q, lw⟩, .slice aw nw cw)) := Lib.hid ⟨⟨aw, cw, by simp only; rw [hnw.out]⟩, by simp only; rw [hnw.out]; exact ownsRow_base HOW.out HT3.out.size⟩
        have HD2 : Hid (DistW (l ++ [(⟨d, q, lw⟩, .slice aw nw cw)])) := Lib.hid (HDI.out.push fun y hy => own_later (HO3.out.2 y hy).2 HOW.out (Nat.le_refl _))
        have HOF : Hid (OwnI w.heap.size (x5.setCell ⟨D, 0, none⟩ (.slice a5 (j + 1) c5)) (.slice a5 (j + 1) c5) (l ++ [(⟨d, q, lw⟩, .slice aw nw cw)])) := Lib.hid (by
          have h1 := (HOI4.out.alloc (.cells #[.int .i64 d, .int .i64 q, .slice aw nw cw] 64)).push (x := ⟨d, q, lw⟩) ⟨HNW.out.1, HNW.out.2.alloc _⟩ (by rw [hll.out]; exact hown5) hg5
          exact h1.two (Two.set x5 0 (.slice a5 (j + 1) c5)) hDw hBw)
        have HGF : Hid ((b4 = true → b = true ∨ Tr.rdI r = none) ∧ (b4 = false → b = false ∧ (En.bel r 6 = some (n, r0) ∧ n = m ∧ 0 ≤ n) ∧ Tr.rep Tr.inP r0 (j + 1) = some ((l ++ [((⟨d, q, lw⟩ : Tr.In), Value.slice aw nw cw)]).map Prod.fst, r4))) := Lib.hid ⟨fun hb => by
          cases hb1 : b1
          · obtain ⟨e1, ⟨e2, e3, e4⟩, e5⟩ := HG.out.2 hb1
            rcases HP.out.1 hb with e | e
            · rw [hb1] at e; cases e
            · refine .inr ?_
              unfold Tr.rdI
              rw [e2]
              exact Tr.rep_none (Tr.rep_bad e5 e) n.toNat (by omega)
          · exact HG.out.1 hb1, fun hb => by
          obtain ⟨e1, e2⟩ := HP.out.2 hb
          obtain ⟨g1, g2, g3⟩ := HG.out.2 e1
          refine ⟨g1, g2, ?_⟩
          rw [Tr.rep_ok g3 e2]
          simp⟩
        have hl1 : Hid ((l ++ [((⟨d, q, lw⟩ : Tr.In), Value.slice aw nw cw)]).length = j + 1) := Lib.hid (by rw [List.length_append, hll.out]; rfl)
        clear h5 ho hown5 hg5 h2 h3 h4 t2 t3 t4 HG2 HG3 HG4 HP HNW HOW HO2 HO3 HO4 HOI4 HT2 HT3 HT4 HRD HTD HOID HOI HDI HG hll
        go_wp2
        go_roundw
        case rel => exact ⟨j + 1, a5, c5, _, r4, b4, by omega, by simp, HRF.out, hl1, HOF, HD2, HTF.out, HGF⟩
        case measure => simp [intOf]; omega
    · have hjm2 : (j : Int) = m := by omega
      have HGF : Hid ((b1 = true → b = true ∨ Tr.rdI r = none) ∧ (b1 = false → b = false ∧ Tr.rdI r = some (l.map Prod.fst, r1))) := Lib.hid ⟨HG.out.1, fun hb => by
        obtain ⟨e1, ⟨e2, e3, e4⟩, e5⟩ := HG.out.2 hb
        refine ⟨e1, ?_⟩
        unfold Tr.rdI
        rw [e2]
        simp only
        rw [show n.toNat = j by omega]
        exact e5⟩
      clear hjm2 HG
      go_wp2
      go_end0
      exact InsQ.mk ⟨a, j, c, l, r1, b1, rfl, hR, hll.out, HOI, HDI, hT, HGF⟩

/-- What readOuts leaves. -/
def OutsQ (D B : Nat) (c0 c2 c3 : Value) (r : ByteArray) (b : Bool) (w : World) (e : Ending) (w' : World) : Prop :=
  ∃ (a : Option Addr) (p c : Nat) (l : List Tr.Out) (r2 : ByteArray) (b2 : Bool), e = .returned (.tuple #[]) ∧ RT D B c0 (.slice a p c) c2 c3 r2 b2 w' ∧ l.length = p ∧ Hid (OwnO w.heap.size w' (.slice a p c) l) ∧ Two D B w w' ∧
    Hid ((b2 = true → b = true ∨ Tr.rdU r = none) ∧ (b2 = false → b = false ∧ Tr.rdU r = some (l, r2)))
theorem OutsQ.mk {D B : Nat} {c0 c2 c3 : Value} {r : ByteArray} {b : Bool} {w : World} {e : Ending} {w' : World} (h : ∃ (a : Option Addr) (p c : Nat) (l : List Tr.Out) (r2 : ByteArray) (b2 : Bool), e = .returned (.tuple #[]) ∧ RT D B c0 (.slice a p c) c2 c3 r2 b2 w' ∧ l.length = p ∧ Hid (OwnO w.heap.size w' (.slice a p c) l) ∧ Two D B w w' ∧
    Hid ((b2 = true → b = true ∨ Tr.rdU r = none) ∧ (b2 = false → b = false ∧ Tr.rdU r = some (l, r2)))) : OutsQ D B c0 c2 c3 r b w e w' := h
set_option maxRecDepth 100000 in
set_option maxHeartbeats 3200000 in
theorem readOuts_any (D B : Nat) (c0 c2 c3 : Value) (r : ByteArray) (b : Bool) (w : World) (h : RT D B c0 (.slice none 0 0) c2 c3 r b w) :
    Calls Tryz.prog 20 #[.pointer (some ⟨D, 0, none⟩)] w (OutsQ D B c0 c2 c3 r b w) := by
  obtain ⟨i0, hi, hz0, hz1, hz2⟩ := info_parts info_out13
  have hDw : D < w.heap.size := h.blk.lt
  have hBw : B < w.heap.size := lt_of_block h.str
  have hcc := pcount_any D B c0 _ c2 c3 r b w h
  have hne := h.ne
  clear h
  go_enter Tryz.func20, Tryz.ntmps20
  go_wp2_with fail
  refine hcc.mono ?_
  rintro e w1 ⟨n, m, rfl, hm, hmn, r0, b0, h0, t0, HB0⟩
  have HST : Hid ((b0 = true → b = true ∨ Tr.rdU r = none) ∧ (b0 = false → b = false ∧ En.bel r 6 = some (n, r0) ∧ n = m ∧ 0 ≤ n)) := Lib.hid ⟨fun hb => by
    rcases HB0.out.1 hb with e | e
    · exact .inl e
    · refine .inr ?_
      unfold Tr.rdU
      rw [e], fun hb => by
    obtain ⟨e1, e2⟩ := HB0.out.2 hb
    obtain ⟨_, e3, e4, _⟩ := En.bel_bw (s := r) (n := n) (t := r0) e2
    exact ⟨e1, e2, (hmn.out e4).symm, e3⟩⟩
  clear hcc HB0 hmn
  go_wp2
  go_loopw [6] (fun i wr => ∃ (j : Nat) (a : Option Addr) (c : Nat) (l : List Tr.Out) (r1 : ByteArray) (b1 : Bool), (j : Int) ≤ m ∧ i = .int .i64 (j : Int) ∧ RT D B c0 (.slice a j c) c2 c3 r1 b1 wr ∧ Hid (l.length = j) ∧ Hid (wr.ownsRow w.heap.size 66 2 (.slice a j c) j (Tr.ocs l)) ∧ Two D B w wr ∧
      Hid ((b1 = true → b = true ∨ Tr.rdU r = none) ∧ (b1 = false → b = false ∧ (En.bel r 6 = some (n, r0) ∧ n = m ∧ 0 ≤ n) ∧ Tr.rep Tr.outR r0 j = some (l, r1))))
    (fun i _ => (m - intOf i).toNat)
  case atStart => exact ⟨0, none, 0, [], r0, b0, by omega, rfl, h0, Lib.hid rfl, Lib.hid ⟨rfl, .inl ⟨rfl, rfl⟩⟩, t0, Lib.hid ⟨HST.out.1, fun hb => ⟨(HST.out.2 hb).1, (HST.out.2 hb).2, rfl⟩⟩⟩
  case round =>
    obtain ⟨j, a, c, l, r1, b1, hjm, rfl, hR, hll, HOI, hT, HG⟩ := hrel
    clear h0 t0 HST
    by_cases hlt : (j : Int) < m
    · have hj6 : j ≤ 6 := by omega
      obtain ⟨⟨_, k0, _, _⟩, _⟩ := hR.drew.cells
      have hwr := hT.size
      have HRD := Lib.hid hR.drew
      have HTD := Lib.hid hT.drew
      have HOID := Lib.hid (own_drewP HOI.out)
      clear hR hT
      go_wp2
      go_region_law (first
        | (refine step_append_own rfl _ _ 24 rfl w.heap.size 66 i0 (.agg #[.int .i64 0, .string ⟨#[]⟩]) 2 24 Tryz.underlying24 hi hz0 hz1 hz2 rfl (by decide) (.slice a j c) j (Tr.ocs l) rfl (by exact (HO3.out.alloc _)) ⟨x3.heap.size, 0, none⟩ 1 1 [.int .i64 q, .string lk] rfl rfl (two_new13 _ _ _ _ _ rfl) (by intro u hu; simp at hu; rcases hu with rfl | rfl <;> rfl) (by unfold maxLen; omega) (by omega) (by simp; omega) (fun v' x5 hown5 hg5 => ?_)
           obtain ⟨a5, c5, rfl⟩ := own_shape13 hown5
           have h5 := (h3.below ((Below.refl _ _).alloc (Nat.le_refl _) (.cells #[.int .i64 q, .string lk] 66))).grown hg5 (fun q he => (HO3.out.lt q he).1) hDw hBw
           obtain ⟨⟨_, s0, _, _⟩, _⟩ := h5.cells
           have f0 := h5.blk.fro 1)
        | (rw [if_pos (by simp [Region.wanted])]; go_simp; go_at_call 21; refine (pnumber_any D B c0 _ c2 c3 r1 b1 _ (by exact HRD.out)).mono ?_; rintro e x2 ⟨q, rfl, _, r2, b2, h2, t2, HG2⟩
           obtain ⟨⟨_, k2, _, _⟩, _⟩ := h2.cells
           have HO2 := Lib.hid (own_two HOID.out t2 hDw hBw)
           have HT2 := Lib.hid (HTD.out.trans t2))
        | (rw [if_pos (by simp [Region.wanted])]; go_simp; go_at_call 22; refine (ptext_any D B c0 _ c2 c3 r2 b2 _ (by exact h2)).mono ?_; rintro e x3 ⟨lk, rfl, r3, b3, h3, t3, HG3⟩
           obtain ⟨⟨_, k3, _, _⟩, _⟩ := h3.cells
           obtain ⟨⟨_, k3', _, _⟩, _⟩ := (h3.below ((Below.refl _ _).alloc (Nat.le_refl _) (.cells #[.int .i64 q, .string lk] 66))).cells
           have HO3 := Lib.hid (own_two HO2.out t3 hDw hBw)
           have HT3 := Lib.hid (HT2.out.trans t3)
           have hsz3 := HT3.out.size))
      all_goals
        have HRF := Lib.hid (h5.put1 (.slice a5 (j + 1) c5))
        have ho : ∀ q, (Value.slice a j c).ownBlock = some q → w.heap.size ≤ q := fun q he => (HO3.out.lt q he).1
        have HTF := Lib.hid (((HT3.out.alloc (.cells #[.int .i64 q, .string lk] 66)).grown hg5 ho).trans (Two.set x5 1 (.slice a5 (j + 1) c5)))
        have HP := Lib.hid (Tr.two_parts HG2.out HG3.out)
        have HOF : Hid ((x5.setCell ⟨D, 1, none⟩ (.slice a5 (j + 1) c5)).ownsRow w.heap.size 66 2 (.slice a5 (j + 1) c5) (j + 1) (Tr.ocs (l ++ [⟨q, lk⟩]))) := Lib.hid (by
          rw [Tr.ocs_append]
          exact own_two hown5 (Two.set x5 1 (.slice a5 (j + 1) c5)) hDw hBw)
        have HGF : Hid ((b3 = true → b = true ∨ Tr.rdU r = none) ∧ (b3 = false → b = false ∧ (En.bel r 6 = some (n, r0) ∧ n = m ∧ 0 ≤ n) ∧ Tr.rep Tr.outR r0 (j + 1) = some (l ++ [⟨q, lk⟩], r3))) := Lib.hid ⟨fun hb => by
          cases hb1 : b1
          · obtain ⟨e1, ⟨e2, e3, e4⟩, e5⟩ := HG.out.2 hb1
            rcases HP.out.1 hb with e | e
            · rw [hb1] at e; cases e
            · refine .inr ?_
              unfold Tr.rdU
              rw [e2]
              exact Tr.rep_none (Tr.rep_bad e5 e) n.toNat (by omega)
          · exact HG.out.1 hb1, fun hb => by
          obtain ⟨e1, e2⟩ := HP.out.2 hb
          obtain ⟨g1, g2, g3⟩ := HG.out.2 e1
          refine ⟨g1, g2, ?_⟩
          rw [Tr.rep_ok g3 e2]⟩
        have hl1 : Hid ((l ++ [(⟨q, lk⟩ : Tr.Out)]).length = j + 1) := Lib.hid (by rw [List.length_append, hll.out]; rfl)
        clear h5 ho hown5 hg5 h2 h3 t2 t3 HG2 HG3 HP HO2 HO3 HT2 HT3 HRD HTD HOID HOI HG hll
        go_wp2
        go_roundw
        case rel => exact ⟨j + 1, a5, c5, _, r3, b3, by omega, by simp, HRF.out, hl1, HOF, HTF.out, HGF⟩
        case measure => simp [intOf]; omega
    · have hjm2 : (j : Int) = m := by omega
      have HGF : Hid ((b1 = true → b = true ∨ Tr.rdU r = none) ∧ (b1 = false → b = false ∧ Tr.rdU r = some (l, r1))) := Lib.hid ⟨HG.out.1, fun hb => by
        obtain ⟨e1, ⟨e2, e3, e4⟩, e5⟩ := HG.out.2 hb
        refine ⟨e1, ?_⟩
        unfold Tr.rdU
        rw [e2]
        simp only
        rw [show n.toNat = j by omega]
        exact e5⟩
      have HOO : Hid (OwnO w.heap.size wr (.slice a j c) l) := Lib.hid (by
        unfold OwnO
        rw [hll.out]
        exact HOI.out)
      clear hjm2 HG
      go_wp2
      go_end0
      exact OutsQ.mk ⟨a, j, c, l, r1, b1, rfl, hR, hll.out, HOO, hT, HGF⟩
end Go.Proofs.YtcbpdibkindnfaaGreat
