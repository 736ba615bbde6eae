import Derived.Test.YtoocibabceeagabGreatWd
import Derived.Test.YtoocibabceeagabGreatWg
import Derived.LoopTactic
import Derived.Deep.RegionHeld3
/-
  The machine of the model: its block; need, pop, push, take, active; signatures.
-/
namespace Go.Proofs.YtoocibabceeagabGreat
open Go.RowKit

/-- The model's machine at D: items (the top one first), conditions (the innermost first), the code. -/
structure MS (base D : Nat) (vi vb : Value) (s : List ByteArray) (br : List Bool) (q : Int) (w : World) : Prop where
  hD : base ≤ D
  blk : Bk D 177 #[vi, vb, .int .i64 q] w
  its : w.ownsRow base 9 1 vi s.length (s.reverse.map Value.string)
  brs : w.ownsRow base 4 1 vb br.length (br.reverse.map Value.bool)
theorem MS.below {base D : Nat} {vi vb : Value} {s : List ByteArray} {br : List Bool} {q : Int} {w w' : World} (h : MS base D vi vb s br q w) (hb : Below w.heap.size w w') : MS base D vi vb s br q w' :=
  ⟨h.hD, h.blk.below hb, below_own h.its hb, below_own h.brs hb⟩
theorem MS.alloc {base D : Nat} {vi vb : Value} {s : List ByteArray} {br : List Bool} {q : Int} {w : World} (h : MS base D vi vb s br q w) (o : Obj) : MS base D vi vb s br q (w.alloc o) :=
  h.below ((Below.refl _ _).alloc (Nat.le_refl _) o)
theorem MS.drew {base D : Nat} {vi vb : Value} {s : List ByteArray} {br : List Bool} {q : Int} {w : World} (h : MS base D vi vb s br q w) : MS base D vi vb s br q w.drew :=
  h.below (Below.refl _ _).drew
theorem MS.iD {base D : Nat} {vi vb : Value} {s : List ByteArray} {br : List Bool} {q : Int} {w : World} (h : MS base D vi vb s br q w) : vi.ownBlock ≠ some D := own_type h.its (by decide) h.blk.held
theorem MS.bD {base D : Nat} {vi vb : Value} {s : List ByteArray} {br : List Bool} {q : Int} {w : World} (h : MS base D vi vb s br q w) : vb.ownBlock ≠ some D := own_type h.brs (by decide) h.blk.held
theorem MS.setI {base D : Nat} {vi vb v' : Value} {s s' : List ByteArray} {br : List Bool} {q : Int} {w w1 : World} (h : MS base D vi vb s br q w) (hg : w.grownBy w1 vi.ownBlock) (ho : w1.ownsRow base 9 1 v' s'.length (s'.reverse.map Value.string)) :
    MS base D v' vb s' br q (w1.setCell ⟨D, 0, none⟩ v') ∧ Bk D 177 #[vi, vb, .int .i64 q] w1 := by
  have hb1 : Bk D 177 #[vi, vb, .int .i64 q] w1 := h.blk.gbY hg (fun e => h.iD e.symm)
  have hv1 : w1.ownsRow base 4 1 vb br.length (br.reverse.map Value.bool) := h.brs.kept hg (own_two h.brs h.its (by decide))
  have k := hb1.set 0 v'
  exact ⟨⟨h.hD, k, own_set ho D 0 _ (own_type ho (by decide) hb1.held), own_set hv1 D 0 _ (own_type hv1 (by decide) hb1.held)⟩, hb1⟩
theorem MS.setB {base D : Nat} {vi vb v' : Value} {s : List ByteArray} {br br' : List Bool} {q : Int} {w w1 : World} (h : MS base D vi vb s br q w) (hg : w.grownBy w1 vb.ownBlock) (ho : w1.ownsRow base 4 1 v' br'.length (br'.reverse.map Value.bool)) :
    MS base D vi v' s br' q (w1.setCell ⟨D, 1, none⟩ v') ∧ Bk D 177 #[vi, vb, .int .i64 q] w1 := by
  have hb1 : Bk D 177 #[vi, vb, .int .i64 q] w1 := h.blk.gbY hg (fun e => h.bD e.symm)
  have hv1 : w1.ownsRow base 9 1 vi s.length (s.reverse.map Value.string) := h.its.kept hg (own_two h.its h.brs (by decide))
  have k := hb1.set 1 v'
  exact ⟨⟨h.hD, k, own_set hv1 D 1 _ (own_type hv1 (by decide) hb1.held), own_set ho D 1 _ (own_type ho (by decide) hb1.held)⟩, hb1⟩
theorem MS.setQ {base D : Nat} {vi vb : Value} {s : List ByteArray} {br : List Bool} {q : Int} {w : World} (h : MS base D vi vb s br q w) (q' : Int) : MS base D vi vb s br q' (w.setCell ⟨D, 2, none⟩ (.int .i64 q')) :=
  ⟨h.hD, h.blk.set 2 (.int .i64 q'), own_set h.its D 2 _ h.iD, own_set h.brs D 2 _ h.bD⟩
theorem MS.cells {base D : Nat} {vi vb : Value} {s : List ByteArray} {br : List Bool} {q : Int} {w : World} (h : MS base D vi vb s br q w) :
    w.cell? ⟨D, 0, none⟩ = some vi ∧ w.cell? ⟨D, 1, none⟩ = some vb ∧ w.cell? ⟨D, 2, none⟩ = some (.int .i64 q) :=
  ⟨(h.blk.cell 0).trans rfl, (h.blk.cell 1).trans rfl, (h.blk.cell 2).trans rfl⟩
theorem needM_ok (base D n : Nat) (vi vb : Value) (s : List ByteArray) (br : List Bool) (q : Int) (w : World) (h : MS base D vi vb s br q w) (hs : n ≤ s.length) :
    Calls Tryz.prog 198 #[.pointer (some ⟨D, 0, none⟩), .int .i64 (n : Int)] w fun e w' => e = .returned (.bool true) ∧ w' = w := by
  obtain ⟨a, cap, rfl, hcap, hmax⟩ := own_slice h.its
  obtain ⟨c0, c1, c2⟩ := h.cells
  obtain ⟨m, hm⟩ : ∃ m, s.length = m := ⟨_, rfl⟩
  rw [hm] at c0 hs
  have hq : decide (m < n) = false := decide_eq_false (by omega)
  clear h hm
  go_enter Tryz.func198, Tryz.ntmps198
  go_wp2
  go_ret
  exact ⟨rfl, rfl⟩
theorem needM_no (base D n : Nat) (vi vb : Value) (s : List ByteArray) (br : List Bool) (q : Int) (w : World) (h : MS base D vi vb s br q w) (hs : s.length < n) :
    Calls Tryz.prog 198 #[.pointer (some ⟨D, 0, none⟩), .int .i64 (n : Int)] w fun e w' => e = .returned (.bool false) ∧ w' = w.setCell ⟨D, 2, none⟩ (.int .i64 2) := by
  obtain ⟨a, cap, rfl, hcap, hmax⟩ := own_slice h.its
  obtain ⟨c0, c1, c2⟩ := h.cells
  have f2 := h.blk.fro 2
  obtain ⟨m, hm⟩ : ∃ m, s.length = m := ⟨_, rfl⟩
  rw [hm] at c0 hs
  have hq : decide (m < n) = true := decide_eq_true (by omega)
  clear h hm
  go_enter Tryz.func198, Tryz.ntmps198
  go_wp2
  go_ret
  exact ⟨rfl, rfl⟩
/-- What pop leaves. -/
def PoM (base D : Nat) (vi vb : Value) (x : ByteArray) (s : List ByteArray) (br : List Bool) (q : Int) (w : World) (e : Ending) (w' : World) : Prop :=
  ∃ vi', e = .returned (.string x) ∧ MS base D vi' vb s br q w' ∧ vi'.ownBlock = vi.ownBlock ∧ Fr base D w w'
set_option maxRecDepth 100000 in
set_option maxHeartbeats 1600000 in
theorem popM_any (base D : Nat) (vi vb : Value) (x : ByteArray) (s : List ByteArray) (br : List Bool) (q : Int) (w : World) (h : MS base D vi vb (x :: s) br q w) (hs : s.length < 24) :
    Calls Tryz.prog 199 #[.pointer (some ⟨D, 0, none⟩)] w (PoM base D vi vb x s br q w) := by
  obtain ⟨a, cap, rfl, hcap, hmax⟩ := own_slice h.its
  obtain ⟨g, rfl, hgb, hgl⟩ := own_some h.its (by simp)
  obtain ⟨c0, c1, c2⟩ := h.cells
  have f0 := h.blk.fro 0
  obtain ⟨k, hk⟩ : ∃ k, s.length = k := ⟨_, rfl⟩
  have hI := h.its
  have hcl : w.cell? ⟨g, k, none⟩ = some (.string x) := by
    have := hI.cellAt k (by simp; omega)
    rw [this, List.reverse_cons, List.map_append, List.getElem?_append_right (by simp; omega)]
    simp [hk]
  rw [List.reverse_cons, List.map_append] at hI
  have hF := ownsRow_front hI
  rw [show (List.map Value.string s.reverse).length = s.length by simp] at hF
  simp only [List.length_cons, hk] at c0 hcap
  have hsh := fun W => sliceS_hi g (k + 1) k cap (by omega) hcap W
  have hq : IntKind.i64.wrap ((k : Int) + 1 - 1) = (k : Int) := by rw [IntKind.wrap_i64]; omega
  have HM := Lib.hid (h.setI (s' := s) (World.grownBy.refl _ _) hF).1
  have HF := Lib.hid ((Fr.refl base D w).setD h.hD 0 (.slice (some ⟨g, 0, none⟩) s.length cap))
  rw [hk] at HM HF
  clear h hI hF
  rw [hk] at hs
  clear hk
  go_enter Tryz.func199, Tryz.ntmps199
  go_wp2
  go_ret
  exact ⟨_, rfl, HM.out, rfl, HF.out⟩
/-- What push leaves. -/
def PuM (base D : Nat) (vi vb : Value) (s : List ByteArray) (br : List Bool) (q : Int) (w : World) (e : Ending) (w' : World) : Prop :=
  ∃ vi', e = .returned (.tuple #[]) ∧ MS base D vi' vb s br q w' ∧ Fr base D w w' ∧ ∀ k, k < w.heap.size → k ≠ D → vi.ownBlock ≠ some k → w'.heap[k]? = w.heap[k]?
set_option maxRecDepth 100000 in
set_option maxHeartbeats 1600000 in
theorem pushM_ok (base D : Nat) (vi vb : Value) (s : List ByteArray) (br : List Bool) (q : Int) (x : ByteArray) (w : World) (h : MS base D vi vb s br q w) (hb : base ≤ w.heap.size) (hs : s.length < 24) :
    Calls Tryz.prog 201 #[.pointer (some ⟨D, 0, none⟩), .string x] w (PuM base D vi vb (x :: s) br q w) := by
  obtain ⟨a, cap, rfl, hcap, hmax⟩ := own_slice h.its
  obtain ⟨i0, hi, hz0, hz1, hz2⟩ := info_parts info_str
  obtain ⟨c0, c1, c2⟩ := h.cells
  have f0 := h.blk.fro 0
  have hq : decide (24 ≤ s.length) = false := decide_eq_false (by omega)
  have hq2 : decide ((24 : Int) ≤ (s.length : Int)) = false := decide_eq_false (by omega)
  have hown := h.its.alloc (.cells #[.string x] 9)
  obtain ⟨n, hn⟩ : ∃ n, s.length = n := ⟨_, rfl⟩
  rw [hn] at hown hs hq hq2
  have H := Lib.hid h
  have HN := Lib.hid hn
  clear h
  rw [hn] at c0
  clear hn
  go_enter Tryz.func201, Tryz.ntmps201
  go_wp2_with (at_builtin; refine wpList_append_own _ rfl _ _ 25 rfl base 9 i0 (.string ByteArray.empty) 1 16 Tryz.underlying25 hi hz0 hz1 hz2 rfl (by decide) _ _ _ rfl hown ⟨w.heap.size, 0, none⟩ 1 1 [.string x] rfl rfl ?c1 ?c2 ?c3 ?c4 ?c5 ?_)
  case c1 => exact one_new _ _ _
  case c2 => intro u hu; simp at hu; subst hu; rfl
  case c3 => unfold maxLen; omega
  case c4 => omega
  case c5 => simp; omega
  intro v' w2 hown2 hg2 _
  obtain ⟨a2, cp2, rfl, _⟩ := own_slice hown2
  have hg : w.grownBy w2 (Value.slice a n cap).ownBlock := grownBy_trans' (World.grownBy_alloc _ _ _) hg2
  have hrl : (x :: s).length = n + 1 := by rw [List.length_cons, HN.out]
  have k1 := (MS.setI (s' := x :: s) (v' := .slice a2 (n + 1) cp2) (by have := H.out; rw [HN.out] at this; exact this) hg (by rw [hrl, List.reverse_cons, List.map_append, List.map_reverse]; exact hown2))
  have d0 := (k1.2.cell 0).trans rfl
  have f2 := k1.2.fro 0
  have K1 := Lib.hid k1.1
  have HG := Lib.hid hg
  have hbel : Fr base D w w2 := (Fr.refl base D w).grown hg (by have := H.out.its; rw [HN.out] at this; exact this) (.inl rfl) hb (Nat.le_refl _)
  have HB := Lib.hid hbel
  clear k1 hown hown2 hg2 hg hbel
  go_wp2
  go_end0
  refine ⟨_, rfl, K1.out, HB.out.setD H.out.hD 0 _, fun k hk hkD hkv => ?_⟩
  rw [Below.heap_setCell _ _ _ _ (by exact hkD)]
  exact HG.out.block k hk (by rw [HN.out] at hkv; exact fun e => hkv e.symm)
set_option maxRecDepth 100000 in
set_option maxHeartbeats 800000 in
theorem pushM_no (base D : Nat) (vi vb : Value) (s : List ByteArray) (br : List Bool) (q : Int) (x : ByteArray) (w : World) (h : MS base D vi vb s br q w) (hs : ¬ s.length < 24) :
    Calls Tryz.prog 201 #[.pointer (some ⟨D, 0, none⟩), .string x] w fun e w' => e = .returned (.tuple #[]) ∧ w' = w.setCell ⟨D, 2, none⟩ (.int .i64 5) := by
  obtain ⟨a, cap, rfl, hcap, hmax⟩ := own_slice h.its
  obtain ⟨c0, c1, c2⟩ := h.cells
  have f2 := h.blk.fro 2
  obtain ⟨m, hm⟩ : ∃ m, s.length = m := ⟨_, rfl⟩
  rw [hm] at c0 hs
  have hq2 : decide ((24 : Int) ≤ (m : Int)) = true := decide_eq_true (by omega)
  clear h hm
  go_enter Tryz.func201, Tryz.ntmps201
  go_wp2
  first | go_end0 | refine bodyPost_ret (results_none rfl _ _ _) rfl ?_
  exact ⟨rfl, rfl⟩
theorem l11Bool_any (b : Bool) (w : World) : Calls Tryz.prog 69 #[.bool b] w fun e w' => e = .returned (.string (Vm.tr b)) ∧ w' = w := by
  cases b
  · go_enter Tryz.func69, Tryz.ntmps69
    go_wp2
    go_ret
    exact ⟨rfl, rfl⟩
  · go_enter Tryz.func69, Tryz.ntmps69
    go_wp2
    go_ret
    exact ⟨rfl, rfl⟩
/-- How many items an operation needs. -/
def Vm.need (x : Jo) : Nat := if x.c = 1 ∨ x.c = 2 ∨ x.c = 5 ∨ x.c = 9 ∨ x.c = 10 then 1 else if x.c = 3 ∨ x.c = 4 ∨ x.c = 11 then 2 else if x.c = 12 then (x.a + x.b).toNat else 0
end Go.Proofs.YtoocibabceeagabGreat

/-
  The machine of the model: active, take, signatures, how many items an operation needs.
-/
namespace Go.Proofs.YtoocibabceeagabGreat
open Go.RowKit

set_option maxRecDepth 100000 in
set_option maxHeartbeats 1600000 in
theorem activeM_any (base D : Nat) (vi vb : Value) (s : List ByteArray) (br : List Bool) (q : Int) (w : World) (h : MS base D vi vb s br q w) (hm : br.length ≤ 1000000) :
    Calls Tryz.prog 165 #[.pointer (some ⟨D, 0, none⟩)] w fun e w' => e = .returned (.bool (Vm.live br)) ∧ w' = w := by
  obtain ⟨a, cap, rfl, hcap, hmax⟩ := own_slice h.brs
  obtain ⟨c0, c1, c2⟩ := h.cells
  obtain ⟨hl, hr⟩ := br_row h.brs
  have hQ : Hid (Vm.live br = !br.reverse.contains false) := Lib.hid (by unfold Vm.live; simp)
  rw [hQ.out]
  obtain ⟨bs, HBS⟩ : ∃ bs, Hid (br.reverse = bs) := ⟨_, Lib.hid rfl⟩
  rw [HBS.out] at hl hr ⊢
  obtain ⟨n, hn⟩ : ∃ n, br.length = n := ⟨_, rfl⟩
  rw [hn] at c1 hm hl hr
  have HR := Lib.hid hr
  clear h hn HBS hQ hr
  go_enter Tryz.func165, Tryz.ntmps165
  go_wp2
  go_loopw [3] (fun i wr => wr = w ∧ ∃ k : Nat, k ≤ n ∧ i = .int .i64 (k : Int) ∧ ∀ j, j < k → bs.getD j false = true)
    (fun i _ => n - (intOf i).toNat)
  case atStart => exact ⟨rfl, 0, by omega, rfl, fun j hj => absurd hj (by omega)⟩
  case round =>
    obtain ⟨rfl, k, hk, rfl, hj⟩ := hrel
    by_cases hlt : k < n
    · obtain ⟨g, rfl, _, hc⟩ := HR.out (by omega)
      have hck := hc k hlt
      have HJ := Lib.hid hj
      have hmem : bs.getD k false ∈ bs := by
        rw [List.getD_eq_getElem?_getD, List.getElem?_eq_getElem (by omega)]
        exact List.getElem_mem _
      clear hj hc HR
      cases hv : bs.getD k false
      · rw [hv] at hck hmem
        have HM : Hid (bs.contains false = true) := Lib.hid (by simpa using hmem)
        clear hv hmem
        go_wp2
        go_ret
        exact ⟨by rw [HM.out]; rfl, rfl⟩
      · rw [hv] at hck
        have HV := Lib.hid hv
        clear hv hmem
        go_wp2
        go_roundw
        case rel =>
          refine ⟨trivial, k + 1, by omega, by simp, fun j hj => ?_⟩
          by_cases hjk : j < k
          · exact HJ.out j hjk
          · rw [show j = k by omega]; exact HV.out
        case measure => simp [intOf]; omega
    · have hk2 : k = n := by omega
      have HN : Hid (bs.contains false = false) := Lib.hid (by
        rw [Bool.eq_false_iff]
        intro h
        have h : false ∈ bs := by simpa using h
        obtain ⟨j, hjl, he⟩ := List.getElem_of_mem h
        have := hj j (by omega)
        rw [List.getD_eq_getElem?_getD, List.getElem?_eq_getElem hjl] at this
        simp [he] at this)
      clear hj HR
      go_wp2
      go_ret
      exact ⟨by rw [HN.out]; rfl, rfl⟩
set_option maxRecDepth 100000 in
set_option maxHeartbeats 1600000 in
theorem l11Signed_any (k g t : ByteArray) (w : World) (ht : t.size ≤ 1048576) :
    Calls Tryz.prog 202 #[.string k, .string g, .string t] w fun e w' => e = .returned (.bool (Vm.sg t g k)) ∧ Below w.heap.size w w' := by
  by_cases hk : k.size = 4
  · have hdig := fun W => specBytesDigest_ok k W hk
    obtain ⟨K, HK⟩ : ∃ K, Hid (Dg.num k = K) := ⟨_, Lib.hid rfl⟩
    by_cases hg : g.size = 8
    · have HQ : Hid (Vm.sg t g k = Sg.ver (Dg.num k) t (Dg.num (g.extract 0 4)) (Dg.num (g.extract 4 g.size))) := Lib.hid (by unfold Vm.sg; rw [decide_eq_true hg, decide_eq_true hk, Bool.true_and, Bool.true_and])
      rw [HQ.out]
      have hsig := fun W => specItemSig_yes g W hg
      obtain ⟨R, HR⟩ : ∃ R, Hid (Dg.num (g.extract 0 4) = R) := ⟨_, Lib.hid rfl⟩
      obtain ⟨S, HS⟩ : ∃ S, Hid (Dg.num (g.extract 4 g.size) = S) := ⟨_, Lib.hid rfl⟩
      have hver := fun W => specVerify_any K R S t W ht
      rw [HK.out, HR.out, HS.out]
      rw [HR.out, HS.out] at hsig
      rw [HK.out] at hdig
      obtain ⟨q, HV⟩ : ∃ q, Hid (Sg.ver K t R S = q) := ⟨_, Lib.hid rfl⟩
      rw [HV.out] at hver ⊢
      clear HQ HV HR HS HK hg hk
      go_enter Tryz.func202, Tryz.ntmps202
      go_wp2_with fail
      refine (hdig _).mono ?_
      rintro e w1 ⟨rfl, hb1⟩
      go_wp2_with fail
      refine (hsig _).mono ?_
      rintro e w2 ⟨rfl, hb2⟩
      have hX : Bk w2.heap.size 38 #[.int .i64 R, .int .i64 S] (w2.alloc (.cells #[.int .i64 R, .int .i64 S] 38 (0, 0))) := Bk.new _ _ _
      have bb2 := (below_aft9 hb1 hb2).alloc (below_aft9 hb1 hb2).size (.cells #[.int .i64 R, .int .i64 S] 38 (0, 0))
      obtain ⟨x0, x1⟩ := Bk.c2 hX
      clear hb1 hb2 hdig hsig
      go_wp2_with fail
      refine (hver _).mono ?_
      rintro e w3 ⟨rfl, hb3⟩
      go_wp2
      go_ret
      exact ⟨rfl, below_aft9 bb2 hb3⟩
    · have HQ : Hid (Vm.sg t g k = false) := Lib.hid (by unfold Vm.sg; rw [decide_eq_false hg, Bool.false_and])
      rw [HQ.out]
      rw [HK.out] at hdig
      have hsig := fun W => specItemSig_no g W hg
      clear HQ HK hg hk
      go_enter Tryz.func202, Tryz.ntmps202
      go_wp2_with fail
      refine (hdig _).mono ?_
      rintro e w1 ⟨rfl, hb1⟩
      go_wp2_with fail
      refine (hsig _).mono ?_
      rintro e w2 ⟨rfl, hb2⟩
      have bb2 := (below_aft9 hb1 hb2).alloc (below_aft9 hb1 hb2).size (.cells #[.int .i64 0, .int .i64 0] 38 (0, 0))
      go_wp2
      go_ret
      exact ⟨rfl, bb2⟩
  · have HQ : Hid (Vm.sg t g k = false) := Lib.hid (by unfold Vm.sg; rw [decide_eq_false hk, Bool.false_and, Bool.and_false])
    rw [HQ.out]
    have hdig := fun W => specBytesDigest_no k W hk
    by_cases hg : g.size = 8
    · have hsig := fun W => specItemSig_yes g W hg
      obtain ⟨R, HR⟩ : ∃ R, Hid (Dg.num (g.extract 0 4) = R) := ⟨_, Lib.hid rfl⟩
      obtain ⟨S, HS⟩ : ∃ S, Hid (Dg.num (g.extract 4 g.size) = S) := ⟨_, Lib.hid rfl⟩
      rw [HR.out, HS.out] at hsig
      clear HQ HR HS hg hk
      go_enter Tryz.func202, Tryz.ntmps202
      go_wp2_with fail
      refine (hdig _).mono ?_
      rintro e w1 ⟨rfl, hb1⟩
      go_wp2_with fail
      refine (hsig _).mono ?_
      rintro e w2 ⟨rfl, hb2⟩
      have bb2 := (below_aft9 hb1 hb2).alloc (below_aft9 hb1 hb2).size (.cells #[.int .i64 R, .int .i64 S] 38 (0, 0))
      go_wp2
      go_ret
      exact ⟨rfl, bb2⟩
    · have hsig := fun W => specItemSig_no g W hg
      clear HQ hg hk
      go_enter Tryz.func202, Tryz.ntmps202
      go_wp2_with fail
      refine (hdig _).mono ?_
      rintro e w1 ⟨rfl, hb1⟩
      go_wp2_with fail
      refine (hsig _).mono ?_
      rintro e w2 ⟨rfl, hb2⟩
      have bb2 := (below_aft9 hb1 hb2).alloc (below_aft9 hb1 hb2).size (.cells #[.int .i64 0, .int .i64 0] 38 (0, 0))
      go_wp2
      go_ret
      exact ⟨rfl, bb2⟩
/-- What take leaves. -/
def TkM (base D n : Nat) (vi vb : Value) (s : List ByteArray) (br : List Bool) (q : Int) (w : World) (e : Ending) (w' : World) : Prop :=
  ∃ a c vi', e = .returned (.slice a n c) ∧ w'.ownsRow w.heap.size 9 1 (.slice a n c) n ((s.take n).reverse.map Value.string) ∧ MS base D vi' vb (s.drop n) br q w' ∧ vi'.ownBlock = vi.ownBlock ∧ Fr base D w w' ∧ ∀ k, k < w.heap.size → k ≠ D → w'.heap[k]? = w.heap[k]?
set_option maxRecDepth 100000 in
set_option maxHeartbeats 3200000 in
theorem takeS_any (base D n : Nat) (vi vb : Value) (s : List ByteArray) (br : List Bool) (q : Int) (w : World) (h : MS base D vi vb s br q w) (hb : base ≤ w.heap.size) (hs : s.length ≤ 24) (hn : 1 ≤ n) (hns : n ≤ s.length) :
    Calls Tryz.prog 203 #[.pointer (some ⟨D, 0, none⟩), .int .i64 (n : Int)] w (TkM base D n vi vb s br q w) := by
  obtain ⟨a, cap, rfl, hcap, hmax⟩ := own_slice h.its
  obtain ⟨g, rfl, hgb, hgl⟩ := own_some h.its (by omega)
  obtain ⟨i0, hi, hz0, hz1, hz2⟩ := info_parts info_str
  have hI := h.its
  obtain ⟨k, hk⟩ : ∃ k, s.length = k + n := ⟨s.length - n, by omega⟩
  have hdl : (s.drop n).length = k := by rw [List.length_drop]; omega
  have htl : (s.take n).length = n := by rw [List.length_take]; omega
  rw [rev_cut s n, List.map_append] at hI
  have hF := ownsRow_front hI
  rw [show (List.map Value.string (s.drop n).reverse).length = k by rw [List.length_map, List.length_reverse, hdl]] at hF
  obtain ⟨L, HL⟩ : ∃ L, Hid ((s.take n).reverse = L) := ⟨_, Lib.hid rfl⟩
  have hLl : L.length = n := by rw [← HL.out]; simpa using htl
  have hcell : ∀ i, i < n → w.cell? ⟨g, k + i, none⟩ = some (.string (L.getD i ByteArray.empty)) := fun i hi => by
    have := h.its.cellAt (k + i) (by omega)
    rw [this, rev_cut s n, List.map_append, List.getElem?_append_right (by simp; omega), HL.out]
    rw [List.getElem?_map, List.getD_eq_getElem?_getD, show k + i - (List.map Value.string (s.drop n).reverse).length = i by rw [List.length_map, List.length_reverse, hdl]; omega, List.getElem?_eq_getElem (by omega)]
    rfl
  rw [hk] at h hcap
  have hsh := fun W => sliceS_hi g (k + n) k cap (by omega) hcap W
  have hq : IntKind.i64.wrap ((k : Int) + n - n) = (k : Int) := by rw [IntKind.wrap_i64]; omega
  have H := Lib.hid h
  have HF := Lib.hid hF
  have HC := Lib.hid hcell
  obtain ⟨c0, c1, c2⟩ := h.cells
  have hDl := h.blk.lt
  have h8 : k + n ≤ 24 := by omega
  clear h hI hF hcell
  unfold TkM
  rw [HL.out]
  go_enter Tryz.func203, Tryz.ntmps203
  have hown0 := World.ownsRow_made (e := 9) (size := 1) (base := w.heap.size) w #[] 0 (Nat.le_refl _) (by decide) rfl
  go_wp2
  go_loopw [5, 7] (fun o i wr => ∃ j : Nat, j ≤ n ∧ i = .int .i64 ((k : Int) + (j : Int)) ∧ wr.ownsRow w.heap.size 9 1 o j ((L.take j).map Value.string) ∧ Below w.heap.size w wr)
    (fun _ i _ => (k + n) - (intOf i).toNat)
  case atStart => exact ⟨0, by omega, by simp, by simpa using hown0, (Below.refl _ _).alloc (Nat.le_refl _) _⟩
  case round =>
    obtain ⟨j, hj, rfl, hown, hbel⟩ := hrel
    have hMr := H.out.below hbel
    obtain ⟨d0, d1, d2⟩ := hMr.cells
    have hw1 : IntKind.i64.wrap ((k : Int) + (j : Int) + 1) = (k : Int) + (j : Int) + 1 := by rw [IntKind.wrap_i64]; omega
    by_cases hlt : j < n
    · have hcj : wr.cell? ⟨g, k + j, none⟩ = some (.string (L.getD j ByteArray.empty)) := (hbel.cell (p := ⟨g, k + j, none⟩) hgl).trans (HC.out j hlt)
      have htj : (L.take (j + 1)).map Value.string = (L.take j).map Value.string ++ [Value.string (L.getD j ByteArray.empty)] := by
        rw [List.take_add_one, List.getElem?_eq_getElem (by omega), List.map_append, List.getD_eq_getElem?_getD, List.getElem?_eq_getElem (by omega)]
        rfl
      obtain ⟨x, HX⟩ : ∃ x, Hid (L.getD j ByteArray.empty = x) := ⟨_, Lib.hid rfl⟩
      rw [HX.out] at hcj htj
      have HTJ := Lib.hid htj
      clear htj hown0
      go_wp2_with (at_builtin; refine wpList_append_own _ rfl _ _ 25 rfl w.heap.size 9 i0 (.string ByteArray.empty) 1 16 Tryz.underlying25 hi hz0 hz1 hz2 rfl (by decide) _ _ _ rfl (hown.alloc _) ⟨wr.heap.size, 0, none⟩ 1 1 [.string x] rfl rfl ?c1 ?c2 ?c3 ?c4 ?c5 ?_)
      case c1 => exact one_new _ _ _
      case c2 => intro u hu; simp at hu; subst hu; rfl
      case c3 => unfold maxLen; omega
      case c4 => omega
      case c5 => have := hbel.size; simp; omega
      intro v' w5 hown5 hg5 _
      have hown6 : w5.ownsRow w.heap.size 9 1 v' (j + 1) ((L.take (j + 1)).map Value.string) := by
        rw [HTJ.out, List.map_take]
        exact hown5
      have hbel5 : Below w.heap.size w w5 := (hbel.alloc hbel.size (.cells #[.string x] 9)).grown hg5 (by have := hbel.size; simp; omega) (fun q hq => (hown.lt _ hq).1)
      have HO6 := Lib.hid hown6
      have HB5 := Lib.hid hbel5
      clear hown hown5 hown6 hg5 hbel5 hbel hMr
      go_wp2
      go_roundw
      case rel => exact ⟨j + 1, by omega, by simp; omega, HO6.out, HB5.out⟩
      case measure => simp [intOf]; omega
    · have hjn : j = n := by omega
      subst hjn
      have hLt : (L.take j).map Value.string = L.map Value.string := by rw [List.take_of_length_le (by omega)]
      rw [hLt] at hown
      obtain ⟨a6, c6, rfl, _⟩ := own_slice hown
      have f0 := hMr.blk.fro 0
      have K1 := Lib.hid (hMr.setI (s' := s.drop j) (World.grownBy.refl _ _) (by rw [hdl]; exact below_own HF.out hbel)).1
      have HO := Lib.hid (own_set hown D 0 (.slice (some ⟨g, 0, none⟩) k cap) (own_type hown (by decide) hMr.blk.held))
      have HB := Lib.hid hbel
      clear hown hown0 hMr hLt hbel
      go_wp2
      go_ret
      exact ⟨a6, c6, _, rfl, HO.out, K1.out, rfl, (Fr.of hb HB.out).setD H.out.hD 0 _, fun k hk hkD => (Below.heap_setCell _ _ _ _ (by exact hkD)).trans (HB.out.block k hk)⟩
set_option maxRecDepth 100000 in
set_option maxHeartbeats 6400000 in
theorem l11Many_any (a b : Option Addr) (n c m d : Nat) (ks gs : List ByteArray) (t : ByteArray) (w : World) (hk : SR w a n ks) (hg : SR w b m gs) (hn : n ≤ 1000) (hm : m ≤ 1000) (ht : t.size ≤ 1048576) :
    Calls Tryz.prog 204 #[.slice a n c, .slice b m d, .string t] w fun e w' => e = .returned (.bool (Vm.many t gs ks)) ∧ Below w.heap.size w w' := by
  obtain ⟨R, HR⟩ : ∃ R, Hid (Vm.many t gs ks = R) := ⟨_, Lib.hid rfl⟩
  rw [HR.out]
  have hkl := hk.1
  have hgl := hg.1
  have HSK := Lib.hid hk
  have HSG := Lib.hid hg
  clear hk hg
  have hcon := fun (g k : ByteArray) (W : World) => l11Signed_any k g t W ht
  go_enter Tryz.func204, Tryz.ntmps204
  go_wp2
  go_loopw [7, 8] (fun kk i wr => ∃ (x j : Nat), x ≤ m ∧ j ≤ n ∧ i = .int .i64 (x : Int) ∧ kk = .int .i64 (j : Int) ∧ Vm.many t (gs.drop x) (ks.drop j) = R ∧ Below w.heap.size w wr)
    (fun _ i _ => m - (intOf i).toNat)
  case atStart => exact ⟨0, 0, by omega, by omega, rfl, rfl, by rw [List.drop_zero, List.drop_zero]; exact HR.out, Below.refl _ _⟩
  case round =>
    obtain ⟨x, j0, hx, hj0, rfl, rfl, hman0, hbel0⟩ := hrel
    by_cases hlt : x < m
    · have hgd : gs.drop x = gs.getD x ByteArray.empty :: gs.drop (x + 1) := drop_one (by omega)
      obtain ⟨S, HS⟩ : ∃ S, Hid (gs.getD x ByteArray.empty = S) := ⟨_, Lib.hid rfl⟩
      rw [HS.out] at hgd
      have HGD := Lib.hid hgd
      rw [hgd] at hman0
      have HM0 := Lib.hid hman0
      have HB0 := Lib.hid hbel0
      clear hgd hman0 hbel0
      go_wp2
      go_loopw [7] (fun kk wr => ∃ j : Nat, j ≤ n ∧ kk = .int .i64 (j : Int) ∧ Vm.many t (S :: gs.drop (x + 1)) (ks.drop j) = R ∧ Below w.heap.size w wr)
        (fun kk _ => n - (intOf kk).toNat)
      case atStart => exact ⟨j0, hj0, rfl, HM0.out, HB0.out⟩
      case round =>
        obtain ⟨j, hj, rfl, hman, hbel⟩ := hrel
        by_cases hjn : j < n
        · have hkd : ks.drop j = ks.getD j ByteArray.empty :: ks.drop (j + 1) := drop_one (by omega)
          obtain ⟨K, HK⟩ : ∃ K, Hid (ks.getD j ByteArray.empty = K) := ⟨_, Lib.hid rfl⟩
          rw [HK.out] at hkd
          obtain ⟨g1, o1, ha1, hb1, hc1⟩ := HSK.out.2 (by omega)
          obtain ⟨g2, o2, ha2, hb2, hc2⟩ := HSG.out.2 (by omega)
          have hk0 := (hbel.cell (p := ⟨g1, o1 + j, none⟩) hb1).trans (hc1 j hjn)
          have hs0 := (hbel.cell (p := ⟨g2, o2 + x, none⟩) hb2).trans (hc2 x hlt)
          rw [HK.out] at hk0
          rw [HS.out] at hs0
          subst ha1
          subst ha2
          have hS0 : wr.drew.cell? ⟨g1, o1 + j, none⟩ = some (.string K) ∧ wr.drew.cell? ⟨g2, o2 + x, none⟩ = some (.string S) := ⟨hk0, hs0⟩
          have hgg : g1 < wr.heap.size ∧ g2 < wr.heap.size := ⟨Nat.lt_of_lt_of_le hb1 hbel.size, Nat.lt_of_lt_of_le hb2 hbel.size⟩
          have HKP : Hid (∀ W, Below wr.drew.heap.size wr.drew W → W.cell? ⟨g1, o1 + j, none⟩ = some (.string K) ∧ W.cell? ⟨g2, o2 + x, none⟩ = some (.string S)) := Lib.hid fun W hq => ⟨(hq.cell (p := ⟨g1, o1 + j, none⟩) hgg.1).trans hk0, (hq.cell (p := ⟨g2, o2 + x, none⟩) hgg.2).trans hs0⟩
          have hsd := hcon S K
          rw [hkd] at hman
          have HBE := Lib.hid hbel
          clear hk0 hs0 hc1 hc2 hb1 hb2 hgg HK HS hbel hkd
          cases hv : Vm.sg t S K
          · rw [hv] at hsd
            rw [Vm.many_no _ _ hv] at hman
            have HMA := Lib.hid hman
            clear hman hv hcon
            go_wp2
            apply wp_meetY (fun w' => Below w.heap.size w w')
            case h1 =>
              go_region_held3 (fun W => W.cell? ⟨g1, o1 + j, none⟩ = some (.string K) ∧ W.cell? ⟨g2, o2 + x, none⟩ = some (.string S)) (first | with_reducible exact hS0 | with_reducible exact hS1)
                (first | (go_at_call 202; refine (hsd _).mono ?_; rintro e4 w4 ⟨rfl, hb4⟩; have hS1 := HKP.out _ hb4; have hc4 := below_aft9 HBE.out.drew hb4))
              all_goals exact ⟨rfl, hc4⟩
            case h2 =>
              intro w5 hc5
              have HC5 := Lib.hid hc5
              clear hc5
              go_wp2
              go_roundw
              case rel => exact ⟨j + 1, by omega, by simp, HMA.out, HC5.out⟩
              case measure => simp [intOf]; omega
          · rw [hv] at hsd
            rw [Vm.many_yes _ _ hv] at hman
            have HMA := Lib.hid hman
            clear hman hv hcon
            have hne : ((j : Int) == (n : Int)) = false := by simp; omega
            go_wp2
            apply wp_meetY (fun w' => Below w.heap.size w w')
            case h1 =>
              go_region_held3 (fun W => W.cell? ⟨g1, o1 + j, none⟩ = some (.string K) ∧ W.cell? ⟨g2, o2 + x, none⟩ = some (.string S)) (first | with_reducible exact hS0 | with_reducible exact hS1)
                (first | (go_at_call 202; refine (hsd _).mono ?_; rintro e4 w4 ⟨rfl, hb4⟩; have hS1 := HKP.out _ hb4; have hc4 := below_aft9 HBE.out.drew hb4))
              all_goals exact ⟨rfl, hc4⟩
            case h2 =>
              intro w5 hc5
              have HC5 := Lib.hid hc5
              clear hc5
              go_wp2
              refine ⟨⟨x + 1, j + 1, by omega, by omega, by simp, by simp, HMA.out, HC5.out⟩, ?_⟩
              simp [intOf]
              omega
        · have hjn2 : j = n := by omega
          have hkn : ks.drop j = [] := List.drop_eq_nil_of_le (by omega)
          rw [hkn, Vm.many_none] at hman
          have HRF : Hid (R = false) := Lib.hid (by rw [← hman]; rfl)
          have HBE := Lib.hid hbel
          subst hjn2
          clear hman hkn hbel hcon
          go_wp2
          apply wp_meetY (fun w' => Below w.heap.size w w')
          case h1 =>
            go_quiet (fail)
            exact ⟨rfl, below_drewN10 HBE.out _⟩
          case h2 =>
            intro w5 hc5
            go_wp2
            go_ret
            exact ⟨by rw [HRF.out]; rfl, hc5⟩
    · have hxm : gs.drop x = [] := List.drop_eq_nil_of_le (by omega)
      rw [hxm, Vm.many_nil] at hman0
      have HRT : Hid (R = true) := Lib.hid hman0.symm
      clear hman0 hxm hcon
      go_wp2
      go_ret
      exact ⟨by rw [HRT.out]; rfl, hbel0⟩
end Go.Proofs.YtoocibabceeagabGreat
