import Derived.Test.YtoocibabceeagabGreatWb
import Derived.Test.YtoocibabceeagabGreatYa
import Derived.Test.YtoocibabceeagabGreatSk
import Derived.Deep.QuietTactic
import Derived.BigQuiet
import Derived.LoopTactic
/-
  The machine of the program: what its operations are made of (one item, two items, truth values, conditions around), and the operations on items.
-/
namespace Go.Proofs.YtoocibabceeagabGreat
open Go.RowKit

theorem own_at {w : World} {base n c i : Nat} {e : TypeId} {a : Option Addr} {xs : List Value} (h : w.ownsRow base e 1 (.slice a n c) n xs) (hi : i < n) : ∃ g, a = some ⟨g, 0, none⟩ ∧ base ≤ g ∧ g < w.heap.size ∧ ∀ j, j < n → w.cell? ⟨g, j, none⟩ = xs[j]? := by
  obtain ⟨g, rfl, hb, hl⟩ := own_some h (by omega)
  refine ⟨g, rfl, hb, hl, fun j hj => h.cellAt j (by omega)⟩
/-- One item. -/
def Tk1 (base D : Nat) (vi vb : Value) (E : Vm) (x : ByteArray) (s : List ByteArray) (br : List Bool) (w : World) (e : Ending) (w' : World) : Prop :=
  ∃ g c vi', e = .returned (.slice (some ⟨g, 0, none⟩) 1 c) ∧ w'.cell? ⟨g, 0, none⟩ = some (.string x) ∧ MP base D vi' vb E s br w' ∧ vi'.ownBlock = vi.ownBlock ∧ Fr base D w w'
theorem take1_ok (base D : Nat) (vi vb : Value) (E : Vm) (x : ByteArray) (s : List ByteArray) (br : List Bool) (w : World) (h : MP base D vi vb E (x :: s) br w) (hb : base ≤ w.heap.size) (hs : s.length < 24) :
    Calls Tryz.prog 176 #[.pointer (some ⟨D, 0, none⟩), .int .i64 1] w (Tk1 base D vi vb E x s br w) := by
  refine (takeM_ok base D 1 vi vb E (x :: s) br w h hb (by simp; omega) (by omega) (by simp)).mono ?_
  rintro e w1 ⟨a, c, vi', rfl, hown, hM, hv, hbel, _⟩
  obtain ⟨g, rfl, _, _, hc⟩ := own_at hown (i := 0) (by omega)
  exact ⟨g, c, vi', rfl, (hc 0 (by omega)).trans rfl, hM, hv, hbel⟩
/-- Two items. -/
def Tk2 (base D : Nat) (vb : Value) (E : Vm) (x y : ByteArray) (s : List ByteArray) (br : List Bool) (w : World) (e : Ending) (w' : World) : Prop :=
  ∃ g c vi', e = .returned (.slice (some ⟨g, 0, none⟩) 2 c) ∧ w'.cell? ⟨g, 0, none⟩ = some (.string y) ∧ w'.cell? ⟨g, 1, none⟩ = some (.string x) ∧ MP base D vi' vb E s br w' ∧ Fr base D w w' ∧ g < w'.heap.size ∧ g ≠ D ∧ vi'.ownBlock ≠ some g
theorem take2_ok (base D : Nat) (vi vb : Value) (E : Vm) (x y : ByteArray) (s : List ByteArray) (br : List Bool) (w : World) (h : MP base D vi vb E (x :: y :: s) br w) (hb : base ≤ w.heap.size) (hs : s.length < 23) :
    Calls Tryz.prog 176 #[.pointer (some ⟨D, 0, none⟩), .int .i64 2] w (Tk2 base D vb E x y s br w) := by
  refine (takeM_ok base D 2 vi vb E (x :: y :: s) br w h hb (by simp; omega) (by omega) (by simp)).mono ?_
  rintro e w1 ⟨a, c, vi', rfl, hown, hM, hv, hbel, _⟩
  obtain ⟨g, rfl, hg0, hg1, hc⟩ := own_at hown (i := 0) (by omega)
  have hlt := h.blk.lt
  refine ⟨g, c, vi', rfl, (hc 0 (by omega)).trans rfl, (hc 1 (by omega)).trans rfl, hM, hbel, hg1, by omega, ?_⟩
  rw [hv]
  intro e
  have := (h.its.lt _ e).2
  omega
theorem take1_no (base D : Nat) (vi vb : Value) (E : Vm) (br : List Bool) (w : World) (h : MP base D vi vb E [] br w) :
    Calls Tryz.prog 176 #[.pointer (some ⟨D, 0, none⟩), .int .i64 1] w fun e w' => e = .panicked [Vm.pe 2] ∧ w' = w :=
  takeM_no base D 1 vi vb E [] br w h (by simp) (by omega)
theorem take2_no (base D : Nat) (vi vb : Value) (E : Vm) (s : List ByteArray) (br : List Bool) (w : World) (h : MP base D vi vb E s br w) (hs : s.length < 2) :
    Calls Tryz.prog 176 #[.pointer (some ⟨D, 0, none⟩), .int .i64 2] w fun e w' => e = .panicked [Vm.pe 2] ∧ w' = w :=
  takeM_no base D 2 vi vb E s br w h hs (by omega)
theorem isTrue_any (s : ByteArray) (w : World) : Calls Tryz.prog 63 #[.string s] w fun e w' => e = .returned (.bool (decide (s.size ≠ 0))) ∧ w' = w := by
  go_enter Tryz.func63, Tryz.ntmps63
  go_wp2
  go_ret
  exact ⟨by simp [str_empty_iff], rfl⟩
def TtP (base D : Nat) (vi vb : Value) (E : Vm) (x : ByteArray) (s : List ByteArray) (br : List Bool) (w : World) (e : Ending) (w' : World) : Prop :=
  ∃ vi', e = .returned (.bool (decide (x.size ≠ 0))) ∧ MP base D vi' vb E s br w' ∧ vi'.ownBlock = vi.ownBlock ∧ Fr base D w w'
set_option maxRecDepth 100000 in
set_option maxHeartbeats 1600000 in
theorem takeTruth_ok (base D : Nat) (vi vb : Value) (E : Vm) (x : ByteArray) (s : List ByteArray) (br : List Bool) (w : World) (h : MP base D vi vb E (x :: s) br w) (hb : base ≤ w.heap.size) (hs : s.length < 24) :
    Calls Tryz.prog 181 #[.pointer (some ⟨D, 0, none⟩)] w (TtP base D vi vb E x s br w) := by
  go_enter Tryz.func181, Tryz.ntmps181
  go_wp2_with fail
  refine (take1_ok base D vi vb E x s br _ h hb hs).mono ?_
  rintro e w1 ⟨g, c, vi', rfl, hc, hM, hv, hbel⟩
  clear h
  go_wp2_with fail
  refine (isTrue_any x _).mono ?_
  rintro e w2 ⟨rfl, rfl⟩
  obtain ⟨q, HQ⟩ : ∃ q, Hid (decide (x.size ≠ 0) = q) := ⟨_, Lib.hid rfl⟩
  rw [HQ.out]
  go_wp2
  go_ret
  exact ⟨vi', by rw [HQ.out]; rfl, hM, hv, hbel⟩
set_option maxRecDepth 100000 in
set_option maxHeartbeats 1600000 in
theorem takeTruth_no (base D : Nat) (vi vb : Value) (E : Vm) (br : List Bool) (w : World) (h : MP base D vi vb E [] br w) :
    Calls Tryz.prog 181 #[.pointer (some ⟨D, 0, none⟩)] w fun e w' => e = .panicked [Vm.pe 2] ∧ w' = w := by
  go_enter Tryz.func181, Tryz.ntmps181
  go_wp2_with fail
  refine (take1_no base D vi vb E br _ h).mono ?_
  rintro e w1 ⟨rfl, rfl⟩
  go_wp2
  exact ⟨rfl, rfl, rfl⟩
theorem pushTruth_ok (base D : Nat) (vi vb : Value) (E : Vm) (s : List ByteArray) (br : List Bool) (b : Bool) (w : World) (h : MP base D vi vb E s br w) (hb : base ≤ w.heap.size) (hs : s.length < 24) :
    Calls Tryz.prog 180 #[.pointer (some ⟨D, 0, none⟩), .bool b] w (PuP base D vi vb E (Vm.tr b :: s) br w) := by
  cases b
  · go_enter Tryz.func180, Tryz.ntmps180
    go_wp2_with fail
    refine (push_ok base D vi vb E s br ⟨#[]⟩ _ h hb hs).mono ?_
    rintro e w1 ⟨vi', rfl, h1, h2, h3⟩
    go_wp2
    go_end0
    exact ⟨vi', rfl, h1, h2, h3⟩
  · go_enter Tryz.func180, Tryz.ntmps180
    go_wp2_with fail
    refine (push_ok base D vi vb E s br ⟨#[1]⟩ _ h hb hs).mono ?_
    rintro e w1 ⟨vi', rfl, h1, h2, h3⟩
    go_wp2
    go_end0
    exact ⟨vi', rfl, h1, h2, h3⟩

/-! ### conditions around -/
theorem br_row {w : World} {base n c : Nat} {a : Option Addr} {bs : List Bool} (h : w.ownsRow base 4 1 (.slice a n c) n (bs.map Value.bool)) : bs.length = n ∧ (0 < n → ∃ g, a = some ⟨g, 0, none⟩ ∧ base ≤ g ∧ ∀ j, j < n → w.cell? ⟨g, j, none⟩ = some (.bool (bs.getD j false))) := by
  have hl : bs.length = n := by simpa using h.1
  refine ⟨hl, fun hn => ?_⟩
  obtain ⟨g, rfl, hb, _, hc⟩ := own_at h hn
  refine ⟨g, rfl, hb, fun j hj => ?_⟩
  rw [hc j hj, List.getElem?_map, List.getD_eq_getElem?_getD, List.getElem?_eq_getElem (by omega)]
  rfl
set_option maxRecDepth 100000 in
set_option maxHeartbeats 1600000 in
theorem indexB_any (a : Option Addr) (n c : Nat) (bs : List Bool) (w : World) (hl : bs.length = n) (hr : 0 < n → ∃ g, a = some ⟨g, 0, none⟩ ∧ ∀ j, j < n → w.cell? ⟨g, j, none⟩ = some (.bool (bs.getD j false))) (hm : n ≤ 1000000) :
    Calls Tryz.prog 206 #[.slice a n c, .bool false] w fun e w' => ∃ i : Int, e = .returned (.int .i64 i) ∧ (0 ≤ i ↔ false ∈ bs) ∧ w' = w := by
  go_enter Tryz.func206, Tryz.ntmps206
  go_wp2
  go_loopw [5, 8] (fun _ i wr => wr = w ∧ ∃ k : Nat, k ≤ n ∧ i = .int .i64 (k : Int) ∧ ∀ j, j < k → bs.getD j false = true)
    (fun _ i _ => n - (intOf i).toNat)
  case atStart => exact ⟨rfl, 0, by omega, rfl, fun j hj => absurd hj (by omega)⟩
  case round =>
    obtain ⟨rfl, k, hk, rfl, hj⟩ := hrel
    by_cases hlt : k < n
    · obtain ⟨g, rfl, hc⟩ := hr (by omega)
      have hck := hc k hlt
      have HJ := Lib.hid hj
      have hmem : bs.getD k false ∈ bs := by
        rw [List.getD_eq_getElem?_getD, List.getElem?_eq_getElem (by omega)]
        exact List.getElem_mem _
      clear hj hr hc
      cases hv : bs.getD k false
      · rw [hv] at hck hmem
        clear hv
        go_wp2
        go_ret
        exact ⟨_, rfl, ⟨fun _ => hmem, fun _ => by omega⟩, rfl⟩
      · rw [hv] at hck
        have HV := Lib.hid hv
        clear hv hmem
        go_wp2
        go_roundw
        case rel =>
          refine ⟨trivial, k + 1, by omega, by simp, fun j hj => ?_⟩
          by_cases hjk : j < k
          · exact HJ.out j hjk
          · rw [show j = k by omega]; exact HV.out
        case measure => simp [intOf]; omega
    · have hk2 : k = n := by omega
      have HJ := Lib.hid hj
      clear hj hr
      go_wp2
      go_ret
      refine ⟨_, rfl, ⟨fun h => by omega, fun h => ?_⟩, rfl⟩
      obtain ⟨j, hjl, he⟩ := List.getElem_of_mem h
      have := HJ.out j (by omega)
      rw [List.getD_eq_getElem?_getD, List.getElem?_eq_getElem hjl] at this
      simp [he] at this
theorem containsB_any (a : Option Addr) (n c : Nat) (bs : List Bool) (w : World) (hl : bs.length = n) (hr : 0 < n → ∃ g, a = some ⟨g, 0, none⟩ ∧ ∀ j, j < n → w.cell? ⟨g, j, none⟩ = some (.bool (bs.getD j false))) (hm : n ≤ 1000000) :
    Calls Tryz.prog 192 #[.slice a n c, .bool false] w fun e w' => e = .returned (.bool (bs.contains false)) ∧ w' = w := by
  go_enter Tryz.func192, Tryz.ntmps192
  go_wp2_with fail
  refine (indexB_any a n c bs _ hl hr hm).mono ?_
  rintro e w1 ⟨i, rfl, hi, rfl⟩
  have hq : decide (0 ≤ i) = bs.contains false := by
    rw [Bool.eq_iff_iff, decide_eq_true_eq, hi]
    simp
  have HQ := Lib.hid hq
  clear hr hi hq
  go_wp2
  go_ret
  exact ⟨by rw [← HQ.out]; rfl, rfl⟩
theorem isSkipping_any (base D : Nat) (vi vb : Value) (E : Vm) (s : List ByteArray) (br : List Bool) (w : World) (h : MP base D vi vb E s br w) (hm : br.length ≤ 1000000) :
    Calls Tryz.prog 146 #[.pointer (some ⟨D, 0, none⟩)] w fun e w' => e = .returned (.bool (!Vm.live br)) ∧ w' = w := by
  obtain ⟨a, cap, rfl, hcap, hmax⟩ := own_slice h.brs
  obtain ⟨c0, c1, c2, c3, c4⟩ := h.cells
  obtain ⟨hl, hr⟩ := br_row h.brs
  have hQ : Hid (br.reverse.contains false = !Vm.live br) := Lib.hid (by unfold Vm.live; simp)
  have hcon := fun W => containsB_any a br.length cap br.reverse W hl
  have HR := Lib.hid hr
  clear h hr
  obtain ⟨n, hn⟩ : ∃ n, br.length = n := ⟨_, rfl⟩
  rw [hn] at c1 hcon hm
  have HN := Lib.hid hn
  clear hn
  go_enter Tryz.func146, Tryz.ntmps146
  go_wp2_with fail
  refine (hcon _ (fun h0 => by
    obtain ⟨g, h1, _, h3⟩ := HR.out (by rw [HN.out]; exact h0)
    exact ⟨g, h1, fun j hj => h3 j (by rw [HN.out]; exact hj)⟩) hm).mono ?_
  rw [hQ.out]
  rintro e w1 ⟨rfl, rfl⟩
  go_wp2
  go_ret
  exact ⟨rfl, rfl⟩
set_option maxRecDepth 100000 in
theorem isOfCondition_any (x : Jo) (w : World) :
    Calls Tryz.prog 147 #[.agg #[.int .i64 x.c, .int .i64 x.a, .int .i64 x.b, .string x.t]] w fun e w' => e = .returned (.bool (decide (6 ≤ x.c ∧ x.c ≤ 8))) ∧ Below w.heap.size w w' := by
  obtain ⟨C, A, B, t⟩ := x
  simp only
  by_cases h6 : C = 6
  · subst h6
    go_enter Tryz.func147, Tryz.ntmps147
    go_wp2
    go_ret
    exact ⟨rfl, (Below.refl _ _).alloc (Nat.le_refl _) _⟩
  by_cases h7 : C = 7
  · subst h7
    go_enter Tryz.func147, Tryz.ntmps147
    go_wp2
    go_ret
    exact ⟨rfl, (Below.refl _ _).alloc (Nat.le_refl _) _⟩
  by_cases h8 : C = 8
  · subst h8
    go_enter Tryz.func147, Tryz.ntmps147
    go_wp2
    go_ret
    exact ⟨rfl, (Below.refl _ _).alloc (Nat.le_refl _) _⟩
  have q6 : (C == 6) = false := by simpa using h6
  have q7 : (C == 7) = false := by simpa using h7
  have q8 : (C == 8) = false := by simpa using h8
  have hQ : Hid (decide (6 ≤ C ∧ C ≤ 8) = false) := Lib.hid (decide_eq_false (by omega))
  rw [hQ.out]
  clear h6 h7 h8
  go_enter Tryz.func147, Tryz.ntmps147
  go_wp2
  go_ret
  exact ⟨rfl, (Below.refl _ _).alloc (Nat.le_refl _) _⟩
end Go.Proofs.YtoocibabceeagabGreat

/-
  The machine of the program: the operations that are none of conditions (but the shared lock's).
-/
namespace Go.Proofs.YtoocibabceeagabGreat
open Go.RowKit

def MPs (base D : Nat) (E : Vm) (s : List ByteArray) (br : List Bool) (w : World) : Prop := ∃ vi vb, MP base D vi vb E s br w
/-- What an operation leaves. -/
def StP (base D : Nat) (E : Vm) (r : Except Int (List ByteArray × List Bool)) (w : World) (e : Ending) (w' : World) : Prop := match r with
  | .ok m => e = .returned (.tuple #[]) ∧ MPs base D E m.1 m.2 w' ∧ Fr base D w w'
  | .error c => e = .panicked [Vm.pe c] ∧ Fr base D w w'
def Vm.fin (br : List Bool) : Except Int (List ByteArray) → Except Int (List ByteArray × List Bool)
  | .ok s => .ok (s, br)
  | .error c => .error c
theorem StP.ok {base D : Nat} {E : Vm} {r : Except Int (List ByteArray × List Bool)} {w w' : World} {vi vb : Value} {s : List ByteArray} {br : List Bool} (hr : r = .ok (s, br)) (h : MP base D vi vb E s br w') (hb : Fr base D w w') : StP base D E r w (.returned (.tuple #[])) w' := by
  subst hr
  exact ⟨rfl, ⟨vi, vb, h⟩, hb⟩
theorem StP.no {base D : Nat} {E : Vm} {r : Except Int (List ByteArray × List Bool)} {w w' : World} {c : Int} (hr : r = .error c) (hb : Fr base D w w') : StP base D E r w (.panicked [Vm.pe c]) w' := by
  subst hr
  exact ⟨rfl, hb⟩
/-- An operation as a value. -/
abbrev Jo.val (x : Jo) : Value := .agg #[.int .i64 x.c, .int .i64 x.a, .int .i64 x.b, .string x.t]
set_option maxRecDepth 100000 in
set_option maxHeartbeats 1600000 in
theorem fits_yes (base D : Nat) (vi vb : Value) (E : Vm) (s : List ByteArray) (br : List Bool) (g k : ByteArray) (w : World) (h : MP base D vi vb E s br w) (ht : E.t.size ≤ 1048576) (hg : g.size = 8) (hk : k.size = 4) :
    Calls Tryz.prog 205 #[.pointer (some ⟨D, 0, none⟩), .string g, .string k] w fun e w' => e = .returned (.bool (Vm.sg E.t g k)) ∧ Below w.heap.size w w' := by
  have HQ : Hid (Vm.sg E.t g k = Sg.ver (Dg.num k) E.t (Dg.num (g.extract 0 4)) (Dg.num (g.extract 4 g.size))) := Lib.hid (by unfold Vm.sg; rw [decide_eq_true hg, decide_eq_true hk, Bool.true_and, Bool.true_and])
  rw [HQ.out]
  obtain ⟨q, HV⟩ : ∃ q, Hid (Sg.ver (Dg.num k) E.t (Dg.num (g.extract 0 4)) (Dg.num (g.extract 4 g.size)) = q) := ⟨_, Lib.hid rfl⟩
  obtain ⟨R, HR⟩ : ∃ R, Hid (Dg.num (g.extract 0 4) = R) := ⟨_, Lib.hid rfl⟩
  obtain ⟨S, HS⟩ : ∃ S, Hid (Dg.num (g.extract 4 g.size) = S) := ⟨_, Lib.hid rfl⟩
  obtain ⟨K, HK⟩ : ∃ K, Hid (Dg.num k = K) := ⟨_, Lib.hid rfl⟩
  have hver := fun W => implVerify_any K R S E.t W ht
  rw [HV.out]
  rw [HR.out, HS.out, HK.out] at HV
  rw [HV.out] at hver
  have hsig := fun W => implItemSig_yes g W hg
  rw [HR.out, HS.out] at hsig
  have hdig := fun W => implBytesDigest_ok k W hk
  rw [HK.out] at hdig
  clear HQ HV HR HS HK
  go_enter Tryz.func205, Tryz.ntmps205
  go_wp2_with fail
  refine (hsig _).mono ?_
  rintro e w1 ⟨rfl, hb1⟩
  have h1 := h.below hb1
  have hX : Bk w1.heap.size 38 #[.int .i64 R, .int .i64 S] (w1.alloc (.cells #[.int .i64 R, .int .i64 S] 38 (0, 0))) := Bk.new _ _ _
  have hbb1 := hb1.alloc hb1.size (.cells #[.int .i64 R, .int .i64 S] 38 (0, 0))
  have h2 := h1.alloc (.cells #[.int .i64 R, .int .i64 S] 38 (0, 0))
  clear h h1 hb1 hsig
  go_wp2_with fail
  refine (hdig _).mono ?_
  rintro e w3 ⟨rfl, hb3⟩
  have h3 := h2.below hb3
  have hX3 := hX.below hb3
  have hbb3 := below_aft9 hbb1 hb3
  obtain ⟨c0, c1, c2, c3, c4⟩ := h3.drew.cells
  obtain ⟨x0, x1⟩ := Bk.c2 hX3.drew
  obtain ⟨d0, d1, d2, d3, d4⟩ := h3.cells
  obtain ⟨y0, y1⟩ := Bk.c2 hX3
  have HB := Lib.hid hbb3
  have HKK : ∀ W, Below w3.drew.heap.size w3.drew W → W.cell? ⟨D, 2, none⟩ = some (.string E.t) ∧ W.cell? ⟨w1.heap.size, 0, none⟩ = some (.int .i64 R) ∧ W.cell? ⟨w1.heap.size, 1, none⟩ = some (.int .i64 S) := fun W hq => ⟨(h3.drew.below hq).cells.2.2.1, Bk.c2 (hX3.drew.below hq)⟩
  clear h2 h3 hX hX3 hbb1 hb3 hdig hbb3
  have hS0 : w3.drew.cell? ⟨D, 2, none⟩ = some (.string E.t) ∧ w3.drew.cell? ⟨w1.heap.size, 0, none⟩ = some (.int .i64 R) ∧ w3.drew.cell? ⟨w1.heap.size, 1, none⟩ = some (.int .i64 S) := ⟨c2, x0, x1⟩
  have HK3 : Hid (∀ W, Below w3.drew.heap.size w3.drew W → W.cell? ⟨D, 2, none⟩ = some (.string E.t) ∧ W.cell? ⟨w1.heap.size, 0, none⟩ = some (.int .i64 R) ∧ W.cell? ⟨w1.heap.size, 1, none⟩ = some (.int .i64 S)) := Lib.hid HKK
  clear c0 c1 c2 c3 c4 d0 d1 d2 d3 d4 x0 x1 y0 y1 HKK ht
  go_wp2
  apply wp_meetY (fun w' => Below w.heap.size w w')
  case h1 =>
    go_region_held3 (fun W => W.cell? ⟨D, 2, none⟩ = some (.string E.t) ∧ W.cell? ⟨w1.heap.size, 0, none⟩ = some (.int .i64 R) ∧ W.cell? ⟨w1.heap.size, 1, none⟩ = some (.int .i64 S)) (first | with_reducible exact hS0 | with_reducible exact hS1)
      (first | (go_at_call 18; refine (hver _).mono ?_; rintro e4 w4 ⟨rfl, hb4⟩; have hS1 := HK3.out _ hb4; have hc4 := below_aft9 HB.out.drew hb4))
    all_goals exact ⟨rfl, hc4⟩
  case h2 =>
    intro w5 hc5
    go_wp2
    go_ret
    exact ⟨rfl, hc5⟩
set_option maxRecDepth 100000 in
set_option maxHeartbeats 1600000 in
theorem fits_no1 (D : Nat) (E : Vm) (g k : ByteArray) (w : World) (hg : g.size = 8) (hk : k.size ≠ 4) :
    Calls Tryz.prog 205 #[.pointer (some ⟨D, 0, none⟩), .string g, .string k] w fun e w' => e = .returned (.bool (Vm.sg E.t g k)) ∧ Below w.heap.size w w' := by
  have HQ : Hid (Vm.sg E.t g k = false) := Lib.hid (by unfold Vm.sg; rw [decide_eq_true hg, decide_eq_false hk, Bool.true_and, Bool.false_and])
  rw [HQ.out]
  obtain ⟨R, HR⟩ : ∃ R, Hid (Dg.num (g.extract 0 4) = R) := ⟨_, Lib.hid rfl⟩
  obtain ⟨S, HS⟩ : ∃ S, Hid (Dg.num (g.extract 4 g.size) = S) := ⟨_, Lib.hid rfl⟩
  have hsig := fun W => implItemSig_yes g W hg
  rw [HR.out, HS.out] at hsig
  have hdig := fun W => implBytesDigest_no k W hk
  go_enter Tryz.func205, Tryz.ntmps205
  go_wp2_with fail
  refine (hsig _).mono ?_
  rintro e w1 ⟨rfl, hb1⟩
  have hbb1 := hb1.alloc hb1.size (.cells #[.int .i64 R, .int .i64 S] 38 (0, 0))
  go_wp2_with fail
  refine (hdig _).mono ?_
  rintro e w3 ⟨rfl, hb3⟩
  have hbb3 := below_aft9 hbb1 hb3
  clear hsig hdig hb1 hb3 hbb1
  go_wp2
  go_quiet (fail)
  go_wp2
  go_ret
  exact ⟨rfl, below_drewN10 hbb3 _⟩
set_option maxRecDepth 100000 in
set_option maxHeartbeats 1600000 in
theorem fits_no2 (D : Nat) (E : Vm) (g k : ByteArray) (w : World) (hg : g.size ≠ 8) (hk : k.size = 4) :
    Calls Tryz.prog 205 #[.pointer (some ⟨D, 0, none⟩), .string g, .string k] w fun e w' => e = .returned (.bool (Vm.sg E.t g k)) ∧ Below w.heap.size w w' := by
  have HQ : Hid (Vm.sg E.t g k = false) := Lib.hid (by unfold Vm.sg; rw [decide_eq_false hg, Bool.false_and])
  rw [HQ.out]
  have hsig := fun W => implItemSig_no g W hg
  have hdig := fun W => implBytesDigest_ok k W hk
  obtain ⟨K, HK⟩ : ∃ K, Hid (Dg.num k = K) := ⟨_, Lib.hid rfl⟩
  rw [HK.out] at hdig
  go_enter Tryz.func205, Tryz.ntmps205
  go_wp2_with fail
  refine (hsig _).mono ?_
  rintro e w1 ⟨rfl, hb1⟩
  have hbb1 := hb1.alloc hb1.size (.cells #[.int .i64 0, .int .i64 0] 38 (0, 0))
  go_wp2_with fail
  refine (hdig _).mono ?_
  rintro e w3 ⟨rfl, hb3⟩
  have hbb3 := below_aft9 hbb1 hb3
  clear hsig hdig hb1 hb3 hbb1
  go_wp2
  go_quiet (fail)
  go_wp2
  go_ret
  exact ⟨rfl, below_drewN10 hbb3 _⟩
set_option maxRecDepth 100000 in
set_option maxHeartbeats 1600000 in
theorem fits_no3 (D : Nat) (E : Vm) (g k : ByteArray) (w : World) (hg : g.size ≠ 8) (hk : k.size ≠ 4) :
    Calls Tryz.prog 205 #[.pointer (some ⟨D, 0, none⟩), .string g, .string k] w fun e w' => e = .returned (.bool (Vm.sg E.t g k)) ∧ Below w.heap.size w w' := by
  have HQ : Hid (Vm.sg E.t g k = false) := Lib.hid (by unfold Vm.sg; rw [decide_eq_false hg, Bool.false_and])
  rw [HQ.out]
  have hsig := fun W => implItemSig_no g W hg
  have hdig := fun W => implBytesDigest_no k W hk
  go_enter Tryz.func205, Tryz.ntmps205
  go_wp2_with fail
  refine (hsig _).mono ?_
  rintro e w1 ⟨rfl, hb1⟩
  have hbb1 := hb1.alloc hb1.size (.cells #[.int .i64 0, .int .i64 0] 38 (0, 0))
  go_wp2_with fail
  refine (hdig _).mono ?_
  rintro e w3 ⟨rfl, hb3⟩
  have hbb3 := below_aft9 hbb1 hb3
  clear hsig hdig hb1 hb3 hbb1
  go_wp2
  go_quiet (fail)
  go_wp2
  go_ret
  exact ⟨rfl, below_drewN10 hbb3 _⟩
set_option maxRecDepth 100000 in
set_option maxHeartbeats 1600000 in
theorem fits_any (base D : Nat) (vi vb : Value) (E : Vm) (s : List ByteArray) (br : List Bool) (g k : ByteArray) (w : World) (h : MP base D vi vb E s br w) (ht : E.t.size ≤ 1048576) :
    Calls Tryz.prog 205 #[.pointer (some ⟨D, 0, none⟩), .string g, .string k] w fun e w' => e = .returned (.bool (Vm.sg E.t g k)) ∧ Below w.heap.size w w' := by
  by_cases hg : g.size = 8
  · by_cases hk : k.size = 4
    · exact fits_yes base D vi vb E s br g k w h ht hg hk
    · exact fits_no1 D E g k w hg hk
  · by_cases hk : k.size = 4
    · exact fits_no2 D E g k w hg hk
    · exact fits_no3 D E g k w hg hk
end Go.Proofs.YtoocibabceeagabGreat
