import Derived.Test.YtoocibabceeagabGreatWd
import Derived.Deep.RegionHeld3
import Derived.Deep.RegionLaw
import Derived.Test.YtoocibabceeagabGreatWg
import Derived.Test.YtoocibabceeagabGreatYb
import Derived.Defers
import Derived.Recover
import Derived.Laws.Rows
import Derived.Laws.EntriesVeiled
import Derived.Shelf.Abstract
/-
  The machine of the program: the operations on items, one contract each.
-/
namespace Go.Proofs.YtoocibabceeagabGreat
open Go.RowKit

theorem Vm.actE0 {E : Vm} {x : Jo} {s : List ByteArray} (h : x.c = 0) : Vm.act E x s = Vm.put x.t s := by
  unfold Vm.act
  rw [if_pos h]
theorem Vm.actE1 {E : Vm} {x : Jo} {s : List ByteArray} (h : x.c = 1) : Vm.act E x s = (match s with
    | a :: r => Vm.put a (a :: r)
    | [] => .error 2) := by
  unfold Vm.act
  rw [if_neg (by omega), if_pos h]
  all_goals first
    | rfl
    | (rcases s with _ | ⟨a, _ | ⟨b, r⟩⟩ <;> rfl)
theorem Vm.actE2 {E : Vm} {x : Jo} {s : List ByteArray} (h : x.c = 2) : Vm.act E x s = (match s with
    | _ :: r => .ok r
    | [] => .error 2) := by
  unfold Vm.act
  rw [if_neg (by omega), if_neg (by omega), if_pos h]
  all_goals first
    | rfl
    | (rcases s with _ | ⟨a, _ | ⟨b, r⟩⟩ <;> rfl)
theorem Vm.actE3 {E : Vm} {x : Jo} {s : List ByteArray} (h : x.c = 3) : Vm.act E x s = (match s with
    | a :: b :: r => .ok (b :: a :: r)
    | _ => .error 2) := by
  unfold Vm.act
  rw [if_neg (by omega), if_neg (by omega), if_neg (by omega), if_pos h]
  all_goals first
    | rfl
    | (rcases s with _ | ⟨a, _ | ⟨b, r⟩⟩ <;> rfl)
theorem Vm.actE4 {E : Vm} {x : Jo} {s : List ByteArray} (h : x.c = 4) : Vm.act E x s = (match s with
    | a :: b :: r => .ok (Vm.tr (decide (b = a)) :: r)
    | _ => .error 2) := by
  unfold Vm.act
  rw [if_neg (by omega), if_neg (by omega), if_neg (by omega), if_neg (by omega), if_pos h]
  all_goals first
    | rfl
    | (rcases s with _ | ⟨a, _ | ⟨b, r⟩⟩ <;> rfl)
theorem Vm.actE5 {E : Vm} {x : Jo} {s : List ByteArray} (h : x.c = 5) : Vm.act E x s = (match s with
    | a :: r => .ok (Vm.tr (decide (a.size = 0)) :: r)
    | [] => .error 2) := by
  unfold Vm.act
  rw [if_neg (by omega), if_neg (by omega), if_neg (by omega), if_neg (by omega), if_neg (by omega), if_pos h]
  all_goals first
    | rfl
    | (rcases s with _ | ⟨a, _ | ⟨b, r⟩⟩ <;> rfl)
theorem Vm.actE9 {E : Vm} {x : Jo} {s : List ByteArray} (h : x.c = 9) : Vm.act E x s = (match s with
    | a :: r => if a.size = 0 then .error 3 else .ok r
    | [] => .error 2) := by
  unfold Vm.act
  rw [if_neg (by omega), if_neg (by omega), if_neg (by omega), if_neg (by omega), if_neg (by omega), if_neg (by omega), if_pos h]
  all_goals first
    | rfl
    | (rcases s with _ | ⟨a, _ | ⟨b, r⟩⟩ <;> rfl)
theorem Vm.actE10 {E : Vm} {x : Jo} {s : List ByteArray} (h : x.c = 10) : Vm.act E x s = (match s with
    | a :: r => .ok (Dg.bytes (Dg.of a) :: r)
    | [] => .error 2) := by
  unfold Vm.act
  rw [if_neg (by omega), if_neg (by omega), if_neg (by omega), if_neg (by omega), if_neg (by omega), if_neg (by omega), if_neg (by omega), if_pos h]
  all_goals first
    | rfl
    | (rcases s with _ | ⟨a, _ | ⟨b, r⟩⟩ <;> rfl)
theorem Vm.actE11 {E : Vm} {x : Jo} {s : List ByteArray} (h : x.c = 11) : Vm.act E x s = (match s with
    | k :: g :: r => .ok (Vm.tr (Vm.sg E.t g k) :: r)
    | _ => .error 2) := by
  unfold Vm.act
  rw [if_neg (by omega), if_neg (by omega), if_neg (by omega), if_neg (by omega), if_neg (by omega), if_neg (by omega), if_neg (by omega), if_neg (by omega), if_pos h]
  all_goals first
    | rfl
    | (rcases s with _ | ⟨a, _ | ⟨b, r⟩⟩ <;> rfl)
theorem Vm.actE12 {E : Vm} {x : Jo} {s : List ByteArray} (h : x.c = 12) : Vm.act E x s = (if s.length < (x.a + x.b).toNat then .error 2
    else .ok (Vm.tr (Vm.many E.t ((s.drop x.b.toNat).take x.a.toNat).reverse (s.take x.b.toNat).reverse) :: s.drop (x.a + x.b).toNat)) := by
  unfold Vm.act
  rw [if_neg (by omega), if_neg (by omega), if_neg (by omega), if_neg (by omega), if_neg (by omega), if_neg (by omega), if_neg (by omega), if_neg (by omega), if_neg (by omega), if_pos h]
theorem Vm.actE13 {E : Vm} {x : Jo} {s : List ByteArray} (h : x.c = 13) : Vm.act E x s = (if x.a ≤ E.h then .ok s else .error 4) := by
  unfold Vm.act
  rw [if_neg (by omega), if_neg (by omega), if_neg (by omega), if_neg (by omega), if_neg (by omega), if_neg (by omega), if_neg (by omega), if_neg (by omega), if_neg (by omega), if_neg (by omega), if_pos h]
theorem Vm.actE14 {E : Vm} {x : Jo} {s : List ByteArray} (h : x.c = 14) : Vm.act E x s = (if x.a ≤ E.a then .ok s else .error 4) := by
  unfold Vm.act
  rw [if_neg (by omega), if_neg (by omega), if_neg (by omega), if_neg (by omega), if_neg (by omega), if_neg (by omega), if_neg (by omega), if_neg (by omega), if_neg (by omega), if_neg (by omega), if_neg (by omega), if_pos h]
set_option maxRecDepth 100000 in
set_option maxHeartbeats 3200000 in
theorem op0_any (base D : Nat) (E : Vm) (x : Jo) (s : List ByteArray) (br : List Bool) (w : World) (h : MPs base D E s br w) (hb : base ≤ w.heap.size) (hs : Vm.fits s) (hc : x.c = 0) :
    Calls Tryz.prog 172 #[.pointer (some ⟨D, 0, none⟩), x.val] w (StP base D E (Vm.fin br (Vm.act E x s)) w) := by
  obtain ⟨vi, vb, h⟩ := h
  rw [Vm.actE0 hc]
  obtain ⟨C, A, B, t⟩ := x
  simp only at hc ⊢
  subst hc
  have hS := hs.1
  have hZ := hs.2
  have h0 := h.alloc (.cells #[.int .i64 0, .int .i64 A, .int .i64 B, .string t] 77 (0, 0))
  have b0 : Fr base D w (w.alloc (.cells #[.int .i64 0, .int .i64 A, .int .i64 B, .string t] 77 (0, 0))) := (Fr.refl base D w).alloc hb _
  have hb0 := Nat.le_trans hb b0.size
  clear h hs
  by_cases hp : s.length < 24
  · have hr : Hid (Vm.fin br (Vm.put t s) = .ok (t :: s, br)) := Lib.hid (by unfold Vm.put; rw [if_pos hp]; rfl)
    go_enter Tryz.func172, Tryz.ntmps172
    go_wp2_with fail
    refine (push_ok base D vi vb E s br t _ h0 hb0 hp).mono ?_
    rintro e w1 ⟨v1, rfl, h1, c1, hfr⟩
    have b1 := b0.trans c1
    have hb1 := Nat.le_trans hb b1.size
    clear h0 b0 c1 hb0
    go_wp2
    go_end0
    exact StP.ok hr.out h1 b1
  · have hr : Hid (Vm.fin br (Vm.put t s) = .error 5) := Lib.hid (by unfold Vm.put; rw [if_neg hp]; rfl)
    go_enter Tryz.func172, Tryz.ntmps172
    go_wp2_with fail
    refine (push_no base D vi vb E s br t _ h0 hp).mono ?_
    rintro e w1 ⟨rfl, rfl⟩
    go_wp2
    exact ⟨rfl, StP.no hr.out b0⟩
set_option maxRecDepth 100000 in
set_option maxHeartbeats 3200000 in
theorem op1_any (base D : Nat) (E : Vm) (x : Jo) (s : List ByteArray) (br : List Bool) (w : World) (h : MPs base D E s br w) (hb : base ≤ w.heap.size) (hs : Vm.fits s) (hc : x.c = 1) :
    Calls Tryz.prog 174 #[.pointer (some ⟨D, 0, none⟩), x.val] w (StP base D E (Vm.fin br (Vm.act E x s)) w) := by
  obtain ⟨vi, vb, h⟩ := h
  rw [Vm.actE1 hc]
  obtain ⟨C, A, B, t⟩ := x
  simp only at hc ⊢
  subst hc
  have hS := hs.1
  have hZ := hs.2
  have h0 := h.alloc (.cells #[.int .i64 1, .int .i64 A, .int .i64 B, .string t] 77 (0, 0))
  have b0 : Fr base D w (w.alloc (.cells #[.int .i64 1, .int .i64 A, .int .i64 B, .string t] 77 (0, 0))) := (Fr.refl base D w).alloc hb _
  have hb0 := Nat.le_trans hb b0.size
  clear h hs
  rcases s with _ | ⟨a, r⟩
  · have HE := Lib.hid h0
    go_enter Tryz.func174, Tryz.ntmps174
    go_wp2_with fail
    refine (take1_no base D vi vb E br _ h0).mono ?_
    rintro e w1 ⟨rfl, rfl⟩
    go_wp2
    exact ⟨rfl, StP.no rfl b0⟩
  · by_cases hp : (a :: r).length < 24
    · have hr : Hid (Vm.fin br (Vm.put a (a :: r)) = .ok (a :: a :: r, br)) := Lib.hid (by unfold Vm.put; rw [if_pos hp]; rfl)
      go_enter Tryz.func174, Tryz.ntmps174
      go_wp2_with fail
      refine (take1_ok base D vi vb E a r br _ h0 hb0 (by simp at hS; omega)).mono ?_
      rintro e w1 ⟨g, cp, v1, rfl, hc0, h1, _, c1⟩
      have b1 := b0.trans c1
      have hb1 := Nat.le_trans hb b1.size
      clear h0 b0 c1 hb0
      go_wp2_with fail
      refine (push_ok base D v1 vb E r br a _ h1 hb1 (by simp at hS; omega)).mono ?_
      rintro e w2 ⟨v2, rfl, h2, c2, hfr⟩
      have b2 := b1.trans c2
      have hb2 := Nat.le_trans hb b2.size
      clear h1 b1 c2 hb1
      go_wp2_with fail
      refine (push_ok base D v2 vb E (a :: r) br a _ h2 hb2 hp).mono ?_
      rintro e w3 ⟨v3, rfl, h3, c3, hfr⟩
      have b3 := b2.trans c3
      have hb3 := Nat.le_trans hb b3.size
      clear h2 b2 c3 hb2
      go_wp2
      go_end0
      exact StP.ok hr.out h3 b3
    · have hr : Hid (Vm.fin br (Vm.put a (a :: r)) = .error 5) := Lib.hid (by unfold Vm.put; rw [if_neg hp]; rfl)
      go_enter Tryz.func174, Tryz.ntmps174
      go_wp2_with fail
      refine (take1_ok base D vi vb E a r br _ h0 hb0 (by simp at hS; omega)).mono ?_
      rintro e w1 ⟨g, cp, v1, rfl, hc0, h1, _, c1⟩
      have b1 := b0.trans c1
      have hb1 := Nat.le_trans hb b1.size
      clear h0 b0 c1 hb0
      go_wp2_with fail
      refine (push_ok base D v1 vb E r br a _ h1 hb1 (by simp at hS; omega)).mono ?_
      rintro e w2 ⟨v2, rfl, h2, c2, hfr⟩
      have b2 := b1.trans c2
      have hb2 := Nat.le_trans hb b2.size
      clear h1 b1 c2 hb1
      go_wp2_with fail
      refine (push_no base D v2 vb E (a :: r) br a _ h2 hp).mono ?_
      rintro e w3 ⟨rfl, rfl⟩
      go_wp2
      exact ⟨rfl, StP.no hr.out b2⟩
set_option maxRecDepth 100000 in
set_option maxHeartbeats 3200000 in
theorem op2_any (base D : Nat) (E : Vm) (x : Jo) (s : List ByteArray) (br : List Bool) (w : World) (h : MPs base D E s br w) (hb : base ≤ w.heap.size) (hs : Vm.fits s) (hc : x.c = 2) :
    Calls Tryz.prog 175 #[.pointer (some ⟨D, 0, none⟩), x.val] w (StP base D E (Vm.fin br (Vm.act E x s)) w) := by
  obtain ⟨vi, vb, h⟩ := h
  rw [Vm.actE2 hc]
  obtain ⟨C, A, B, t⟩ := x
  simp only at hc ⊢
  subst hc
  have hS := hs.1
  have hZ := hs.2
  have h0 := h.alloc (.cells #[.int .i64 2, .int .i64 A, .int .i64 B, .string t] 77 (0, 0))
  have b0 : Fr base D w (w.alloc (.cells #[.int .i64 2, .int .i64 A, .int .i64 B, .string t] 77 (0, 0))) := (Fr.refl base D w).alloc hb _
  have hb0 := Nat.le_trans hb b0.size
  clear h hs
  rcases s with _ | ⟨a, r⟩
  · have HE := Lib.hid h0
    go_enter Tryz.func175, Tryz.ntmps175
    go_wp2_with fail
    refine (take1_no base D vi vb E br _ h0).mono ?_
    rintro e w1 ⟨rfl, rfl⟩
    go_wp2
    exact ⟨rfl, StP.no rfl b0⟩
  · have hr : Hid (Vm.fin br (.ok r) = .ok (r, br)) := Lib.hid rfl
    go_enter Tryz.func175, Tryz.ntmps175
    go_wp2_with fail
    refine (take1_ok base D vi vb E a r br _ h0 hb0 (by simp at hS; omega)).mono ?_
    rintro e w1 ⟨g, cp, v1, rfl, hc0, h1, _, c1⟩
    have b1 := b0.trans c1
    have hb1 := Nat.le_trans hb b1.size
    clear h0 b0 c1 hb0
    go_wp2
    go_end0
    exact StP.ok hr.out h1 b1
set_option maxRecDepth 100000 in
set_option maxHeartbeats 3200000 in
theorem op3_any (base D : Nat) (E : Vm) (x : Jo) (s : List ByteArray) (br : List Bool) (w : World) (h : MPs base D E s br w) (hb : base ≤ w.heap.size) (hs : Vm.fits s) (hc : x.c = 3) :
    Calls Tryz.prog 177 #[.pointer (some ⟨D, 0, none⟩), x.val] w (StP base D E (Vm.fin br (Vm.act E x s)) w) := by
  obtain ⟨vi, vb, h⟩ := h
  rw [Vm.actE3 hc]
  obtain ⟨C, A, B, t⟩ := x
  simp only at hc ⊢
  subst hc
  have hS := hs.1
  have hZ := hs.2
  have h0 := h.alloc (.cells #[.int .i64 3, .int .i64 A, .int .i64 B, .string t] 77 (0, 0))
  have b0 : Fr base D w (w.alloc (.cells #[.int .i64 3, .int .i64 A, .int .i64 B, .string t] 77 (0, 0))) := (Fr.refl base D w).alloc hb _
  have hb0 := Nat.le_trans hb b0.size
  clear h hs
  rcases s with _ | ⟨a, _ | ⟨b, r⟩⟩
  · have hr : (2 : Nat) ≤ 2 := Nat.le_refl _
    go_enter Tryz.func177, Tryz.ntmps177
    go_wp2_with fail
    refine (take2_no base D vi vb E [] br _ h0 (by simp)).mono ?_
    rintro e w1 ⟨rfl, rfl⟩
    go_wp2
    exact ⟨rfl, StP.no rfl b0⟩
  · have hr : (2 : Nat) ≤ 2 := Nat.le_refl _
    go_enter Tryz.func177, Tryz.ntmps177
    go_wp2_with fail
    refine (take2_no base D vi vb E [a] br _ h0 (by simp)).mono ?_
    rintro e w1 ⟨rfl, rfl⟩
    go_wp2
    exact ⟨rfl, StP.no rfl b0⟩
  · have hr : Hid (Vm.fin br (.ok (b :: a :: r)) = .ok (b :: a :: r, br)) := Lib.hid rfl
    go_enter Tryz.func177, Tryz.ntmps177
    go_wp2_with fail
    refine (take2_ok base D vi vb E a b r br _ h0 hb0 (by simp at hS; omega)).mono ?_
    rintro e w1 ⟨g, cp, v1, rfl, hc0, hc1, h1, c1, hgl, hgD, hgv⟩
    have b1 := b0.trans c1
    have hb1 := Nat.le_trans hb b1.size
    clear h0 b0 c1 hb0
    go_wp2_with fail
    refine (push_ok base D v1 vb E r br a _ h1 hb1 (by simp at hS; omega)).mono ?_
    rintro e w2 ⟨v2, rfl, h2, c2, hfr⟩
    have hc9 : w2.cell? ⟨g, 0, none⟩ = some (.string b) := (World.cell?_of_block (hfr g hgl hgD hgv)).trans hc0
    clear hc0 hc1 hfr
    have b2 := b1.trans c2
    have hb2 := Nat.le_trans hb b2.size
    clear h1 b1 c2 hb1
    go_wp2_with fail
    refine (push_ok base D v2 vb E (a :: r) br b _ h2 hb2 (by simp at hS ⊢; omega)).mono ?_
    rintro e w3 ⟨v3, rfl, h3, c3, hfr⟩
    have b3 := b2.trans c3
    have hb3 := Nat.le_trans hb b3.size
    clear h2 b2 c3 hb2
    go_wp2
    go_end0
    exact StP.ok hr.out h3 b3
set_option maxRecDepth 100000 in
set_option maxHeartbeats 3200000 in
theorem op4_any (base D : Nat) (E : Vm) (x : Jo) (s : List ByteArray) (br : List Bool) (w : World) (h : MPs base D E s br w) (hb : base ≤ w.heap.size) (hs : Vm.fits s) (hc : x.c = 4) :
    Calls Tryz.prog 178 #[.pointer (some ⟨D, 0, none⟩), x.val] w (StP base D E (Vm.fin br (Vm.act E x s)) w) := by
  obtain ⟨vi, vb, h⟩ := h
  rw [Vm.actE4 hc]
  obtain ⟨C, A, B, t⟩ := x
  simp only at hc ⊢
  subst hc
  have hS := hs.1
  have hZ := hs.2
  have h0 := h.alloc (.cells #[.int .i64 4, .int .i64 A, .int .i64 B, .string t] 77 (0, 0))
  have b0 : Fr base D w (w.alloc (.cells #[.int .i64 4, .int .i64 A, .int .i64 B, .string t] 77 (0, 0))) := (Fr.refl base D w).alloc hb _
  have hb0 := Nat.le_trans hb b0.size
  clear h hs
  rcases s with _ | ⟨a, _ | ⟨b, r⟩⟩
  · have hr : (2 : Nat) ≤ 2 := Nat.le_refl _
    go_enter Tryz.func178, Tryz.ntmps178
    go_wp2_with fail
    refine (take2_no base D vi vb E [] br _ h0 (by simp)).mono ?_
    rintro e w1 ⟨rfl, rfl⟩
    go_wp2
    exact ⟨rfl, StP.no rfl b0⟩
  · have hr : (2 : Nat) ≤ 2 := Nat.le_refl _
    go_enter Tryz.func178, Tryz.ntmps178
    go_wp2_with fail
    refine (take2_no base D vi vb E [a] br _ h0 (by simp)).mono ?_
    rintro e w1 ⟨rfl, rfl⟩
    go_wp2
    exact ⟨rfl, StP.no rfl b0⟩
  · have hr : Hid (Vm.fin br (.ok (Vm.tr (decide (b = a)) :: r)) = .ok (Vm.tr (decide (b = a)) :: r, br)) := Lib.hid rfl
    obtain ⟨q, HQ⟩ : ∃ q, Hid (decide (b = a) = q) := ⟨_, Lib.hid rfl⟩
    have hq : (b.toList == a.toList) = q := by
      rw [← HQ.out, Bool.eq_iff_iff, decide_eq_true_eq, beq_iff_eq]
      refine ⟨fun e => ?_, fun e => by rw [e]⟩
      rw [ByteArray.toList_eq, ByteArray.toList_eq] at e
      exact ByteArray.ext (Array.toList_inj.1 e)
    rw [HQ.out] at hr
    go_enter Tryz.func178, Tryz.ntmps178
    go_wp2_with fail
    refine (take2_ok base D vi vb E a b r br _ h0 hb0 (by simp at hS; omega)).mono ?_
    rintro e w1 ⟨g, cp, v1, rfl, hc0, hc1, h1, c1, hgl, hgD, hgv⟩
    have b1 := b0.trans c1
    have hb1 := Nat.le_trans hb b1.size
    clear h0 b0 c1 hb0
    have h1d := h1.drew
    have b1d := b1.drew
    have hc0d : w1.drew.cell? ⟨g, 0, none⟩ = some (.string b) := hc0
    have hc1d : w1.drew.cell? ⟨g, 1, none⟩ = some (.string a) := hc1
    go_wp2
    go_region_with (go_at_call 180; go_must (refine (pushTruth_ok base D v1 vb E r br q _ h1d (Nat.le_trans hb b1d.size) (by simp at hS; omega)).mono ?_); go_must (rintro e w2 ⟨v2, rfl, h2, c2, _⟩))
    all_goals
      go_wp2
      go_end0
      exact StP.ok (by rw [HQ.out]; rfl) h2 (b1d.trans c2)
set_option maxRecDepth 100000 in
set_option maxHeartbeats 3200000 in
theorem op5_any (base D : Nat) (E : Vm) (x : Jo) (s : List ByteArray) (br : List Bool) (w : World) (h : MPs base D E s br w) (hb : base ≤ w.heap.size) (hs : Vm.fits s) (hc : x.c = 5) :
    Calls Tryz.prog 179 #[.pointer (some ⟨D, 0, none⟩), x.val] w (StP base D E (Vm.fin br (Vm.act E x s)) w) := by
  obtain ⟨vi, vb, h⟩ := h
  rw [Vm.actE5 hc]
  obtain ⟨C, A, B, t⟩ := x
  simp only at hc ⊢
  subst hc
  have hS := hs.1
  have hZ := hs.2
  have h0 := h.alloc (.cells #[.int .i64 5, .int .i64 A, .int .i64 B, .string t] 77 (0, 0))
  have b0 : Fr base D w (w.alloc (.cells #[.int .i64 5, .int .i64 A, .int .i64 B, .string t] 77 (0, 0))) := (Fr.refl base D w).alloc hb _
  have hb0 := Nat.le_trans hb b0.size
  clear h hs
  rcases s with _ | ⟨a, r⟩
  · have HE := Lib.hid h0
    go_enter Tryz.func179, Tryz.ntmps179
    go_wp2_with fail
    refine (takeTruth_no base D vi vb E br _ h0).mono ?_
    rintro e w1 ⟨rfl, rfl⟩
    go_wp2
    exact ⟨rfl, StP.no rfl b0⟩
  · obtain ⟨q, HQ⟩ : ∃ q, Hid (decide (a.size ≠ 0) = q) := ⟨_, Lib.hid rfl⟩
    have hr : Hid (Vm.fin br (.ok (Vm.tr (decide (a.size = 0)) :: r)) = .ok (Vm.tr (!q) :: r, br)) := Lib.hid (by rw [← HQ.out]; simp [Vm.fin])
    go_enter Tryz.func179, Tryz.ntmps179
    go_wp2_with fail
    refine (takeTruth_ok base D vi vb E a r br _ h0 hb0 (by simp at hS; omega)).mono ?_
    unfold TtP
    rw [HQ.out]
    rintro e w1 ⟨v1, rfl, h1, _, c1⟩
    have b1 := b0.trans c1
    have hb1 := Nat.le_trans hb b1.size
    clear h0 b0 c1 hb0
    go_wp2_with fail
    refine (pushTruth_ok base D v1 vb E r br (!q) _ h1 hb1 (by simp at hS; omega)).mono ?_
    rintro e w2 ⟨v2, rfl, h2, c2, _⟩
    have b2 := b1.trans c2
    have hb2 := Nat.le_trans hb b2.size
    clear h1 b1 c2 hb1
    go_wp2
    go_end0
    exact StP.ok hr.out h2 b2
set_option maxRecDepth 100000 in
set_option maxHeartbeats 3200000 in
theorem op9_any (base D : Nat) (E : Vm) (x : Jo) (s : List ByteArray) (br : List Bool) (w : World) (h : MPs base D E s br w) (hb : base ≤ w.heap.size) (hs : Vm.fits s) (hc : x.c = 9) :
    Calls Tryz.prog 185 #[.pointer (some ⟨D, 0, none⟩), x.val] w (StP base D E (Vm.fin br (Vm.act E x s)) w) := by
  obtain ⟨vi, vb, h⟩ := h
  rw [Vm.actE9 hc]
  obtain ⟨C, A, B, t⟩ := x
  simp only at hc ⊢
  subst hc
  have hS := hs.1
  have hZ := hs.2
  have h0 := h.alloc (.cells #[.int .i64 9, .int .i64 A, .int .i64 B, .string t] 77 (0, 0))
  have b0 : Fr base D w (w.alloc (.cells #[.int .i64 9, .int .i64 A, .int .i64 B, .string t] 77 (0, 0))) := (Fr.refl base D w).alloc hb _
  have hb0 := Nat.le_trans hb b0.size
  clear h hs
  rcases s with _ | ⟨a, r⟩
  · have HE := Lib.hid h0
    go_enter Tryz.func185, Tryz.ntmps185
    go_wp2_with fail
    refine (takeTruth_no base D vi vb E br _ h0).mono ?_
    rintro e w1 ⟨rfl, rfl⟩
    go_wp2
    exact ⟨rfl, StP.no rfl b0⟩
  · by_cases ha : a.size = 0
    · have hr : Hid (Vm.fin br (if a.size = 0 then .error 3 else .ok r) = .error 3) := Lib.hid (by rw [if_pos ha]; rfl)
      have HQ : Hid (decide (a.size ≠ 0) = false) := Lib.hid (by simp [ha])
      clear ha
      change Calls _ _ _ _ (StP base D E (Vm.fin br (if a.size = 0 then .error 3 else .ok r)) w)
      rw [hr.out]
      go_enter Tryz.func185, Tryz.ntmps185
      go_wp2_with fail
      refine (takeTruth_ok base D vi vb E a r br _ h0 hb0 (by simp at hS; omega)).mono ?_
      unfold TtP
      rw [HQ.out]
      rintro e w1 ⟨v1, rfl, h1, _, c1⟩
      have b1 := b0.trans c1
      have hb1 := Nat.le_trans hb b1.size
      clear h0 b0 c1 hb0
      go_wp2_with fail
      refine (demand_no 3 _).mono ?_
      rintro e w2 ⟨rfl, rfl⟩
      go_wp2
      exact ⟨rfl, StP.no rfl b1⟩
    · have hr : Hid (Vm.fin br (if a.size = 0 then .error 3 else .ok r) = .ok (r, br)) := Lib.hid (by rw [if_neg ha]; rfl)
      have HQ : Hid (decide (a.size ≠ 0) = true) := Lib.hid (by simp [ha])
      clear ha
      change Calls _ _ _ _ (StP base D E (Vm.fin br (if a.size = 0 then .error 3 else .ok r)) w)
      rw [hr.out]
      go_enter Tryz.func185, Tryz.ntmps185
      go_wp2_with fail
      refine (takeTruth_ok base D vi vb E a r br _ h0 hb0 (by simp at hS; omega)).mono ?_
      unfold TtP
      rw [HQ.out]
      rintro e w1 ⟨v1, rfl, h1, _, c1⟩
      have b1 := b0.trans c1
      have hb1 := Nat.le_trans hb b1.size
      clear h0 b0 c1 hb0
      go_wp2_with fail
      refine (demand_ok 3 _).mono ?_
      rintro e w2 ⟨rfl, rfl⟩
      go_wp2
      go_end0
      exact StP.ok rfl h1 b1
set_option maxRecDepth 100000 in
set_option maxHeartbeats 3200000 in
theorem op10_any (base D : Nat) (E : Vm) (x : Jo) (s : List ByteArray) (br : List Bool) (w : World) (h : MPs base D E s br w) (hb : base ≤ w.heap.size) (hs : Vm.fits s) (hc : x.c = 10) :
    Calls Tryz.prog 187 #[.pointer (some ⟨D, 0, none⟩), x.val] w (StP base D E (Vm.fin br (Vm.act E x s)) w) := by
  obtain ⟨vi, vb, h⟩ := h
  rw [Vm.actE10 hc]
  obtain ⟨C, A, B, t⟩ := x
  simp only at hc ⊢
  subst hc
  have hS := hs.1
  have hZ := hs.2
  have h0 := h.alloc (.cells #[.int .i64 10, .int .i64 A, .int .i64 B, .string t] 77 (0, 0))
  have b0 : Fr base D w (w.alloc (.cells #[.int .i64 10, .int .i64 A, .int .i64 B, .string t] 77 (0, 0))) := (Fr.refl base D w).alloc hb _
  have hb0 := Nat.le_trans hb b0.size
  clear h hs
  rcases s with _ | ⟨a, r⟩
  · have HE := Lib.hid h0
    go_enter Tryz.func187, Tryz.ntmps187
    go_wp2_with fail
    refine (take1_no base D vi vb E br _ h0).mono ?_
    rintro e w1 ⟨rfl, rfl⟩
    go_wp2
    exact ⟨rfl, StP.no rfl b0⟩
  · have hr : Hid (Vm.fin br (.ok (Dg.bytes (Dg.of a) :: r)) = .ok (Dg.bytes (Dg.of a) :: r, br)) := Lib.hid rfl
    have hsz : a.size ≤ 80 := hZ a (List.mem_cons_self ..)
    obtain ⟨d0, d1⟩ := Dg.of_bd a
    have hd1 := fun W => implDigest_any a W (by omega)
    have hd2 := fun W => implDigestBytes_ok (Dg.of a) W d0 d1
    obtain ⟨Q, HQ⟩ : ∃ Q, Hid (Dg.of a = Q) := ⟨_, Lib.hid rfl⟩
    rw [HQ.out] at hd1 hd2 hr
    obtain ⟨V, HV⟩ : ∃ V, Hid (Dg.bytes Q = V) := ⟨_, Lib.hid rfl⟩
    rw [HV.out] at hd2 hr
    clear d0 d1 hsz hZ
    go_enter Tryz.func187, Tryz.ntmps187
    go_wp2_with fail
    refine (take1_ok base D vi vb E a r br _ h0 hb0 (by simp at hS; omega)).mono ?_
    rintro e w1 ⟨g, cp, v1, rfl, hc0, h1, _, c1⟩
    have b1 := b0.trans c1
    have hb1 := Nat.le_trans hb b1.size
    clear h0 b0 c1 hb0
    go_wp2_with fail
    refine (hd1 _).mono ?_
    rintro e w2 ⟨rfl, c2⟩
    have h2 := h1.below c2
    have b2 := b1.trans (Fr.of hb1 c2)
    have hb2 := Nat.le_trans hb b2.size
    clear h1 b1 c2 hb1 hc0
    go_wp2_with fail
    refine (hd2 _).mono ?_
    rintro e w3 ⟨rfl, c3⟩
    have h3 := h2.below c3
    have b3 := b2.trans (Fr.of hb2 c3)
    have hb3 := Nat.le_trans hb b3.size
    clear h2 b2 c3 hb2
    go_wp2_with fail
    refine (push_ok base D v1 vb E r br V _ h3 hb3 (by simp at hS; omega)).mono ?_
    rintro e w4 ⟨v4, rfl, h4, c4, _⟩
    have b4 := b3.trans c4
    go_wp2
    go_end0
    exact StP.ok (by rw [HQ.out, HV.out]; exact hr.out) h4 b4
set_option maxRecDepth 100000 in
set_option maxHeartbeats 3200000 in
theorem op11_any (base D : Nat) (E : Vm) (x : Jo) (s : List ByteArray) (br : List Bool) (w : World) (h : MPs base D E s br w) (hb : base ≤ w.heap.size) (hs : Vm.fits s) (hc : x.c = 11) (ht : E.t.size ≤ 1048576) :
    Calls Tryz.prog 188 #[.pointer (some ⟨D, 0, none⟩), x.val] w (StP base D E (Vm.fin br (Vm.act E x s)) w) := by
  obtain ⟨vi, vb, h⟩ := h
  rw [Vm.actE11 hc]
  obtain ⟨C, A, B, t⟩ := x
  simp only at hc ⊢
  subst hc
  have hS := hs.1
  have hZ := hs.2
  have h0 := h.alloc (.cells #[.int .i64 11, .int .i64 A, .int .i64 B, .string t] 77 (0, 0))
  have b0 : Fr base D w (w.alloc (.cells #[.int .i64 11, .int .i64 A, .int .i64 B, .string t] 77 (0, 0))) := (Fr.refl base D w).alloc hb _
  have hb0 := Nat.le_trans hb b0.size
  clear h hs
  rcases s with _ | ⟨a, _ | ⟨b, r⟩⟩
  · have hr : (2 : Nat) ≤ 2 := Nat.le_refl _
    go_enter Tryz.func188, Tryz.ntmps188
    go_wp2_with fail
    refine (take2_no base D vi vb E [] br _ h0 (by simp)).mono ?_
    rintro e w1 ⟨rfl, rfl⟩
    go_wp2
    exact ⟨rfl, StP.no rfl b0⟩
  · have hr : (2 : Nat) ≤ 2 := Nat.le_refl _
    go_enter Tryz.func188, Tryz.ntmps188
    go_wp2_with fail
    refine (take2_no base D vi vb E [a] br _ h0 (by simp)).mono ?_
    rintro e w1 ⟨rfl, rfl⟩
    go_wp2
    exact ⟨rfl, StP.no rfl b0⟩
  · have hr : Hid (Vm.fin br (.ok (Vm.tr (Vm.sg E.t b a) :: r)) = .ok (Vm.tr (Vm.sg E.t b a) :: r, br)) := Lib.hid rfl
    have hfit := fun (W : World) (v1 : Value) (hW : MP base D v1 vb E r br W) => fits_any base D v1 vb E r br b a W hW ht
    obtain ⟨q, HQ⟩ : ∃ q, Hid (Vm.sg E.t b a = q) := ⟨_, Lib.hid rfl⟩
    rw [HQ.out] at hr hfit
    go_enter Tryz.func188, Tryz.ntmps188
    go_wp2_with fail
    refine (take2_ok base D vi vb E a b r br _ h0 hb0 (by simp at hS; omega)).mono ?_
    rintro e w1 ⟨g, cp, v1, rfl, hc0, hc1, h1, c1, hgl, hgD, hgv⟩
    have b1 := b0.trans c1
    have hb1 := Nat.le_trans hb b1.size
    clear h0 b0 c1 hb0
    have h1d := h1.drew
    have b1d := b1.drew
    have hS0 : w1.drew.cell? ⟨g, 0, none⟩ = some (.string b) ∧ w1.drew.cell? ⟨g, 1, none⟩ = some (.string a) := ⟨hc0, hc1⟩
    have HK : Hid (∀ W, Below w1.drew.heap.size w1.drew W → W.cell? ⟨g, 0, none⟩ = some (.string b) ∧ W.cell? ⟨g, 1, none⟩ = some (.string a)) := Lib.hid fun W hq => ⟨(hq.cell (p := ⟨g, 0, none⟩) hgl).trans hc0, (hq.cell (p := ⟨g, 1, none⟩) hgl).trans hc1⟩
    clear hc0 hc1 hgD hgv hZ
    go_wp2
    apply wp_meetY (fun w' => MPs base D E (Vm.tr q :: r) br w' ∧ Fr base D w w')
    case h1 =>
      go_region_with (first | (go_at_call 205; go_must (refine (hfit _ v1 h1d).mono ?_); go_must (rintro e w2 ⟨rfl, c2⟩); have h2 := h1d.below c2; have b2 := b1d.trans (Fr.of (Nat.le_trans hb b1d.size) c2)) | (go_at_call 180; go_must (refine (pushTruth_ok base D v1 vb E r br q _ h2 (Nat.le_trans hb b2.size) (by simp at hS; omega)).mono ?_); go_must (rintro e w3 ⟨v3, rfl, h3, c3, _⟩)))
      all_goals exact ⟨rfl, ⟨v3, vb, h3⟩, b2.trans c3⟩
    case h2 =>
      rintro w4 ⟨⟨v4, vb4, h4⟩, b4⟩
      go_wp2
      go_end0
      exact StP.ok (by rw [HQ.out]; rfl) h4 b4
set_option maxRecDepth 100000 in
set_option maxHeartbeats 3200000 in
theorem op13_any (base D : Nat) (E : Vm) (x : Jo) (s : List ByteArray) (br : List Bool) (w : World) (h : MPs base D E s br w) (hb : base ≤ w.heap.size) (hs : Vm.fits s) (hc : x.c = 13) :
    Calls Tryz.prog 190 #[.pointer (some ⟨D, 0, none⟩), x.val] w (StP base D E (Vm.fin br (Vm.act E x s)) w) := by
  obtain ⟨vi, vb, h⟩ := h
  rw [Vm.actE13 hc]
  obtain ⟨C, A, B, t⟩ := x
  simp only at hc ⊢
  subst hc
  have hS := hs.1
  have hZ := hs.2
  have h0 := h.alloc (.cells #[.int .i64 13, .int .i64 A, .int .i64 B, .string t] 77 (0, 0))
  have b0 : Fr base D w (w.alloc (.cells #[.int .i64 13, .int .i64 A, .int .i64 B, .string t] 77 (0, 0))) := (Fr.refl base D w).alloc hb _
  have hb0 := Nat.le_trans hb b0.size
  clear h hs
  by_cases ha : A ≤ E.h
  · have hr : Hid (Vm.fin br (if A ≤ E.h then .ok s else .error 4) = .ok (s, br)) := Lib.hid (by rw [if_pos ha]; rfl)
    have hq : decide (A ≤ E.h) = true := decide_eq_true ha
    have h0d := h0.drew
    have b0d := b0.drew
    obtain ⟨m0, m1, m2, m3, m4⟩ := h0.cells
    obtain ⟨n0, n1, n2, n3, n4⟩ := h0d.cells
    clear ha
    rw [hr.out]
    go_enter Tryz.func190, Tryz.ntmps190
    go_wp2
    go_region_with (go_at_call 186; go_must (refine (demand_ok 4 _).mono ?_); go_must (rintro e w2 ⟨rfl, rfl⟩))
    all_goals
      go_wp2
      go_end0
      exact StP.ok rfl h0d b0d
  · have hr : Hid (Vm.fin br (if A ≤ E.h then .ok s else .error 4) = .error 4) := Lib.hid (by rw [if_neg ha]; rfl)
    have hq : decide (A ≤ E.h) = false := decide_eq_false ha
    have h0d := h0.drew
    have b0d := b0.drew
    obtain ⟨m0, m1, m2, m3, m4⟩ := h0.cells
    obtain ⟨n0, n1, n2, n3, n4⟩ := h0d.cells
    clear ha
    rw [hr.out]
    go_enter Tryz.func190, Tryz.ntmps190
    have hS0 : (w.alloc (.cells #[.int .i64 13, .int .i64 A, .int .i64 B, .string t] 77 (0, 0))).drew.cell? ⟨D, 3, none⟩ = some (.int .i64 E.h) ∧ (w.alloc (.cells #[.int .i64 13, .int .i64 A, .int .i64 B, .string t] 77 (0, 0))).drew.cell? ⟨w.heap.size, 1, none⟩ = some (.int .i64 A) := ⟨n3, by go_simp⟩
    go_wp2
    refine wp_region_held_drew (S := fun W => W.cell? ⟨D, 3, none⟩ = some (.int .i64 E.h) ∧ W.cell? ⟨w.heap.size, 1, none⟩ = some (.int .i64 A)) (by kernel_rfl) hS0 (fun hH => ?_)
    refine wpAnyH_take (i := 0) (v := .pointer (some ⟨D, 0, none⟩)) rfl (by kernel_rfl) (by kernel_rfl) (by kernel_rfl) (fun _ _ _ h => h) (Or.inl ⟨by rfl, fun W hW => by obtain ⟨y0, y1⟩ := hW; go_simp⟩) (by assumption) ?_
    simp only [Act.put, List.getElem_toArray, List.getElem_cons_zero, List.setIfInBounds_toArray, List.set_cons_zero, List.set_cons_succ]
    refine wpAnyH_take (i := 1) (v := .pointer (some ⟨D, 0, none⟩)) rfl (by kernel_rfl) (by kernel_rfl) (by kernel_rfl) (fun _ _ _ h => h) (Or.inl ⟨by rfl, fun W hW => by obtain ⟨y0, y1⟩ := hW; go_simp⟩) (by assumption) ?_
    simp only [Act.put, List.getElem_toArray, List.getElem_cons_succ, List.getElem_cons_zero, List.setIfInBounds_toArray, List.set_cons_zero, List.set_cons_succ]
    refine wpAnyH_take (i := 2) (v := .pointer (some ⟨D, 2, none⟩)) rfl (by kernel_rfl) (by kernel_rfl) (by kernel_rfl) (fun _ _ _ h => h) (Or.inl ⟨by rfl, fun W hW => by obtain ⟨y0, y1⟩ := hW; go_simp⟩) (by assumption) ?_
    simp only [Act.put, List.getElem_toArray, List.getElem_cons_succ, List.getElem_cons_zero, List.setIfInBounds_toArray, List.set_cons_zero, List.set_cons_succ]
    refine wpAnyH_take (i := 3) (v := .pointer (some ⟨D, 3, none⟩)) rfl (by kernel_rfl) (by kernel_rfl) (by kernel_rfl) (fun _ _ _ h => h) (Or.inl ⟨by rfl, fun W hW => by obtain ⟨y0, y1⟩ := hW; go_simp⟩) (by assumption) ?_
    simp only [Act.put, List.getElem_toArray, List.getElem_cons_succ, List.getElem_cons_zero, List.setIfInBounds_toArray, List.set_cons_zero, List.set_cons_succ]
    refine wpAnyH_take (i := 4) (v := .int .i64 E.h) rfl (by kernel_rfl) (by kernel_rfl) (by kernel_rfl) (fun _ _ _ h => h) (Or.inl ⟨by rfl, fun W hW => by obtain ⟨y0, y1⟩ := hW; go_simp⟩) (by assumption) ?_
    simp only [Act.put, List.getElem_toArray, List.getElem_cons_succ, List.getElem_cons_zero, List.setIfInBounds_toArray, List.set_cons_zero, List.set_cons_succ]
    refine wpAnyH_take (i := 5) (v := .pointer (some ⟨w.heap.size, 1, none⟩)) rfl (by kernel_rfl) (by kernel_rfl) (by kernel_rfl) (fun _ _ _ h => h) (Or.inl ⟨by rfl, fun W hW => by obtain ⟨y0, y1⟩ := hW; go_simp⟩) (by assumption) ?_
    simp only [Act.put, List.getElem_toArray, List.getElem_cons_succ, List.getElem_cons_zero, List.setIfInBounds_toArray, List.set_cons_zero, List.set_cons_succ]
    refine wpAnyH_take (i := 6) (v := .int .i64 A) rfl (by kernel_rfl) (by kernel_rfl) (by kernel_rfl) (fun _ _ _ h => h) (Or.inl ⟨by rfl, fun W hW => by obtain ⟨y0, y1⟩ := hW; go_simp⟩) (by assumption) ?_
    simp only [Act.put, List.getElem_toArray, List.getElem_cons_succ, List.getElem_cons_zero, List.setIfInBounds_toArray, List.set_cons_zero, List.set_cons_succ]
    refine wpAnyH_take (i := 7) (v := .bool false) rfl (by kernel_rfl) (by kernel_rfl) (by kernel_rfl) (fun _ _ _ h => h) (Or.inl ⟨by rfl, fun W hW => by obtain ⟨y0, y1⟩ := hW; go_simp⟩) (by assumption) ?_
    simp only [Act.put, List.getElem_toArray, List.getElem_cons_succ, List.getElem_cons_zero, List.setIfInBounds_toArray, List.set_cons_zero, List.set_cons_succ]
    refine wpAnyH_ready (rs := [8]) (by kernel_rfl) (by simp) ?_
    refine AllReadyH.cons rfl (fun K hK => ?_) AllReadyH.nil
    go_simp
    go_wp2_with (go_at_call 186; refine (demand_no 4 _).mono ?_; rintro e w2 ⟨rfl, rfl⟩)
    exact ⟨rfl, StP.no rfl b0d⟩
set_option maxRecDepth 100000 in
set_option maxHeartbeats 3200000 in
theorem op14_any (base D : Nat) (E : Vm) (x : Jo) (s : List ByteArray) (br : List Bool) (w : World) (h : MPs base D E s br w) (hb : base ≤ w.heap.size) (hs : Vm.fits s) (hc : x.c = 14) :
    Calls Tryz.prog 191 #[.pointer (some ⟨D, 0, none⟩), x.val] w (StP base D E (Vm.fin br (Vm.act E x s)) w) := by
  obtain ⟨vi, vb, h⟩ := h
  rw [Vm.actE14 hc]
  obtain ⟨C, A, B, t⟩ := x
  simp only at hc ⊢
  subst hc
  have hS := hs.1
  have hZ := hs.2
  have h0 := h.alloc (.cells #[.int .i64 14, .int .i64 A, .int .i64 B, .string t] 77 (0, 0))
  have b0 : Fr base D w (w.alloc (.cells #[.int .i64 14, .int .i64 A, .int .i64 B, .string t] 77 (0, 0))) := (Fr.refl base D w).alloc hb _
  have hb0 := Nat.le_trans hb b0.size
  clear h hs
  by_cases ha : A ≤ E.a
  · have hr : Hid (Vm.fin br (if A ≤ E.a then .ok s else .error 4) = .ok (s, br)) := Lib.hid (by rw [if_pos ha]; rfl)
    have hq : decide (A ≤ E.a) = true := decide_eq_true ha
    have h0d := h0.drew
    have b0d := b0.drew
    obtain ⟨m0, m1, m2, m3, m4⟩ := h0.cells
    obtain ⟨n0, n1, n2, n3, n4⟩ := h0d.cells
    clear ha
    rw [hr.out]
    go_enter Tryz.func191, Tryz.ntmps191
    go_wp2
    go_region_with (go_at_call 186; go_must (refine (demand_ok 4 _).mono ?_); go_must (rintro e w2 ⟨rfl, rfl⟩))
    all_goals
      go_wp2
      go_end0
      exact StP.ok rfl h0d b0d
  · have hr : Hid (Vm.fin br (if A ≤ E.a then .ok s else .error 4) = .error 4) := Lib.hid (by rw [if_neg ha]; rfl)
    have hq : decide (A ≤ E.a) = false := decide_eq_false ha
    have h0d := h0.drew
    have b0d := b0.drew
    obtain ⟨m0, m1, m2, m3, m4⟩ := h0.cells
    obtain ⟨n0, n1, n2, n3, n4⟩ := h0d.cells
    clear ha
    rw [hr.out]
    go_enter Tryz.func191, Tryz.ntmps191
    have hS0 : (w.alloc (.cells #[.int .i64 14, .int .i64 A, .int .i64 B, .string t] 77 (0, 0))).drew.cell? ⟨D, 4, none⟩ = some (.int .i64 E.a) ∧ (w.alloc (.cells #[.int .i64 14, .int .i64 A, .int .i64 B, .string t] 77 (0, 0))).drew.cell? ⟨w.heap.size, 1, none⟩ = some (.int .i64 A) := ⟨n4, by go_simp⟩
    go_wp2
    refine wp_region_held_drew (S := fun W => W.cell? ⟨D, 4, none⟩ = some (.int .i64 E.a) ∧ W.cell? ⟨w.heap.size, 1, none⟩ = some (.int .i64 A)) (by kernel_rfl) hS0 (fun hH => ?_)
    refine wpAnyH_take (i := 0) (v := .pointer (some ⟨D, 0, none⟩)) rfl (by kernel_rfl) (by kernel_rfl) (by kernel_rfl) (fun _ _ _ h => h) (Or.inl ⟨by rfl, fun W hW => by obtain ⟨y0, y1⟩ := hW; go_simp⟩) (by assumption) ?_
    simp only [Act.put, List.getElem_toArray, List.getElem_cons_zero, List.setIfInBounds_toArray, List.set_cons_zero, List.set_cons_succ]
    refine wpAnyH_take (i := 1) (v := .pointer (some ⟨D, 0, none⟩)) rfl (by kernel_rfl) (by kernel_rfl) (by kernel_rfl) (fun _ _ _ h => h) (Or.inl ⟨by rfl, fun W hW => by obtain ⟨y0, y1⟩ := hW; go_simp⟩) (by assumption) ?_
    simp only [Act.put, List.getElem_toArray, List.getElem_cons_succ, List.getElem_cons_zero, List.setIfInBounds_toArray, List.set_cons_zero, List.set_cons_succ]
    refine wpAnyH_take (i := 2) (v := .pointer (some ⟨D, 2, none⟩)) rfl (by kernel_rfl) (by kernel_rfl) (by kernel_rfl) (fun _ _ _ h => h) (Or.inl ⟨by rfl, fun W hW => by obtain ⟨y0, y1⟩ := hW; go_simp⟩) (by assumption) ?_
    simp only [Act.put, List.getElem_toArray, List.getElem_cons_succ, List.getElem_cons_zero, List.setIfInBounds_toArray, List.set_cons_zero, List.set_cons_succ]
    refine wpAnyH_take (i := 3) (v := .pointer (some ⟨D, 4, none⟩)) rfl (by kernel_rfl) (by kernel_rfl) (by kernel_rfl) (fun _ _ _ h => h) (Or.inl ⟨by rfl, fun W hW => by obtain ⟨y0, y1⟩ := hW; go_simp⟩) (by assumption) ?_
    simp only [Act.put, List.getElem_toArray, List.getElem_cons_succ, List.getElem_cons_zero, List.setIfInBounds_toArray, List.set_cons_zero, List.set_cons_succ]
    refine wpAnyH_take (i := 4) (v := .int .i64 E.a) rfl (by kernel_rfl) (by kernel_rfl) (by kernel_rfl) (fun _ _ _ h => h) (Or.inl ⟨by rfl, fun W hW => by obtain ⟨y0, y1⟩ := hW; go_simp⟩) (by assumption) ?_
    simp only [Act.put, List.getElem_toArray, List.getElem_cons_succ, List.getElem_cons_zero, List.setIfInBounds_toArray, List.set_cons_zero, List.set_cons_succ]
    refine wpAnyH_take (i := 5) (v := .pointer (some ⟨w.heap.size, 1, none⟩)) rfl (by kernel_rfl) (by kernel_rfl) (by kernel_rfl) (fun _ _ _ h => h) (Or.inl ⟨by rfl, fun W hW => by obtain ⟨y0, y1⟩ := hW; go_simp⟩) (by assumption) ?_
    simp only [Act.put, List.getElem_toArray, List.getElem_cons_succ, List.getElem_cons_zero, List.setIfInBounds_toArray, List.set_cons_zero, List.set_cons_succ]
    refine wpAnyH_take (i := 6) (v := .int .i64 A) rfl (by kernel_rfl) (by kernel_rfl) (by kernel_rfl) (fun _ _ _ h => h) (Or.inl ⟨by rfl, fun W hW => by obtain ⟨y0, y1⟩ := hW; go_simp⟩) (by assumption) ?_
    simp only [Act.put, List.getElem_toArray, List.getElem_cons_succ, List.getElem_cons_zero, List.setIfInBounds_toArray, List.set_cons_zero, List.set_cons_succ]
    refine wpAnyH_take (i := 7) (v := .bool false) rfl (by kernel_rfl) (by kernel_rfl) (by kernel_rfl) (fun _ _ _ h => h) (Or.inl ⟨by rfl, fun W hW => by obtain ⟨y0, y1⟩ := hW; go_simp⟩) (by assumption) ?_
    simp only [Act.put, List.getElem_toArray, List.getElem_cons_succ, List.getElem_cons_zero, List.setIfInBounds_toArray, List.set_cons_zero, List.set_cons_succ]
    refine wpAnyH_ready (rs := [8]) (by kernel_rfl) (by simp) ?_
    refine AllReadyH.cons rfl (fun K hK => ?_) AllReadyH.nil
    go_simp
    go_wp2_with (go_at_call 186; refine (demand_no 4 _).mono ?_; rintro e w2 ⟨rfl, rfl⟩)
    exact ⟨rfl, StP.no rfl b0d⟩
end Go.Proofs.YtoocibabceeagabGreat

/-
  The machine of the program: the operations of conditions.
-/
namespace Go.Proofs.YtoocibabceeagabGreat
open Go.RowKit

theorem Vm.cond6_no {s : List ByteArray} {br : List Bool} (h : Vm.live br = false) : Vm.cond 6 s br = .ok (s, false :: br) := by
  unfold Vm.cond
  rw [if_pos rfl, h]
  rfl
theorem Vm.cond6_yes {a : ByteArray} {s : List ByteArray} {br : List Bool} (h : Vm.live br = true) : Vm.cond 6 (a :: s) br = .ok (s, decide (a.size ≠ 0) :: br) := by
  unfold Vm.cond
  rw [if_pos rfl, if_pos h]
theorem Vm.cond6_nil {br : List Bool} (h : Vm.live br = true) : Vm.cond 6 [] br = .error 2 := by
  unfold Vm.cond
  rw [if_pos rfl, if_pos h]
theorem Vm.cond7 {s : List ByteArray} {b : Bool} {br : List Bool} : Vm.cond 7 s (b :: br) = .ok (s, (!b) :: br) := rfl
theorem Vm.cond8 {s : List ByteArray} {b : Bool} {br : List Bool} : Vm.cond 8 s (b :: br) = .ok (s, br) := rfl
theorem sliceB_hi (g m k cap : Nat) (h : k ≤ m) (h2 : m ≤ cap) (W : World) :
    (Instr.slice 143 (.slice (some ⟨g, 0, none⟩) m cap) none (some (.int .i64 (k : Int))) none).run Tryz.prog W = .ok (.slice (some ⟨g, 0, none⟩) k cap) W := by
  have e1 : (0 : Int) ≤ (k : Int) := by omega
  have h3 : k ≤ cap := by omega
  simp [Instr.slice, Instr.sliceBounds, Instr.sliceBound, asIntOf, run_underlying Tryz.underlying143, e1, h3]
  by_cases hc : cap = 0 <;> simp [Addr.add]
/-- One cell of an owned row is turned. -/
theorem own_put {w : World} {base n c g j : Nat} {e : TypeId} {xs : List Value} (h : w.ownsRow base e 1 (.slice (some ⟨g, 0, none⟩) n c) n xs) (u : Value) : (w.setCell ⟨g, j, none⟩ u).ownsRow base e 1 (.slice (some ⟨g, 0, none⟩) n c) n (xs.set j u) := by
  exact (h.stored j u).1

set_option maxRecDepth 100000 in
set_option maxHeartbeats 6400000 in
theorem op8_any (base D : Nat) (E : Vm) (x : Jo) (s : List ByteArray) (br : List Bool) (w : World) (h : MPs base D E s br w) (hb : base ≤ w.heap.size) (hc : x.c = 8) (hbr : br.length ≤ 4) (hne : br ≠ []) :
    Calls Tryz.prog 184 #[.pointer (some ⟨D, 0, none⟩), x.val] w (StP base D E (Vm.cond x.c s br) w) := by
  obtain ⟨vi, vb, h⟩ := h
  obtain ⟨C, A, B, t⟩ := x
  simp only at hc ⊢
  subst hc
  have h0 := h.alloc (.cells #[.int .i64 8, .int .i64 A, .int .i64 B, .string t] 77 (0, 0))
  have b0 : Fr base D w (w.alloc (.cells #[.int .i64 8, .int .i64 A, .int .i64 B, .string t] 77 (0, 0))) := (Fr.refl base D w).alloc hb _
  have hb0 := Nat.le_trans hb b0.size
  clear h

  obtain ⟨W0, HW⟩ : ∃ W0, Hid (w.alloc (.cells #[.int .i64 8, .int .i64 A, .int .i64 B, .string t] 77 (0, 0)) = W0) := ⟨_, Lib.hid rfl⟩
  rw [HW.out] at h0 b0 hb0
  rcases br with _ | ⟨b, r⟩
  · exact absurd rfl hne
  clear hne
  obtain ⟨a, cap, rfl, hcap, hmax⟩ := own_slice h0.brs
  obtain ⟨g, rfl, hgb, hgl⟩ := own_some h0.brs (by simp)
  have hbs := h0.brs
  obtain ⟨c0, c1, c2, c3, c4⟩ := h0.cells
  have f1 := h0.blk.fro 1
  have c1d : W0.drew.cell? ⟨D, 1, none⟩ = some (.slice (some ⟨g, 0, none⟩) (r.length + 1) cap) := c1
  have f1d : W0.drew.frozen? ⟨D, 1, none⟩ = false := f1
  obtain ⟨k, hk⟩ : ∃ k, r.length = k := ⟨_, rfl⟩
  simp only [List.length_cons] at hbr hcap c1
  rw [hk] at c1 c1d hcap hbr
  have hq : IntKind.i64.wrap ((k : Int) + 1 - 1) = (k : Int) := by rw [IntKind.wrap_i64]; omega
  have hq2 : IntKind.i64.wrap (k : Int) = (k : Int) := by rw [IntKind.wrap_i64]; omega
  have H0 := Lib.hid h0
  have hsl := fun W => sliceB_hi g (k + 1) k cap (by omega) hcap W
  have hF : W0.ownsRow base 4 1 (.slice (some ⟨g, 0, none⟩) r.length cap) r.length (r.reverse.map Value.bool) := by
    rw [List.reverse_cons, List.map_append] at hbs
    have := ownsRow_front hbs
    simpa using this
  have HF := Lib.hid hF
  have HK := Lib.hid hk
  clear h0 hbs hF hk
  go_enter Tryz.func184, Tryz.ntmps184
  go_wp2
  rw [HW.out]
  clear HW
  go_region
  all_goals
    go_wp2
    go_end0
    have k1 := (H0.out.drew.setB (br' := r) (World.grownBy.refl _ _) HF.out).1
    rw [HK.out] at k1
    exact StP.ok Vm.cond8 k1 (b0.drew.setD H0.out.hD 1 _)
set_option maxRecDepth 100000 in
set_option maxHeartbeats 6400000 in
theorem op7_any (base D : Nat) (E : Vm) (x : Jo) (s : List ByteArray) (br : List Bool) (w : World) (h : MPs base D E s br w) (hb : base ≤ w.heap.size) (hc : x.c = 7) (hbr : br.length ≤ 4) (hne : br ≠ []) :
    Calls Tryz.prog 183 #[.pointer (some ⟨D, 0, none⟩), x.val] w (StP base D E (Vm.cond x.c s br) w) := by
  obtain ⟨vi, vb, h⟩ := h
  obtain ⟨C, A, B, t⟩ := x
  simp only at hc ⊢
  subst hc
  have h0 := h.alloc (.cells #[.int .i64 7, .int .i64 A, .int .i64 B, .string t] 77 (0, 0))
  have b0 : Fr base D w (w.alloc (.cells #[.int .i64 7, .int .i64 A, .int .i64 B, .string t] 77 (0, 0))) := (Fr.refl base D w).alloc hb _
  have hb0 := Nat.le_trans hb b0.size
  clear h

  rcases br with _ | ⟨b, r⟩
  · exact absurd rfl hne
  clear hne
  obtain ⟨a, cap, rfl, hcap, hmax⟩ := own_slice h0.brs
  obtain ⟨g, rfl, hgb, hgl⟩ := own_some h0.brs (by simp)
  have hbs := h0.brs
  obtain ⟨c0, c1, c2, c3, c4⟩ := h0.cells
  have f1 := h0.blk.fro 1
  have c1d : (w.alloc (.cells #[.int .i64 7, .int .i64 A, .int .i64 B, .string t] 77 (0, 0))).drew.cell? ⟨D, 1, none⟩ = some (.slice (some ⟨g, 0, none⟩) (r.length + 1) cap) := c1
  have f1d : (w.alloc (.cells #[.int .i64 7, .int .i64 A, .int .i64 B, .string t] 77 (0, 0))).drew.frozen? ⟨D, 1, none⟩ = false := f1
  obtain ⟨k, hk⟩ : ∃ k, r.length = k := ⟨_, rfl⟩
  simp only [List.length_cons] at hbr hcap c1
  rw [hk] at c1 c1d hcap hbr
  have hq : IntKind.i64.wrap ((k : Int) + 1 - 1) = (k : Int) := by rw [IntKind.wrap_i64]; omega
  have hq2 : IntKind.i64.wrap (k : Int) = (k : Int) := by rw [IntKind.wrap_i64]; omega
  have H0 := Lib.hid h0
  have hcl : (w.alloc (.cells #[.int .i64 7, .int .i64 A, .int .i64 B, .string t] 77 (0, 0))).cell? ⟨g, k, none⟩ = some (.bool b) := by
    obtain ⟨_, hr⟩ := br_row hbs
    obtain ⟨g', he, _, hc⟩ := hr (by simp)
    cases he
    have := hc k (by simp; omega)
    rw [this, List.getD_eq_getElem?_getD, List.reverse_cons, List.getElem?_append_right (by simp; omega)]
    simp [hk]
  have hcld : (w.alloc (.cells #[.int .i64 7, .int .i64 A, .int .i64 B, .string t] 77 (0, 0))).drew.cell? ⟨g, k, none⟩ = some (.bool b) := hcl
  have hfr : (w.alloc (.cells #[.int .i64 7, .int .i64 A, .int .i64 B, .string t] 77 (0, 0))).frozen? ⟨g, k, none⟩ = false := hbs.frozenAt k
  have hfrd : (w.alloc (.cells #[.int .i64 7, .int .i64 A, .int .i64 B, .string t] 77 (0, 0))).drew.frozen? ⟨g, k, none⟩ = false := hfr
  have hF : ((w.alloc (.cells #[.int .i64 7, .int .i64 A, .int .i64 B, .string t] 77 (0, 0))).setCell ⟨g, k, none⟩ (.bool (!b))).ownsRow base 4 1 (.slice (some ⟨g, 0, none⟩) (r.length + 1) cap) (r.length + 1) (((!b) :: r).reverse.map Value.bool) := by
    have := own_put (j := k) hbs (.bool (!b))
    rw [List.reverse_cons, List.map_append, List.set_append, if_neg (by simp; omega)] at this
    simpa [hk] using this
  have hgD : D ≠ g := fun e => h0.bD (by rw [e]; rfl)
  have hMM : MP base D vi (.slice (some ⟨g, 0, none⟩) (r.length + 1) cap) E s ((!b) :: r) ((w.alloc (.cells #[.int .i64 7, .int .i64 A, .int .i64 B, .string t] 77 (0, 0))).setCell ⟨g, k, none⟩ (.bool (!b))) :=
    ⟨h0.hD, h0.blk.oset g k _ hgD, own_set h0.its g k _ (fun e => by
      rcases own_two h0.its h0.brs (by decide) with h | h
      · rw [h] at e; cases e
      · exact h e), hF⟩
  have HM := Lib.hid hMM
  have HBS := Lib.hid hbs
  have HK := Lib.hid hk
  clear h0 hbs hF hk hMM
  go_enter Tryz.func183, Tryz.ntmps183
  go_wp2
  go_region
  all_goals
    go_wp2
    go_end0
    exact StP.ok Vm.cond7 (show MP base D vi _ E s ((!b) :: r) ((w.alloc (.cells #[.int .i64 7, .int .i64 A, .int .i64 B, .string t] 77 (0, 0))).drew.setCell ⟨g, k, none⟩ (.bool (!b))) from HM.out.drew) (b0.drew.setO (show (w.alloc (.cells #[.int .i64 7, .int .i64 A, .int .i64 B, .string t] 77 (0, 0))).drew.ownsRow base 4 1 _ _ _ from HBS.out) (.inr rfl) hgb k _)
set_option maxRecDepth 100000 in
set_option maxHeartbeats 6400000 in
theorem op6_live (base D : Nat) (E : Vm) (x : Jo) (s : List ByteArray) (br : List Bool) (w : World) (h : MPs base D E s br w) (hb : base ≤ w.heap.size) (hs : Vm.fits s) (hc : x.c = 6) (hbr : br.length ≤ 4) (hlv : Vm.live br = true) :
    Calls Tryz.prog 182 #[.pointer (some ⟨D, 0, none⟩), x.val] w (StP base D E (Vm.cond x.c s br) w) := by
  obtain ⟨vi, vb, h⟩ := h
  obtain ⟨C, A, B, t⟩ := x
  simp only at hc ⊢
  subst hc
  have h0 := h.alloc (.cells #[.int .i64 6, .int .i64 A, .int .i64 B, .string t] 77 (0, 0))
  have b0 : Fr base D w (w.alloc (.cells #[.int .i64 6, .int .i64 A, .int .i64 B, .string t] 77 (0, 0))) := (Fr.refl base D w).alloc hb _
  have hb0 := Nat.le_trans hb b0.size
  clear h

  obtain ⟨W0, HW⟩ : ∃ W0, Hid (w.alloc (.cells #[.int .i64 6, .int .i64 A, .int .i64 B, .string t] 77 (0, 0)) = W0) := ⟨_, Lib.hid rfl⟩
  rw [HW.out] at h0 b0 hb0
  obtain ⟨i0, hi, hz0, hz1, hz2⟩ := info_parts info_bool
  rcases s with _ | ⟨a, r⟩
  · rw [Vm.cond6_nil hlv]
    obtain ⟨ab, cb, rfl, hcapb, hmaxb⟩ := own_slice h0.brs
    have hsk := isSkipping_any base D vi _ E [] br W0.drew h0.drew (by omega)
    rw [hlv] at hsk
    have htt := takeTruth_no base D vi _ E br W0.drew h0.drew
    have hS0 : W0.drew.cell? ⟨D, 1, none⟩ = some (.slice ab br.length cb) := h0.drew.cells.2.1
    have HB := Lib.hid b0
    clear h0 hs hlv b0
    go_enter Tryz.func182, Tryz.ntmps182
    go_wp2
    rw [HW.out]
    clear HW
    refine wp_region_held_drew (S := fun W => W.cell? ⟨D, 1, none⟩ = some (.slice ab br.length cb)) (by kernel_rfl) hS0 (fun hH => ?_)
    refine wpAnyH_take (i := 0) (v := .pointer (some ⟨D, 0, none⟩)) rfl (by kernel_rfl) (by kernel_rfl) (by kernel_rfl) (fun _ _ _ h => h) (Or.inl ⟨by rfl, fun W hW => by go_simp⟩) (by assumption) ?_
    simp only [Act.put, List.getElem_toArray, List.getElem_cons_zero, List.setIfInBounds_toArray, List.set_cons_zero, List.set_cons_succ]
    refine wpAnyH_take (i := 1) (v := .pointer (some ⟨D, 0, none⟩)) rfl (by kernel_rfl) (by kernel_rfl) (by kernel_rfl) (fun _ _ _ h => h) (Or.inl ⟨by rfl, fun W hW => by go_simp⟩) (by assumption) ?_
    simp only [Act.put, List.getElem_toArray, List.getElem_cons_succ, List.getElem_cons_zero, List.setIfInBounds_toArray, List.set_cons_zero, List.set_cons_succ]
    refine wpAnyH_take (i := 2) (v := .pointer (some ⟨D, 0, none⟩)) rfl (by kernel_rfl) (by kernel_rfl) (by kernel_rfl) (fun _ _ _ h => h) (Or.inl ⟨by rfl, fun W hW => by go_simp⟩) (by assumption) ?_
    simp only [Act.put, List.getElem_toArray, List.getElem_cons_succ, List.getElem_cons_zero, List.setIfInBounds_toArray, List.set_cons_zero, List.set_cons_succ]
    refine wpAnyH_take (i := 3) (v := .pointer (some ⟨D, 1, none⟩)) rfl (by kernel_rfl) (by kernel_rfl) (by kernel_rfl) (fun _ _ _ h => h) (Or.inl ⟨by rfl, fun W hW => by go_simp⟩) (by assumption) ?_
    simp only [Act.put, List.getElem_toArray, List.getElem_cons_succ, List.getElem_cons_zero, List.setIfInBounds_toArray, List.set_cons_zero, List.set_cons_succ]
    refine wpAnyH_take (i := 4) (v := .slice ab br.length cb) rfl (by kernel_rfl) (by kernel_rfl) (by kernel_rfl) (fun _ _ _ h => h) (Or.inl ⟨by rfl, fun W hW => by go_simp⟩) (by assumption) ?_
    simp only [Act.put, List.getElem_toArray, List.getElem_cons_succ, List.getElem_cons_zero, List.setIfInBounds_toArray, List.set_cons_zero, List.set_cons_succ]
    refine wpAnyH_take (i := 5) (v := .pointer (some ⟨D, 0, none⟩)) rfl (by kernel_rfl) (by kernel_rfl) (by kernel_rfl) (fun _ _ _ h => h) (Or.inl ⟨by rfl, fun W hW => by go_simp⟩) (by assumption) ?_
    simp only [Act.put, List.getElem_toArray, List.getElem_cons_succ, List.getElem_cons_zero, List.setIfInBounds_toArray, List.set_cons_zero, List.set_cons_succ]
    refine wpAnyH_ready (rs := [6]) (by kernel_rfl) (by simp) ?_
    refine AllReadyH.cons rfl (fun K hK => ?_) AllReadyH.nil
    go_simp
    go_wp2_with (go_at_call 146; refine hsk.mono ?_; rintro e w9 ⟨rfl, rfl⟩)
    refine hK.out _ _ hS0 (fun hH1 => ?_)
    clear hK K
    refine wpAnyH_take (i := 7) (v := .bool true) rfl (by kernel_rfl) (by kernel_rfl) (by kernel_rfl) (fun _ _ _ h => h) (Or.inl ⟨by rfl, fun W hW => by go_simp⟩) (by assumption) ?_
    simp only [Act.put, List.getElem_toArray, List.getElem_cons_succ, List.getElem_cons_zero, List.setIfInBounds_toArray, List.set_cons_zero, List.set_cons_succ]
    refine wpAnyH_take (i := 8) (v := .bool true) rfl (by kernel_rfl) (by kernel_rfl) (by kernel_rfl) (fun _ _ _ h => h) (Or.inl ⟨by rfl, fun W hW => by go_simp⟩) (by assumption) ?_
    simp only [Act.put, List.getElem_toArray, List.getElem_cons_succ, List.getElem_cons_zero, List.setIfInBounds_toArray, List.set_cons_zero, List.set_cons_succ]
    refine wpAnyH_take (i := 9) (v := .pointer (some ⟨D, 0, none⟩)) rfl (by kernel_rfl) (by kernel_rfl) (by kernel_rfl) (fun _ _ _ h => h) (Or.inl ⟨by rfl, fun W hW => by go_simp⟩) (by assumption) ?_
    simp only [Act.put, List.getElem_toArray, List.getElem_cons_succ, List.getElem_cons_zero, List.setIfInBounds_toArray, List.set_cons_zero, List.set_cons_succ]
    refine wpAnyH_ready (rs := [10]) (by kernel_rfl) (by simp) ?_
    refine AllReadyH.cons rfl (fun K hK => ?_) AllReadyH.nil
    rw [if_pos (by rfl)]
    go_simp
    go_wp2_with (go_at_call 181; refine htt.mono ?_; rintro e w9 ⟨rfl, rfl⟩)
    exact ⟨rfl, StP.no rfl HB.out.drew⟩
  · rw [Vm.cond6_yes hlv]
    obtain ⟨q, HQ⟩ : ∃ q, Hid (decide (a.size ≠ 0) = q) := ⟨_, Lib.hid rfl⟩
    rw [HQ.out]
    have hS := hs.1
    obtain ⟨ab, cb, rfl, hcapb, hmaxb⟩ := own_slice h0.brs
    have hsk := isSkipping_any base D vi _ E (a :: r) br W0.drew h0.drew (by omega)
    rw [hlv] at hsk
    have htt := takeTruth_ok base D vi _ E a r br W0.drew h0.drew (by exact hb0) (by simp at hS; omega)
    unfold TtP at htt
    rw [HQ.out] at htt
    obtain ⟨c0, c1, c2, c3, c4⟩ := h0.drew.cells
    have HB := Lib.hid b0
    have HD := h0.hD
    clear h0 hs HQ hlv b0
    go_enter Tryz.func182, Tryz.ntmps182
    go_wp2
    rw [HW.out]
    clear HW
    go_region_law (first
      | (refine step_append_own rfl _ _ 143 rfl base 4 i0 (.bool false) 1 1 Tryz.underlying143 hi hz0 hz1 hz2 rfl (by decide) _ _ _ rfl (by exact h2.brs.alloc _) ⟨w2.heap.size, 0, none⟩ 1 1 [.bool q] rfl rfl (one_new w2 _ _) (by intro u hu; simp at hu; subst hu; rfl) (by unfold maxLen; omega) (by omega) (by have := c22.size; simp; simp at hb0 this; omega) (fun v5 w5 hown5 hg5 => ?_)
         obtain ⟨a5, c5, rfl, _⟩ := own_slice hown5
         have hg6 : w2.grownBy w5 (Value.slice ab br.length cb).ownBlock := grownBy_trans' (World.grownBy_alloc _ _ _) hg5
         have k1 := h2.setB (br' := q :: br) hg6 (by rw [List.length_cons, List.reverse_cons, List.map_append]; exact hown5)
         have d1 := (k1.2.cell 1).trans rfl
         have f1 := k1.2.fro 1
         have hB6 : Fr base D W0.drew w5 := c22.trans ((Fr.refl base D w2).grown hg6 h2.brs (.inr rfl) (Nat.le_trans hb0 c22.size) (Nat.le_refl _)))
      | (rw [if_pos (by simp [Region.wanted])]; go_simp; go_at_call 146; refine hsk.mono ?_; rintro e w9 ⟨rfl, rfl⟩)
      | (rw [if_pos (by rfl)]; go_simp; go_at_call 181; refine htt.mono ?_; rintro e w2 ⟨v2, rfl, h2, hv2, c22⟩; obtain ⟨m0, m1, m2, m3, m4⟩ := h2.cells; have mm1 := (h2.alloc (.cells #[.bool q] 4)).cells.2.1))
    all_goals
      go_wp2
      go_end0
      exact StP.ok rfl k1.1 (HB.out.drew.trans (hB6.setD HD 1 _))
set_option maxRecDepth 100000 in
set_option maxHeartbeats 6400000 in
theorem op6_skip (base D : Nat) (E : Vm) (x : Jo) (s : List ByteArray) (br : List Bool) (w : World) (h : MPs base D E s br w) (hb : base ≤ w.heap.size) (hc : x.c = 6) (hbr : br.length ≤ 4) (hlv : Vm.live br = false) :
    Calls Tryz.prog 182 #[.pointer (some ⟨D, 0, none⟩), x.val] w (StP base D E (Vm.cond x.c s br) w) := by
  obtain ⟨vi, vb, h⟩ := h
  obtain ⟨C, A, B, t⟩ := x
  simp only at hc ⊢
  subst hc
  have h0 := h.alloc (.cells #[.int .i64 6, .int .i64 A, .int .i64 B, .string t] 77 (0, 0))
  have b0 : Fr base D w (w.alloc (.cells #[.int .i64 6, .int .i64 A, .int .i64 B, .string t] 77 (0, 0))) := (Fr.refl base D w).alloc hb _
  have hb0 := Nat.le_trans hb b0.size
  clear h

  obtain ⟨W0, HW⟩ : ∃ W0, Hid (w.alloc (.cells #[.int .i64 6, .int .i64 A, .int .i64 B, .string t] 77 (0, 0)) = W0) := ⟨_, Lib.hid rfl⟩
  rw [HW.out] at h0 b0 hb0
  obtain ⟨i0, hi, hz0, hz1, hz2⟩ := info_parts info_bool
  rw [Vm.cond6_no hlv]
  obtain ⟨ab, cb, rfl, hcapb, hmaxb⟩ := own_slice h0.brs
  have hsk := isSkipping_any base D vi _ E s br W0.drew h0.drew (by omega)
  rw [hlv] at hsk
  obtain ⟨c0, c1, c2, c3, c4⟩ := h0.drew.cells
  have mm1 := (h0.alloc (.cells #[.bool false] 4)).cells.2.1
  have HB := Lib.hid b0
  have HD := h0.hD
  have h2 := h0.drew
  clear h0 hlv b0
  go_enter Tryz.func182, Tryz.ntmps182
  go_wp2
  rw [HW.out]
  clear HW
  refine wp_region_held_drew (S := fun _ => True) (by kernel_rfl) trivial (fun _ => ?_)
  refine wpAnyH_take (i := 0) (v := .pointer (some ⟨D, 0, none⟩)) rfl (by kernel_rfl) (by kernel_rfl) (by kernel_rfl) (fun _ _ _ h => h) (Or.inl ⟨by rfl, fun W hW => by go_simp⟩) trivial ?_
  simp only [Act.put, List.getElem_toArray, List.getElem_cons_zero, List.setIfInBounds_toArray, List.set_cons_zero, List.set_cons_succ]
  refine wpAnyH_take (i := 1) (v := .pointer (some ⟨D, 0, none⟩)) rfl (by kernel_rfl) (by kernel_rfl) (by kernel_rfl) (fun _ _ _ h => h) (Or.inl ⟨by rfl, fun W hW => by go_simp⟩) trivial ?_
  simp only [Act.put, List.getElem_toArray, List.getElem_cons_succ, List.getElem_cons_zero, List.setIfInBounds_toArray, List.set_cons_zero, List.set_cons_succ]
  refine wpAnyH_take (i := 2) (v := .pointer (some ⟨D, 0, none⟩)) rfl (by kernel_rfl) (by kernel_rfl) (by kernel_rfl) (fun _ _ _ h => h) (Or.inl ⟨by rfl, fun W hW => by go_simp⟩) trivial ?_
  simp only [Act.put, List.getElem_toArray, List.getElem_cons_succ, List.getElem_cons_zero, List.setIfInBounds_toArray, List.set_cons_zero, List.set_cons_succ]
  refine wpAnyH_take (i := 3) (v := .pointer (some ⟨D, 1, none⟩)) rfl (by kernel_rfl) (by kernel_rfl) (by kernel_rfl) (fun _ _ _ h => h) (Or.inl ⟨by rfl, fun W hW => by go_simp⟩) trivial ?_
  simp only [Act.put, List.getElem_toArray, List.getElem_cons_succ, List.getElem_cons_zero, List.setIfInBounds_toArray, List.set_cons_zero, List.set_cons_succ]
  refine wpAnyH_take (i := 5) (v := .pointer (some ⟨D, 0, none⟩)) rfl (by kernel_rfl) (by kernel_rfl) (by kernel_rfl) (fun _ _ _ h => h) (Or.inl ⟨by rfl, fun W hW => by go_simp⟩) trivial ?_
  simp only [Act.put, List.getElem_toArray, List.getElem_cons_succ, List.getElem_cons_zero, List.setIfInBounds_toArray, List.set_cons_zero, List.set_cons_succ]
  refine wpAnyH_ready (rs := [4, 6]) (by kernel_rfl) (by simp) ?_
  refine AllReadyH.cons rfl (fun K hK => ?_) (AllReadyH.cons rfl (fun K hK => ?_) AllReadyH.nil)
  · go_simp
    refine hK.out _ _ trivial (fun _ => ?_)
    clear hK K
    refine wpAnyH_ready (rs := [6]) (by kernel_rfl) (by simp) ?_
    refine AllReadyH.cons rfl (fun K hK => ?_) AllReadyH.nil
    go_simp
    go_wp2_with (go_at_call 146; refine hsk.mono ?_; rintro e w9 ⟨rfl, rfl⟩)
    refine hK.out _ _ trivial (fun _ => ?_)
    clear hK K
    refine wpAnyH_take (i := 7) (v := .bool false) rfl (by kernel_rfl) (by kernel_rfl) (by kernel_rfl) (fun _ _ _ h => h) (Or.inl ⟨by rfl, fun W hW => by go_simp⟩) trivial ?_
    simp only [Act.put, List.getElem_toArray, List.getElem_cons_succ, List.getElem_cons_zero, List.setIfInBounds_toArray, List.set_cons_zero, List.set_cons_succ]
    refine wpAnyH_take (i := 8) (v := .bool false) rfl (by kernel_rfl) (by kernel_rfl) (by kernel_rfl) (fun _ _ _ h => h) (Or.inl ⟨by rfl, fun W hW => by go_simp⟩) trivial ?_
    simp only [Act.put, List.getElem_toArray, List.getElem_cons_succ, List.getElem_cons_zero, List.setIfInBounds_toArray, List.set_cons_zero, List.set_cons_succ]
    refine wpAnyH_take (i := 9) (v := undef) rfl (by kernel_rfl) (by kernel_rfl) (by kernel_rfl) (fun _ _ _ h => h) (Or.inr ⟨rfl, rfl⟩) trivial ?_
    simp only [Act.put, List.getElem_toArray, List.getElem_cons_succ, List.getElem_cons_zero, List.setIfInBounds_toArray, List.set_cons_zero, List.set_cons_succ]
    refine wpAnyH_take (i := 10) (v := undef) rfl (by kernel_rfl) (by kernel_rfl) (by kernel_rfl) (fun _ _ _ h => h) (Or.inr ⟨rfl, rfl⟩) trivial ?_
    simp only [Act.put, List.getElem_toArray, List.getElem_cons_succ, List.getElem_cons_zero, List.setIfInBounds_toArray, List.set_cons_zero, List.set_cons_succ]
    refine wpAnyH_take (i := 11) (v := .bool false) rfl (by kernel_rfl) (by kernel_rfl) (by kernel_rfl) (fun _ _ _ h => h) (Or.inl ⟨by rfl, fun W hW => by go_simp⟩) trivial ?_
    simp only [Act.put, List.getElem_toArray, List.getElem_cons_succ, List.getElem_cons_zero, List.setIfInBounds_toArray, List.set_cons_zero, List.set_cons_succ]
    refine wpAnyH_ready (rs := [12]) (by kernel_rfl) (by simp) ?_
    refine AllReadyH.cons rfl (fun K hK => ?_) AllReadyH.nil
    go_simp
    refine hK.out _ _ trivial (fun _ => ?_)
    clear hK K
    refine wpAnyH_ready (rs := [13]) (by kernel_rfl) (by simp) ?_
    refine AllReadyH.cons rfl (fun K hK => ?_) AllReadyH.nil
    refine step_append_own rfl _ _ 143 rfl base 4 i0 (.bool false) 1 1 Tryz.underlying143 hi hz0 hz1 hz2 rfl (by decide) _ _ _ rfl (by exact h2.brs.alloc _) ⟨W0.heap.size, 0, none⟩ 1 1 [.bool false] rfl rfl (one_new W0.drew _ _) (by intro u hu; simp at hu; subst hu; rfl) (by unfold maxLen; omega) (by omega) (by simp; omega) (fun v5 w5 hown5 hg5 => ?_)
    obtain ⟨a5, c5, rfl, _⟩ := own_slice hown5
    have hg6 : W0.drew.grownBy w5 (Value.slice ab br.length cb).ownBlock := grownBy_trans' (World.grownBy_alloc _ _ _) hg5
    have k1 := h2.setB (br' := false :: br) hg6 (by rw [List.length_cons, List.reverse_cons, List.map_append]; exact hown5)
    have d1 := (k1.2.cell 1).trans rfl
    have f1 := k1.2.fro 1
    have hB6 : Fr base D W0.drew w5 := (Fr.refl base D W0.drew).grown hg6 h2.brs (.inr rfl) hb0 (Nat.le_refl _)
    refine hK.out _ _ trivial (fun _ => ?_)
    clear hK K
    refine wpAnyH_take (i := 14) (v := .pointer (some ⟨D, 0, none⟩)) rfl (by kernel_rfl) (by kernel_rfl) (by kernel_rfl) (fun _ _ _ h => h) (Or.inl ⟨by rfl, fun W hW => by go_simp⟩) trivial ?_
    simp only [Act.put, List.getElem_toArray, List.getElem_cons_succ, List.getElem_cons_zero, List.setIfInBounds_toArray, List.set_cons_zero, List.set_cons_succ]
    refine wpAnyH_take (i := 15) (v := .pointer (some ⟨D, 1, none⟩)) rfl (by kernel_rfl) (by kernel_rfl) (by kernel_rfl) (fun _ _ _ h => h) (Or.inl ⟨by rfl, fun W hW => by go_simp⟩) trivial ?_
    simp only [Act.put, List.getElem_toArray, List.getElem_cons_succ, List.getElem_cons_zero, List.setIfInBounds_toArray, List.set_cons_zero, List.set_cons_succ]
    refine wpAnyH_ready (rs := [16]) (by kernel_rfl) (by simp) ?_
    refine AllReadyH.cons rfl (fun K hK => ?_) AllReadyH.nil
    go_simp
    refine hK.out _ _ trivial (fun _ => ?_)
    clear hK K
    refine wpAnyH_done (by kernel_rfl) ?_ _
    go_wp2
    go_end0
    exact StP.ok rfl k1.1 (HB.out.drew.trans (hB6.setD HD 1 _))
  · go_simp
    go_wp2_with (go_at_call 146; refine hsk.mono ?_; rintro e w9 ⟨rfl, rfl⟩)
    refine hK.out _ _ trivial (fun _ => ?_)
    clear hK K
    refine wpAnyH_take (i := 7) (v := .bool false) rfl (by kernel_rfl) (by kernel_rfl) (by kernel_rfl) (fun _ _ _ h => h) (Or.inl ⟨by rfl, fun W hW => by go_simp⟩) trivial ?_
    simp only [Act.put, List.getElem_toArray, List.getElem_cons_succ, List.getElem_cons_zero, List.setIfInBounds_toArray, List.set_cons_zero, List.set_cons_succ]
    refine wpAnyH_take (i := 8) (v := .bool false) rfl (by kernel_rfl) (by kernel_rfl) (by kernel_rfl) (fun _ _ _ h => h) (Or.inl ⟨by rfl, fun W hW => by go_simp⟩) trivial ?_
    simp only [Act.put, List.getElem_toArray, List.getElem_cons_succ, List.getElem_cons_zero, List.setIfInBounds_toArray, List.set_cons_zero, List.set_cons_succ]
    refine wpAnyH_take (i := 9) (v := undef) rfl (by kernel_rfl) (by kernel_rfl) (by kernel_rfl) (fun _ _ _ h => h) (Or.inr ⟨rfl, rfl⟩) trivial ?_
    simp only [Act.put, List.getElem_toArray, List.getElem_cons_succ, List.getElem_cons_zero, List.setIfInBounds_toArray, List.set_cons_zero, List.set_cons_succ]
    refine wpAnyH_take (i := 10) (v := undef) rfl (by kernel_rfl) (by kernel_rfl) (by kernel_rfl) (fun _ _ _ h => h) (Or.inr ⟨rfl, rfl⟩) trivial ?_
    simp only [Act.put, List.getElem_toArray, List.getElem_cons_succ, List.getElem_cons_zero, List.setIfInBounds_toArray, List.set_cons_zero, List.set_cons_succ]
    refine wpAnyH_take (i := 11) (v := .bool false) rfl (by kernel_rfl) (by kernel_rfl) (by kernel_rfl) (fun _ _ _ h => h) (Or.inl ⟨by rfl, fun W hW => by go_simp⟩) trivial ?_
    simp only [Act.put, List.getElem_toArray, List.getElem_cons_succ, List.getElem_cons_zero, List.setIfInBounds_toArray, List.set_cons_zero, List.set_cons_succ]
    refine wpAnyH_ready (rs := [4, 12]) (by kernel_rfl) (by simp) ?_
    refine AllReadyH.cons rfl (fun K hK => ?_) (AllReadyH.cons rfl (fun K hK => ?_) AllReadyH.nil)
    · go_simp
      refine hK.out _ _ trivial (fun _ => ?_)
      clear hK K
      refine wpAnyH_ready (rs := [12]) (by kernel_rfl) (by simp) ?_
      refine AllReadyH.cons rfl (fun K hK => ?_) AllReadyH.nil
      go_simp
      refine hK.out _ _ trivial (fun _ => ?_)
      clear hK K
      refine wpAnyH_ready (rs := [13]) (by kernel_rfl) (by simp) ?_
      refine AllReadyH.cons rfl (fun K hK => ?_) AllReadyH.nil
      refine step_append_own rfl _ _ 143 rfl base 4 i0 (.bool false) 1 1 Tryz.underlying143 hi hz0 hz1 hz2 rfl (by decide) _ _ _ rfl (by exact h2.brs.alloc _) ⟨W0.heap.size, 0, none⟩ 1 1 [.bool false] rfl rfl (one_new W0.drew _ _) (by intro u hu; simp at hu; subst hu; rfl) (by unfold maxLen; omega) (by omega) (by simp; omega) (fun v5 w5 hown5 hg5 => ?_)
      obtain ⟨a5, c5, rfl, _⟩ := own_slice hown5
      have hg6 : W0.drew.grownBy w5 (Value.slice ab br.length cb).ownBlock := grownBy_trans' (World.grownBy_alloc _ _ _) hg5
      have k1 := h2.setB (br' := false :: br) hg6 (by rw [List.length_cons, List.reverse_cons, List.map_append]; exact hown5)
      have d1 := (k1.2.cell 1).trans rfl
      have f1 := k1.2.fro 1
      have hB6 : Fr base D W0.drew w5 := (Fr.refl base D W0.drew).grown hg6 h2.brs (.inr rfl) hb0 (Nat.le_refl _)
      refine hK.out _ _ trivial (fun _ => ?_)
      clear hK K
      refine wpAnyH_take (i := 14) (v := .pointer (some ⟨D, 0, none⟩)) rfl (by kernel_rfl) (by kernel_rfl) (by kernel_rfl) (fun _ _ _ h => h) (Or.inl ⟨by rfl, fun W hW => by go_simp⟩) trivial ?_
      simp only [Act.put, List.getElem_toArray, List.getElem_cons_succ, List.getElem_cons_zero, List.setIfInBounds_toArray, List.set_cons_zero, List.set_cons_succ]
      refine wpAnyH_take (i := 15) (v := .pointer (some ⟨D, 1, none⟩)) rfl (by kernel_rfl) (by kernel_rfl) (by kernel_rfl) (fun _ _ _ h => h) (Or.inl ⟨by rfl, fun W hW => by go_simp⟩) trivial ?_
      simp only [Act.put, List.getElem_toArray, List.getElem_cons_succ, List.getElem_cons_zero, List.setIfInBounds_toArray, List.set_cons_zero, List.set_cons_succ]
      refine wpAnyH_ready (rs := [16]) (by kernel_rfl) (by simp) ?_
      refine AllReadyH.cons rfl (fun K hK => ?_) AllReadyH.nil
      go_simp
      refine hK.out _ _ trivial (fun _ => ?_)
      clear hK K
      refine wpAnyH_done (by kernel_rfl) ?_ _
      go_wp2
      go_end0
      exact StP.ok rfl k1.1 (HB.out.drew.trans (hB6.setD HD 1 _))
    · go_simp
      refine hK.out _ _ trivial (fun _ => ?_)
      clear hK K
      refine wpAnyH_ready (rs := [4]) (by kernel_rfl) (by simp) ?_
      refine AllReadyH.cons rfl (fun K hK => ?_) AllReadyH.nil
      go_simp
      refine hK.out _ _ trivial (fun _ => ?_)
      clear hK K
      refine wpAnyH_ready (rs := [13]) (by kernel_rfl) (by simp) ?_
      refine AllReadyH.cons rfl (fun K hK => ?_) AllReadyH.nil
      refine step_append_own rfl _ _ 143 rfl base 4 i0 (.bool false) 1 1 Tryz.underlying143 hi hz0 hz1 hz2 rfl (by decide) _ _ _ rfl (by exact h2.brs.alloc _) ⟨W0.heap.size, 0, none⟩ 1 1 [.bool false] rfl rfl (one_new W0.drew _ _) (by intro u hu; simp at hu; subst hu; rfl) (by unfold maxLen; omega) (by omega) (by simp; omega) (fun v5 w5 hown5 hg5 => ?_)
      obtain ⟨a5, c5, rfl, _⟩ := own_slice hown5
      have hg6 : W0.drew.grownBy w5 (Value.slice ab br.length cb).ownBlock := grownBy_trans' (World.grownBy_alloc _ _ _) hg5
      have k1 := h2.setB (br' := false :: br) hg6 (by rw [List.length_cons, List.reverse_cons, List.map_append]; exact hown5)
      have d1 := (k1.2.cell 1).trans rfl
      have f1 := k1.2.fro 1
      have hB6 : Fr base D W0.drew w5 := (Fr.refl base D W0.drew).grown hg6 h2.brs (.inr rfl) hb0 (Nat.le_refl _)
      refine hK.out _ _ trivial (fun _ => ?_)
      clear hK K
      refine wpAnyH_take (i := 14) (v := .pointer (some ⟨D, 0, none⟩)) rfl (by kernel_rfl) (by kernel_rfl) (by kernel_rfl) (fun _ _ _ h => h) (Or.inl ⟨by rfl, fun W hW => by go_simp⟩) trivial ?_
      simp only [Act.put, List.getElem_toArray, List.getElem_cons_succ, List.getElem_cons_zero, List.setIfInBounds_toArray, List.set_cons_zero, List.set_cons_succ]
      refine wpAnyH_take (i := 15) (v := .pointer (some ⟨D, 1, none⟩)) rfl (by kernel_rfl) (by kernel_rfl) (by kernel_rfl) (fun _ _ _ h => h) (Or.inl ⟨by rfl, fun W hW => by go_simp⟩) trivial ?_
      simp only [Act.put, List.getElem_toArray, List.getElem_cons_succ, List.getElem_cons_zero, List.setIfInBounds_toArray, List.set_cons_zero, List.set_cons_succ]
      refine wpAnyH_ready (rs := [16]) (by kernel_rfl) (by simp) ?_
      refine AllReadyH.cons rfl (fun K hK => ?_) AllReadyH.nil
      go_simp
      refine hK.out _ _ trivial (fun _ => ?_)
      clear hK K
      refine wpAnyH_done (by kernel_rfl) ?_ _
      go_wp2
      go_end0
      exact StP.ok rfl k1.1 (HB.out.drew.trans (hB6.setD HD 1 _))
end Go.Proofs.YtoocibabceeagabGreat

/-
  The machine of the program: the table of its steps; a run.
-/
namespace Go.Proofs.YtoocibabceeagabGreat
open Go.RowKit

def Vm.fnum (k : Nat) : Nat := [172, 174, 175, 177, 178, 179, 182, 183, 184, 185, 187, 188, 189, 190, 191].getD k 0
def Vm.tab : Array Value := #[.func (Fn.func 172) #[] #[], .func (Fn.func 174) #[] #[], .func (Fn.func 175) #[] #[], .func (Fn.func 177) #[] #[], .func (Fn.func 178) #[] #[], .func (Fn.func 179) #[] #[], .func (Fn.func 182) #[] #[], .func (Fn.func 183) #[] #[], .func (Fn.func 184) #[] #[], .func (Fn.func 185) #[] #[], .func (Fn.func 187) #[] #[], .func (Fn.func 188) #[] #[], .func (Fn.func 189) #[] #[], .func (Fn.func 190) #[] #[], .func (Fn.func 191) #[] #[]]
theorem Vm.tab_get (k : Nat) (h : k < 15) : Vm.tab[k]? = some (.func (Fn.func (Vm.fnum k)) #[] #[]) := by
  rcases k with _ | _ | _ | _ | _ | _ | _ | _ | _ | _ | _ | _ | _ | _ | _ | k
  all_goals first | rfl | omega
theorem enters_step (k : Nat) (h : k < 15) : ∀ args w, (callFunc (Vm.fnum k) args).run Tryz.prog w = .ok (.enter (Vm.fnum k) args) w := by
  rcases k with _ | _ | _ | _ | _ | _ | _ | _ | _ | _ | _ | _ | _ | _ | _ | k
  · exact enters_of Tryz.func172 (by kernel_rfl) rfl
  · exact enters_of Tryz.func174 (by kernel_rfl) rfl
  · exact enters_of Tryz.func175 (by kernel_rfl) rfl
  · exact enters_of Tryz.func177 (by kernel_rfl) rfl
  · exact enters_of Tryz.func178 (by kernel_rfl) rfl
  · exact enters_of Tryz.func179 (by kernel_rfl) rfl
  · exact enters_of Tryz.func182 (by kernel_rfl) rfl
  · exact enters_of Tryz.func183 (by kernel_rfl) rfl
  · exact enters_of Tryz.func184 (by kernel_rfl) rfl
  · exact enters_of Tryz.func185 (by kernel_rfl) rfl
  · exact enters_of Tryz.func187 (by kernel_rfl) rfl
  · exact enters_of Tryz.func188 (by kernel_rfl) rfl
  · exact enters_of Tryz.func189 (by kernel_rfl) rfl
  · exact enters_of Tryz.func190 (by kernel_rfl) rfl
  · exact enters_of Tryz.func191 (by kernel_rfl) rfl
  · omega
set_option maxRecDepth 100000 in
set_option maxHeartbeats 1600000 in
theorem stepsOfCodes_any (w : World) : Calls Tryz.prog 145 #[] w fun e w' => e = .returned (.agg Vm.tab) ∧ Below w.heap.size w w' := by
  have hb : Below w.heap.size w (w.alloc (.cells Vm.tab 165 (0, 0))) := (Below.refl _ _).alloc (Nat.le_refl _) _
  have hX : Bk w.heap.size 165 Vm.tab (w.alloc (.cells Vm.tab 165 (0, 0))) := Bk.new _ _ _
  have HX := Lib.hid hX
  have HB := Lib.hid hb
  clear hX hb
  go_enter Tryz.func145, Tryz.ntmps145
  go_wp2
  refine bodyPost_ret (results_cell_row (P := Tryz.prog) rfl _ _ w.heap.size 165 Vm.tab (0, 0) _ rfl HX.out.held Tryz.underlying165 rfl (by kernel_rfl)) rfl ?_
  exact ⟨rfl, HB.out⟩
/-- What the operation does, whichever it is. -/
def Vm.exec (E : Vm) (x : Jo) (s : List ByteArray) (br : List Bool) : Except Int (List ByteArray × List Bool) := if 6 ≤ x.c ∧ x.c ≤ 8 then Vm.cond x.c s br else Vm.fin br (Vm.act E x s)
theorem Vm.step_exec {E : Vm} {x : Jo} {s : List ByteArray} {br : List Bool} (h : (6 ≤ x.c ∧ x.c ≤ 8) ∨ Vm.live br = true) : Vm.step E x s br = Vm.exec E x s br := by
  unfold Vm.step Vm.exec
  by_cases hc : 6 ≤ x.c ∧ x.c ≤ 8
  · rw [if_pos hc, if_pos hc]
  · rw [if_neg hc, if_neg hc, if_pos (h.resolve_left hc)]
    cases Vm.act E x s <;> rfl
theorem Vm.step_skip {E : Vm} {x : Jo} {s : List ByteArray} {br : List Bool} (h : ¬ (6 ≤ x.c ∧ x.c ≤ 8)) (h2 : Vm.live br = false) : Vm.step E x s br = .ok (s, br) := by
  unfold Vm.step
  rw [if_neg h, h2]
  rfl
theorem stepAny (k : Nat) (hk : k < 15) (base D : Nat) (E : Vm) (x : Jo) (s : List ByteArray) (br : List Bool) (w : World) (h : MPs base D E s br w) (hb : base ≤ w.heap.size) (hs : Vm.fits s) (hc : x.c = (k : Int)) (hf : Jo.fld x = true) (hbr : br.length ≤ 4) (hne : x.c = 7 ∨ x.c = 8 → br ≠ []) (ht : E.t.size ≤ 1048576) :
    Calls Tryz.prog (Vm.fnum k) #[.pointer (some ⟨D, 0, none⟩), x.val] w (StP base D E (Vm.exec E x s br) w) := by
  unfold Vm.exec
  rcases k with _ | _ | _ | _ | _ | _ | _ | _ | _ | _ | _ | _ | _ | _ | _ | k
  · rw [if_neg (by rw [hc]; decide)]
    exact op0_any base D E x s br w h hb hs hc
  · rw [if_neg (by rw [hc]; decide)]
    exact op1_any base D E x s br w h hb hs hc
  · rw [if_neg (by rw [hc]; decide)]
    exact op2_any base D E x s br w h hb hs hc
  · rw [if_neg (by rw [hc]; decide)]
    exact op3_any base D E x s br w h hb hs hc
  · rw [if_neg (by rw [hc]; decide)]
    exact op4_any base D E x s br w h hb hs hc
  · rw [if_neg (by rw [hc]; decide)]
    exact op5_any base D E x s br w h hb hs hc
  · rw [if_pos (by rw [hc]; decide)]
    cases hl : Vm.live br
    · exact op6_skip base D E x s br w h hb hc hbr hl
    · exact op6_live base D E x s br w h hb hs hc hbr hl
  · rw [if_pos (by rw [hc]; decide)]
    exact op7_any base D E x s br w h hb hc hbr (hne (by rw [hc]; decide))
  · rw [if_pos (by rw [hc]; decide)]
    exact op8_any base D E x s br w h hb hc hbr (hne (by rw [hc]; decide))
  · rw [if_neg (by rw [hc]; decide)]
    exact op9_any base D E x s br w h hb hs hc
  · rw [if_neg (by rw [hc]; decide)]
    exact op10_any base D E x s br w h hb hs hc
  · rw [if_neg (by rw [hc]; decide)]
    exact op11_any base D E x s br w h hb hs hc ht
  · rw [if_neg (by rw [hc]; decide)]
    exact op12_any base D E x s br w h hb hs hc hf ht
  · rw [if_neg (by rw [hc]; decide)]
    exact op13_any base D E x s br w h hb hs hc
  · rw [if_neg (by rw [hc]; decide)]
    exact op14_any base D E x s br w h hb hs hc
  · omega

/-! ### the deferred closure -/
set_option maxRecDepth 100000 in
theorem catch_panicking (B : Nat) (x c : Int) (w : World) (hX : Bk B 3 #[.int .i64 x] w) :
    CallsD Tryz.prog 144 #[.pointer (some ⟨B, 0, none⟩)] (.panicking [{ v := .iface 161 (.agg #[.int .i64 c]), recovered := false }]) w fun e u' w' =>
      e = .returned (.tuple #[]) ∧ u' = .panicking [{ v := .iface 161 (.agg #[.int .i64 c]), recovered := true }] ∧ w' = (w.alloc (.cells #[.int .i64 c] 161 (0, 0))).setCell ⟨B, 0, none⟩ (.int .i64 c) := by
  have hta : ∀ w : World, (Instr.typeAssert (.iface 161 (.agg #[.int .i64 c])) 20 161 true).run Tryz.prog w = .ok (.tuple #[.agg #[.int .i64 c], .bool true]) w := fun _ => by kernel_rfl
  have hY := hX.alloc (.cells #[.int .i64 c] 161 (0, 0))
  have hN : Bk w.heap.size 161 #[.int .i64 c] (w.alloc (.cells #[.int .i64 c] 161 (0, 0))) := Bk.new _ _ _
  have y0 := (hY.cell 0).trans rfl
  have yf := hY.fro 0
  have n0 := (hN.cell 0).trans rfl
  refine callsD_of_wpS Tryz.func144 rfl fun c₀ cs hu => ?_
  apply wpS_seq
  apply wpS_region
  simp [wpOpsS, go_sem, recoverD, hu, Tryz.ntmps144, Exit.thenS, hta]
  apply wpS_seq
  apply wpS_region
  simp [wpOpsS, go_sem, Exit.thenS]
  refine wpS_cond (t := true) (by simp [Act.eval, Array.replicate]) ?_
  simp only [if_true]
  apply wpS_region
  simp [wpOpsS, go_sem, y0, yf, bodyPostS, results, Tryz.results144]
set_option maxRecDepth 100000 in
theorem catch_idle (B : Nat) (w : World) :
    CallsD Tryz.prog 144 #[.pointer (some ⟨B, 0, none⟩)] .returning w fun e u' w' => e = .returned (.tuple #[]) ∧ u' = .returning ∧ w' = w.alloc (.cells #[.int .i64 0] 161 (0, 0)) := by
  have hta : ∀ w : World, (Instr.typeAssert .nilIface 20 161 true).run Tryz.prog w = .ok (.tuple #[.agg #[.int .i64 0], .bool false]) w := fun _ => by kernel_rfl
  refine callsD_of_wpS Tryz.func144 rfl fun c₀ cs hu => ?_
  apply wpS_seq
  apply wpS_region
  simp [wpOpsS, go_sem, recoverD, hu, Tryz.ntmps144, Exit.thenS, hta]
  apply wpS_seq
  apply wpS_region
  simp [wpOpsS, go_sem, Exit.thenS]
  refine wpS_cond (t := false) (by simp [Act.eval, Array.replicate]) ?_
  simp only [Bool.false_eq_true, if_false]
  refine wpS_of_wp (wp_skip ?_)
  cases c₀
  simp_all [bodyPostS, results, Tryz.results144]
theorem wp_toPanic {P : Program} {c : Code} {Q : Exit → Act → World → Prop} {a : Act} {w : World} (G : List PanicEntry → Act → World → Prop)
    (h1 : c.wp P (fun e a' w' => match e with | .panic ch => G ch a' w' | _ => False) a w) (h2 : ∀ ch a' w', G ch a' w' → Q (.panic ch) a' w') : c.wp P Q a w :=
  Code.wp_mono (fun e a' w' h => by cases e <;> first | exact (h : False).elim | exact h2 _ _ _ h) h1
theorem put_far (a : Act) (k j : Nat) (v : Value) (h : k ≠ j) : (a.put (some k) v).tmps.getD j undef = a.tmps.getD j undef := by
  unfold Act.put
  simp [Array.getD_eq_getD_getElem?, Array.getElem?_setIfInBounds_ne h]
theorem MPs.other {base D X : Nat} {E : Vm} {s : List ByteArray} {br : List Bool} {w : World} {t : TypeId} {cs : Array Value} (h : MPs base D E s br w) (hX : Bk X t cs w) (h1 : t ≠ 9) (h2 : t ≠ 4) (hD : X ≠ D) (i : Nat) (v : Value) : MPs base D E s br (w.setCell ⟨X, i, none⟩ v) := by
  obtain ⟨vi, vb, h⟩ := h
  exact ⟨vi, vb, h.hD, h.blk.oset X i v (fun e => hD e.symm), own_set h.its X i v (own_type h.its h1 hX.held), own_set h.brs X i v (own_type h.brs h2 hX.held)⟩
theorem MPs.below {base D : Nat} {E : Vm} {s : List ByteArray} {br : List Bool} {w w' : World} (h : MPs base D E s br w) (hb : Below w.heap.size w w') : MPs base D E s br w' := by
  obtain ⟨vi, vb, h⟩ := h
  exact ⟨vi, vb, h.below hb⟩
theorem MPs.alloc {base D : Nat} {E : Vm} {s : List ByteArray} {br : List Bool} {w : World} (h : MPs base D E s br w) (o : Obj) : MPs base D E s br (w.alloc o) := h.below ((Below.refl _ _).alloc (Nat.le_refl _) o)
theorem Vm.go_next {E : Vm} {x : Jo} {l : List Jo} {s : List ByteArray} {br : List Bool} {m R} (h : Vm.go E (x :: l) s br = R) (hs : Vm.step E x s br = .ok m) : Vm.go E l m.1 m.2 = R := by
  unfold Vm.go at h
  rw [hs] at h
  exact h
theorem Vm.go_stop {E : Vm} {x : Jo} {l : List Jo} {s : List ByteArray} {br : List Bool} {c : Int} {R} (h : Vm.go E (x :: l) s br = R) (hs : Vm.step E x s br = .error c) : R = .error c := by
  unfold Vm.go at h
  rw [hs] at h
  exact h.symm
theorem Jo.nest_next {st : List Bool} {x : Jo} {l : List Jo} (h : Jo.nest st (x :: l) = some []) : ∃ st2, Jo.step st x.c = some st2 ∧ Jo.nest st2 l = some [] := by
  unfold Jo.nest at h
  cases hs : Jo.step st x.c with
  | none => rw [hs] at h; cases h
  | some s2 => rw [hs] at h; exact ⟨s2, rfl, h⟩
theorem Jo.step_ne {st st2 : List Bool} {c : Int} (h : Jo.step st c = some st2) (hc : c = 7 ∨ c = 8) : st ≠ [] := by
  intro e
  subst e
  unfold Jo.step at h
  rcases hc with rfl | rfl <;> simp at h
theorem Jo.drop_at {l : List Jo} {j : Nat} (h : j < l.length) : l.drop j = Jo.at_ l j :: l.drop (j + 1) := by
  rw [List.drop_eq_getElem_cons h]
  congr 1
  exact Option.some.inj ((List.getElem?_eq_getElem h).symm.trans (Jo.at_get h))
/-- What a run leaves. -/
def RnP (base D : Nat) (E : Vm) (r : Except Int (List ByteArray × List Bool)) (w : World) (e : Ending) (w' : World) : Prop := match r with
  | .ok m => e = .returned (.int .i64 0) ∧ MPs base D E m.1 m.2 w' ∧ Below base w w'
  | .error c => e = .returned (.int .i64 c) ∧ Below base w w'
set_option maxRecDepth 100000 in
set_option maxHeartbeats 6400000 in
theorem run_any (base D : Nat) (E : Vm) (a : Option Addr) (len cap : Nat) (l : List Jo) (s : List ByteArray) (w : World) (h : MPs base D E s [] w) (hb : base ≤ w.heap.size) (hs : Vm.fits s) (ho : OL w a len l) (hob : ∀ b off, 0 < len → a = some ⟨b, off, none⟩ → b < base) (hok : Jo.ok l = true) (ht : E.t.size ≤ 1048576) :
    Calls Tryz.prog 106 #[.pointer (some ⟨D, 0, none⟩), .slice a len cap] w (RnP base D E (Vm.go E l s []) w) := by
  have hmf : ∀ (fn : Fn) (first cap : Array Value) (w : World), (Instr.makeFunc fn first cap).run Tryz.prog w = .ok (.func fn first cap) w := fun _ _ _ _ => rfl
  obtain ⟨hl40, hfl, hnest⟩ := (Jo.ok_iff l).1 hok
  have hlen := ho.1
  obtain ⟨R, HR⟩ : ∃ R, Hid (Vm.go E l s [] = R) := ⟨_, Lib.hid rfl⟩
  rw [HR.out]
  have hC : Bk w.heap.size 3 #[.int .i64 1] (w.alloc (.cells #[.int .i64 1] 3 (0, 0))) := Bk.new _ _ _
  have hf0 : Fr base D w (w.alloc (.cells #[.int .i64 1] 3 (0, 0))) := (Fr.refl base D w).alloc hb _
  obtain ⟨vi, vb, hM⟩ := h
  have hM0 := hM.alloc (.cells #[.int .i64 1] 3 (0, 0))
  have hDlt := hM.blk.lt
  clear hM
  go_enter_defers Tryz.func106, Tryz.ntmps106
  go_wp2_with fail
  have hsc := stepsOfCodes_any (w.alloc (.cells #[.int .i64 1] 3 (0, 0)))
  unfold Vm.tab at hsc
  refine hsc.mono ?_
  rintro e w1 ⟨rfl, hb1⟩
  have hM1 := hM0.below hb1
  have hC1 := hC.below hb1
  have hf1 := hf0.trans (Fr.of (Nat.le_trans hb hf0.size) hb1)
  have hb1' := Nat.le_trans hb hf1.size
  have hM2 := hM1.alloc (.cells Vm.tab 165 (0, 0))
  have hC2 := hC1.alloc (.cells Vm.tab 165 (0, 0))
  have hf2 := hf1.alloc hb1' (.cells Vm.tab 165 (0, 0))
  have hT2 : Bk w1.heap.size 165 Vm.tab (w1.alloc (.cells Vm.tab 165 (0, 0))) := Bk.new _ _ _
  obtain ⟨CB, HCB⟩ : ∃ CB, Hid (w.heap.size = CB) := ⟨_, Lib.hid rfl⟩
  obtain ⟨T0, HT0⟩ : ∃ T0, Hid (w1.heap.size = T0) := ⟨_, Lib.hid rfl⟩
  have hCD : CB ≠ D := by rw [← HCB.out]; omega
  have hTD : T0 ≠ D := by rw [← HT0.out]; have := hM1.blk.lt; omega
  obtain ⟨W2, HW⟩ : ∃ W2, Hid (w1.alloc (.cells Vm.tab 165 (0, 0)) = W2) := ⟨_, Lib.hid rfl⟩
  rw [HW.out] at hM2 hC2 hf2 hT2
  rw [HCB.out] at hC2
  rw [HT0.out] at hT2
  unfold Vm.tab at HW
  clear hM0 hC hf0 hM1 hC1 hf1 hb1 hb1' hsc
  have HM := Lib.hid (show MPs base D E s [] W2 from ⟨vi, vb, hM2⟩)
  have HC := Lib.hid hC2
  have HF := Lib.hid hf2
  have HT := Lib.hid hT2
  clear hM2 hC2 hf2 hT2
  go_wp2
  rw [HW.out, HCB.out, HT0.out]
  clear HW
  go_loopw [7, 12] (fun _ i wr => ∃ (j : Nat) (s' : List ByteArray) (br' : List Bool), j ≤ len ∧ i = .int .i64 (j : Int) ∧ MPs base D E s' br' wr ∧ Vm.fits s' ∧ Vm.go E (l.drop j) s' br' = R ∧ (∃ st, Jo.nest st (l.drop j) = some [] ∧ st.length = br'.length ∧ st.length ≤ 4) ∧ Fr base D w wr ∧ Bk CB 3 #[.int .i64 1] wr ∧ Bk T0 165 Vm.tab wr)
    (fun _ i _ => len - (intOf i).toNat)
  case atStart => exact ⟨0, s, [], by omega, rfl, HM.out, hs, HR.out, ⟨[], hnest, rfl, by simp⟩, HF.out, HC.out, HT.out⟩
  case round =>
    obtain ⟨j, s', br', hj, rfl, hMr, hsr, hgo, hst, hfr, hCr, hTr⟩ := hrel
    have hbr : base ≤ wr.heap.size := Nat.le_trans hb hfr.size
    by_cases hlt : j < len
    · obtain ⟨b, off, ha, _, hc⟩ := ho.2 (by omega)
      have hbb := hob b off (by omega) ha
      subst ha
      obtain ⟨e0, e1, e2, e3⟩ := hc j hlt
      have r0 := (hfr.bel.cell (p := ⟨b, off + j * 4, none⟩) hbb).trans e0
      have r1 := (hfr.bel.cell (p := ⟨b, off + j * 4 + 1, none⟩) hbb).trans e1
      have r2 := (hfr.bel.cell (p := ⟨b, off + j * 4 + 2, none⟩) hbb).trans e2
      have r3 := (hfr.bel.cell (p := ⟨b, off + j * 4 + 3, none⟩) hbb).trans e3
      have hjl : j < l.length := by omega
      have hx : Jo.fld (Jo.at_ l j) = true := hfl _ (List.mem_of_getElem? (Jo.at_get hjl))
      rw [Jo.drop_at hjl] at hgo hst
      obtain ⟨x, HX⟩ : ∃ x, Hid (Jo.at_ l j = x) := ⟨_, Lib.hid rfl⟩
      rw [HX.out] at r0 r1 r2 r3 hx hgo hst
      obtain ⟨st, hst1, hst2, hst3⟩ := hst
      obtain ⟨st2, hn1, hn2⟩ := Jo.nest_next hst1
      obtain ⟨C, A, B, t⟩ := x
      have hC14 : 0 ≤ C ∧ C ≤ 14 := by
        unfold Jo.fld at hx
        simp only [Bool.and_eq_true, decide_eq_true_eq] at hx
        exact hx.1
      obtain ⟨k, rfl⟩ := Int.eq_ofNat_of_zero_le hC14.1
      have hk : k < 15 := by omega
      have hk9 : ¬ (15 ≤ (k : Int)) := by omega
      have hne : (k : Int) = 7 ∨ (k : Int) = 8 → br' ≠ [] := fun h e => Jo.step_ne hn1 h (List.eq_nil_of_length_eq_zero (by rw [hst2, e]; rfl))
      have hMlt : D < wr.heap.size := by obtain ⟨_, _, h⟩ := hMr; exact h.blk.lt
      have hM3 := hMr.alloc (.cells #[.int .i64 k, .int .i64 A, .int .i64 B, .string t] 77 (0, 0))
      have hC3 := hCr.alloc (.cells #[.int .i64 k, .int .i64 A, .int .i64 B, .string t] 77 (0, 0))
      have hT3 := hTr.alloc (.cells #[.int .i64 k, .int .i64 A, .int .i64 B, .string t] 77 (0, 0))
      have hf3 := hfr.alloc hbr (.cells #[.int .i64 k, .int .i64 A, .int .i64 B, .string t] 77 (0, 0))
      have hO3 : Bk wr.heap.size 77 #[.int .i64 k, .int .i64 A, .int .i64 B, .string t] (wr.alloc (.cells #[.int .i64 k, .int .i64 A, .int .i64 B, .string t] 77 (0, 0))) := Bk.new _ _ _
      have hskp := fun (vi vb : Value) (h : MP base D vi vb E s' br' (wr.alloc (.cells #[.int .i64 k, .int .i64 A, .int .i64 B, .string t] 77 (0, 0)))) => isSkipping_any base D vi vb E s' br' _ h (by omega)
      have hsk : Calls Tryz.prog 146 #[.pointer (some ⟨D, 0, none⟩)] (wr.alloc (.cells #[.int .i64 k, .int .i64 A, .int .i64 B, .string t] 77 (0, 0))) fun e w' => e = .returned (.bool (!Vm.live br')) ∧ w' = (wr.alloc (.cells #[.int .i64 k, .int .i64 A, .int .i64 B, .string t] 77 (0, 0))) := by
        obtain ⟨vi, vb, h⟩ := hM3
        exact hskp vi vb h
      have hioc := isOfCondition_any ⟨k, A, B, t⟩ (wr.alloc (.cells #[.int .i64 k, .int .i64 A, .int .i64 B, .string t] 77 (0, 0)))
      have hstep := fun (V : World) (hV : MPs base D E s' br' V) (hbV : base ≤ V.heap.size) => stepAny k hk base D E ⟨k, A, B, t⟩ s' br' V hV hbV hsr rfl hx (by omega) hne ht
      obtain ⟨F, HF9⟩ : ∃ F, Hid (Vm.fnum k = F) := ⟨_, Lib.hid rfl⟩
      have hen := enters_step k hk
      have htg := Vm.tab_get k hk
      rw [HF9.out] at hstep hen htg
      have HNX := Lib.hid (fun (m : List ByteArray × List Bool) (h : Vm.step E ⟨k, A, B, t⟩ s' br' = .ok m) => Vm.step_nest (E := E) (s := s') (br := br') (x := ⟨k, A, B, t⟩) hn1 hst2 h)
      have HFX := Lib.hid (fun (m : List ByteArray × List Bool) (h : Vm.step E ⟨k, A, B, t⟩ s' br' = .ok m) => Vm.step_fits (E := E) (s := s') (br := br') (m := m) (x := ⟨k, A, B, t⟩) hx hsr h)
      have HGO := Lib.hid hgo
      have HSL := Lib.hid (Jo.step_len hn1 hst3)
      have HN2 := Lib.hid hn2
      have HSN := Lib.hid (hst2)
      have HOB := Lib.hid ho
      have HOL := Lib.hid hob
      clear hc e0 e1 e2 e3 hx hst1 hn1 hn2 hne hgo hMr hCr hTr hskp ho hob hfl hnest hok hs HR HM HC HF HT hfr hst2 hst3 hC14
      cases hlv : Vm.live br'
      · rw [hlv] at hsk
        by_cases hcd : 6 ≤ (k : Int) ∧ (k : Int) ≤ 8
        · have hcq : decide (6 ≤ (k : Int) ∧ (k : Int) ≤ 8) = true := decide_eq_true hcd
          simp only [hcq] at hioc
          go_wp2_with fail
          refine hsk.mono ?_
          rintro e w4 ⟨rfl, rfl⟩
          go_wp2_with fail
          refine hioc.mono ?_
          rintro e w4 ⟨rfl, hb4⟩
          have hM4 := hM3.below hb4
          have hC4 := hC3.below hb4
          have hT4 := hT3.below hb4
          have hO4 := hO3.below hb4
          have hf4 := hf3.trans (Fr.of (Nat.le_trans hb hf3.size) hb4)
          go_wp2
          have hS0 : (fun W => W.cell? ⟨wr.heap.size, 0, none⟩ = some (.int .i64 (k : Int)) ∧ W.cell? ⟨wr.heap.size, 1, none⟩ = some (.int .i64 A) ∧ W.cell? ⟨wr.heap.size, 2, none⟩ = some (.int .i64 B) ∧ W.cell? ⟨wr.heap.size, 3, none⟩ = some (.string t) ∧ W.cell? ⟨T0, k, none⟩ = some (.func (Fn.func F) #[] #[])) w4.drew := ⟨(Bk.c4 hO4.drew).1, (Bk.c4 hO4.drew).2.1, (Bk.c4 hO4.drew).2.2.1, (Bk.c4 hO4.drew).2.2.2, (hT4.drew.cell k).trans htg⟩
          simp only at hS0
          have hbV : base ≤ w4.drew.heap.size := Nat.le_trans hb hf4.size
          have hstp := hstep w4.drew (hM4.below (Below.refl _ _).drew) hbV
          cases hex : Vm.exec E ⟨k, A, B, t⟩ s' br' with
          | error c =>
            rw [hex] at hstp
            have hRe := Vm.go_stop HGO.out ((Vm.step_exec (.inl hcd)).trans hex)
            subst hRe
            apply wp_toPanic (fun ch a' w' => a'.defers = [{ target := Target.fn (Fn.func 144) #[.pointer (some ⟨CB, 0, none⟩)], args := #[] }] ∧ a'.tmps.getD 4 undef = .pointer (some ⟨CB, 0, none⟩) ∧ ch = [Vm.pe c] ∧ Fr base D w4.drew w')
            case h1 =>
              refine wp_region_held_drew (S := fun W => W.cell? ⟨wr.heap.size, 0, none⟩ = some (.int .i64 (k : Int)) ∧ W.cell? ⟨wr.heap.size, 1, none⟩ = some (.int .i64 A) ∧ W.cell? ⟨wr.heap.size, 2, none⟩ = some (.int .i64 B) ∧ W.cell? ⟨wr.heap.size, 3, none⟩ = some (.string t) ∧ W.cell? ⟨T0, k, none⟩ = some (.func (Fn.func F) #[] #[])) (by kernel_rfl) hS0 (fun hH => ?_)
              refine wpAnyH_take (i := 0) (v := .pointer (some ⟨wr.heap.size, 0, none⟩)) rfl (by kernel_rfl) (by kernel_rfl) (by kernel_rfl) (fun _ _ _ h => ⟨h.1, (put_far _ _ 4 _ (by decide)).symm.trans h.2.1, h.2.2⟩) (Or.inl ⟨by rfl, fun W hW => by obtain ⟨y0, y1, y2, y3, y4⟩ := hW; go_simp⟩) (by assumption) ?_
              simp only [Act.put, List.getElem_toArray, List.getElem_cons_zero, List.setIfInBounds_toArray, List.set_cons_zero, List.set_cons_succ]
              refine wpAnyH_take (i := 1) (v := .int .i64 (k : Int)) rfl (by kernel_rfl) (by kernel_rfl) (by kernel_rfl) (fun _ _ _ h => ⟨h.1, (put_far _ _ 4 _ (by decide)).symm.trans h.2.1, h.2.2⟩) (Or.inl ⟨by rfl, fun W hW => by obtain ⟨y0, y1, y2, y3, y4⟩ := hW; go_simp⟩) (by assumption) ?_
              simp only [Act.put, List.getElem_toArray, List.getElem_cons_succ, List.getElem_cons_zero, List.setIfInBounds_toArray, List.set_cons_zero, List.set_cons_succ]
              refine wpAnyH_take (i := 2) (v := .pointer (some ⟨T0, k, none⟩)) rfl (by kernel_rfl) (by kernel_rfl) (by kernel_rfl) (fun _ _ _ h => ⟨h.1, (put_far _ _ 4 _ (by decide)).symm.trans h.2.1, h.2.2⟩) (Or.inl ⟨by rfl, fun W hW => by obtain ⟨y0, y1, y2, y3, y4⟩ := hW; go_simp⟩) (by assumption) ?_
              simp only [Act.put, List.getElem_toArray, List.getElem_cons_succ, List.getElem_cons_zero, List.setIfInBounds_toArray, List.set_cons_zero, List.set_cons_succ]
              refine wpAnyH_take (i := 3) (v := .func (Fn.func F) #[] #[]) rfl (by kernel_rfl) (by kernel_rfl) (by kernel_rfl) (fun _ _ _ h => ⟨h.1, (put_far _ _ 4 _ (by decide)).symm.trans h.2.1, h.2.2⟩) (Or.inl ⟨by rfl, fun W hW => by obtain ⟨y0, y1, y2, y3, y4⟩ := hW; go_simp⟩) (by assumption) ?_
              simp only [Act.put, List.getElem_toArray, List.getElem_cons_succ, List.getElem_cons_zero, List.setIfInBounds_toArray, List.set_cons_zero, List.set_cons_succ]
              refine wpAnyH_take (i := 4) (v := .pointer (some ⟨D, 0, none⟩)) rfl (by kernel_rfl) (by kernel_rfl) (by kernel_rfl) (fun _ _ _ h => ⟨h.1, (put_far _ _ 4 _ (by decide)).symm.trans h.2.1, h.2.2⟩) (Or.inl ⟨by rfl, fun W hW => by obtain ⟨y0, y1, y2, y3, y4⟩ := hW; go_simp⟩) (by assumption) ?_
              simp only [Act.put, List.getElem_toArray, List.getElem_cons_succ, List.getElem_cons_zero, List.setIfInBounds_toArray, List.set_cons_zero, List.set_cons_succ]
              refine wpAnyH_take (i := 5) (v := .agg #[.int .i64 (k : Int), .int .i64 A, .int .i64 B, .string t]) rfl (by kernel_rfl) (by kernel_rfl) (by kernel_rfl) (fun _ _ _ h => ⟨h.1, (put_far _ _ 4 _ (by decide)).symm.trans h.2.1, h.2.2⟩) (Or.inl ⟨by rfl, fun W hW => by obtain ⟨y0, y1, y2, y3, y4⟩ := hW; go_simp⟩) (by assumption) ?_
              simp only [Act.put, List.getElem_toArray, List.getElem_cons_succ, List.getElem_cons_zero, List.setIfInBounds_toArray, List.set_cons_zero, List.set_cons_succ]
              refine wpAnyH_ready (rs := [6]) (by kernel_rfl) (by simp) ?_
              refine AllReadyH.cons rfl (fun K hK => ?_) AllReadyH.nil
              go_simp
              go_wp2_with fail
              refine hstp.mono ?_
              rintro e w5 ⟨rfl, hf5⟩
              exact ⟨rfl, hf5⟩
            case h2 =>
              rintro ch a' w5 ⟨ha1, ha2, rfl, hf5⟩
              have hC5 := (hC4.drew).fr hf5 hCD (by decide) (by decide)
              have n0 := (((hC5.alloc (.cells #[.int .i64 c] 161 (0, 0))).set 0 (.int .i64 c)).cell 0).trans rfl
              have HB6 := Lib.hid (((hf4.drew.trans hf5).bel.alloc (Nat.le_trans hbV hf5.size) (.cells #[.int .i64 c] 161 (0, 0))).setCell (p := ⟨CB, 0, none⟩) (by show base ≤ CB; rw [← HCB.out]; exact hb) (.int .i64 c))
              change bodyPostD Tryz.prog Tryz.f106 _ (Exit.panic _) a' w5
              unfold bodyPostD
              simp only
              rw [ha1]
              refine leaves_cons (f := 144) (args := #[.pointer (some ⟨CB, 0, none⟩)]) (by simp) (by simp [go_sem]) ?_
              refine (catch_panicking CB 1 c w5 hC5).mono ?_
              rintro e u' w6 ⟨rfl, rfl, rfl⟩
              rw [Array.getD_eq_getD_getElem?] at ha2
              simp [Leaves, settle, results, Tryz.results106, go_sem, ha2, n0]
              exact ⟨rfl, HB6.out⟩
          | ok m =>
            rw [hex] at hstp
            have hstm := (Vm.step_exec (.inl hcd)).trans hex
            obtain ⟨s2, br2⟩ := m
            apply wp_meetY (fun w' => MPs base D E s2 br2 w' ∧ Fr base D w4.drew w')
            case h1 =>
              refine wp_region_held_drew (S := fun W => W.cell? ⟨wr.heap.size, 0, none⟩ = some (.int .i64 (k : Int)) ∧ W.cell? ⟨wr.heap.size, 1, none⟩ = some (.int .i64 A) ∧ W.cell? ⟨wr.heap.size, 2, none⟩ = some (.int .i64 B) ∧ W.cell? ⟨wr.heap.size, 3, none⟩ = some (.string t) ∧ W.cell? ⟨T0, k, none⟩ = some (.func (Fn.func F) #[] #[])) (by kernel_rfl) hS0 (fun hH => ?_)
              refine wpAnyH_take (i := 0) (v := .pointer (some ⟨wr.heap.size, 0, none⟩)) rfl (by kernel_rfl) (by kernel_rfl) (by kernel_rfl) (fun _ _ _ h => h) (Or.inl ⟨by rfl, fun W hW => by obtain ⟨y0, y1, y2, y3, y4⟩ := hW; go_simp⟩) (by assumption) ?_
              simp only [Act.put, List.getElem_toArray, List.getElem_cons_zero, List.setIfInBounds_toArray, List.set_cons_zero, List.set_cons_succ]
              refine wpAnyH_take (i := 1) (v := .int .i64 (k : Int)) rfl (by kernel_rfl) (by kernel_rfl) (by kernel_rfl) (fun _ _ _ h => h) (Or.inl ⟨by rfl, fun W hW => by obtain ⟨y0, y1, y2, y3, y4⟩ := hW; go_simp⟩) (by assumption) ?_
              simp only [Act.put, List.getElem_toArray, List.getElem_cons_succ, List.getElem_cons_zero, List.setIfInBounds_toArray, List.set_cons_zero, List.set_cons_succ]
              refine wpAnyH_take (i := 2) (v := .pointer (some ⟨T0, k, none⟩)) rfl (by kernel_rfl) (by kernel_rfl) (by kernel_rfl) (fun _ _ _ h => h) (Or.inl ⟨by rfl, fun W hW => by obtain ⟨y0, y1, y2, y3, y4⟩ := hW; go_simp⟩) (by assumption) ?_
              simp only [Act.put, List.getElem_toArray, List.getElem_cons_succ, List.getElem_cons_zero, List.setIfInBounds_toArray, List.set_cons_zero, List.set_cons_succ]
              refine wpAnyH_take (i := 3) (v := .func (Fn.func F) #[] #[]) rfl (by kernel_rfl) (by kernel_rfl) (by kernel_rfl) (fun _ _ _ h => h) (Or.inl ⟨by rfl, fun W hW => by obtain ⟨y0, y1, y2, y3, y4⟩ := hW; go_simp⟩) (by assumption) ?_
              simp only [Act.put, List.getElem_toArray, List.getElem_cons_succ, List.getElem_cons_zero, List.setIfInBounds_toArray, List.set_cons_zero, List.set_cons_succ]
              refine wpAnyH_take (i := 4) (v := .pointer (some ⟨D, 0, none⟩)) rfl (by kernel_rfl) (by kernel_rfl) (by kernel_rfl) (fun _ _ _ h => h) (Or.inl ⟨by rfl, fun W hW => by obtain ⟨y0, y1, y2, y3, y4⟩ := hW; go_simp⟩) (by assumption) ?_
              simp only [Act.put, List.getElem_toArray, List.getElem_cons_succ, List.getElem_cons_zero, List.setIfInBounds_toArray, List.set_cons_zero, List.set_cons_succ]
              refine wpAnyH_take (i := 5) (v := .agg #[.int .i64 (k : Int), .int .i64 A, .int .i64 B, .string t]) rfl (by kernel_rfl) (by kernel_rfl) (by kernel_rfl) (fun _ _ _ h => h) (Or.inl ⟨by rfl, fun W hW => by obtain ⟨y0, y1, y2, y3, y4⟩ := hW; go_simp⟩) (by assumption) ?_
              simp only [Act.put, List.getElem_toArray, List.getElem_cons_succ, List.getElem_cons_zero, List.setIfInBounds_toArray, List.set_cons_zero, List.set_cons_succ]
              refine wpAnyH_ready (rs := [6]) (by kernel_rfl) (by simp) ?_
              refine AllReadyH.cons rfl (fun K hK => ?_) AllReadyH.nil
              go_simp
              go_wp2_with fail
              refine hstp.mono ?_
              rintro e w5 ⟨rfl, hM5, hf5⟩
              have hO5 := (hO4.drew).fr hf5 (by have := hMlt; omega) (by decide) (by decide)
              have hT5 := (hT4.drew).fr hf5 hTD (by decide) (by decide)
              have hS5 : (fun W => W.cell? ⟨wr.heap.size, 0, none⟩ = some (.int .i64 (k : Int)) ∧ W.cell? ⟨wr.heap.size, 1, none⟩ = some (.int .i64 A) ∧ W.cell? ⟨wr.heap.size, 2, none⟩ = some (.int .i64 B) ∧ W.cell? ⟨wr.heap.size, 3, none⟩ = some (.string t) ∧ W.cell? ⟨T0, k, none⟩ = some (.func (Fn.func F) #[] #[])) w5 := ⟨(Bk.c4 hO5).1, (Bk.c4 hO5).2.1, (Bk.c4 hO5).2.2.1, (Bk.c4 hO5).2.2.2, (hT5.cell k).trans htg⟩
              refine hK.out _ _ hS5 (fun hH5 => ?_)
              refine wpAnyH_done (by kernel_rfl) ?_ _
              exact ⟨rfl, hM5, hf5⟩
            case h2 =>
              rintro w5 ⟨hM5, hf5⟩
              have HC5 := Lib.hid ((hC4.drew).fr hf5 hCD (by decide) (by decide))
              have HT5 := Lib.hid ((hT4.drew).fr hf5 hTD (by decide) (by decide))
              have HF5 := Lib.hid (hf4.drew.trans hf5)
              have HM5 := Lib.hid hM5
              have HSM := Lib.hid hstm
              clear hM5 hf5 hstm hex hstp hS0
              go_wp2
              go_roundw
              case rel => exact ⟨j + 1, s2, br2, by omega, by simp, HM5.out, HFX.out _ HSM.out, Vm.go_next HGO.out HSM.out, ⟨st2, HN2.out, HNX.out _ HSM.out, HSL.out⟩, HF5.out, HC5.out, HT5.out⟩
              case measure => simp [intOf]; omega
        · have hcq : decide (6 ≤ (k : Int) ∧ (k : Int) ≤ 8) = false := decide_eq_false hcd
          simp only [hcq] at hioc
          have HSM := Lib.hid (Vm.step_skip (E := E) (x := ⟨k, A, B, t⟩) (s := s') hcd hlv)
          clear hcd hcq hlv
          go_wp2_with fail
          refine hsk.mono ?_
          rintro e w4 ⟨rfl, rfl⟩
          go_wp2_with fail
          refine hioc.mono ?_
          rintro e w4 ⟨rfl, hb4⟩
          have HM4 := Lib.hid (hM3.below hb4)
          have HC4 := Lib.hid (hC3.below hb4)
          have HT4 := Lib.hid (hT3.below hb4)
          have HF4 := Lib.hid (hf3.trans (Fr.of (Nat.le_trans hb hf3.size) hb4))
          clear hM3 hC3 hT3 hf3 hO3 hb4 hstep hsk hioc
          go_wp2
          go_roundw
          case rel => exact ⟨j + 1, s', br', by omega, by simp, HM4.out, HFX.out _ HSM.out, Vm.go_next HGO.out HSM.out, ⟨st2, HN2.out, HNX.out _ HSM.out, HSL.out⟩, HF4.out, HC4.out, HT4.out⟩
          case measure => simp [intOf]; omega
      · rw [hlv] at hsk
        go_wp2_with fail
        refine hsk.mono ?_
        rintro e w4 ⟨rfl, rfl⟩
        go_wp2
        have hS0 : (fun W => W.cell? ⟨wr.heap.size, 0, none⟩ = some (.int .i64 (k : Int)) ∧ W.cell? ⟨wr.heap.size, 1, none⟩ = some (.int .i64 A) ∧ W.cell? ⟨wr.heap.size, 2, none⟩ = some (.int .i64 B) ∧ W.cell? ⟨wr.heap.size, 3, none⟩ = some (.string t) ∧ W.cell? ⟨T0, k, none⟩ = some (.func (Fn.func F) #[] #[])) (wr.alloc (.cells #[.int .i64 k, .int .i64 A, .int .i64 B, .string t] 77 (0, 0))).drew := ⟨(Bk.c4 hO3.drew).1, (Bk.c4 hO3.drew).2.1, (Bk.c4 hO3.drew).2.2.1, (Bk.c4 hO3.drew).2.2.2, (hT3.drew.cell k).trans htg⟩
        simp only at hS0
        have hbV : base ≤ (wr.alloc (.cells #[.int .i64 k, .int .i64 A, .int .i64 B, .string t] 77 (0, 0))).drew.heap.size := Nat.le_trans hb hf3.size
        have hstp := hstep (wr.alloc (.cells #[.int .i64 k, .int .i64 A, .int .i64 B, .string t] 77 (0, 0))).drew (hM3.below (Below.refl _ _).drew) hbV
        cases hex : Vm.exec E ⟨k, A, B, t⟩ s' br' with
        | error c =>
          rw [hex] at hstp
          have hRe := Vm.go_stop HGO.out ((Vm.step_exec (.inr hlv)).trans hex)
          subst hRe
          apply wp_toPanic (fun ch a' w' => a'.defers = [{ target := Target.fn (Fn.func 144) #[.pointer (some ⟨CB, 0, none⟩)], args := #[] }] ∧ a'.tmps.getD 4 undef = .pointer (some ⟨CB, 0, none⟩) ∧ ch = [Vm.pe c] ∧ Fr base D (wr.alloc (.cells #[.int .i64 k, .int .i64 A, .int .i64 B, .string t] 77 (0, 0))).drew w')
          case h1 =>
            refine wp_region_held_drew (S := fun W => W.cell? ⟨wr.heap.size, 0, none⟩ = some (.int .i64 (k : Int)) ∧ W.cell? ⟨wr.heap.size, 1, none⟩ = some (.int .i64 A) ∧ W.cell? ⟨wr.heap.size, 2, none⟩ = some (.int .i64 B) ∧ W.cell? ⟨wr.heap.size, 3, none⟩ = some (.string t) ∧ W.cell? ⟨T0, k, none⟩ = some (.func (Fn.func F) #[] #[])) (by kernel_rfl) hS0 (fun hH => ?_)
            refine wpAnyH_take (i := 0) (v := .pointer (some ⟨wr.heap.size, 0, none⟩)) rfl (by kernel_rfl) (by kernel_rfl) (by kernel_rfl) (fun _ _ _ h => ⟨h.1, (put_far _ _ 4 _ (by decide)).symm.trans h.2.1, h.2.2⟩) (Or.inl ⟨by rfl, fun W hW => by obtain ⟨y0, y1, y2, y3, y4⟩ := hW; go_simp⟩) (by assumption) ?_
            simp only [Act.put, List.getElem_toArray, List.getElem_cons_zero, List.setIfInBounds_toArray, List.set_cons_zero, List.set_cons_succ]
            refine wpAnyH_take (i := 1) (v := .int .i64 (k : Int)) rfl (by kernel_rfl) (by kernel_rfl) (by kernel_rfl) (fun _ _ _ h => ⟨h.1, (put_far _ _ 4 _ (by decide)).symm.trans h.2.1, h.2.2⟩) (Or.inl ⟨by rfl, fun W hW => by obtain ⟨y0, y1, y2, y3, y4⟩ := hW; go_simp⟩) (by assumption) ?_
            simp only [Act.put, List.getElem_toArray, List.getElem_cons_succ, List.getElem_cons_zero, List.setIfInBounds_toArray, List.set_cons_zero, List.set_cons_succ]
            refine wpAnyH_take (i := 2) (v := .pointer (some ⟨T0, k, none⟩)) rfl (by kernel_rfl) (by kernel_rfl) (by kernel_rfl) (fun _ _ _ h => ⟨h.1, (put_far _ _ 4 _ (by decide)).symm.trans h.2.1, h.2.2⟩) (Or.inl ⟨by rfl, fun W hW => by obtain ⟨y0, y1, y2, y3, y4⟩ := hW; go_simp⟩) (by assumption) ?_
            simp only [Act.put, List.getElem_toArray, List.getElem_cons_succ, List.getElem_cons_zero, List.setIfInBounds_toArray, List.set_cons_zero, List.set_cons_succ]
            refine wpAnyH_take (i := 3) (v := .func (Fn.func F) #[] #[]) rfl (by kernel_rfl) (by kernel_rfl) (by kernel_rfl) (fun _ _ _ h => ⟨h.1, (put_far _ _ 4 _ (by decide)).symm.trans h.2.1, h.2.2⟩) (Or.inl ⟨by rfl, fun W hW => by obtain ⟨y0, y1, y2, y3, y4⟩ := hW; go_simp⟩) (by assumption) ?_
            simp only [Act.put, List.getElem_toArray, List.getElem_cons_succ, List.getElem_cons_zero, List.setIfInBounds_toArray, List.set_cons_zero, List.set_cons_succ]
            refine wpAnyH_take (i := 4) (v := .pointer (some ⟨D, 0, none⟩)) rfl (by kernel_rfl) (by kernel_rfl) (by kernel_rfl) (fun _ _ _ h => ⟨h.1, (put_far _ _ 4 _ (by decide)).symm.trans h.2.1, h.2.2⟩) (Or.inl ⟨by rfl, fun W hW => by obtain ⟨y0, y1, y2, y3, y4⟩ := hW; go_simp⟩) (by assumption) ?_
            simp only [Act.put, List.getElem_toArray, List.getElem_cons_succ, List.getElem_cons_zero, List.setIfInBounds_toArray, List.set_cons_zero, List.set_cons_succ]
            refine wpAnyH_take (i := 5) (v := .agg #[.int .i64 (k : Int), .int .i64 A, .int .i64 B, .string t]) rfl (by kernel_rfl) (by kernel_rfl) (by kernel_rfl) (fun _ _ _ h => ⟨h.1, (put_far _ _ 4 _ (by decide)).symm.trans h.2.1, h.2.2⟩) (Or.inl ⟨by rfl, fun W hW => by obtain ⟨y0, y1, y2, y3, y4⟩ := hW; go_simp⟩) (by assumption) ?_
            simp only [Act.put, List.getElem_toArray, List.getElem_cons_succ, List.getElem_cons_zero, List.setIfInBounds_toArray, List.set_cons_zero, List.set_cons_succ]
            refine wpAnyH_ready (rs := [6]) (by kernel_rfl) (by simp) ?_
            refine AllReadyH.cons rfl (fun K hK => ?_) AllReadyH.nil
            go_simp
            go_wp2_with fail
            refine hstp.mono ?_
            rintro e w5 ⟨rfl, hf5⟩
            exact ⟨rfl, hf5⟩
          case h2 =>
            rintro ch a' w5 ⟨ha1, ha2, rfl, hf5⟩
            have hC5 := (hC3.drew).fr hf5 hCD (by decide) (by decide)
            have n0 := (((hC5.alloc (.cells #[.int .i64 c] 161 (0, 0))).set 0 (.int .i64 c)).cell 0).trans rfl
            have HB6 := Lib.hid (((hf3.drew.trans hf5).bel.alloc (Nat.le_trans hbV hf5.size) (.cells #[.int .i64 c] 161 (0, 0))).setCell (p := ⟨CB, 0, none⟩) (by show base ≤ CB; rw [← HCB.out]; exact hb) (.int .i64 c))
            change bodyPostD Tryz.prog Tryz.f106 _ (Exit.panic _) a' w5
            unfold bodyPostD
            simp only
            rw [ha1]
            refine leaves_cons (f := 144) (args := #[.pointer (some ⟨CB, 0, none⟩)]) (by simp) (by simp [go_sem]) ?_
            refine (catch_panicking CB 1 c w5 hC5).mono ?_
            rintro e u' w6 ⟨rfl, rfl, rfl⟩
            rw [Array.getD_eq_getD_getElem?] at ha2
            simp [Leaves, settle, results, Tryz.results106, go_sem, ha2, n0]
            exact ⟨rfl, HB6.out⟩
        | ok m =>
          rw [hex] at hstp
          have hstm := (Vm.step_exec (.inr hlv)).trans hex
          obtain ⟨s2, br2⟩ := m
          apply wp_meetY (fun w' => MPs base D E s2 br2 w' ∧ Fr base D (wr.alloc (.cells #[.int .i64 k, .int .i64 A, .int .i64 B, .string t] 77 (0, 0))).drew w')
          case h1 =>
            refine wp_region_held_drew (S := fun W => W.cell? ⟨wr.heap.size, 0, none⟩ = some (.int .i64 (k : Int)) ∧ W.cell? ⟨wr.heap.size, 1, none⟩ = some (.int .i64 A) ∧ W.cell? ⟨wr.heap.size, 2, none⟩ = some (.int .i64 B) ∧ W.cell? ⟨wr.heap.size, 3, none⟩ = some (.string t) ∧ W.cell? ⟨T0, k, none⟩ = some (.func (Fn.func F) #[] #[])) (by kernel_rfl) hS0 (fun hH => ?_)
            refine wpAnyH_take (i := 0) (v := .pointer (some ⟨wr.heap.size, 0, none⟩)) rfl (by kernel_rfl) (by kernel_rfl) (by kernel_rfl) (fun _ _ _ h => h) (Or.inl ⟨by rfl, fun W hW => by obtain ⟨y0, y1, y2, y3, y4⟩ := hW; go_simp⟩) (by assumption) ?_
            simp only [Act.put, List.getElem_toArray, List.getElem_cons_zero, List.setIfInBounds_toArray, List.set_cons_zero, List.set_cons_succ]
            refine wpAnyH_take (i := 1) (v := .int .i64 (k : Int)) rfl (by kernel_rfl) (by kernel_rfl) (by kernel_rfl) (fun _ _ _ h => h) (Or.inl ⟨by rfl, fun W hW => by obtain ⟨y0, y1, y2, y3, y4⟩ := hW; go_simp⟩) (by assumption) ?_
            simp only [Act.put, List.getElem_toArray, List.getElem_cons_succ, List.getElem_cons_zero, List.setIfInBounds_toArray, List.set_cons_zero, List.set_cons_succ]
            refine wpAnyH_take (i := 2) (v := .pointer (some ⟨T0, k, none⟩)) rfl (by kernel_rfl) (by kernel_rfl) (by kernel_rfl) (fun _ _ _ h => h) (Or.inl ⟨by rfl, fun W hW => by obtain ⟨y0, y1, y2, y3, y4⟩ := hW; go_simp⟩) (by assumption) ?_
            simp only [Act.put, List.getElem_toArray, List.getElem_cons_succ, List.getElem_cons_zero, List.setIfInBounds_toArray, List.set_cons_zero, List.set_cons_succ]
            refine wpAnyH_take (i := 3) (v := .func (Fn.func F) #[] #[]) rfl (by kernel_rfl) (by kernel_rfl) (by kernel_rfl) (fun _ _ _ h => h) (Or.inl ⟨by rfl, fun W hW => by obtain ⟨y0, y1, y2, y3, y4⟩ := hW; go_simp⟩) (by assumption) ?_
            simp only [Act.put, List.getElem_toArray, List.getElem_cons_succ, List.getElem_cons_zero, List.setIfInBounds_toArray, List.set_cons_zero, List.set_cons_succ]
            refine wpAnyH_take (i := 4) (v := .pointer (some ⟨D, 0, none⟩)) rfl (by kernel_rfl) (by kernel_rfl) (by kernel_rfl) (fun _ _ _ h => h) (Or.inl ⟨by rfl, fun W hW => by obtain ⟨y0, y1, y2, y3, y4⟩ := hW; go_simp⟩) (by assumption) ?_
            simp only [Act.put, List.getElem_toArray, List.getElem_cons_succ, List.getElem_cons_zero, List.setIfInBounds_toArray, List.set_cons_zero, List.set_cons_succ]
            refine wpAnyH_take (i := 5) (v := .agg #[.int .i64 (k : Int), .int .i64 A, .int .i64 B, .string t]) rfl (by kernel_rfl) (by kernel_rfl) (by kernel_rfl) (fun _ _ _ h => h) (Or.inl ⟨by rfl, fun W hW => by obtain ⟨y0, y1, y2, y3, y4⟩ := hW; go_simp⟩) (by assumption) ?_
            simp only [Act.put, List.getElem_toArray, List.getElem_cons_succ, List.getElem_cons_zero, List.setIfInBounds_toArray, List.set_cons_zero, List.set_cons_succ]
            refine wpAnyH_ready (rs := [6]) (by kernel_rfl) (by simp) ?_
            refine AllReadyH.cons rfl (fun K hK => ?_) AllReadyH.nil
            go_simp
            go_wp2_with fail
            refine hstp.mono ?_
            rintro e w5 ⟨rfl, hM5, hf5⟩
            have hO5 := (hO3.drew).fr hf5 (by have := hMlt; omega) (by decide) (by decide)
            have hT5 := (hT3.drew).fr hf5 hTD (by decide) (by decide)
            have hS5 : (fun W => W.cell? ⟨wr.heap.size, 0, none⟩ = some (.int .i64 (k : Int)) ∧ W.cell? ⟨wr.heap.size, 1, none⟩ = some (.int .i64 A) ∧ W.cell? ⟨wr.heap.size, 2, none⟩ = some (.int .i64 B) ∧ W.cell? ⟨wr.heap.size, 3, none⟩ = some (.string t) ∧ W.cell? ⟨T0, k, none⟩ = some (.func (Fn.func F) #[] #[])) w5 := ⟨(Bk.c4 hO5).1, (Bk.c4 hO5).2.1, (Bk.c4 hO5).2.2.1, (Bk.c4 hO5).2.2.2, (hT5.cell k).trans htg⟩
            refine hK.out _ _ hS5 (fun hH5 => ?_)
            refine wpAnyH_done (by kernel_rfl) ?_ _
            exact ⟨rfl, hM5, hf5⟩
          case h2 =>
            rintro w5 ⟨hM5, hf5⟩
            have HC5 := Lib.hid ((hC3.drew).fr hf5 hCD (by decide) (by decide))
            have HT5 := Lib.hid ((hT3.drew).fr hf5 hTD (by decide) (by decide))
            have HF5 := Lib.hid (hf3.drew.trans hf5)
            have HM5 := Lib.hid hM5
            have HSM := Lib.hid hstm
            clear hM5 hf5 hstm hex hstp hS0
            go_wp2
            go_roundw
            case rel => exact ⟨j + 1, s2, br2, by omega, by simp, HM5.out, HFX.out _ HSM.out, Vm.go_next HGO.out HSM.out, ⟨st2, HN2.out, HNX.out _ HSM.out, HSL.out⟩, HF5.out, HC5.out, HT5.out⟩
            case measure => simp [intOf]; omega
    · have hjn : j = len := by omega
      have hdn : l.drop j = [] := List.drop_eq_nil_of_le (by omega)
      rw [hdn] at hgo hst
      obtain ⟨st, hst1, hst2, _⟩ := hst
      have hRe : R = .ok (s', br') := hgo.symm
      subst hRe
      have c0 := (hCr.cell 0).trans rfl
      have cf := hCr.fro 0
      have hC3 := hCr.set 0 (.int .i64 0)
      have hM9 := (hMr.other hCr (by decide) (by decide) hCD 0 (.int .i64 0)).alloc (.cells #[.int .i64 0] 161 (0, 0))
      have hB9 : Below base w ((wr.setCell ⟨CB, 0, none⟩ (.int .i64 0)).alloc (.cells #[.int .i64 0] 161 (0, 0))) :=
        (hfr.bel.setCell (p := ⟨CB, 0, none⟩) (by show base ≤ CB; rw [← HCB.out]; exact hb) _).alloc (by simpa [World.setCell] using hbr) _
      have n0 := ((hC3.alloc (.cells #[.int .i64 0] 161 (0, 0))).cell 0).trans rfl
      have HM9 := Lib.hid hM9
      have HB9 := Lib.hid hB9
      clear hM9 hB9 hC3 hgo hst1 hst2 hfr hMr hTr
      go_wp2
      refine leaves_cons (f := 144) (args := #[.pointer (some ⟨CB, 0, none⟩)]) (by simp) (by simp [go_sem]) ?_
      refine (catch_idle CB _).mono ?_
      rintro e u' w'' ⟨rfl, rfl, rfl⟩
      simp [Leaves, settle, results, Tryz.results106, go_sem, n0]
      exact ⟨rfl, HM9.out, HB9.out⟩
end Go.Proofs.YtoocibabceeagabGreat
