/-
  The machine of the program: the operations on items, one contract each.
-/
import Derived.Test.YtdaffohimifecaaGreatWd
import Derived.Deep.RegionHeld3
namespace Go.Proofs.YtdaffohimifecaaGreat
open Go.RowKit

theorem Vm.actE0 {E : Vm} {x : Jo} {s : List ByteArray} (h : x.c = 0) : Vm.act E x s = Vm.put x.t s := by
  unfold Vm.act
  rw [if_pos h]
theorem Vm.actE1 {E : Vm} {x : Jo} {s : List ByteArray} (h : x.c = 1) : Vm.act E x s = (match s with
    | a :: r => Vm.put a (a :: r)
    | [] => .error 2) := by
  unfold Vm.act
  rw [if_neg (by omega), if_pos h]
  all_goals first
    | rfl
    | (rcases s with _ | ⟨a, _ | ⟨b, r⟩⟩ <;> rfl)
theorem Vm.actE2 {E : Vm} {x : Jo} {s : List ByteArray} (h : x.c = 2) : Vm.act E x s = (match s with
    | _ :: r => .ok r
    | [] => .error 2) := by
  unfold Vm.act
  rw [if_neg (by omega), if_neg (by omega), if_pos h]
  all_goals first
    | rfl
    | (rcases s with _ | ⟨a, _ | ⟨b, r⟩⟩ <;> rfl)
theorem Vm.actE3 {E : Vm} {x : Jo} {s : List ByteArray} (h : x.c = 3) : Vm.act E x s = (match s with
    | a :: b :: r => .ok (b :: a :: r)
    | _ => .error 2) := by
  unfold Vm.act
  rw [if_neg (by omega), if_neg (by omega), if_neg (by omega), if_pos h]
  all_goals first
    | rfl
    | (rcases s with _ | ⟨a, _ | ⟨b, r⟩⟩ <;> rfl)
theorem Vm.actE4 {E : Vm} {x : Jo} {s : List ByteArray} (h : x.c = 4) : Vm.act E x s = (match s with
    | a :: b :: r => .ok (Vm.tr (decide (b = a)) :: r)
    | _ => .error 2) := by
  unfold Vm.act
  rw [if_neg (by omega), if_neg (by omega), if_neg (by omega), if_neg (by omega), if_pos h]
  all_goals first
    | rfl
    | (rcases s with _ | ⟨a, _ | ⟨b, r⟩⟩ <;> rfl)
theorem Vm.actE5 {E : Vm} {x : Jo} {s : List ByteArray} (h : x.c = 5) : Vm.act E x s = (match s with
    | a :: r => .ok (Vm.tr (decide (a.size = 0)) :: r)
    | [] => .error 2) := by
  unfold Vm.act
  rw [if_neg (by omega), if_neg (by omega), if_neg (by omega), if_neg (by omega), if_neg (by omega), if_pos h]
  all_goals first
    | rfl
    | (rcases s with _ | ⟨a, _ | ⟨b, r⟩⟩ <;> rfl)
theorem Vm.actE9 {E : Vm} {x : Jo} {s : List ByteArray} (h : x.c = 9) : Vm.act E x s = (match s with
    | a :: r => if a.size = 0 then .error 3 else .ok r
    | [] => .error 2) := by
  unfold Vm.act
  rw [if_neg (by omega), if_neg (by omega), if_neg (by omega), if_neg (by omega), if_neg (by omega), if_neg (by omega), if_pos h]
  all_goals first
    | rfl
    | (rcases s with _ | ⟨a, _ | ⟨b, r⟩⟩ <;> rfl)
theorem Vm.actE10 {E : Vm} {x : Jo} {s : List ByteArray} (h : x.c = 10) : Vm.act E x s = (match s with
    | a :: r => .ok (Dg.bytes (Dg.of a) :: r)
    | [] => .error 2) := by
  unfold Vm.act
  rw [if_neg (by omega), if_neg (by omega), if_neg (by omega), if_neg (by omega), if_neg (by omega), if_neg (by omega), if_neg (by omega), if_pos h]
  all_goals first
    | rfl
    | (rcases s with _ | ⟨a, _ | ⟨b, r⟩⟩ <;> rfl)
theorem Vm.actE11 {E : Vm} {x : Jo} {s : List ByteArray} (h : x.c = 11) : Vm.act E x s = (match s with
    | k :: g :: r => .ok (Vm.tr (Vm.sg E.t g k) :: r)
    | _ => .error 2) := by
  unfold Vm.act
  rw [if_neg (by omega), if_neg (by omega), if_neg (by omega), if_neg (by omega), if_neg (by omega), if_neg (by omega), if_neg (by omega), if_neg (by omega), if_pos h]
  all_goals first
    | rfl
    | (rcases s with _ | ⟨a, _ | ⟨b, r⟩⟩ <;> rfl)
theorem Vm.actE12 {E : Vm} {x : Jo} {s : List ByteArray} (h : x.c = 12) : Vm.act E x s = (if s.length < (x.a + x.b).toNat then .error 2
    else .ok (Vm.tr (Vm.many E.t ((s.drop x.b.toNat).take x.a.toNat).reverse (s.take x.b.toNat).reverse) :: s.drop (x.a + x.b).toNat)) := by
  unfold Vm.act
  rw [if_neg (by omega), if_neg (by omega), if_neg (by omega), if_neg (by omega), if_neg (by omega), if_neg (by omega), if_neg (by omega), if_neg (by omega), if_neg (by omega), if_pos h]
theorem Vm.actE13 {E : Vm} {x : Jo} {s : List ByteArray} (h : x.c = 13) : Vm.act E x s = (if x.a ≤ E.h then .ok s else .error 4) := by
  unfold Vm.act
  rw [if_neg (by omega), if_neg (by omega), if_neg (by omega), if_neg (by omega), if_neg (by omega), if_neg (by omega), if_neg (by omega), if_neg (by omega), if_neg (by omega), if_neg (by omega), if_pos h]
theorem Vm.actE14 {E : Vm} {x : Jo} {s : List ByteArray} (h : x.c = 14) : Vm.act E x s = (if x.a ≤ E.a then .ok s else .error 4) := by
  unfold Vm.act
  rw [if_neg (by omega), if_neg (by omega), if_neg (by omega), if_neg (by omega), if_neg (by omega), if_neg (by omega), if_neg (by omega), if_neg (by omega), if_neg (by omega), if_neg (by omega), if_neg (by omega), if_pos h]
set_option maxRecDepth 100000 in
set_option maxHeartbeats 3200000 in
theorem op0_any (base D : Nat) (E : Vm) (x : Jo) (s : List ByteArray) (br : List Bool) (w : World) (h : MPs base D E s br w) (hb : base ≤ w.heap.size) (hs : Vm.fits s) (hc : x.c = 0) :
    Calls Tryz.prog 92 #[.pointer (some ⟨D, 0, none⟩), x.val] w (StP base D E (Vm.fin br (Vm.act E x s)) w) := by
  obtain ⟨vi, vb, h⟩ := h
  rw [Vm.actE0 hc]
  obtain ⟨C, A, B, t⟩ := x
  simp only at hc ⊢
  subst hc
  have hS := hs.1
  have hZ := hs.2
  have h0 := h.alloc (.cells #[.int .i64 0, .int .i64 A, .int .i64 B, .string t] 69 (0, 0))
  have b0 : Fr base D w (w.alloc (.cells #[.int .i64 0, .int .i64 A, .int .i64 B, .string t] 69 (0, 0))) := (Fr.refl base D w).alloc hb _
  have hb0 := Nat.le_trans hb b0.size
  clear h hs
  by_cases hp : s.length < 24
  · have hr : Hid (Vm.fin br (Vm.put t s) = .ok (t :: s, br)) := Lib.hid (by unfold Vm.put; rw [if_pos hp]; rfl)
    go_enter Tryz.func92, Tryz.ntmps92
    go_wp2_with fail
    refine (push_ok base D vi vb E s br t _ h0 hb0 hp).mono ?_
    rintro e w1 ⟨v1, rfl, h1, c1, hfr⟩
    have b1 := b0.trans c1
    have hb1 := Nat.le_trans hb b1.size
    clear h0 b0 c1 hb0
    go_wp2
    go_end0
    exact StP.ok hr.out h1 b1
  · have hr : Hid (Vm.fin br (Vm.put t s) = .error 5) := Lib.hid (by unfold Vm.put; rw [if_neg hp]; rfl)
    go_enter Tryz.func92, Tryz.ntmps92
    go_wp2_with fail
    refine (push_no base D vi vb E s br t _ h0 hp).mono ?_
    rintro e w1 ⟨rfl, rfl⟩
    go_wp2
    exact ⟨rfl, StP.no hr.out b0⟩
set_option maxRecDepth 100000 in
set_option maxHeartbeats 3200000 in
theorem op1_any (base D : Nat) (E : Vm) (x : Jo) (s : List ByteArray) (br : List Bool) (w : World) (h : MPs base D E s br w) (hb : base ≤ w.heap.size) (hs : Vm.fits s) (hc : x.c = 1) :
    Calls Tryz.prog 94 #[.pointer (some ⟨D, 0, none⟩), x.val] w (StP base D E (Vm.fin br (Vm.act E x s)) w) := by
  obtain ⟨vi, vb, h⟩ := h
  rw [Vm.actE1 hc]
  obtain ⟨C, A, B, t⟩ := x
  simp only at hc ⊢
  subst hc
  have hS := hs.1
  have hZ := hs.2
  have h0 := h.alloc (.cells #[.int .i64 1, .int .i64 A, .int .i64 B, .string t] 69 (0, 0))
  have b0 : Fr base D w (w.alloc (.cells #[.int .i64 1, .int .i64 A, .int .i64 B, .string t] 69 (0, 0))) := (Fr.refl base D w).alloc hb _
  have hb0 := Nat.le_trans hb b0.size
  clear h hs
  rcases s with _ | ⟨a, r⟩
  · have HE := Lib.hid h0
    go_enter Tryz.func94, Tryz.ntmps94
    go_wp2_with fail
    refine (take1_no base D vi vb E br _ h0).mono ?_
    rintro e w1 ⟨rfl, rfl⟩
    go_wp2
    exact ⟨rfl, StP.no rfl b0⟩
  · by_cases hp : (a :: r).length < 24
    · have hr : Hid (Vm.fin br (Vm.put a (a :: r)) = .ok (a :: a :: r, br)) := Lib.hid (by unfold Vm.put; rw [if_pos hp]; rfl)
      go_enter Tryz.func94, Tryz.ntmps94
      go_wp2_with fail
      refine (take1_ok base D vi vb E a r br _ h0 hb0 (by simp at hS; omega)).mono ?_
      rintro e w1 ⟨g, cp, v1, rfl, hc0, h1, _, c1⟩
      have b1 := b0.trans c1
      have hb1 := Nat.le_trans hb b1.size
      clear h0 b0 c1 hb0
      go_wp2_with fail
      refine (push_ok base D v1 vb E r br a _ h1 hb1 (by simp at hS; omega)).mono ?_
      rintro e w2 ⟨v2, rfl, h2, c2, hfr⟩
      have b2 := b1.trans c2
      have hb2 := Nat.le_trans hb b2.size
      clear h1 b1 c2 hb1
      go_wp2_with fail
      refine (push_ok base D v2 vb E (a :: r) br a _ h2 hb2 hp).mono ?_
      rintro e w3 ⟨v3, rfl, h3, c3, hfr⟩
      have b3 := b2.trans c3
      have hb3 := Nat.le_trans hb b3.size
      clear h2 b2 c3 hb2
      go_wp2
      go_end0
      exact StP.ok hr.out h3 b3
    · have hr : Hid (Vm.fin br (Vm.put a (a :: r)) = .error 5) := Lib.hid (by unfold Vm.put; rw [if_neg hp]; rfl)
      go_enter Tryz.func94, Tryz.ntmps94
      go_wp2_with fail
      refine (take1_ok base D vi vb E a r br _ h0 hb0 (by simp at hS; omega)).mono ?_
      rintro e w1 ⟨g, cp, v1, rfl, hc0, h1, _, c1⟩
      have b1 := b0.trans c1
      have hb1 := Nat.le_trans hb b1.size
      clear h0 b0 c1 hb0
      go_wp2_with fail
      refine (push_ok base D v1 vb E r br a _ h1 hb1 (by simp at hS; omega)).mono ?_
      rintro e w2 ⟨v2, rfl, h2, c2, hfr⟩
      have b2 := b1.trans c2
      have hb2 := Nat.le_trans hb b2.size
      clear h1 b1 c2 hb1
      go_wp2_with fail
      refine (push_no base D v2 vb E (a :: r) br a _ h2 hp).mono ?_
      rintro e w3 ⟨rfl, rfl⟩
      go_wp2
      exact ⟨rfl, StP.no hr.out b2⟩
set_option maxRecDepth 100000 in
set_option maxHeartbeats 3200000 in
theorem op2_any (base D : Nat) (E : Vm) (x : Jo) (s : List ByteArray) (br : List Bool) (w : World) (h : MPs base D E s br w) (hb : base ≤ w.heap.size) (hs : Vm.fits s) (hc : x.c = 2) :
    Calls Tryz.prog 95 #[.pointer (some ⟨D, 0, none⟩), x.val] w (StP base D E (Vm.fin br (Vm.act E x s)) w) := by
  obtain ⟨vi, vb, h⟩ := h
  rw [Vm.actE2 hc]
  obtain ⟨C, A, B, t⟩ := x
  simp only at hc ⊢
  subst hc
  have hS := hs.1
  have hZ := hs.2
  have h0 := h.alloc (.cells #[.int .i64 2, .int .i64 A, .int .i64 B, .string t] 69 (0, 0))
  have b0 : Fr base D w (w.alloc (.cells #[.int .i64 2, .int .i64 A, .int .i64 B, .string t] 69 (0, 0))) := (Fr.refl base D w).alloc hb _
  have hb0 := Nat.le_trans hb b0.size
  clear h hs
  rcases s with _ | ⟨a, r⟩
  · have HE := Lib.hid h0
    go_enter Tryz.func95, Tryz.ntmps95
    go_wp2_with fail
    refine (take1_no base D vi vb E br _ h0).mono ?_
    rintro e w1 ⟨rfl, rfl⟩
    go_wp2
    exact ⟨rfl, StP.no rfl b0⟩
  · have hr : Hid (Vm.fin br (.ok r) = .ok (r, br)) := Lib.hid rfl
    go_enter Tryz.func95, Tryz.ntmps95
    go_wp2_with fail
    refine (take1_ok base D vi vb E a r br _ h0 hb0 (by simp at hS; omega)).mono ?_
    rintro e w1 ⟨g, cp, v1, rfl, hc0, h1, _, c1⟩
    have b1 := b0.trans c1
    have hb1 := Nat.le_trans hb b1.size
    clear h0 b0 c1 hb0
    go_wp2
    go_end0
    exact StP.ok hr.out h1 b1
set_option maxRecDepth 100000 in
set_option maxHeartbeats 3200000 in
theorem op3_any (base D : Nat) (E : Vm) (x : Jo) (s : List ByteArray) (br : List Bool) (w : World) (h : MPs base D E s br w) (hb : base ≤ w.heap.size) (hs : Vm.fits s) (hc : x.c = 3) :
    Calls Tryz.prog 97 #[.pointer (some ⟨D, 0, none⟩), x.val] w (StP base D E (Vm.fin br (Vm.act E x s)) w) := by
  obtain ⟨vi, vb, h⟩ := h
  rw [Vm.actE3 hc]
  obtain ⟨C, A, B, t⟩ := x
  simp only at hc ⊢
  subst hc
  have hS := hs.1
  have hZ := hs.2
  have h0 := h.alloc (.cells #[.int .i64 3, .int .i64 A, .int .i64 B, .string t] 69 (0, 0))
  have b0 : Fr base D w (w.alloc (.cells #[.int .i64 3, .int .i64 A, .int .i64 B, .string t] 69 (0, 0))) := (Fr.refl base D w).alloc hb _
  have hb0 := Nat.le_trans hb b0.size
  clear h hs
  rcases s with _ | ⟨a, _ | ⟨b, r⟩⟩
  · have hr : (2 : Nat) ≤ 2 := Nat.le_refl _
    go_enter Tryz.func97, Tryz.ntmps97
    go_wp2_with fail
    refine (take2_no base D vi vb E [] br _ h0 (by simp)).mono ?_
    rintro e w1 ⟨rfl, rfl⟩
    go_wp2
    exact ⟨rfl, StP.no rfl b0⟩
  · have hr : (2 : Nat) ≤ 2 := Nat.le_refl _
    go_enter Tryz.func97, Tryz.ntmps97
    go_wp2_with fail
    refine (take2_no base D vi vb E [a] br _ h0 (by simp)).mono ?_
    rintro e w1 ⟨rfl, rfl⟩
    go_wp2
    exact ⟨rfl, StP.no rfl b0⟩
  · have hr : Hid (Vm.fin br (.ok (b :: a :: r)) = .ok (b :: a :: r, br)) := Lib.hid rfl
    go_enter Tryz.func97, Tryz.ntmps97
    go_wp2_with fail
    refine (take2_ok base D vi vb E a b r br _ h0 hb0 (by simp at hS; omega)).mono ?_
    rintro e w1 ⟨g, cp, v1, rfl, hc0, hc1, h1, c1, hgl, hgD, hgv⟩
    have b1 := b0.trans c1
    have hb1 := Nat.le_trans hb b1.size
    clear h0 b0 c1 hb0
    go_wp2_with fail
    refine (push_ok base D v1 vb E r br a _ h1 hb1 (by simp at hS; omega)).mono ?_
    rintro e w2 ⟨v2, rfl, h2, c2, hfr⟩
    have hc9 : w2.cell? ⟨g, 0, none⟩ = some (.string b) := (World.cell?_of_block (hfr g hgl hgD hgv)).trans hc0
    clear hc0 hc1 hfr
    have b2 := b1.trans c2
    have hb2 := Nat.le_trans hb b2.size
    clear h1 b1 c2 hb1
    go_wp2_with fail
    refine (push_ok base D v2 vb E (a :: r) br b _ h2 hb2 (by simp at hS ⊢; omega)).mono ?_
    rintro e w3 ⟨v3, rfl, h3, c3, hfr⟩
    have b3 := b2.trans c3
    have hb3 := Nat.le_trans hb b3.size
    clear h2 b2 c3 hb2
    go_wp2
    go_end0
    exact StP.ok hr.out h3 b3
set_option maxRecDepth 100000 in
set_option maxHeartbeats 3200000 in
theorem op4_any (base D : Nat) (E : Vm) (x : Jo) (s : List ByteArray) (br : List Bool) (w : World) (h : MPs base D E s br w) (hb : base ≤ w.heap.size) (hs : Vm.fits s) (hc : x.c = 4) :
    Calls Tryz.prog 98 #[.pointer (some ⟨D, 0, none⟩), x.val] w (StP base D E (Vm.fin br (Vm.act E x s)) w) := by
  obtain ⟨vi, vb, h⟩ := h
  rw [Vm.actE4 hc]
  obtain ⟨C, A, B, t⟩ := x
  simp only at hc ⊢
  subst hc
  have hS := hs.1
  have hZ := hs.2
  have h0 := h.alloc (.cells #[.int .i64 4, .int .i64 A, .int .i64 B, .string t] 69 (0, 0))
  have b0 : Fr base D w (w.alloc (.cells #[.int .i64 4, .int .i64 A, .int .i64 B, .string t] 69 (0, 0))) := (Fr.refl base D w).alloc hb _
  have hb0 := Nat.le_trans hb b0.size
  clear h hs
  rcases s with _ | ⟨a, _ | ⟨b, r⟩⟩
  · have hr : (2 : Nat) ≤ 2 := Nat.le_refl _
    go_enter Tryz.func98, Tryz.ntmps98
    go_wp2_with fail
    refine (take2_no base D vi vb E [] br _ h0 (by simp)).mono ?_
    rintro e w1 ⟨rfl, rfl⟩
    go_wp2
    exact ⟨rfl, StP.no rfl b0⟩
  · have hr : (2 : Nat) ≤ 2 := Nat.le_refl _
    go_enter Tryz.func98, Tryz.ntmps98
    go_wp2_with fail
    refine (take2_no base D vi vb E [a] br _ h0 (by simp)).mono ?_
    rintro e w1 ⟨rfl, rfl⟩
    go_wp2
    exact ⟨rfl, StP.no rfl b0⟩
  · have hr : Hid (Vm.fin br (.ok (Vm.tr (decide (b = a)) :: r)) = .ok (Vm.tr (decide (b = a)) :: r, br)) := Lib.hid rfl
    obtain ⟨q, HQ⟩ : ∃ q, Hid (decide (b = a) = q) := ⟨_, Lib.hid rfl⟩
    have hq : (b.toList == a.toList) = q := by
      rw [← HQ.out, Bool.eq_iff_iff, decide_eq_true_eq, beq_iff_eq]
      refine ⟨fun e => ?_, fun e => by rw [e]⟩
      rw [ByteArray.toList_eq, ByteArray.toList_eq] at e
      exact ByteArray.ext (Array.toList_inj.1 e)
    rw [HQ.out] at hr
    go_enter Tryz.func98, Tryz.ntmps98
    go_wp2_with fail
    refine (take2_ok base D vi vb E a b r br _ h0 hb0 (by simp at hS; omega)).mono ?_
    rintro e w1 ⟨g, cp, v1, rfl, hc0, hc1, h1, c1, hgl, hgD, hgv⟩
    have b1 := b0.trans c1
    have hb1 := Nat.le_trans hb b1.size
    clear h0 b0 c1 hb0
    have h1d := h1.drew
    have b1d := b1.drew
    have hc0d : w1.drew.cell? ⟨g, 0, none⟩ = some (.string b) := hc0
    have hc1d : w1.drew.cell? ⟨g, 1, none⟩ = some (.string a) := hc1
    go_wp2
    go_region_with (go_at_call 100; go_must (refine (pushTruth_ok base D v1 vb E r br q _ h1d (Nat.le_trans hb b1d.size) (by simp at hS; omega)).mono ?_); go_must (rintro e w2 ⟨v2, rfl, h2, c2, _⟩))
    all_goals
      go_wp2
      go_end0
      exact StP.ok (by rw [HQ.out]; rfl) h2 (b1d.trans c2)
set_option maxRecDepth 100000 in
set_option maxHeartbeats 3200000 in
theorem op5_any (base D : Nat) (E : Vm) (x : Jo) (s : List ByteArray) (br : List Bool) (w : World) (h : MPs base D E s br w) (hb : base ≤ w.heap.size) (hs : Vm.fits s) (hc : x.c = 5) :
    Calls Tryz.prog 99 #[.pointer (some ⟨D, 0, none⟩), x.val] w (StP base D E (Vm.fin br (Vm.act E x s)) w) := by
  obtain ⟨vi, vb, h⟩ := h
  rw [Vm.actE5 hc]
  obtain ⟨C, A, B, t⟩ := x
  simp only at hc ⊢
  subst hc
  have hS := hs.1
  have hZ := hs.2
  have h0 := h.alloc (.cells #[.int .i64 5, .int .i64 A, .int .i64 B, .string t] 69 (0, 0))
  have b0 : Fr base D w (w.alloc (.cells #[.int .i64 5, .int .i64 A, .int .i64 B, .string t] 69 (0, 0))) := (Fr.refl base D w).alloc hb _
  have hb0 := Nat.le_trans hb b0.size
  clear h hs
  rcases s with _ | ⟨a, r⟩
  · have HE := Lib.hid h0
    go_enter Tryz.func99, Tryz.ntmps99
    go_wp2_with fail
    refine (takeTruth_no base D vi vb E br _ h0).mono ?_
    rintro e w1 ⟨rfl, rfl⟩
    go_wp2
    exact ⟨rfl, StP.no rfl b0⟩
  · obtain ⟨q, HQ⟩ : ∃ q, Hid (decide (a.size ≠ 0) = q) := ⟨_, Lib.hid rfl⟩
    have hr : Hid (Vm.fin br (.ok (Vm.tr (decide (a.size = 0)) :: r)) = .ok (Vm.tr (!q) :: r, br)) := Lib.hid (by rw [← HQ.out]; simp [Vm.fin])
    go_enter Tryz.func99, Tryz.ntmps99
    go_wp2_with fail
    refine (takeTruth_ok base D vi vb E a r br _ h0 hb0 (by simp at hS; omega)).mono ?_
    unfold TtP
    rw [HQ.out]
    rintro e w1 ⟨v1, rfl, h1, _, c1⟩
    have b1 := b0.trans c1
    have hb1 := Nat.le_trans hb b1.size
    clear h0 b0 c1 hb0
    go_wp2_with fail
    refine (pushTruth_ok base D v1 vb E r br (!q) _ h1 hb1 (by simp at hS; omega)).mono ?_
    rintro e w2 ⟨v2, rfl, h2, c2, _⟩
    have b2 := b1.trans c2
    have hb2 := Nat.le_trans hb b2.size
    clear h1 b1 c2 hb1
    go_wp2
    go_end0
    exact StP.ok hr.out h2 b2
set_option maxRecDepth 100000 in
set_option maxHeartbeats 3200000 in
theorem op9_any (base D : Nat) (E : Vm) (x : Jo) (s : List ByteArray) (br : List Bool) (w : World) (h : MPs base D E s br w) (hb : base ≤ w.heap.size) (hs : Vm.fits s) (hc : x.c = 9) :
    Calls Tryz.prog 105 #[.pointer (some ⟨D, 0, none⟩), x.val] w (StP base D E (Vm.fin br (Vm.act E x s)) w) := by
  obtain ⟨vi, vb, h⟩ := h
  rw [Vm.actE9 hc]
  obtain ⟨C, A, B, t⟩ := x
  simp only at hc ⊢
  subst hc
  have hS := hs.1
  have hZ := hs.2
  have h0 := h.alloc (.cells #[.int .i64 9, .int .i64 A, .int .i64 B, .string t] 69 (0, 0))
  have b0 : Fr base D w (w.alloc (.cells #[.int .i64 9, .int .i64 A, .int .i64 B, .string t] 69 (0, 0))) := (Fr.refl base D w).alloc hb _
  have hb0 := Nat.le_trans hb b0.size
  clear h hs
  rcases s with _ | ⟨a, r⟩
  · have HE := Lib.hid h0
    go_enter Tryz.func105, Tryz.ntmps105
    go_wp2_with fail
    refine (takeTruth_no base D vi vb E br _ h0).mono ?_
    rintro e w1 ⟨rfl, rfl⟩
    go_wp2
    exact ⟨rfl, StP.no rfl b0⟩
  · by_cases ha : a.size = 0
    · have hr : Hid (Vm.fin br (if a.size = 0 then .error 3 else .ok r) = .error 3) := Lib.hid (by rw [if_pos ha]; rfl)
      have HQ : Hid (decide (a.size ≠ 0) = false) := Lib.hid (by simp [ha])
      clear ha
      change Calls _ _ _ _ (StP base D E (Vm.fin br (if a.size = 0 then .error 3 else .ok r)) w)
      rw [hr.out]
      go_enter Tryz.func105, Tryz.ntmps105
      go_wp2_with fail
      refine (takeTruth_ok base D vi vb E a r br _ h0 hb0 (by simp at hS; omega)).mono ?_
      unfold TtP
      rw [HQ.out]
      rintro e w1 ⟨v1, rfl, h1, _, c1⟩
      have b1 := b0.trans c1
      have hb1 := Nat.le_trans hb b1.size
      clear h0 b0 c1 hb0
      go_wp2_with fail
      refine (demand_no 3 _).mono ?_
      rintro e w2 ⟨rfl, rfl⟩
      go_wp2
      exact ⟨rfl, StP.no rfl b1⟩
    · have hr : Hid (Vm.fin br (if a.size = 0 then .error 3 else .ok r) = .ok (r, br)) := Lib.hid (by rw [if_neg ha]; rfl)
      have HQ : Hid (decide (a.size ≠ 0) = true) := Lib.hid (by simp [ha])
      clear ha
      change Calls _ _ _ _ (StP base D E (Vm.fin br (if a.size = 0 then .error 3 else .ok r)) w)
      rw [hr.out]
      go_enter Tryz.func105, Tryz.ntmps105
      go_wp2_with fail
      refine (takeTruth_ok base D vi vb E a r br _ h0 hb0 (by simp at hS; omega)).mono ?_
      unfold TtP
      rw [HQ.out]
      rintro e w1 ⟨v1, rfl, h1, _, c1⟩
      have b1 := b0.trans c1
      have hb1 := Nat.le_trans hb b1.size
      clear h0 b0 c1 hb0
      go_wp2_with fail
      refine (demand_ok 3 _).mono ?_
      rintro e w2 ⟨rfl, rfl⟩
      go_wp2
      go_end0
      exact StP.ok rfl h1 b1
set_option maxRecDepth 100000 in
set_option maxHeartbeats 3200000 in
theorem op10_any (base D : Nat) (E : Vm) (x : Jo) (s : List ByteArray) (br : List Bool) (w : World) (h : MPs base D E s br w) (hb : base ≤ w.heap.size) (hs : Vm.fits s) (hc : x.c = 10) :
    Calls Tryz.prog 107 #[.pointer (some ⟨D, 0, none⟩), x.val] w (StP base D E (Vm.fin br (Vm.act E x s)) w) := by
  obtain ⟨vi, vb, h⟩ := h
  rw [Vm.actE10 hc]
  obtain ⟨C, A, B, t⟩ := x
  simp only at hc ⊢
  subst hc
  have hS := hs.1
  have hZ := hs.2
  have h0 := h.alloc (.cells #[.int .i64 10, .int .i64 A, .int .i64 B, .string t] 69 (0, 0))
  have b0 : Fr base D w (w.alloc (.cells #[.int .i64 10, .int .i64 A, .int .i64 B, .string t] 69 (0, 0))) := (Fr.refl base D w).alloc hb _
  have hb0 := Nat.le_trans hb b0.size
  clear h hs
  rcases s with _ | ⟨a, r⟩
  · have HE := Lib.hid h0
    go_enter Tryz.func107, Tryz.ntmps107
    go_wp2_with fail
    refine (take1_no base D vi vb E br _ h0).mono ?_
    rintro e w1 ⟨rfl, rfl⟩
    go_wp2
    exact ⟨rfl, StP.no rfl b0⟩
  · have hr : Hid (Vm.fin br (.ok (Dg.bytes (Dg.of a) :: r)) = .ok (Dg.bytes (Dg.of a) :: r, br)) := Lib.hid rfl
    have hsz : a.size ≤ 80 := hZ a (List.mem_cons_self ..)
    obtain ⟨d0, d1⟩ := Dg.of_bd a
    have hd1 := fun W => implDigest_any a W (by omega)
    have hd2 := fun W => implDigestBytes_ok (Dg.of a) W d0 d1
    obtain ⟨Q, HQ⟩ : ∃ Q, Hid (Dg.of a = Q) := ⟨_, Lib.hid rfl⟩
    rw [HQ.out] at hd1 hd2 hr
    obtain ⟨V, HV⟩ : ∃ V, Hid (Dg.bytes Q = V) := ⟨_, Lib.hid rfl⟩
    rw [HV.out] at hd2 hr
    clear d0 d1 hsz hZ
    go_enter Tryz.func107, Tryz.ntmps107
    go_wp2_with fail
    refine (take1_ok base D vi vb E a r br _ h0 hb0 (by simp at hS; omega)).mono ?_
    rintro e w1 ⟨g, cp, v1, rfl, hc0, h1, _, c1⟩
    have b1 := b0.trans c1
    have hb1 := Nat.le_trans hb b1.size
    clear h0 b0 c1 hb0
    go_wp2_with fail
    refine (hd1 _).mono ?_
    rintro e w2 ⟨rfl, c2⟩
    have h2 := h1.below c2
    have b2 := b1.trans (Fr.of hb1 c2)
    have hb2 := Nat.le_trans hb b2.size
    clear h1 b1 c2 hb1 hc0
    go_wp2_with fail
    refine (hd2 _).mono ?_
    rintro e w3 ⟨rfl, c3⟩
    have h3 := h2.below c3
    have b3 := b2.trans (Fr.of hb2 c3)
    have hb3 := Nat.le_trans hb b3.size
    clear h2 b2 c3 hb2
    go_wp2_with fail
    refine (push_ok base D v1 vb E r br V _ h3 hb3 (by simp at hS; omega)).mono ?_
    rintro e w4 ⟨v4, rfl, h4, c4, _⟩
    have b4 := b3.trans c4
    go_wp2
    go_end0
    exact StP.ok (by rw [HQ.out, HV.out]; exact hr.out) h4 b4
set_option maxRecDepth 100000 in
set_option maxHeartbeats 3200000 in
theorem op11_any (base D : Nat) (E : Vm) (x : Jo) (s : List ByteArray) (br : List Bool) (w : World) (h : MPs base D E s br w) (hb : base ≤ w.heap.size) (hs : Vm.fits s) (hc : x.c = 11) (ht : E.t.size ≤ 1048576) :
    Calls Tryz.prog 110 #[.pointer (some ⟨D, 0, none⟩), x.val] w (StP base D E (Vm.fin br (Vm.act E x s)) w) := by
  obtain ⟨vi, vb, h⟩ := h
  rw [Vm.actE11 hc]
  obtain ⟨C, A, B, t⟩ := x
  simp only at hc ⊢
  subst hc
  have hS := hs.1
  have hZ := hs.2
  have h0 := h.alloc (.cells #[.int .i64 11, .int .i64 A, .int .i64 B, .string t] 69 (0, 0))
  have b0 : Fr base D w (w.alloc (.cells #[.int .i64 11, .int .i64 A, .int .i64 B, .string t] 69 (0, 0))) := (Fr.refl base D w).alloc hb _
  have hb0 := Nat.le_trans hb b0.size
  clear h hs
  rcases s with _ | ⟨a, _ | ⟨b, r⟩⟩
  · have hr : (2 : Nat) ≤ 2 := Nat.le_refl _
    go_enter Tryz.func110, Tryz.ntmps110
    go_wp2_with fail
    refine (take2_no base D vi vb E [] br _ h0 (by simp)).mono ?_
    rintro e w1 ⟨rfl, rfl⟩
    go_wp2
    exact ⟨rfl, StP.no rfl b0⟩
  · have hr : (2 : Nat) ≤ 2 := Nat.le_refl _
    go_enter Tryz.func110, Tryz.ntmps110
    go_wp2_with fail
    refine (take2_no base D vi vb E [a] br _ h0 (by simp)).mono ?_
    rintro e w1 ⟨rfl, rfl⟩
    go_wp2
    exact ⟨rfl, StP.no rfl b0⟩
  · have hr : Hid (Vm.fin br (.ok (Vm.tr (Vm.sg E.t b a) :: r)) = .ok (Vm.tr (Vm.sg E.t b a) :: r, br)) := Lib.hid rfl
    have hfit := fun (W : World) (v1 : Value) (hW : MP base D v1 vb E r br W) => fits_any base D v1 vb E r br b a W hW ht
    obtain ⟨q, HQ⟩ : ∃ q, Hid (Vm.sg E.t b a = q) := ⟨_, Lib.hid rfl⟩
    rw [HQ.out] at hr hfit
    go_enter Tryz.func110, Tryz.ntmps110
    go_wp2_with fail
    refine (take2_ok base D vi vb E a b r br _ h0 hb0 (by simp at hS; omega)).mono ?_
    rintro e w1 ⟨g, cp, v1, rfl, hc0, hc1, h1, c1, hgl, hgD, hgv⟩
    have b1 := b0.trans c1
    have hb1 := Nat.le_trans hb b1.size
    clear h0 b0 c1 hb0
    have h1d := h1.drew
    have b1d := b1.drew
    have hS0 : w1.drew.cell? ⟨g, 0, none⟩ = some (.string b) ∧ w1.drew.cell? ⟨g, 1, none⟩ = some (.string a) := ⟨hc0, hc1⟩
    have HK : Hid (∀ W, Below w1.drew.heap.size w1.drew W → W.cell? ⟨g, 0, none⟩ = some (.string b) ∧ W.cell? ⟨g, 1, none⟩ = some (.string a)) := Lib.hid fun W hq => ⟨(hq.cell (p := ⟨g, 0, none⟩) hgl).trans hc0, (hq.cell (p := ⟨g, 1, none⟩) hgl).trans hc1⟩
    clear hc0 hc1 hgD hgv hZ
    go_wp2
    apply wp_meetY (fun w' => MPs base D E (Vm.tr q :: r) br w' ∧ Fr base D w w')
    case h1 =>
      go_region_with (first | (go_at_call 138; go_must (refine (hfit _ v1 h1d).mono ?_); go_must (rintro e w2 ⟨rfl, c2⟩); have h2 := h1d.below c2; have b2 := b1d.trans (Fr.of (Nat.le_trans hb b1d.size) c2)) | (go_at_call 100; go_must (refine (pushTruth_ok base D v1 vb E r br q _ h2 (Nat.le_trans hb b2.size) (by simp at hS; omega)).mono ?_); go_must (rintro e w3 ⟨v3, rfl, h3, c3, _⟩)))
      all_goals exact ⟨rfl, ⟨v3, vb, h3⟩, b2.trans c3⟩
    case h2 =>
      rintro w4 ⟨⟨v4, vb4, h4⟩, b4⟩
      go_wp2
      go_end0
      exact StP.ok (by rw [HQ.out]; rfl) h4 b4
set_option maxRecDepth 100000 in
set_option maxHeartbeats 3200000 in
theorem op13_any (base D : Nat) (E : Vm) (x : Jo) (s : List ByteArray) (br : List Bool) (w : World) (h : MPs base D E s br w) (hb : base ≤ w.heap.size) (hs : Vm.fits s) (hc : x.c = 13) :
    Calls Tryz.prog 112 #[.pointer (some ⟨D, 0, none⟩), x.val] w (StP base D E (Vm.fin br (Vm.act E x s)) w) := by
  obtain ⟨vi, vb, h⟩ := h
  rw [Vm.actE13 hc]
  obtain ⟨C, A, B, t⟩ := x
  simp only at hc ⊢
  subst hc
  have hS := hs.1
  have hZ := hs.2
  have h0 := h.alloc (.cells #[.int .i64 13, .int .i64 A, .int .i64 B, .string t] 69 (0, 0))
  have b0 : Fr base D w (w.alloc (.cells #[.int .i64 13, .int .i64 A, .int .i64 B, .string t] 69 (0, 0))) := (Fr.refl base D w).alloc hb _
  have hb0 := Nat.le_trans hb b0.size
  clear h hs
  by_cases ha : A ≤ E.h
  · have hr : Hid (Vm.fin br (if A ≤ E.h then .ok s else .error 4) = .ok (s, br)) := Lib.hid (by rw [if_pos ha]; rfl)
    have hq : decide (A ≤ E.h) = true := decide_eq_true ha
    have h0d := h0.drew
    have b0d := b0.drew
    obtain ⟨m0, m1, m2, m3, m4⟩ := h0.cells
    obtain ⟨n0, n1, n2, n3, n4⟩ := h0d.cells
    clear ha
    rw [hr.out]
    go_enter Tryz.func112, Tryz.ntmps112
    go_wp2
    go_region_with (go_at_call 106; go_must (refine (demand_ok 4 _).mono ?_); go_must (rintro e w2 ⟨rfl, rfl⟩))
    all_goals
      go_wp2
      go_end0
      exact StP.ok rfl h0d b0d
  · have hr : Hid (Vm.fin br (if A ≤ E.h then .ok s else .error 4) = .error 4) := Lib.hid (by rw [if_neg ha]; rfl)
    have hq : decide (A ≤ E.h) = false := decide_eq_false ha
    have h0d := h0.drew
    have b0d := b0.drew
    obtain ⟨m0, m1, m2, m3, m4⟩ := h0.cells
    obtain ⟨n0, n1, n2, n3, n4⟩ := h0d.cells
    clear ha
    rw [hr.out]
    go_enter Tryz.func112, Tryz.ntmps112
    have hS0 : (w.alloc (.cells #[.int .i64 13, .int .i64 A, .int .i64 B, .string t] 69 (0, 0))).drew.cell? ⟨D, 3, none⟩ = some (.int .i64 E.h) ∧ (w.alloc (.cells #[.int .i64 13, .int .i64 A, .int .i64 B, .string t] 69 (0, 0))).drew.cell? ⟨w.heap.size, 1, none⟩ = some (.int .i64 A) := ⟨n3, by go_simp⟩
    go_wp2
    refine wp_region_held_drew (S := fun W => W.cell? ⟨D, 3, none⟩ = some (.int .i64 E.h) ∧ W.cell? ⟨w.heap.size, 1, none⟩ = some (.int .i64 A)) (by kernel_rfl) hS0 (fun hH => ?_)
    refine wpAnyH_take (i := 0) (v := .pointer (some ⟨D, 0, none⟩)) rfl (by kernel_rfl) (by kernel_rfl) (by kernel_rfl) (fun _ _ _ h => h) (Or.inl ⟨by rfl, fun W hW => by obtain ⟨y0, y1⟩ := hW; go_simp⟩) (by assumption) ?_
    simp only [Act.put, List.getElem_toArray, List.getElem_cons_zero, List.setIfInBounds_toArray, List.set_cons_zero, List.set_cons_succ]
    refine wpAnyH_take (i := 1) (v := .pointer (some ⟨D, 0, none⟩)) rfl (by kernel_rfl) (by kernel_rfl) (by kernel_rfl) (fun _ _ _ h => h) (Or.inl ⟨by rfl, fun W hW => by obtain ⟨y0, y1⟩ := hW; go_simp⟩) (by assumption) ?_
    simp only [Act.put, List.getElem_toArray, List.getElem_cons_succ, List.getElem_cons_zero, List.setIfInBounds_toArray, List.set_cons_zero, List.set_cons_succ]
    refine wpAnyH_take (i := 2) (v := .pointer (some ⟨D, 2, none⟩)) rfl (by kernel_rfl) (by kernel_rfl) (by kernel_rfl) (fun _ _ _ h => h) (Or.inl ⟨by rfl, fun W hW => by obtain ⟨y0, y1⟩ := hW; go_simp⟩) (by assumption) ?_
    simp only [Act.put, List.getElem_toArray, List.getElem_cons_succ, List.getElem_cons_zero, List.setIfInBounds_toArray, List.set_cons_zero, List.set_cons_succ]
    refine wpAnyH_take (i := 3) (v := .pointer (some ⟨D, 3, none⟩)) rfl (by kernel_rfl) (by kernel_rfl) (by kernel_rfl) (fun _ _ _ h => h) (Or.inl ⟨by rfl, fun W hW => by obtain ⟨y0, y1⟩ := hW; go_simp⟩) (by assumption) ?_
    simp only [Act.put, List.getElem_toArray, List.getElem_cons_succ, List.getElem_cons_zero, List.setIfInBounds_toArray, List.set_cons_zero, List.set_cons_succ]
    refine wpAnyH_take (i := 4) (v := .int .i64 E.h) rfl (by kernel_rfl) (by kernel_rfl) (by kernel_rfl) (fun _ _ _ h => h) (Or.inl ⟨by rfl, fun W hW => by obtain ⟨y0, y1⟩ := hW; go_simp⟩) (by assumption) ?_
    simp only [Act.put, List.getElem_toArray, List.getElem_cons_succ, List.getElem_cons_zero, List.setIfInBounds_toArray, List.set_cons_zero, List.set_cons_succ]
    refine wpAnyH_take (i := 5) (v := .pointer (some ⟨w.heap.size, 1, none⟩)) rfl (by kernel_rfl) (by kernel_rfl) (by kernel_rfl) (fun _ _ _ h => h) (Or.inl ⟨by rfl, fun W hW => by obtain ⟨y0, y1⟩ := hW; go_simp⟩) (by assumption) ?_
    simp only [Act.put, List.getElem_toArray, List.getElem_cons_succ, List.getElem_cons_zero, List.setIfInBounds_toArray, List.set_cons_zero, List.set_cons_succ]
    refine wpAnyH_take (i := 6) (v := .int .i64 A) rfl (by kernel_rfl) (by kernel_rfl) (by kernel_rfl) (fun _ _ _ h => h) (Or.inl ⟨by rfl, fun W hW => by obtain ⟨y0, y1⟩ := hW; go_simp⟩) (by assumption) ?_
    simp only [Act.put, List.getElem_toArray, List.getElem_cons_succ, List.getElem_cons_zero, List.setIfInBounds_toArray, List.set_cons_zero, List.set_cons_succ]
    refine wpAnyH_take (i := 7) (v := .bool false) rfl (by kernel_rfl) (by kernel_rfl) (by kernel_rfl) (fun _ _ _ h => h) (Or.inl ⟨by rfl, fun W hW => by obtain ⟨y0, y1⟩ := hW; go_simp⟩) (by assumption) ?_
    simp only [Act.put, List.getElem_toArray, List.getElem_cons_succ, List.getElem_cons_zero, List.setIfInBounds_toArray, List.set_cons_zero, List.set_cons_succ]
    refine wpAnyH_ready (rs := [8]) (by kernel_rfl) (by simp) ?_
    refine AllReadyH.cons rfl (fun K hK => ?_) AllReadyH.nil
    go_simp
    go_wp2_with (go_at_call 106; refine (demand_no 4 _).mono ?_; rintro e w2 ⟨rfl, rfl⟩)
    exact ⟨rfl, StP.no rfl b0d⟩
set_option maxRecDepth 100000 in
set_option maxHeartbeats 3200000 in
theorem op14_any (base D : Nat) (E : Vm) (x : Jo) (s : List ByteArray) (br : List Bool) (w : World) (h : MPs base D E s br w) (hb : base ≤ w.heap.size) (hs : Vm.fits s) (hc : x.c = 14) :
    Calls Tryz.prog 113 #[.pointer (some ⟨D, 0, none⟩), x.val] w (StP base D E (Vm.fin br (Vm.act E x s)) w) := by
  obtain ⟨vi, vb, h⟩ := h
  rw [Vm.actE14 hc]
  obtain ⟨C, A, B, t⟩ := x
  simp only at hc ⊢
  subst hc
  have hS := hs.1
  have hZ := hs.2
  have h0 := h.alloc (.cells #[.int .i64 14, .int .i64 A, .int .i64 B, .string t] 69 (0, 0))
  have b0 : Fr base D w (w.alloc (.cells #[.int .i64 14, .int .i64 A, .int .i64 B, .string t] 69 (0, 0))) := (Fr.refl base D w).alloc hb _
  have hb0 := Nat.le_trans hb b0.size
  clear h hs
  by_cases ha : A ≤ E.a
  · have hr : Hid (Vm.fin br (if A ≤ E.a then .ok s else .error 4) = .ok (s, br)) := Lib.hid (by rw [if_pos ha]; rfl)
    have hq : decide (A ≤ E.a) = true := decide_eq_true ha
    have h0d := h0.drew
    have b0d := b0.drew
    obtain ⟨m0, m1, m2, m3, m4⟩ := h0.cells
    obtain ⟨n0, n1, n2, n3, n4⟩ := h0d.cells
    clear ha
    rw [hr.out]
    go_enter Tryz.func113, Tryz.ntmps113
    go_wp2
    go_region_with (go_at_call 106; go_must (refine (demand_ok 4 _).mono ?_); go_must (rintro e w2 ⟨rfl, rfl⟩))
    all_goals
      go_wp2
      go_end0
      exact StP.ok rfl h0d b0d
  · have hr : Hid (Vm.fin br (if A ≤ E.a then .ok s else .error 4) = .error 4) := Lib.hid (by rw [if_neg ha]; rfl)
    have hq : decide (A ≤ E.a) = false := decide_eq_false ha
    have h0d := h0.drew
    have b0d := b0.drew
    obtain ⟨m0, m1, m2, m3, m4⟩ := h0.cells
    obtain ⟨n0, n1, n2, n3, n4⟩ := h0d.cells
    clear ha
    rw [hr.out]
    go_enter Tryz.func113, Tryz.ntmps113
    have hS0 : (w.alloc (.cells #[.int .i64 14, .int .i64 A, .int .i64 B, .string t] 69 (0, 0))).drew.cell? ⟨D, 4, none⟩ = some (.int .i64 E.a) ∧ (w.alloc (.cells #[.int .i64 14, .int .i64 A, .int .i64 B, .string t] 69 (0, 0))).drew.cell? ⟨w.heap.size, 1, none⟩ = some (.int .i64 A) := ⟨n4, by go_simp⟩
    go_wp2
    refine wp_region_held_drew (S := fun W => W.cell? ⟨D, 4, none⟩ = some (.int .i64 E.a) ∧ W.cell? ⟨w.heap.size, 1, none⟩ = some (.int .i64 A)) (by kernel_rfl) hS0 (fun hH => ?_)
    refine wpAnyH_take (i := 0) (v := .pointer (some ⟨D, 0, none⟩)) rfl (by kernel_rfl) (by kernel_rfl) (by kernel_rfl) (fun _ _ _ h => h) (Or.inl ⟨by rfl, fun W hW => by obtain ⟨y0, y1⟩ := hW; go_simp⟩) (by assumption) ?_
    simp only [Act.put, List.getElem_toArray, List.getElem_cons_zero, List.setIfInBounds_toArray, List.set_cons_zero, List.set_cons_succ]
    refine wpAnyH_take (i := 1) (v := .pointer (some ⟨D, 0, none⟩)) rfl (by kernel_rfl) (by kernel_rfl) (by kernel_rfl) (fun _ _ _ h => h) (Or.inl ⟨by rfl, fun W hW => by obtain ⟨y0, y1⟩ := hW; go_simp⟩) (by assumption) ?_
    simp only [Act.put, List.getElem_toArray, List.getElem_cons_succ, List.getElem_cons_zero, List.setIfInBounds_toArray, List.set_cons_zero, List.set_cons_succ]
    refine wpAnyH_take (i := 2) (v := .pointer (some ⟨D, 2, none⟩)) rfl (by kernel_rfl) (by kernel_rfl) (by kernel_rfl) (fun _ _ _ h => h) (Or.inl ⟨by rfl, fun W hW => by obtain ⟨y0, y1⟩ := hW; go_simp⟩) (by assumption) ?_
    simp only [Act.put, List.getElem_toArray, List.getElem_cons_succ, List.getElem_cons_zero, List.setIfInBounds_toArray, List.set_cons_zero, List.set_cons_succ]
    refine wpAnyH_take (i := 3) (v := .pointer (some ⟨D, 4, none⟩)) rfl (by kernel_rfl) (by kernel_rfl) (by kernel_rfl) (fun _ _ _ h => h) (Or.inl ⟨by rfl, fun W hW => by obtain ⟨y0, y1⟩ := hW; go_simp⟩) (by assumption) ?_
    simp only [Act.put, List.getElem_toArray, List.getElem_cons_succ, List.getElem_cons_zero, List.setIfInBounds_toArray, List.set_cons_zero, List.set_cons_succ]
    refine wpAnyH_take (i := 4) (v := .int .i64 E.a) rfl (by kernel_rfl) (by kernel_rfl) (by kernel_rfl) (fun _ _ _ h => h) (Or.inl ⟨by rfl, fun W hW => by obtain ⟨y0, y1⟩ := hW; go_simp⟩) (by assumption) ?_
    simp only [Act.put, List.getElem_toArray, List.getElem_cons_succ, List.getElem_cons_zero, List.setIfInBounds_toArray, List.set_cons_zero, List.set_cons_succ]
    refine wpAnyH_take (i := 5) (v := .pointer (some ⟨w.heap.size, 1, none⟩)) rfl (by kernel_rfl) (by kernel_rfl) (by kernel_rfl) (fun _ _ _ h => h) (Or.inl ⟨by rfl, fun W hW => by obtain ⟨y0, y1⟩ := hW; go_simp⟩) (by assumption) ?_
    simp only [Act.put, List.getElem_toArray, List.getElem_cons_succ, List.getElem_cons_zero, List.setIfInBounds_toArray, List.set_cons_zero, List.set_cons_succ]
    refine wpAnyH_take (i := 6) (v := .int .i64 A) rfl (by kernel_rfl) (by kernel_rfl) (by kernel_rfl) (fun _ _ _ h => h) (Or.inl ⟨by rfl, fun W hW => by obtain ⟨y0, y1⟩ := hW; go_simp⟩) (by assumption) ?_
    simp only [Act.put, List.getElem_toArray, List.getElem_cons_succ, List.getElem_cons_zero, List.setIfInBounds_toArray, List.set_cons_zero, List.set_cons_succ]
    refine wpAnyH_take (i := 7) (v := .bool false) rfl (by kernel_rfl) (by kernel_rfl) (by kernel_rfl) (fun _ _ _ h => h) (Or.inl ⟨by rfl, fun W hW => by obtain ⟨y0, y1⟩ := hW; go_simp⟩) (by assumption) ?_
    simp only [Act.put, List.getElem_toArray, List.getElem_cons_succ, List.getElem_cons_zero, List.setIfInBounds_toArray, List.set_cons_zero, List.set_cons_succ]
    refine wpAnyH_ready (rs := [8]) (by kernel_rfl) (by simp) ?_
    refine AllReadyH.cons rfl (fun K hK => ?_) AllReadyH.nil
    go_simp
    go_wp2_with (go_at_call 106; refine (demand_no 4 _).mono ?_; rintro e w2 ⟨rfl, rfl⟩)
    exact ⟨rfl, StP.no rfl b0d⟩
end Go.Proofs.YtdaffohimifecaaGreat
