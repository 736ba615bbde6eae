import Derived.Test.YtoocibabceeagabGreatWl
import Derived.Test.YtoocibabceeagabGreatWh
/-
  The machine of the model: a step, one contract for each operation.
-/
namespace Go.Proofs.YtoocibabceeagabGreat
open Go.RowKit

def MSs (base D : Nat) (s : List ByteArray) (br : List Bool) (q : Int) (w : World) : Prop := ∃ vi vb, MS base D vi vb s br q w
/-- What a step of the model leaves. -/
def SsP (base D : Nat) (r : Except Int (List ByteArray × List Bool)) (w : World) (e : Ending) (w' : World) : Prop := e = .returned (.tuple #[]) ∧ Fr base D w w' ∧ (match r with
  | .ok m => MSs base D m.1 m.2 0 w'
  | .error c => ∃ s' br', MSs base D s' br' c w')
theorem SsP.ok {base D : Nat} {r : Except Int (List ByteArray × List Bool)} {w w' : World} {vi vb : Value} {s : List ByteArray} {br : List Bool} (hr : r = .ok (s, br)) (h : MS base D vi vb s br 0 w') (hb : Fr base D w w') : SsP base D r w (.returned (.tuple #[])) w' := by
  subst hr
  exact ⟨rfl, hb, vi, vb, h⟩
theorem SsP.no {base D : Nat} {r : Except Int (List ByteArray × List Bool)} {w w' : World} {vi vb : Value} {s : List ByteArray} {br : List Bool} {c : Int} (hr : r = .error c) (h : MS base D vi vb s br c w') (hb : Fr base D w w') : SsP base D r w (.returned (.tuple #[])) w' := by
  subst hr
  exact ⟨rfl, hb, s, br, vi, vb, h⟩
theorem needs0_any (A B : Int) (t : ByteArray) (w : World) : Calls Tryz.prog 200 #[.agg #[.int .i64 0, .int .i64 A, .int .i64 B, .string t]] w fun e w' => e = .returned (.int .i64 0) ∧ Below w.heap.size w w' := by
  go_enter Tryz.func200, Tryz.ntmps200
  go_wp2
  go_ret
  exact ⟨rfl, (Below.refl _ _).alloc (Nat.le_refl _) _⟩
theorem needs1_any (A B : Int) (t : ByteArray) (w : World) : Calls Tryz.prog 200 #[.agg #[.int .i64 1, .int .i64 A, .int .i64 B, .string t]] w fun e w' => e = .returned (.int .i64 1) ∧ Below w.heap.size w w' := by
  go_enter Tryz.func200, Tryz.ntmps200
  go_wp2
  go_ret
  exact ⟨rfl, (Below.refl _ _).alloc (Nat.le_refl _) _⟩
theorem needs2_any (A B : Int) (t : ByteArray) (w : World) : Calls Tryz.prog 200 #[.agg #[.int .i64 2, .int .i64 A, .int .i64 B, .string t]] w fun e w' => e = .returned (.int .i64 1) ∧ Below w.heap.size w w' := by
  go_enter Tryz.func200, Tryz.ntmps200
  go_wp2
  go_ret
  exact ⟨rfl, (Below.refl _ _).alloc (Nat.le_refl _) _⟩
theorem needs3_any (A B : Int) (t : ByteArray) (w : World) : Calls Tryz.prog 200 #[.agg #[.int .i64 3, .int .i64 A, .int .i64 B, .string t]] w fun e w' => e = .returned (.int .i64 2) ∧ Below w.heap.size w w' := by
  go_enter Tryz.func200, Tryz.ntmps200
  go_wp2
  go_ret
  exact ⟨rfl, (Below.refl _ _).alloc (Nat.le_refl _) _⟩
theorem needs4_any (A B : Int) (t : ByteArray) (w : World) : Calls Tryz.prog 200 #[.agg #[.int .i64 4, .int .i64 A, .int .i64 B, .string t]] w fun e w' => e = .returned (.int .i64 2) ∧ Below w.heap.size w w' := by
  go_enter Tryz.func200, Tryz.ntmps200
  go_wp2
  go_ret
  exact ⟨rfl, (Below.refl _ _).alloc (Nat.le_refl _) _⟩
theorem needs5_any (A B : Int) (t : ByteArray) (w : World) : Calls Tryz.prog 200 #[.agg #[.int .i64 5, .int .i64 A, .int .i64 B, .string t]] w fun e w' => e = .returned (.int .i64 1) ∧ Below w.heap.size w w' := by
  go_enter Tryz.func200, Tryz.ntmps200
  go_wp2
  go_ret
  exact ⟨rfl, (Below.refl _ _).alloc (Nat.le_refl _) _⟩
theorem needs9_any (A B : Int) (t : ByteArray) (w : World) : Calls Tryz.prog 200 #[.agg #[.int .i64 9, .int .i64 A, .int .i64 B, .string t]] w fun e w' => e = .returned (.int .i64 1) ∧ Below w.heap.size w w' := by
  go_enter Tryz.func200, Tryz.ntmps200
  go_wp2
  go_ret
  exact ⟨rfl, (Below.refl _ _).alloc (Nat.le_refl _) _⟩
theorem needs10_any (A B : Int) (t : ByteArray) (w : World) : Calls Tryz.prog 200 #[.agg #[.int .i64 10, .int .i64 A, .int .i64 B, .string t]] w fun e w' => e = .returned (.int .i64 1) ∧ Below w.heap.size w w' := by
  go_enter Tryz.func200, Tryz.ntmps200
  go_wp2
  go_ret
  exact ⟨rfl, (Below.refl _ _).alloc (Nat.le_refl _) _⟩
theorem needs11_any (A B : Int) (t : ByteArray) (w : World) : Calls Tryz.prog 200 #[.agg #[.int .i64 11, .int .i64 A, .int .i64 B, .string t]] w fun e w' => e = .returned (.int .i64 2) ∧ Below w.heap.size w w' := by
  go_enter Tryz.func200, Tryz.ntmps200
  go_wp2
  go_ret
  exact ⟨rfl, (Below.refl _ _).alloc (Nat.le_refl _) _⟩
theorem needs12_any (A B : Int) (t : ByteArray) (w : World) (h0 : 0 ≤ A) (h1 : A ≤ 5) (h2 : 0 ≤ B) (h3 : B ≤ 5) : Calls Tryz.prog 200 #[.agg #[.int .i64 12, .int .i64 A, .int .i64 B, .string t]] w fun e w' => e = .returned (.int .i64 (A + B)) ∧ Below w.heap.size w w' := by
  have hwr : IntKind.i64.wrap (A + B) = A + B := by rw [IntKind.wrap_i64]; omega
  go_enter Tryz.func200, Tryz.ntmps200
  go_wp2
  go_ret
  exact ⟨rfl, (Below.refl _ _).alloc (Nat.le_refl _) _⟩
theorem needs13_any (A B : Int) (t : ByteArray) (w : World) : Calls Tryz.prog 200 #[.agg #[.int .i64 13, .int .i64 A, .int .i64 B, .string t]] w fun e w' => e = .returned (.int .i64 0) ∧ Below w.heap.size w w' := by
  go_enter Tryz.func200, Tryz.ntmps200
  go_wp2
  go_ret
  exact ⟨rfl, (Below.refl _ _).alloc (Nat.le_refl _) _⟩
theorem needs14_any (A B : Int) (t : ByteArray) (w : World) : Calls Tryz.prog 200 #[.agg #[.int .i64 14, .int .i64 A, .int .i64 B, .string t]] w fun e w' => e = .returned (.int .i64 0) ∧ Below w.heap.size w w' := by
  go_enter Tryz.func200, Tryz.ntmps200
  go_wp2
  go_ret
  exact ⟨rfl, (Below.refl _ _).alloc (Nat.le_refl _) _⟩
set_option maxRecDepth 100000 in
set_option maxHeartbeats 6400000 in
theorem stepM0_any (base D : Nat) (E : Vm) (x : Jo) (s : List ByteArray) (br : List Bool) (w : World) (h : MSs base D s br 0 w) (hb : base ≤ w.heap.size) (hs : Vm.fits s) (hc : x.c = 0) :
    Calls Tryz.prog 166 #[.pointer (some ⟨D, 0, none⟩), x.val, .agg #[.string E.t, .int .i64 E.h, .int .i64 E.a]] w (SsP base D (Vm.fin br (Vm.act E x s)) w) := by
  obtain ⟨vi, vb, h⟩ := h
  rw [Vm.actE0 hc]
  obtain ⟨C, A, B, t⟩ := x
  simp only at hc ⊢
  subst hc
  have hS := hs.1
  have hZ := hs.2
  have hDl := h.blk.lt
  have hO0 : Bk w.heap.size 77 #[.int .i64 0, .int .i64 A, .int .i64 B, .string t] (w.alloc (.cells #[.int .i64 0, .int .i64 A, .int .i64 B, .string t] 77 (0, 0))) := Bk.new _ _ _
  have h1 := h.alloc (.cells #[.int .i64 0, .int .i64 A, .int .i64 B, .string t] 77 (0, 0))
  have b1 : Fr base D w (w.alloc (.cells #[.int .i64 0, .int .i64 A, .int .i64 B, .string t] 77 (0, 0))) := (Fr.refl base D w).alloc hb _
  obtain ⟨W1, HW1⟩ : ∃ W1, Hid (w.alloc (.cells #[.int .i64 0, .int .i64 A, .int .i64 B, .string t] 77 (0, 0)) = W1) := ⟨_, Lib.hid rfl⟩
  have hsz : (w.alloc (.cells #[.int .i64 0, .int .i64 A, .int .i64 B, .string t] 77 (0, 0))).heap.size = w.heap.size + 1 := by simp
  rw [HW1.out] at hO0 h1 b1 hsz
  have hO1 := hO0.alloc (.cells #[.string E.t, .int .i64 E.h, .int .i64 E.a] 35 (0, 0))
  have hE1 : Bk (w.heap.size + 1) 35 #[.string E.t, .int .i64 E.h, .int .i64 E.a] (W1.alloc (.cells #[.string E.t, .int .i64 E.h, .int .i64 E.a] 35 (0, 0))) := Bk.new' _ _ _ _ hsz.symm
  have h2 := h1.alloc (.cells #[.string E.t, .int .i64 E.h, .int .i64 E.a] 35 (0, 0))
  have b2 := b1.alloc (Nat.le_trans hb b1.size) (.cells #[.string E.t, .int .i64 E.h, .int .i64 E.a] 35 (0, 0))
  obtain ⟨W2, HW2⟩ : ∃ W2, Hid (W1.alloc (.cells #[.string E.t, .int .i64 E.h, .int .i64 E.a] 35 (0, 0)) = W2) := ⟨_, Lib.hid rfl⟩
  rw [HW2.out] at hO1 hE1 h2 b2
  have hb2 := Nat.le_trans hb b2.size
  clear h h1 b1 hO0 hs hsz
  by_cases hp : s.length < 24
  · rw [show Vm.fin br (Vm.put t s) = .ok (t :: s, br) by unfold Vm.put; rw [if_pos hp]; rfl]
    obtain ⟨o0, o1, o2, o3⟩ := Bk.c4 hO1
    have hnd := fun W => needs0_any A B t W
    have HWW : Hid ((w.alloc (.cells #[.int .i64 0, .int .i64 A, .int .i64 B, .string t] 77 (0, 0))).alloc (.cells #[.string E.t, .int .i64 E.h, .int .i64 E.a] 35 (0, 0)) = W2) := Lib.hid (by rw [HW1.out, HW2.out])
    clear HW1 HW2
    go_enter Tryz.func166, Tryz.ntmps166
    go_wp2_with fail
    rw [HWW.out]
    refine (hnd _).mono ?_
    rintro e w3 ⟨rfl, c3⟩
    have h3 := h2.below c3
    have hO3 := hO1.below c3
    have hE3 := hE1.below c3
    have b3 := b2.trans (Fr.of hb2 c3)
    have hb3 := Nat.le_trans hb b3.size
    clear hnd HWW h2 hO1 hE1 b2 c3 hb2 o0 o1 o2 o3
    obtain ⟨o0, o1, o2, o3⟩ := Bk.c4 hO3
    obtain ⟨g0, g1, g2⟩ := Bk.c3w hE3
    go_wp2_with fail
    refine (needM_ok base D 0 vi vb _ br 0 w3 h3 (by simp)).mono ?_
    rintro e w4 ⟨rfl, rfl⟩
    go_wp2_with fail
    refine (pushM_ok base D vi vb s br 0 t _ h3 hb3 hp).mono ?_
    rintro e w4 ⟨v4, rfl, h4, c4, _⟩
    have b4 := b3.trans c4
    have hb4 := Nat.le_trans hb b4.size
    have hO4 := hO3.fr c4 (by omega) (by decide) (by decide)
    have hE4 := hE3.fr c4 (by omega) (by decide) (by decide)
    clear h3 b3 c4 hb3 hO3 hE3 o0 o1 o2 o3 g0 g1 g2
    obtain ⟨o0, o1, o2, o3⟩ := Bk.c4 hO4
    obtain ⟨g0, g1, g2⟩ := Bk.c3w hE4
    go_wp2
    first | go_end0 | refine bodyPost_ret (results_none rfl _ _ _) rfl ?_
    exact SsP.ok rfl h4 b4
  · rw [show Vm.fin br (Vm.put t s) = .error 5 by unfold Vm.put; rw [if_neg hp]; rfl]
    obtain ⟨o0, o1, o2, o3⟩ := Bk.c4 hO1
    have hnd := fun W => needs0_any A B t W
    have HWW : Hid ((w.alloc (.cells #[.int .i64 0, .int .i64 A, .int .i64 B, .string t] 77 (0, 0))).alloc (.cells #[.string E.t, .int .i64 E.h, .int .i64 E.a] 35 (0, 0)) = W2) := Lib.hid (by rw [HW1.out, HW2.out])
    clear HW1 HW2
    go_enter Tryz.func166, Tryz.ntmps166
    go_wp2_with fail
    rw [HWW.out]
    refine (hnd _).mono ?_
    rintro e w3 ⟨rfl, c3⟩
    have h3 := h2.below c3
    have hO3 := hO1.below c3
    have hE3 := hE1.below c3
    have b3 := b2.trans (Fr.of hb2 c3)
    have hb3 := Nat.le_trans hb b3.size
    clear hnd HWW h2 hO1 hE1 b2 c3 hb2 o0 o1 o2 o3
    obtain ⟨o0, o1, o2, o3⟩ := Bk.c4 hO3
    obtain ⟨g0, g1, g2⟩ := Bk.c3w hE3
    go_wp2_with fail
    refine (needM_ok base D 0 vi vb _ br 0 w3 h3 (by simp)).mono ?_
    rintro e w4 ⟨rfl, rfl⟩
    go_wp2_with fail
    refine (pushM_no base D vi vb s br 0 t _ h3 hp).mono ?_
    rintro e w5 ⟨rfl, rfl⟩
    go_wp2
    first | go_end0 | refine bodyPost_ret (results_none rfl _ _ _) rfl ?_
    exact SsP.no rfl (h3.setQ 5) (b3.setD h3.hD 2 _)
set_option maxRecDepth 100000 in
set_option maxHeartbeats 6400000 in
theorem stepM2_any (base D : Nat) (E : Vm) (x : Jo) (s : List ByteArray) (br : List Bool) (w : World) (h : MSs base D s br 0 w) (hb : base ≤ w.heap.size) (hs : Vm.fits s) (hc : x.c = 2) :
    Calls Tryz.prog 166 #[.pointer (some ⟨D, 0, none⟩), x.val, .agg #[.string E.t, .int .i64 E.h, .int .i64 E.a]] w (SsP base D (Vm.fin br (Vm.act E x s)) w) := by
  obtain ⟨vi, vb, h⟩ := h
  rw [Vm.actE2 hc]
  obtain ⟨C, A, B, t⟩ := x
  simp only at hc ⊢
  subst hc
  have hS := hs.1
  have hZ := hs.2
  have hDl := h.blk.lt
  have hO0 : Bk w.heap.size 77 #[.int .i64 2, .int .i64 A, .int .i64 B, .string t] (w.alloc (.cells #[.int .i64 2, .int .i64 A, .int .i64 B, .string t] 77 (0, 0))) := Bk.new _ _ _
  have h1 := h.alloc (.cells #[.int .i64 2, .int .i64 A, .int .i64 B, .string t] 77 (0, 0))
  have b1 : Fr base D w (w.alloc (.cells #[.int .i64 2, .int .i64 A, .int .i64 B, .string t] 77 (0, 0))) := (Fr.refl base D w).alloc hb _
  obtain ⟨W1, HW1⟩ : ∃ W1, Hid (w.alloc (.cells #[.int .i64 2, .int .i64 A, .int .i64 B, .string t] 77 (0, 0)) = W1) := ⟨_, Lib.hid rfl⟩
  have hsz : (w.alloc (.cells #[.int .i64 2, .int .i64 A, .int .i64 B, .string t] 77 (0, 0))).heap.size = w.heap.size + 1 := by simp
  rw [HW1.out] at hO0 h1 b1 hsz
  have hO1 := hO0.alloc (.cells #[.string E.t, .int .i64 E.h, .int .i64 E.a] 35 (0, 0))
  have hE1 : Bk (w.heap.size + 1) 35 #[.string E.t, .int .i64 E.h, .int .i64 E.a] (W1.alloc (.cells #[.string E.t, .int .i64 E.h, .int .i64 E.a] 35 (0, 0))) := Bk.new' _ _ _ _ hsz.symm
  have h2 := h1.alloc (.cells #[.string E.t, .int .i64 E.h, .int .i64 E.a] 35 (0, 0))
  have b2 := b1.alloc (Nat.le_trans hb b1.size) (.cells #[.string E.t, .int .i64 E.h, .int .i64 E.a] 35 (0, 0))
  obtain ⟨W2, HW2⟩ : ∃ W2, Hid (W1.alloc (.cells #[.string E.t, .int .i64 E.h, .int .i64 E.a] 35 (0, 0)) = W2) := ⟨_, Lib.hid rfl⟩
  rw [HW2.out] at hO1 hE1 h2 b2
  have hb2 := Nat.le_trans hb b2.size
  clear h h1 b1 hO0 hs hsz
  rcases s with _ | ⟨a, r⟩
  · have hnil := hZ
    obtain ⟨o0, o1, o2, o3⟩ := Bk.c4 hO1
    have hnd := fun W => needs2_any A B t W
    have HWW : Hid ((w.alloc (.cells #[.int .i64 2, .int .i64 A, .int .i64 B, .string t] 77 (0, 0))).alloc (.cells #[.string E.t, .int .i64 E.h, .int .i64 E.a] 35 (0, 0)) = W2) := Lib.hid (by rw [HW1.out, HW2.out])
    clear HW1 HW2
    go_enter Tryz.func166, Tryz.ntmps166
    go_wp2_with fail
    rw [HWW.out]
    refine (hnd _).mono ?_
    rintro e w3 ⟨rfl, c3⟩
    have h3 := h2.below c3
    have hO3 := hO1.below c3
    have hE3 := hE1.below c3
    have b3 := b2.trans (Fr.of hb2 c3)
    have hb3 := Nat.le_trans hb b3.size
    clear hnd HWW h2 hO1 hE1 b2 c3 hb2 o0 o1 o2 o3
    obtain ⟨o0, o1, o2, o3⟩ := Bk.c4 hO3
    obtain ⟨g0, g1, g2⟩ := Bk.c3w hE3
    go_wp2_with fail
    refine (needM_no base D 1 vi vb _ br 0 w3 h3 (by simp)).mono ?_
    rintro e w4 ⟨rfl, rfl⟩
    go_wp2
    first | go_end0 | refine bodyPost_ret (results_none rfl _ _ _) rfl ?_
    exact SsP.no rfl (h3.setQ 2) (b3.setD h3.hD 2 _)
  · have hr : Hid (Vm.fin br (.ok r) = .ok (r, br)) := Lib.hid rfl
    obtain ⟨o0, o1, o2, o3⟩ := Bk.c4 hO1
    have hnd := fun W => needs2_any A B t W
    have HWW : Hid ((w.alloc (.cells #[.int .i64 2, .int .i64 A, .int .i64 B, .string t] 77 (0, 0))).alloc (.cells #[.string E.t, .int .i64 E.h, .int .i64 E.a] 35 (0, 0)) = W2) := Lib.hid (by rw [HW1.out, HW2.out])
    clear HW1 HW2
    go_enter Tryz.func166, Tryz.ntmps166
    go_wp2_with fail
    rw [HWW.out]
    refine (hnd _).mono ?_
    rintro e w3 ⟨rfl, c3⟩
    have h3 := h2.below c3
    have hO3 := hO1.below c3
    have hE3 := hE1.below c3
    have b3 := b2.trans (Fr.of hb2 c3)
    have hb3 := Nat.le_trans hb b3.size
    clear hnd HWW h2 hO1 hE1 b2 c3 hb2 o0 o1 o2 o3
    obtain ⟨o0, o1, o2, o3⟩ := Bk.c4 hO3
    obtain ⟨g0, g1, g2⟩ := Bk.c3w hE3
    go_wp2_with fail
    refine (needM_ok base D 1 vi vb _ br 0 w3 h3 (by simp)).mono ?_
    rintro e w4 ⟨rfl, rfl⟩
    go_wp2_with fail
    refine (popM_any base D vi vb a r br 0 _ h3 (by simp at hS ⊢; omega)).mono ?_
    rintro e w4 ⟨v4, rfl, h4, _, c4⟩
    have b4 := b3.trans c4
    have hb4 := Nat.le_trans hb b4.size
    have hO4 := hO3.fr c4 (by omega) (by decide) (by decide)
    have hE4 := hE3.fr c4 (by omega) (by decide) (by decide)
    clear h3 b3 c4 hb3 hO3 hE3 o0 o1 o2 o3 g0 g1 g2
    obtain ⟨o0, o1, o2, o3⟩ := Bk.c4 hO4
    obtain ⟨g0, g1, g2⟩ := Bk.c3w hE4
    go_wp2
    first | go_end0 | refine bodyPost_ret (results_none rfl _ _ _) rfl ?_
    exact SsP.ok hr.out h4 b4
set_option maxRecDepth 100000 in
set_option maxHeartbeats 6400000 in
theorem stepM3_any (base D : Nat) (E : Vm) (x : Jo) (s : List ByteArray) (br : List Bool) (w : World) (h : MSs base D s br 0 w) (hb : base ≤ w.heap.size) (hs : Vm.fits s) (hc : x.c = 3) :
    Calls Tryz.prog 166 #[.pointer (some ⟨D, 0, none⟩), x.val, .agg #[.string E.t, .int .i64 E.h, .int .i64 E.a]] w (SsP base D (Vm.fin br (Vm.act E x s)) w) := by
  obtain ⟨vi, vb, h⟩ := h
  rw [Vm.actE3 hc]
  obtain ⟨C, A, B, t⟩ := x
  simp only at hc ⊢
  subst hc
  have hS := hs.1
  have hZ := hs.2
  have hDl := h.blk.lt
  have hO0 : Bk w.heap.size 77 #[.int .i64 3, .int .i64 A, .int .i64 B, .string t] (w.alloc (.cells #[.int .i64 3, .int .i64 A, .int .i64 B, .string t] 77 (0, 0))) := Bk.new _ _ _
  have h1 := h.alloc (.cells #[.int .i64 3, .int .i64 A, .int .i64 B, .string t] 77 (0, 0))
  have b1 : Fr base D w (w.alloc (.cells #[.int .i64 3, .int .i64 A, .int .i64 B, .string t] 77 (0, 0))) := (Fr.refl base D w).alloc hb _
  obtain ⟨W1, HW1⟩ : ∃ W1, Hid (w.alloc (.cells #[.int .i64 3, .int .i64 A, .int .i64 B, .string t] 77 (0, 0)) = W1) := ⟨_, Lib.hid rfl⟩
  have hsz : (w.alloc (.cells #[.int .i64 3, .int .i64 A, .int .i64 B, .string t] 77 (0, 0))).heap.size = w.heap.size + 1 := by simp
  rw [HW1.out] at hO0 h1 b1 hsz
  have hO1 := hO0.alloc (.cells #[.string E.t, .int .i64 E.h, .int .i64 E.a] 35 (0, 0))
  have hE1 : Bk (w.heap.size + 1) 35 #[.string E.t, .int .i64 E.h, .int .i64 E.a] (W1.alloc (.cells #[.string E.t, .int .i64 E.h, .int .i64 E.a] 35 (0, 0))) := Bk.new' _ _ _ _ hsz.symm
  have h2 := h1.alloc (.cells #[.string E.t, .int .i64 E.h, .int .i64 E.a] 35 (0, 0))
  have b2 := b1.alloc (Nat.le_trans hb b1.size) (.cells #[.string E.t, .int .i64 E.h, .int .i64 E.a] 35 (0, 0))
  obtain ⟨W2, HW2⟩ : ∃ W2, Hid (W1.alloc (.cells #[.string E.t, .int .i64 E.h, .int .i64 E.a] 35 (0, 0)) = W2) := ⟨_, Lib.hid rfl⟩
  rw [HW2.out] at hO1 hE1 h2 b2
  have hb2 := Nat.le_trans hb b2.size
  clear h h1 b1 hO0 hs hsz
  rcases s with _ | ⟨a, _ | ⟨b, r⟩⟩
  · have hnil := hZ
    obtain ⟨o0, o1, o2, o3⟩ := Bk.c4 hO1
    have hnd := fun W => needs3_any A B t W
    have HWW : Hid ((w.alloc (.cells #[.int .i64 3, .int .i64 A, .int .i64 B, .string t] 77 (0, 0))).alloc (.cells #[.string E.t, .int .i64 E.h, .int .i64 E.a] 35 (0, 0)) = W2) := Lib.hid (by rw [HW1.out, HW2.out])
    clear HW1 HW2
    go_enter Tryz.func166, Tryz.ntmps166
    go_wp2_with fail
    rw [HWW.out]
    refine (hnd _).mono ?_
    rintro e w3 ⟨rfl, c3⟩
    have h3 := h2.below c3
    have hO3 := hO1.below c3
    have hE3 := hE1.below c3
    have b3 := b2.trans (Fr.of hb2 c3)
    have hb3 := Nat.le_trans hb b3.size
    clear hnd HWW h2 hO1 hE1 b2 c3 hb2 o0 o1 o2 o3
    obtain ⟨o0, o1, o2, o3⟩ := Bk.c4 hO3
    obtain ⟨g0, g1, g2⟩ := Bk.c3w hE3
    go_wp2_with fail
    refine (needM_no base D 2 vi vb _ br 0 w3 h3 (by simp)).mono ?_
    rintro e w4 ⟨rfl, rfl⟩
    go_wp2
    first | go_end0 | refine bodyPost_ret (results_none rfl _ _ _) rfl ?_
    exact SsP.no rfl (h3.setQ 2) (b3.setD h3.hD 2 _)
  · have hnil := hZ
    obtain ⟨o0, o1, o2, o3⟩ := Bk.c4 hO1
    have hnd := fun W => needs3_any A B t W
    have HWW : Hid ((w.alloc (.cells #[.int .i64 3, .int .i64 A, .int .i64 B, .string t] 77 (0, 0))).alloc (.cells #[.string E.t, .int .i64 E.h, .int .i64 E.a] 35 (0, 0)) = W2) := Lib.hid (by rw [HW1.out, HW2.out])
    clear HW1 HW2
    go_enter Tryz.func166, Tryz.ntmps166
    go_wp2_with fail
    rw [HWW.out]
    refine (hnd _).mono ?_
    rintro e w3 ⟨rfl, c3⟩
    have h3 := h2.below c3
    have hO3 := hO1.below c3
    have hE3 := hE1.below c3
    have b3 := b2.trans (Fr.of hb2 c3)
    have hb3 := Nat.le_trans hb b3.size
    clear hnd HWW h2 hO1 hE1 b2 c3 hb2 o0 o1 o2 o3
    obtain ⟨o0, o1, o2, o3⟩ := Bk.c4 hO3
    obtain ⟨g0, g1, g2⟩ := Bk.c3w hE3
    go_wp2_with fail
    refine (needM_no base D 2 vi vb _ br 0 w3 h3 (by simp)).mono ?_
    rintro e w4 ⟨rfl, rfl⟩
    go_wp2
    first | go_end0 | refine bodyPost_ret (results_none rfl _ _ _) rfl ?_
    exact SsP.no rfl (h3.setQ 2) (b3.setD h3.hD 2 _)
  · have hr : Hid (Vm.fin br (.ok (b :: a :: r)) = .ok (b :: a :: r, br)) := Lib.hid rfl
    obtain ⟨o0, o1, o2, o3⟩ := Bk.c4 hO1
    have hnd := fun W => needs3_any A B t W
    have HWW : Hid ((w.alloc (.cells #[.int .i64 3, .int .i64 A, .int .i64 B, .string t] 77 (0, 0))).alloc (.cells #[.string E.t, .int .i64 E.h, .int .i64 E.a] 35 (0, 0)) = W2) := Lib.hid (by rw [HW1.out, HW2.out])
    clear HW1 HW2
    go_enter Tryz.func166, Tryz.ntmps166
    go_wp2_with fail
    rw [HWW.out]
    refine (hnd _).mono ?_
    rintro e w3 ⟨rfl, c3⟩
    have h3 := h2.below c3
    have hO3 := hO1.below c3
    have hE3 := hE1.below c3
    have b3 := b2.trans (Fr.of hb2 c3)
    have hb3 := Nat.le_trans hb b3.size
    clear hnd HWW h2 hO1 hE1 b2 c3 hb2 o0 o1 o2 o3
    obtain ⟨o0, o1, o2, o3⟩ := Bk.c4 hO3
    obtain ⟨g0, g1, g2⟩ := Bk.c3w hE3
    go_wp2_with fail
    refine (needM_ok base D 2 vi vb _ br 0 w3 h3 (by simp)).mono ?_
    rintro e w4 ⟨rfl, rfl⟩
    go_wp2_with fail
    refine (popM_any base D vi vb a (b :: r) br 0 _ h3 (by simp at hS ⊢; omega)).mono ?_
    rintro e w4 ⟨v4, rfl, h4, _, c4⟩
    have b4 := b3.trans c4
    have hb4 := Nat.le_trans hb b4.size
    have hO4 := hO3.fr c4 (by omega) (by decide) (by decide)
    have hE4 := hE3.fr c4 (by omega) (by decide) (by decide)
    clear h3 b3 c4 hb3 hO3 hE3 o0 o1 o2 o3 g0 g1 g2
    obtain ⟨o0, o1, o2, o3⟩ := Bk.c4 hO4
    obtain ⟨g0, g1, g2⟩ := Bk.c3w hE4
    go_wp2_with fail
    refine (popM_any base D v4 vb b r br 0 _ h4 (by simp at hS ⊢; omega)).mono ?_
    rintro e w5 ⟨v5, rfl, h5, _, c5⟩
    have b5 := b4.trans c5
    have hb5 := Nat.le_trans hb b5.size
    have hO5 := hO4.fr c5 (by omega) (by decide) (by decide)
    have hE5 := hE4.fr c5 (by omega) (by decide) (by decide)
    clear h4 b4 c5 hb4 hO4 hE4 o0 o1 o2 o3 g0 g1 g2
    obtain ⟨o0, o1, o2, o3⟩ := Bk.c4 hO5
    obtain ⟨g0, g1, g2⟩ := Bk.c3w hE5
    go_wp2_with fail
    refine (pushM_ok base D v5 vb r br 0 a _ h5 hb5 (by simp at hS ⊢; omega)).mono ?_
    rintro e w6 ⟨v6, rfl, h6, c6, _⟩
    have b6 := b5.trans c6
    have hb6 := Nat.le_trans hb b6.size
    have hO6 := hO5.fr c6 (by omega) (by decide) (by decide)
    have hE6 := hE5.fr c6 (by omega) (by decide) (by decide)
    clear h5 b5 c6 hb5 hO5 hE5 o0 o1 o2 o3 g0 g1 g2
    obtain ⟨o0, o1, o2, o3⟩ := Bk.c4 hO6
    obtain ⟨g0, g1, g2⟩ := Bk.c3w hE6
    go_wp2_with fail
    refine (pushM_ok base D v6 vb (a :: r) br 0 b _ h6 hb6 (by simp at hS ⊢; omega)).mono ?_
    rintro e w7 ⟨v7, rfl, h7, c7, _⟩
    have b7 := b6.trans c7
    have hb7 := Nat.le_trans hb b7.size
    have hO7 := hO6.fr c7 (by omega) (by decide) (by decide)
    have hE7 := hE6.fr c7 (by omega) (by decide) (by decide)
    clear h6 b6 c7 hb6 hO6 hE6 o0 o1 o2 o3 g0 g1 g2
    obtain ⟨o0, o1, o2, o3⟩ := Bk.c4 hO7
    obtain ⟨g0, g1, g2⟩ := Bk.c3w hE7
    go_wp2
    first | go_end0 | refine bodyPost_ret (results_none rfl _ _ _) rfl ?_
    exact SsP.ok hr.out h7 b7
set_option maxRecDepth 100000 in
set_option maxHeartbeats 6400000 in
theorem stepM4_any (base D : Nat) (E : Vm) (x : Jo) (s : List ByteArray) (br : List Bool) (w : World) (h : MSs base D s br 0 w) (hb : base ≤ w.heap.size) (hs : Vm.fits s) (hc : x.c = 4) :
    Calls Tryz.prog 166 #[.pointer (some ⟨D, 0, none⟩), x.val, .agg #[.string E.t, .int .i64 E.h, .int .i64 E.a]] w (SsP base D (Vm.fin br (Vm.act E x s)) w) := by
  obtain ⟨vi, vb, h⟩ := h
  rw [Vm.actE4 hc]
  obtain ⟨C, A, B, t⟩ := x
  simp only at hc ⊢
  subst hc
  have hS := hs.1
  have hZ := hs.2
  have hDl := h.blk.lt
  have hO0 : Bk w.heap.size 77 #[.int .i64 4, .int .i64 A, .int .i64 B, .string t] (w.alloc (.cells #[.int .i64 4, .int .i64 A, .int .i64 B, .string t] 77 (0, 0))) := Bk.new _ _ _
  have h1 := h.alloc (.cells #[.int .i64 4, .int .i64 A, .int .i64 B, .string t] 77 (0, 0))
  have b1 : Fr base D w (w.alloc (.cells #[.int .i64 4, .int .i64 A, .int .i64 B, .string t] 77 (0, 0))) := (Fr.refl base D w).alloc hb _
  obtain ⟨W1, HW1⟩ : ∃ W1, Hid (w.alloc (.cells #[.int .i64 4, .int .i64 A, .int .i64 B, .string t] 77 (0, 0)) = W1) := ⟨_, Lib.hid rfl⟩
  have hsz : (w.alloc (.cells #[.int .i64 4, .int .i64 A, .int .i64 B, .string t] 77 (0, 0))).heap.size = w.heap.size + 1 := by simp
  rw [HW1.out] at hO0 h1 b1 hsz
  have hO1 := hO0.alloc (.cells #[.string E.t, .int .i64 E.h, .int .i64 E.a] 35 (0, 0))
  have hE1 : Bk (w.heap.size + 1) 35 #[.string E.t, .int .i64 E.h, .int .i64 E.a] (W1.alloc (.cells #[.string E.t, .int .i64 E.h, .int .i64 E.a] 35 (0, 0))) := Bk.new' _ _ _ _ hsz.symm
  have h2 := h1.alloc (.cells #[.string E.t, .int .i64 E.h, .int .i64 E.a] 35 (0, 0))
  have b2 := b1.alloc (Nat.le_trans hb b1.size) (.cells #[.string E.t, .int .i64 E.h, .int .i64 E.a] 35 (0, 0))
  obtain ⟨W2, HW2⟩ : ∃ W2, Hid (W1.alloc (.cells #[.string E.t, .int .i64 E.h, .int .i64 E.a] 35 (0, 0)) = W2) := ⟨_, Lib.hid rfl⟩
  rw [HW2.out] at hO1 hE1 h2 b2
  have hb2 := Nat.le_trans hb b2.size
  clear h h1 b1 hO0 hs hsz
  rcases s with _ | ⟨a, _ | ⟨b, r⟩⟩
  · have hnil := hZ
    obtain ⟨o0, o1, o2, o3⟩ := Bk.c4 hO1
    have hnd := fun W => needs4_any A B t W
    have HWW : Hid ((w.alloc (.cells #[.int .i64 4, .int .i64 A, .int .i64 B, .string t] 77 (0, 0))).alloc (.cells #[.string E.t, .int .i64 E.h, .int .i64 E.a] 35 (0, 0)) = W2) := Lib.hid (by rw [HW1.out, HW2.out])
    clear HW1 HW2
    go_enter Tryz.func166, Tryz.ntmps166
    go_wp2_with fail
    rw [HWW.out]
    refine (hnd _).mono ?_
    rintro e w3 ⟨rfl, c3⟩
    have h3 := h2.below c3
    have hO3 := hO1.below c3
    have hE3 := hE1.below c3
    have b3 := b2.trans (Fr.of hb2 c3)
    have hb3 := Nat.le_trans hb b3.size
    clear hnd HWW h2 hO1 hE1 b2 c3 hb2 o0 o1 o2 o3
    obtain ⟨o0, o1, o2, o3⟩ := Bk.c4 hO3
    obtain ⟨g0, g1, g2⟩ := Bk.c3w hE3
    go_wp2_with fail
    refine (needM_no base D 2 vi vb _ br 0 w3 h3 (by simp)).mono ?_
    rintro e w4 ⟨rfl, rfl⟩
    go_wp2
    first | go_end0 | refine bodyPost_ret (results_none rfl _ _ _) rfl ?_
    exact SsP.no rfl (h3.setQ 2) (b3.setD h3.hD 2 _)
  · have hnil := hZ
    obtain ⟨o0, o1, o2, o3⟩ := Bk.c4 hO1
    have hnd := fun W => needs4_any A B t W
    have HWW : Hid ((w.alloc (.cells #[.int .i64 4, .int .i64 A, .int .i64 B, .string t] 77 (0, 0))).alloc (.cells #[.string E.t, .int .i64 E.h, .int .i64 E.a] 35 (0, 0)) = W2) := Lib.hid (by rw [HW1.out, HW2.out])
    clear HW1 HW2
    go_enter Tryz.func166, Tryz.ntmps166
    go_wp2_with fail
    rw [HWW.out]
    refine (hnd _).mono ?_
    rintro e w3 ⟨rfl, c3⟩
    have h3 := h2.below c3
    have hO3 := hO1.below c3
    have hE3 := hE1.below c3
    have b3 := b2.trans (Fr.of hb2 c3)
    have hb3 := Nat.le_trans hb b3.size
    clear hnd HWW h2 hO1 hE1 b2 c3 hb2 o0 o1 o2 o3
    obtain ⟨o0, o1, o2, o3⟩ := Bk.c4 hO3
    obtain ⟨g0, g1, g2⟩ := Bk.c3w hE3
    go_wp2_with fail
    refine (needM_no base D 2 vi vb _ br 0 w3 h3 (by simp)).mono ?_
    rintro e w4 ⟨rfl, rfl⟩
    go_wp2
    first | go_end0 | refine bodyPost_ret (results_none rfl _ _ _) rfl ?_
    exact SsP.no rfl (h3.setQ 2) (b3.setD h3.hD 2 _)
  · have hr : Hid (Vm.fin br (.ok (Vm.tr (decide (b = a)) :: r)) = .ok (Vm.tr (decide (b = a)) :: r, br)) := Lib.hid rfl
    obtain ⟨q, HQ⟩ : ∃ q, Hid (decide (b = a) = q) := ⟨_, Lib.hid rfl⟩
    have hq : (a.toList == b.toList) = q := by
      rw [← HQ.out, Bool.eq_iff_iff, decide_eq_true_eq, beq_iff_eq]
      refine ⟨fun e => ?_, fun e => by rw [e]⟩
      rw [ByteArray.toList_eq, ByteArray.toList_eq] at e
      exact (ByteArray.ext (Array.toList_inj.1 e)).symm
    have hq2 : decide (a = b) = q := by rw [← HQ.out, decide_eq_decide]; exact ⟨fun e => e.symm, fun e => e.symm⟩
    rw [HQ.out] at hr
    obtain ⟨o0, o1, o2, o3⟩ := Bk.c4 hO1
    have hnd := fun W => needs4_any A B t W
    have HWW : Hid ((w.alloc (.cells #[.int .i64 4, .int .i64 A, .int .i64 B, .string t] 77 (0, 0))).alloc (.cells #[.string E.t, .int .i64 E.h, .int .i64 E.a] 35 (0, 0)) = W2) := Lib.hid (by rw [HW1.out, HW2.out])
    clear HW1 HW2
    go_enter Tryz.func166, Tryz.ntmps166
    go_wp2_with fail
    rw [HWW.out]
    refine (hnd _).mono ?_
    rintro e w3 ⟨rfl, c3⟩
    have h3 := h2.below c3
    have hO3 := hO1.below c3
    have hE3 := hE1.below c3
    have b3 := b2.trans (Fr.of hb2 c3)
    have hb3 := Nat.le_trans hb b3.size
    clear hnd HWW h2 hO1 hE1 b2 c3 hb2 o0 o1 o2 o3
    obtain ⟨o0, o1, o2, o3⟩ := Bk.c4 hO3
    obtain ⟨g0, g1, g2⟩ := Bk.c3w hE3
    go_wp2_with fail
    refine (needM_ok base D 2 vi vb _ br 0 w3 h3 (by simp)).mono ?_
    rintro e w4 ⟨rfl, rfl⟩
    go_wp2_with fail
    refine (popM_any base D vi vb a (b :: r) br 0 _ h3 (by simp at hS ⊢; omega)).mono ?_
    rintro e w4 ⟨v4, rfl, h4, _, c4⟩
    have b4 := b3.trans c4
    have hb4 := Nat.le_trans hb b4.size
    have hO4 := hO3.fr c4 (by omega) (by decide) (by decide)
    have hE4 := hE3.fr c4 (by omega) (by decide) (by decide)
    clear h3 b3 c4 hb3 hO3 hE3 o0 o1 o2 o3 g0 g1 g2
    obtain ⟨o0, o1, o2, o3⟩ := Bk.c4 hO4
    obtain ⟨g0, g1, g2⟩ := Bk.c3w hE4
    go_wp2_with fail
    refine (popM_any base D v4 vb b r br 0 _ h4 (by simp at hS ⊢; omega)).mono ?_
    rintro e w5 ⟨v5, rfl, h5, _, c5⟩
    have b5 := b4.trans c5
    have hb5 := Nat.le_trans hb b5.size
    have hO5 := hO4.fr c5 (by omega) (by decide) (by decide)
    have hE5 := hE4.fr c5 (by omega) (by decide) (by decide)
    clear h4 b4 c5 hb4 hO4 hE4 o0 o1 o2 o3 g0 g1 g2
    obtain ⟨o0, o1, o2, o3⟩ := Bk.c4 hO5
    obtain ⟨g0, g1, g2⟩ := Bk.c3w hE5
    go_wp2_with fail
    refine (l11Bool_any q _).mono ?_
    rintro e wb ⟨rfl, rfl⟩
    go_wp2_with fail
    refine (pushM_ok base D v5 vb r br 0 (Vm.tr q) _ h5 hb5 (by simp at hS ⊢; omega)).mono ?_
    rintro e w6 ⟨v6, rfl, h6, c6, _⟩
    have b6 := b5.trans c6
    have hb6 := Nat.le_trans hb b6.size
    have hO6 := hO5.fr c6 (by omega) (by decide) (by decide)
    have hE6 := hE5.fr c6 (by omega) (by decide) (by decide)
    clear h5 b5 c6 hb5 hO5 hE5 o0 o1 o2 o3 g0 g1 g2
    obtain ⟨o0, o1, o2, o3⟩ := Bk.c4 hO6
    obtain ⟨g0, g1, g2⟩ := Bk.c3w hE6
    go_wp2
    first | go_end0 | refine bodyPost_ret (results_none rfl _ _ _) rfl ?_
    exact SsP.ok (by rw [HQ.out]; exact hr.out) h6 b6
set_option maxRecDepth 100000 in
set_option maxHeartbeats 6400000 in
theorem stepM5_any (base D : Nat) (E : Vm) (x : Jo) (s : List ByteArray) (br : List Bool) (w : World) (h : MSs base D s br 0 w) (hb : base ≤ w.heap.size) (hs : Vm.fits s) (hc : x.c = 5) :
    Calls Tryz.prog 166 #[.pointer (some ⟨D, 0, none⟩), x.val, .agg #[.string E.t, .int .i64 E.h, .int .i64 E.a]] w (SsP base D (Vm.fin br (Vm.act E x s)) w) := by
  obtain ⟨vi, vb, h⟩ := h
  rw [Vm.actE5 hc]
  obtain ⟨C, A, B, t⟩ := x
  simp only at hc ⊢
  subst hc
  have hS := hs.1
  have hZ := hs.2
  have hDl := h.blk.lt
  have hO0 : Bk w.heap.size 77 #[.int .i64 5, .int .i64 A, .int .i64 B, .string t] (w.alloc (.cells #[.int .i64 5, .int .i64 A, .int .i64 B, .string t] 77 (0, 0))) := Bk.new _ _ _
  have h1 := h.alloc (.cells #[.int .i64 5, .int .i64 A, .int .i64 B, .string t] 77 (0, 0))
  have b1 : Fr base D w (w.alloc (.cells #[.int .i64 5, .int .i64 A, .int .i64 B, .string t] 77 (0, 0))) := (Fr.refl base D w).alloc hb _
  obtain ⟨W1, HW1⟩ : ∃ W1, Hid (w.alloc (.cells #[.int .i64 5, .int .i64 A, .int .i64 B, .string t] 77 (0, 0)) = W1) := ⟨_, Lib.hid rfl⟩
  have hsz : (w.alloc (.cells #[.int .i64 5, .int .i64 A, .int .i64 B, .string t] 77 (0, 0))).heap.size = w.heap.size + 1 := by simp
  rw [HW1.out] at hO0 h1 b1 hsz
  have hO1 := hO0.alloc (.cells #[.string E.t, .int .i64 E.h, .int .i64 E.a] 35 (0, 0))
  have hE1 : Bk (w.heap.size + 1) 35 #[.string E.t, .int .i64 E.h, .int .i64 E.a] (W1.alloc (.cells #[.string E.t, .int .i64 E.h, .int .i64 E.a] 35 (0, 0))) := Bk.new' _ _ _ _ hsz.symm
  have h2 := h1.alloc (.cells #[.string E.t, .int .i64 E.h, .int .i64 E.a] 35 (0, 0))
  have b2 := b1.alloc (Nat.le_trans hb b1.size) (.cells #[.string E.t, .int .i64 E.h, .int .i64 E.a] 35 (0, 0))
  obtain ⟨W2, HW2⟩ : ∃ W2, Hid (W1.alloc (.cells #[.string E.t, .int .i64 E.h, .int .i64 E.a] 35 (0, 0)) = W2) := ⟨_, Lib.hid rfl⟩
  rw [HW2.out] at hO1 hE1 h2 b2
  have hb2 := Nat.le_trans hb b2.size
  clear h h1 b1 hO0 hs hsz
  rcases s with _ | ⟨a, r⟩
  · have hnil := hZ
    obtain ⟨o0, o1, o2, o3⟩ := Bk.c4 hO1
    have hnd := fun W => needs5_any A B t W
    have HWW : Hid ((w.alloc (.cells #[.int .i64 5, .int .i64 A, .int .i64 B, .string t] 77 (0, 0))).alloc (.cells #[.string E.t, .int .i64 E.h, .int .i64 E.a] 35 (0, 0)) = W2) := Lib.hid (by rw [HW1.out, HW2.out])
    clear HW1 HW2
    go_enter Tryz.func166, Tryz.ntmps166
    go_wp2_with fail
    rw [HWW.out]
    refine (hnd _).mono ?_
    rintro e w3 ⟨rfl, c3⟩
    have h3 := h2.below c3
    have hO3 := hO1.below c3
    have hE3 := hE1.below c3
    have b3 := b2.trans (Fr.of hb2 c3)
    have hb3 := Nat.le_trans hb b3.size
    clear hnd HWW h2 hO1 hE1 b2 c3 hb2 o0 o1 o2 o3
    obtain ⟨o0, o1, o2, o3⟩ := Bk.c4 hO3
    obtain ⟨g0, g1, g2⟩ := Bk.c3w hE3
    go_wp2_with fail
    refine (needM_no base D 1 vi vb _ br 0 w3 h3 (by simp)).mono ?_
    rintro e w4 ⟨rfl, rfl⟩
    go_wp2
    first | go_end0 | refine bodyPost_ret (results_none rfl _ _ _) rfl ?_
    exact SsP.no rfl (h3.setQ 2) (b3.setD h3.hD 2 _)
  · obtain ⟨q, HQ⟩ : ∃ q, Hid (decide (a.size = 0) = q) := ⟨_, Lib.hid rfl⟩
    have hr : Hid (Vm.fin br (.ok (Vm.tr (decide (a.size = 0)) :: r)) = .ok (Vm.tr q :: r, br)) := Lib.hid (by rw [HQ.out]; rfl)
    have hq : a.toList.isEmpty = q := by rw [str_empty_iff, HQ.out]
    obtain ⟨o0, o1, o2, o3⟩ := Bk.c4 hO1
    have hnd := fun W => needs5_any A B t W
    have HWW : Hid ((w.alloc (.cells #[.int .i64 5, .int .i64 A, .int .i64 B, .string t] 77 (0, 0))).alloc (.cells #[.string E.t, .int .i64 E.h, .int .i64 E.a] 35 (0, 0)) = W2) := Lib.hid (by rw [HW1.out, HW2.out])
    clear HW1 HW2
    go_enter Tryz.func166, Tryz.ntmps166
    go_wp2_with fail
    rw [HWW.out]
    refine (hnd _).mono ?_
    rintro e w3 ⟨rfl, c3⟩
    have h3 := h2.below c3
    have hO3 := hO1.below c3
    have hE3 := hE1.below c3
    have b3 := b2.trans (Fr.of hb2 c3)
    have hb3 := Nat.le_trans hb b3.size
    clear hnd HWW h2 hO1 hE1 b2 c3 hb2 o0 o1 o2 o3
    obtain ⟨o0, o1, o2, o3⟩ := Bk.c4 hO3
    obtain ⟨g0, g1, g2⟩ := Bk.c3w hE3
    go_wp2_with fail
    refine (needM_ok base D 1 vi vb _ br 0 w3 h3 (by simp)).mono ?_
    rintro e w4 ⟨rfl, rfl⟩
    go_wp2_with fail
    refine (popM_any base D vi vb a r br 0 _ h3 (by simp at hS ⊢; omega)).mono ?_
    rintro e w4 ⟨v4, rfl, h4, _, c4⟩
    have b4 := b3.trans c4
    have hb4 := Nat.le_trans hb b4.size
    have hO4 := hO3.fr c4 (by omega) (by decide) (by decide)
    have hE4 := hE3.fr c4 (by omega) (by decide) (by decide)
    clear h3 b3 c4 hb3 hO3 hE3 o0 o1 o2 o3 g0 g1 g2
    obtain ⟨o0, o1, o2, o3⟩ := Bk.c4 hO4
    obtain ⟨g0, g1, g2⟩ := Bk.c3w hE4
    go_wp2_with fail
    refine (l11Bool_any q _).mono ?_
    rintro e wb ⟨rfl, rfl⟩
    go_wp2_with fail
    refine (pushM_ok base D v4 vb r br 0 (Vm.tr q) _ h4 hb4 (by simp at hS ⊢; omega)).mono ?_
    rintro e w5 ⟨v5, rfl, h5, c5, _⟩
    have b5 := b4.trans c5
    have hb5 := Nat.le_trans hb b5.size
    have hO5 := hO4.fr c5 (by omega) (by decide) (by decide)
    have hE5 := hE4.fr c5 (by omega) (by decide) (by decide)
    clear h4 b4 c5 hb4 hO4 hE4 o0 o1 o2 o3 g0 g1 g2
    obtain ⟨o0, o1, o2, o3⟩ := Bk.c4 hO5
    obtain ⟨g0, g1, g2⟩ := Bk.c3w hE5
    go_wp2
    first | go_end0 | refine bodyPost_ret (results_none rfl _ _ _) rfl ?_
    exact SsP.ok hr.out h5 b5
set_option maxRecDepth 100000 in
set_option maxHeartbeats 6400000 in
theorem stepM9_any (base D : Nat) (E : Vm) (x : Jo) (s : List ByteArray) (br : List Bool) (w : World) (h : MSs base D s br 0 w) (hb : base ≤ w.heap.size) (hs : Vm.fits s) (hc : x.c = 9) :
    Calls Tryz.prog 166 #[.pointer (some ⟨D, 0, none⟩), x.val, .agg #[.string E.t, .int .i64 E.h, .int .i64 E.a]] w (SsP base D (Vm.fin br (Vm.act E x s)) w) := by
  obtain ⟨vi, vb, h⟩ := h
  rw [Vm.actE9 hc]
  obtain ⟨C, A, B, t⟩ := x
  simp only at hc ⊢
  subst hc
  have hS := hs.1
  have hZ := hs.2
  have hDl := h.blk.lt
  have hO0 : Bk w.heap.size 77 #[.int .i64 9, .int .i64 A, .int .i64 B, .string t] (w.alloc (.cells #[.int .i64 9, .int .i64 A, .int .i64 B, .string t] 77 (0, 0))) := Bk.new _ _ _
  have h1 := h.alloc (.cells #[.int .i64 9, .int .i64 A, .int .i64 B, .string t] 77 (0, 0))
  have b1 : Fr base D w (w.alloc (.cells #[.int .i64 9, .int .i64 A, .int .i64 B, .string t] 77 (0, 0))) := (Fr.refl base D w).alloc hb _
  obtain ⟨W1, HW1⟩ : ∃ W1, Hid (w.alloc (.cells #[.int .i64 9, .int .i64 A, .int .i64 B, .string t] 77 (0, 0)) = W1) := ⟨_, Lib.hid rfl⟩
  have hsz : (w.alloc (.cells #[.int .i64 9, .int .i64 A, .int .i64 B, .string t] 77 (0, 0))).heap.size = w.heap.size + 1 := by simp
  rw [HW1.out] at hO0 h1 b1 hsz
  have hO1 := hO0.alloc (.cells #[.string E.t, .int .i64 E.h, .int .i64 E.a] 35 (0, 0))
  have hE1 : Bk (w.heap.size + 1) 35 #[.string E.t, .int .i64 E.h, .int .i64 E.a] (W1.alloc (.cells #[.string E.t, .int .i64 E.h, .int .i64 E.a] 35 (0, 0))) := Bk.new' _ _ _ _ hsz.symm
  have h2 := h1.alloc (.cells #[.string E.t, .int .i64 E.h, .int .i64 E.a] 35 (0, 0))
  have b2 := b1.alloc (Nat.le_trans hb b1.size) (.cells #[.string E.t, .int .i64 E.h, .int .i64 E.a] 35 (0, 0))
  obtain ⟨W2, HW2⟩ : ∃ W2, Hid (W1.alloc (.cells #[.string E.t, .int .i64 E.h, .int .i64 E.a] 35 (0, 0)) = W2) := ⟨_, Lib.hid rfl⟩
  rw [HW2.out] at hO1 hE1 h2 b2
  have hb2 := Nat.le_trans hb b2.size
  clear h h1 b1 hO0 hs hsz
  rcases s with _ | ⟨a, r⟩
  · have hnil := hZ
    obtain ⟨o0, o1, o2, o3⟩ := Bk.c4 hO1
    have hnd := fun W => needs9_any A B t W
    have HWW : Hid ((w.alloc (.cells #[.int .i64 9, .int .i64 A, .int .i64 B, .string t] 77 (0, 0))).alloc (.cells #[.string E.t, .int .i64 E.h, .int .i64 E.a] 35 (0, 0)) = W2) := Lib.hid (by rw [HW1.out, HW2.out])
    clear HW1 HW2
    go_enter Tryz.func166, Tryz.ntmps166
    go_wp2_with fail
    rw [HWW.out]
    refine (hnd _).mono ?_
    rintro e w3 ⟨rfl, c3⟩
    have h3 := h2.below c3
    have hO3 := hO1.below c3
    have hE3 := hE1.below c3
    have b3 := b2.trans (Fr.of hb2 c3)
    have hb3 := Nat.le_trans hb b3.size
    clear hnd HWW h2 hO1 hE1 b2 c3 hb2 o0 o1 o2 o3
    obtain ⟨o0, o1, o2, o3⟩ := Bk.c4 hO3
    obtain ⟨g0, g1, g2⟩ := Bk.c3w hE3
    go_wp2_with fail
    refine (needM_no base D 1 vi vb _ br 0 w3 h3 (by simp)).mono ?_
    rintro e w4 ⟨rfl, rfl⟩
    go_wp2
    first | go_end0 | refine bodyPost_ret (results_none rfl _ _ _) rfl ?_
    exact SsP.no rfl (h3.setQ 2) (b3.setD h3.hD 2 _)
  · by_cases ha : a.size = 0
    · have hr : Hid (Vm.fin br (if a.size = 0 then .error 3 else .ok r) = .error 3) := Lib.hid (by rw [if_pos ha]; rfl)
      have hq : a.toList.isEmpty = true := by rw [str_empty_iff]; simp [ha]
      clear ha
      change Calls _ _ _ _ (SsP base D (Vm.fin br (if a.size = 0 then .error 3 else .ok r)) w)
      rw [hr.out]
      obtain ⟨o0, o1, o2, o3⟩ := Bk.c4 hO1
      have hnd := fun W => needs9_any A B t W
      have HWW : Hid ((w.alloc (.cells #[.int .i64 9, .int .i64 A, .int .i64 B, .string t] 77 (0, 0))).alloc (.cells #[.string E.t, .int .i64 E.h, .int .i64 E.a] 35 (0, 0)) = W2) := Lib.hid (by rw [HW1.out, HW2.out])
      clear HW1 HW2
      go_enter Tryz.func166, Tryz.ntmps166
      go_wp2_with fail
      rw [HWW.out]
      refine (hnd _).mono ?_
      rintro e w3 ⟨rfl, c3⟩
      have h3 := h2.below c3
      have hO3 := hO1.below c3
      have hE3 := hE1.below c3
      have b3 := b2.trans (Fr.of hb2 c3)
      have hb3 := Nat.le_trans hb b3.size
      clear hnd HWW h2 hO1 hE1 b2 c3 hb2 o0 o1 o2 o3
      obtain ⟨o0, o1, o2, o3⟩ := Bk.c4 hO3
      obtain ⟨g0, g1, g2⟩ := Bk.c3w hE3
      go_wp2_with fail
      refine (needM_ok base D 1 vi vb _ br 0 w3 h3 (by simp)).mono ?_
      rintro e w4 ⟨rfl, rfl⟩
      go_wp2_with fail
      refine (popM_any base D vi vb a r br 0 _ h3 (by simp at hS ⊢; omega)).mono ?_
      rintro e w4 ⟨v4, rfl, h4, _, c4⟩
      have b4 := b3.trans c4
      have hb4 := Nat.le_trans hb b4.size
      have hO4 := hO3.fr c4 (by omega) (by decide) (by decide)
      have hE4 := hE3.fr c4 (by omega) (by decide) (by decide)
      clear h3 b3 c4 hb3 hO3 hE3 o0 o1 o2 o3 g0 g1 g2
      obtain ⟨o0, o1, o2, o3⟩ := Bk.c4 hO4
      obtain ⟨g0, g1, g2⟩ := Bk.c3w hE4
      obtain ⟨y0, y1, y2⟩ := h4.cells
      have f2 := h4.blk.fro 2
      go_wp2
      first | go_end0 | refine bodyPost_ret (results_none rfl _ _ _) rfl ?_
      exact SsP.no rfl (h4.setQ 3) (b4.setD h4.hD 2 _)
    · have hr : Hid (Vm.fin br (if a.size = 0 then .error 3 else .ok r) = .ok (r, br)) := Lib.hid (by rw [if_neg ha]; rfl)
      have hq : a.toList.isEmpty = false := by rw [str_empty_iff]; simp [ha]
      clear ha
      change Calls _ _ _ _ (SsP base D (Vm.fin br (if a.size = 0 then .error 3 else .ok r)) w)
      rw [hr.out]
      obtain ⟨o0, o1, o2, o3⟩ := Bk.c4 hO1
      have hnd := fun W => needs9_any A B t W
      have HWW : Hid ((w.alloc (.cells #[.int .i64 9, .int .i64 A, .int .i64 B, .string t] 77 (0, 0))).alloc (.cells #[.string E.t, .int .i64 E.h, .int .i64 E.a] 35 (0, 0)) = W2) := Lib.hid (by rw [HW1.out, HW2.out])
      clear HW1 HW2
      go_enter Tryz.func166, Tryz.ntmps166
      go_wp2_with fail
      rw [HWW.out]
      refine (hnd _).mono ?_
      rintro e w3 ⟨rfl, c3⟩
      have h3 := h2.below c3
      have hO3 := hO1.below c3
      have hE3 := hE1.below c3
      have b3 := b2.trans (Fr.of hb2 c3)
      have hb3 := Nat.le_trans hb b3.size
      clear hnd HWW h2 hO1 hE1 b2 c3 hb2 o0 o1 o2 o3
      obtain ⟨o0, o1, o2, o3⟩ := Bk.c4 hO3
      obtain ⟨g0, g1, g2⟩ := Bk.c3w hE3
      go_wp2_with fail
      refine (needM_ok base D 1 vi vb _ br 0 w3 h3 (by simp)).mono ?_
      rintro e w4 ⟨rfl, rfl⟩
      go_wp2_with fail
      refine (popM_any base D vi vb a r br 0 _ h3 (by simp at hS ⊢; omega)).mono ?_
      rintro e w4 ⟨v4, rfl, h4, _, c4⟩
      have b4 := b3.trans c4
      have hb4 := Nat.le_trans hb b4.size
      have hO4 := hO3.fr c4 (by omega) (by decide) (by decide)
      have hE4 := hE3.fr c4 (by omega) (by decide) (by decide)
      clear h3 b3 c4 hb3 hO3 hE3 o0 o1 o2 o3 g0 g1 g2
      obtain ⟨o0, o1, o2, o3⟩ := Bk.c4 hO4
      obtain ⟨g0, g1, g2⟩ := Bk.c3w hE4
      go_wp2
      first | go_end0 | refine bodyPost_ret (results_none rfl _ _ _) rfl ?_
      exact SsP.ok rfl h4 b4
set_option maxRecDepth 100000 in
set_option maxHeartbeats 6400000 in
theorem stepM10_any (base D : Nat) (E : Vm) (x : Jo) (s : List ByteArray) (br : List Bool) (w : World) (h : MSs base D s br 0 w) (hb : base ≤ w.heap.size) (hs : Vm.fits s) (hc : x.c = 10) :
    Calls Tryz.prog 166 #[.pointer (some ⟨D, 0, none⟩), x.val, .agg #[.string E.t, .int .i64 E.h, .int .i64 E.a]] w (SsP base D (Vm.fin br (Vm.act E x s)) w) := by
  obtain ⟨vi, vb, h⟩ := h
  rw [Vm.actE10 hc]
  obtain ⟨C, A, B, t⟩ := x
  simp only at hc ⊢
  subst hc
  have hS := hs.1
  have hZ := hs.2
  have hDl := h.blk.lt
  have hO0 : Bk w.heap.size 77 #[.int .i64 10, .int .i64 A, .int .i64 B, .string t] (w.alloc (.cells #[.int .i64 10, .int .i64 A, .int .i64 B, .string t] 77 (0, 0))) := Bk.new _ _ _
  have h1 := h.alloc (.cells #[.int .i64 10, .int .i64 A, .int .i64 B, .string t] 77 (0, 0))
  have b1 : Fr base D w (w.alloc (.cells #[.int .i64 10, .int .i64 A, .int .i64 B, .string t] 77 (0, 0))) := (Fr.refl base D w).alloc hb _
  obtain ⟨W1, HW1⟩ : ∃ W1, Hid (w.alloc (.cells #[.int .i64 10, .int .i64 A, .int .i64 B, .string t] 77 (0, 0)) = W1) := ⟨_, Lib.hid rfl⟩
  have hsz : (w.alloc (.cells #[.int .i64 10, .int .i64 A, .int .i64 B, .string t] 77 (0, 0))).heap.size = w.heap.size + 1 := by simp
  rw [HW1.out] at hO0 h1 b1 hsz
  have hO1 := hO0.alloc (.cells #[.string E.t, .int .i64 E.h, .int .i64 E.a] 35 (0, 0))
  have hE1 : Bk (w.heap.size + 1) 35 #[.string E.t, .int .i64 E.h, .int .i64 E.a] (W1.alloc (.cells #[.string E.t, .int .i64 E.h, .int .i64 E.a] 35 (0, 0))) := Bk.new' _ _ _ _ hsz.symm
  have h2 := h1.alloc (.cells #[.string E.t, .int .i64 E.h, .int .i64 E.a] 35 (0, 0))
  have b2 := b1.alloc (Nat.le_trans hb b1.size) (.cells #[.string E.t, .int .i64 E.h, .int .i64 E.a] 35 (0, 0))
  obtain ⟨W2, HW2⟩ : ∃ W2, Hid (W1.alloc (.cells #[.string E.t, .int .i64 E.h, .int .i64 E.a] 35 (0, 0)) = W2) := ⟨_, Lib.hid rfl⟩
  rw [HW2.out] at hO1 hE1 h2 b2
  have hb2 := Nat.le_trans hb b2.size
  clear h h1 b1 hO0 hs hsz
  rcases s with _ | ⟨a, r⟩
  · have hnil := hZ
    obtain ⟨o0, o1, o2, o3⟩ := Bk.c4 hO1
    have hnd := fun W => needs10_any A B t W
    have HWW : Hid ((w.alloc (.cells #[.int .i64 10, .int .i64 A, .int .i64 B, .string t] 77 (0, 0))).alloc (.cells #[.string E.t, .int .i64 E.h, .int .i64 E.a] 35 (0, 0)) = W2) := Lib.hid (by rw [HW1.out, HW2.out])
    clear HW1 HW2
    go_enter Tryz.func166, Tryz.ntmps166
    go_wp2_with fail
    rw [HWW.out]
    refine (hnd _).mono ?_
    rintro e w3 ⟨rfl, c3⟩
    have h3 := h2.below c3
    have hO3 := hO1.below c3
    have hE3 := hE1.below c3
    have b3 := b2.trans (Fr.of hb2 c3)
    have hb3 := Nat.le_trans hb b3.size
    clear hnd HWW h2 hO1 hE1 b2 c3 hb2 o0 o1 o2 o3
    obtain ⟨o0, o1, o2, o3⟩ := Bk.c4 hO3
    obtain ⟨g0, g1, g2⟩ := Bk.c3w hE3
    go_wp2_with fail
    refine (needM_no base D 1 vi vb _ br 0 w3 h3 (by simp)).mono ?_
    rintro e w4 ⟨rfl, rfl⟩
    go_wp2
    first | go_end0 | refine bodyPost_ret (results_none rfl _ _ _) rfl ?_
    exact SsP.no rfl (h3.setQ 2) (b3.setD h3.hD 2 _)
  · have hr : Hid (Vm.fin br (.ok (Dg.bytes (Dg.of a) :: r)) = .ok (Dg.bytes (Dg.of a) :: r, br)) := Lib.hid rfl
    have hsz : a.size ≤ 80 := hZ a (List.mem_cons_self ..)
    obtain ⟨e0, e1⟩ := Dg.of_bd a
    have hd1 := fun W => specDigest_same a W (by omega)
    have hd2 := fun W => l2Bytes_any (Dg.of a) W e0 e1
    obtain ⟨Q, HQ⟩ : ∃ Q, Hid (Dg.of a = Q) := ⟨_, Lib.hid rfl⟩
    rw [HQ.out] at hd1 hd2 hr
    obtain ⟨V, HV⟩ : ∃ V, Hid (Dg.bytes Q = V) := ⟨_, Lib.hid rfl⟩
    rw [HV.out] at hd2 hr
    clear e0 e1 hsz hZ
    obtain ⟨o0, o1, o2, o3⟩ := Bk.c4 hO1
    have hnd := fun W => needs10_any A B t W
    have HWW : Hid ((w.alloc (.cells #[.int .i64 10, .int .i64 A, .int .i64 B, .string t] 77 (0, 0))).alloc (.cells #[.string E.t, .int .i64 E.h, .int .i64 E.a] 35 (0, 0)) = W2) := Lib.hid (by rw [HW1.out, HW2.out])
    clear HW1 HW2
    go_enter Tryz.func166, Tryz.ntmps166
    go_wp2_with fail
    rw [HWW.out]
    refine (hnd _).mono ?_
    rintro e w3 ⟨rfl, c3⟩
    have h3 := h2.below c3
    have hO3 := hO1.below c3
    have hE3 := hE1.below c3
    have b3 := b2.trans (Fr.of hb2 c3)
    have hb3 := Nat.le_trans hb b3.size
    clear hnd HWW h2 hO1 hE1 b2 c3 hb2 o0 o1 o2 o3
    obtain ⟨o0, o1, o2, o3⟩ := Bk.c4 hO3
    obtain ⟨g0, g1, g2⟩ := Bk.c3w hE3
    go_wp2_with fail
    refine (needM_ok base D 1 vi vb _ br 0 w3 h3 (by simp)).mono ?_
    rintro e w4 ⟨rfl, rfl⟩
    go_wp2_with fail
    refine (popM_any base D vi vb a r br 0 _ h3 (by simp at hS ⊢; omega)).mono ?_
    rintro e w4 ⟨v4, rfl, h4, _, c4⟩
    have b4 := b3.trans c4
    have hb4 := Nat.le_trans hb b4.size
    have hO4 := hO3.fr c4 (by omega) (by decide) (by decide)
    have hE4 := hE3.fr c4 (by omega) (by decide) (by decide)
    clear h3 b3 c4 hb3 hO3 hE3 o0 o1 o2 o3 g0 g1 g2
    obtain ⟨o0, o1, o2, o3⟩ := Bk.c4 hO4
    obtain ⟨g0, g1, g2⟩ := Bk.c3w hE4
    go_wp2_with fail
    refine (hd1 _).mono ?_
    rintro e w5 ⟨rfl, rfl⟩
    go_wp2_with fail
    refine (hd2 _).mono ?_
    rintro e w6 ⟨rfl, c6⟩
    have h6 := h4.below c6
    have b6 := b4.trans (Fr.of hb4 c6)
    have hb6 := Nat.le_trans hb b6.size
    go_wp2_with fail
    refine (pushM_ok base D v4 vb r br 0 V _ h6 hb6 (by simp at hS ⊢; omega)).mono ?_
    rintro e w7 ⟨v7, rfl, h7, c7, _⟩
    go_wp2
    first | go_end0 | refine bodyPost_ret (results_none rfl _ _ _) rfl ?_
    exact SsP.ok (by rw [HQ.out, HV.out]; exact hr.out) h7 (b6.trans c7)
set_option maxRecDepth 100000 in
set_option maxHeartbeats 6400000 in
theorem stepM11_any (base D : Nat) (E : Vm) (x : Jo) (s : List ByteArray) (br : List Bool) (w : World) (h : MSs base D s br 0 w) (hb : base ≤ w.heap.size) (hs : Vm.fits s) (hc : x.c = 11) (ht : E.t.size ≤ 1048576) :
    Calls Tryz.prog 166 #[.pointer (some ⟨D, 0, none⟩), x.val, .agg #[.string E.t, .int .i64 E.h, .int .i64 E.a]] w (SsP base D (Vm.fin br (Vm.act E x s)) w) := by
  obtain ⟨vi, vb, h⟩ := h
  rw [Vm.actE11 hc]
  obtain ⟨C, A, B, t⟩ := x
  simp only at hc ⊢
  subst hc
  have hS := hs.1
  have hZ := hs.2
  have hDl := h.blk.lt
  have hO0 : Bk w.heap.size 77 #[.int .i64 11, .int .i64 A, .int .i64 B, .string t] (w.alloc (.cells #[.int .i64 11, .int .i64 A, .int .i64 B, .string t] 77 (0, 0))) := Bk.new _ _ _
  have h1 := h.alloc (.cells #[.int .i64 11, .int .i64 A, .int .i64 B, .string t] 77 (0, 0))
  have b1 : Fr base D w (w.alloc (.cells #[.int .i64 11, .int .i64 A, .int .i64 B, .string t] 77 (0, 0))) := (Fr.refl base D w).alloc hb _
  obtain ⟨W1, HW1⟩ : ∃ W1, Hid (w.alloc (.cells #[.int .i64 11, .int .i64 A, .int .i64 B, .string t] 77 (0, 0)) = W1) := ⟨_, Lib.hid rfl⟩
  have hsz : (w.alloc (.cells #[.int .i64 11, .int .i64 A, .int .i64 B, .string t] 77 (0, 0))).heap.size = w.heap.size + 1 := by simp
  rw [HW1.out] at hO0 h1 b1 hsz
  have hO1 := hO0.alloc (.cells #[.string E.t, .int .i64 E.h, .int .i64 E.a] 35 (0, 0))
  have hE1 : Bk (w.heap.size + 1) 35 #[.string E.t, .int .i64 E.h, .int .i64 E.a] (W1.alloc (.cells #[.string E.t, .int .i64 E.h, .int .i64 E.a] 35 (0, 0))) := Bk.new' _ _ _ _ hsz.symm
  have h2 := h1.alloc (.cells #[.string E.t, .int .i64 E.h, .int .i64 E.a] 35 (0, 0))
  have b2 := b1.alloc (Nat.le_trans hb b1.size) (.cells #[.string E.t, .int .i64 E.h, .int .i64 E.a] 35 (0, 0))
  obtain ⟨W2, HW2⟩ : ∃ W2, Hid (W1.alloc (.cells #[.string E.t, .int .i64 E.h, .int .i64 E.a] 35 (0, 0)) = W2) := ⟨_, Lib.hid rfl⟩
  rw [HW2.out] at hO1 hE1 h2 b2
  have hb2 := Nat.le_trans hb b2.size
  clear h h1 b1 hO0 hs hsz
  rcases s with _ | ⟨a, _ | ⟨b, r⟩⟩
  · have hnil := hZ
    obtain ⟨o0, o1, o2, o3⟩ := Bk.c4 hO1
    have hnd := fun W => needs11_any A B t W
    have HWW : Hid ((w.alloc (.cells #[.int .i64 11, .int .i64 A, .int .i64 B, .string t] 77 (0, 0))).alloc (.cells #[.string E.t, .int .i64 E.h, .int .i64 E.a] 35 (0, 0)) = W2) := Lib.hid (by rw [HW1.out, HW2.out])
    clear HW1 HW2
    go_enter Tryz.func166, Tryz.ntmps166
    go_wp2_with fail
    rw [HWW.out]
    refine (hnd _).mono ?_
    rintro e w3 ⟨rfl, c3⟩
    have h3 := h2.below c3
    have hO3 := hO1.below c3
    have hE3 := hE1.below c3
    have b3 := b2.trans (Fr.of hb2 c3)
    have hb3 := Nat.le_trans hb b3.size
    clear hnd HWW h2 hO1 hE1 b2 c3 hb2 o0 o1 o2 o3
    obtain ⟨o0, o1, o2, o3⟩ := Bk.c4 hO3
    obtain ⟨g0, g1, g2⟩ := Bk.c3w hE3
    go_wp2_with fail
    refine (needM_no base D 2 vi vb _ br 0 w3 h3 (by simp)).mono ?_
    rintro e w4 ⟨rfl, rfl⟩
    go_wp2
    first | go_end0 | refine bodyPost_ret (results_none rfl _ _ _) rfl ?_
    exact SsP.no rfl (h3.setQ 2) (b3.setD h3.hD 2 _)
  · have hnil := hZ
    obtain ⟨o0, o1, o2, o3⟩ := Bk.c4 hO1
    have hnd := fun W => needs11_any A B t W
    have HWW : Hid ((w.alloc (.cells #[.int .i64 11, .int .i64 A, .int .i64 B, .string t] 77 (0, 0))).alloc (.cells #[.string E.t, .int .i64 E.h, .int .i64 E.a] 35 (0, 0)) = W2) := Lib.hid (by rw [HW1.out, HW2.out])
    clear HW1 HW2
    go_enter Tryz.func166, Tryz.ntmps166
    go_wp2_with fail
    rw [HWW.out]
    refine (hnd _).mono ?_
    rintro e w3 ⟨rfl, c3⟩
    have h3 := h2.below c3
    have hO3 := hO1.below c3
    have hE3 := hE1.below c3
    have b3 := b2.trans (Fr.of hb2 c3)
    have hb3 := Nat.le_trans hb b3.size
    clear hnd HWW h2 hO1 hE1 b2 c3 hb2 o0 o1 o2 o3
    obtain ⟨o0, o1, o2, o3⟩ := Bk.c4 hO3
    obtain ⟨g0, g1, g2⟩ := Bk.c3w hE3
    go_wp2_with fail
    refine (needM_no base D 2 vi vb _ br 0 w3 h3 (by simp)).mono ?_
    rintro e w4 ⟨rfl, rfl⟩
    go_wp2
    first | go_end0 | refine bodyPost_ret (results_none rfl _ _ _) rfl ?_
    exact SsP.no rfl (h3.setQ 2) (b3.setD h3.hD 2 _)
  · have hr : Hid (Vm.fin br (.ok (Vm.tr (Vm.sg E.t b a) :: r)) = .ok (Vm.tr (Vm.sg E.t b a) :: r, br)) := Lib.hid rfl
    have hsd := fun W => l11Signed_any a b E.t W ht
    obtain ⟨q, HQ⟩ : ∃ q, Hid (Vm.sg E.t b a = q) := ⟨_, Lib.hid rfl⟩
    rw [HQ.out] at hr hsd
    obtain ⟨o0, o1, o2, o3⟩ := Bk.c4 hO1
    have hnd := fun W => needs11_any A B t W
    have HWW : Hid ((w.alloc (.cells #[.int .i64 11, .int .i64 A, .int .i64 B, .string t] 77 (0, 0))).alloc (.cells #[.string E.t, .int .i64 E.h, .int .i64 E.a] 35 (0, 0)) = W2) := Lib.hid (by rw [HW1.out, HW2.out])
    clear HW1 HW2
    go_enter Tryz.func166, Tryz.ntmps166
    go_wp2_with fail
    rw [HWW.out]
    refine (hnd _).mono ?_
    rintro e w3 ⟨rfl, c3⟩
    have h3 := h2.below c3
    have hO3 := hO1.below c3
    have hE3 := hE1.below c3
    have b3 := b2.trans (Fr.of hb2 c3)
    have hb3 := Nat.le_trans hb b3.size
    clear hnd HWW h2 hO1 hE1 b2 c3 hb2 o0 o1 o2 o3
    obtain ⟨o0, o1, o2, o3⟩ := Bk.c4 hO3
    obtain ⟨g0, g1, g2⟩ := Bk.c3w hE3
    go_wp2_with fail
    refine (needM_ok base D 2 vi vb _ br 0 w3 h3 (by simp)).mono ?_
    rintro e w4 ⟨rfl, rfl⟩
    go_wp2_with fail
    refine (popM_any base D vi vb a (b :: r) br 0 _ h3 (by simp at hS ⊢; omega)).mono ?_
    rintro e w4 ⟨v4, rfl, h4, _, c4⟩
    have b4 := b3.trans c4
    have hb4 := Nat.le_trans hb b4.size
    have hO4 := hO3.fr c4 (by omega) (by decide) (by decide)
    have hE4 := hE3.fr c4 (by omega) (by decide) (by decide)
    clear h3 b3 c4 hb3 hO3 hE3 o0 o1 o2 o3 g0 g1 g2
    obtain ⟨o0, o1, o2, o3⟩ := Bk.c4 hO4
    obtain ⟨g0, g1, g2⟩ := Bk.c3w hE4
    go_wp2_with fail
    refine (popM_any base D v4 vb b r br 0 _ h4 (by simp at hS ⊢; omega)).mono ?_
    rintro e w5 ⟨v5, rfl, h5, _, c5⟩
    have b5 := b4.trans c5
    have hb5 := Nat.le_trans hb b5.size
    have hO5 := hO4.fr c5 (by omega) (by decide) (by decide)
    have hE5 := hE4.fr c5 (by omega) (by decide) (by decide)
    clear h4 b4 c5 hb4 hO4 hE4 o0 o1 o2 o3 g0 g1 g2
    obtain ⟨o0, o1, o2, o3⟩ := Bk.c4 hO5
    obtain ⟨g0, g1, g2⟩ := Bk.c3w hE5
    go_wp2_with fail
    refine (hsd _).mono ?_
    rintro e w6 ⟨rfl, c6⟩
    have h6 := h5.below c6
    have b6 := b5.trans (Fr.of hb5 c6)
    have hb6 := Nat.le_trans hb b6.size
    go_wp2_with fail
    refine (l11Bool_any q _).mono ?_
    rintro e wb ⟨rfl, rfl⟩
    go_wp2_with fail
    refine (pushM_ok base D v5 vb r br 0 (Vm.tr q) _ h6 hb6 (by simp at hS ⊢; omega)).mono ?_
    rintro e w7 ⟨v7, rfl, h7, c7, _⟩
    go_wp2
    first | go_end0 | refine bodyPost_ret (results_none rfl _ _ _) rfl ?_
    exact SsP.ok (by rw [HQ.out]; exact hr.out) h7 (b6.trans c7)
set_option maxRecDepth 100000 in
set_option maxHeartbeats 6400000 in
theorem stepM13_any (base D : Nat) (E : Vm) (x : Jo) (s : List ByteArray) (br : List Bool) (w : World) (h : MSs base D s br 0 w) (hb : base ≤ w.heap.size) (hs : Vm.fits s) (hc : x.c = 13) :
    Calls Tryz.prog 166 #[.pointer (some ⟨D, 0, none⟩), x.val, .agg #[.string E.t, .int .i64 E.h, .int .i64 E.a]] w (SsP base D (Vm.fin br (Vm.act E x s)) w) := by
  obtain ⟨vi, vb, h⟩ := h
  rw [Vm.actE13 hc]
  obtain ⟨C, A, B, t⟩ := x
  simp only at hc ⊢
  subst hc
  have hS := hs.1
  have hZ := hs.2
  have hDl := h.blk.lt
  have hO0 : Bk w.heap.size 77 #[.int .i64 13, .int .i64 A, .int .i64 B, .string t] (w.alloc (.cells #[.int .i64 13, .int .i64 A, .int .i64 B, .string t] 77 (0, 0))) := Bk.new _ _ _
  have h1 := h.alloc (.cells #[.int .i64 13, .int .i64 A, .int .i64 B, .string t] 77 (0, 0))
  have b1 : Fr base D w (w.alloc (.cells #[.int .i64 13, .int .i64 A, .int .i64 B, .string t] 77 (0, 0))) := (Fr.refl base D w).alloc hb _
  obtain ⟨W1, HW1⟩ : ∃ W1, Hid (w.alloc (.cells #[.int .i64 13, .int .i64 A, .int .i64 B, .string t] 77 (0, 0)) = W1) := ⟨_, Lib.hid rfl⟩
  have hsz : (w.alloc (.cells #[.int .i64 13, .int .i64 A, .int .i64 B, .string t] 77 (0, 0))).heap.size = w.heap.size + 1 := by simp
  rw [HW1.out] at hO0 h1 b1 hsz
  have hO1 := hO0.alloc (.cells #[.string E.t, .int .i64 E.h, .int .i64 E.a] 35 (0, 0))
  have hE1 : Bk (w.heap.size + 1) 35 #[.string E.t, .int .i64 E.h, .int .i64 E.a] (W1.alloc (.cells #[.string E.t, .int .i64 E.h, .int .i64 E.a] 35 (0, 0))) := Bk.new' _ _ _ _ hsz.symm
  have h2 := h1.alloc (.cells #[.string E.t, .int .i64 E.h, .int .i64 E.a] 35 (0, 0))
  have b2 := b1.alloc (Nat.le_trans hb b1.size) (.cells #[.string E.t, .int .i64 E.h, .int .i64 E.a] 35 (0, 0))
  obtain ⟨W2, HW2⟩ : ∃ W2, Hid (W1.alloc (.cells #[.string E.t, .int .i64 E.h, .int .i64 E.a] 35 (0, 0)) = W2) := ⟨_, Lib.hid rfl⟩
  rw [HW2.out] at hO1 hE1 h2 b2
  have hb2 := Nat.le_trans hb b2.size
  clear h h1 b1 hO0 hs hsz
  by_cases ha : A ≤ E.h
  · rw [show Vm.fin br (if A ≤ E.h then .ok s else .error 4) = .ok (s, br) by rw [if_pos ha]; rfl]
    have hq : decide (E.h < A) = false := by simp; omega
    clear ha
    obtain ⟨o0, o1, o2, o3⟩ := Bk.c4 hO1
    have hnd := fun W => needs13_any A B t W
    have HWW : Hid ((w.alloc (.cells #[.int .i64 13, .int .i64 A, .int .i64 B, .string t] 77 (0, 0))).alloc (.cells #[.string E.t, .int .i64 E.h, .int .i64 E.a] 35 (0, 0)) = W2) := Lib.hid (by rw [HW1.out, HW2.out])
    clear HW1 HW2
    go_enter Tryz.func166, Tryz.ntmps166
    go_wp2_with fail
    rw [HWW.out]
    refine (hnd _).mono ?_
    rintro e w3 ⟨rfl, c3⟩
    have h3 := h2.below c3
    have hO3 := hO1.below c3
    have hE3 := hE1.below c3
    have b3 := b2.trans (Fr.of hb2 c3)
    have hb3 := Nat.le_trans hb b3.size
    clear hnd HWW h2 hO1 hE1 b2 c3 hb2 o0 o1 o2 o3
    obtain ⟨o0, o1, o2, o3⟩ := Bk.c4 hO3
    obtain ⟨g0, g1, g2⟩ := Bk.c3w hE3
    go_wp2_with fail
    refine (needM_ok base D 0 vi vb _ br 0 w3 h3 (by simp)).mono ?_
    rintro e w4 ⟨rfl, rfl⟩
    go_wp2
    first | go_end0 | refine bodyPost_ret (results_none rfl _ _ _) rfl ?_
    exact SsP.ok rfl h3 b3
  · rw [show Vm.fin br (if A ≤ E.h then .ok s else .error 4) = .error 4 by rw [if_neg ha]; rfl]
    have hq : decide (E.h < A) = true := by simp; omega
    clear ha
    obtain ⟨o0, o1, o2, o3⟩ := Bk.c4 hO1
    have hnd := fun W => needs13_any A B t W
    have HWW : Hid ((w.alloc (.cells #[.int .i64 13, .int .i64 A, .int .i64 B, .string t] 77 (0, 0))).alloc (.cells #[.string E.t, .int .i64 E.h, .int .i64 E.a] 35 (0, 0)) = W2) := Lib.hid (by rw [HW1.out, HW2.out])
    clear HW1 HW2
    go_enter Tryz.func166, Tryz.ntmps166
    go_wp2_with fail
    rw [HWW.out]
    refine (hnd _).mono ?_
    rintro e w3 ⟨rfl, c3⟩
    have h3 := h2.below c3
    have hO3 := hO1.below c3
    have hE3 := hE1.below c3
    have b3 := b2.trans (Fr.of hb2 c3)
    have hb3 := Nat.le_trans hb b3.size
    clear hnd HWW h2 hO1 hE1 b2 c3 hb2 o0 o1 o2 o3
    obtain ⟨o0, o1, o2, o3⟩ := Bk.c4 hO3
    obtain ⟨g0, g1, g2⟩ := Bk.c3w hE3
    go_wp2_with fail
    refine (needM_ok base D 0 vi vb _ br 0 w3 h3 (by simp)).mono ?_
    rintro e w4 ⟨rfl, rfl⟩
    obtain ⟨y0, y1, y2⟩ := h3.cells
    have f2 := h3.blk.fro 2
    go_wp2
    first | go_end0 | refine bodyPost_ret (results_none rfl _ _ _) rfl ?_
    exact SsP.no rfl (h3.setQ 4) (b3.setD h3.hD 2 _)
set_option maxRecDepth 100000 in
set_option maxHeartbeats 6400000 in
theorem stepM14_any (base D : Nat) (E : Vm) (x : Jo) (s : List ByteArray) (br : List Bool) (w : World) (h : MSs base D s br 0 w) (hb : base ≤ w.heap.size) (hs : Vm.fits s) (hc : x.c = 14) :
    Calls Tryz.prog 166 #[.pointer (some ⟨D, 0, none⟩), x.val, .agg #[.string E.t, .int .i64 E.h, .int .i64 E.a]] w (SsP base D (Vm.fin br (Vm.act E x s)) w) := by
  obtain ⟨vi, vb, h⟩ := h
  rw [Vm.actE14 hc]
  obtain ⟨C, A, B, t⟩ := x
  simp only at hc ⊢
  subst hc
  have hS := hs.1
  have hZ := hs.2
  have hDl := h.blk.lt
  have hO0 : Bk w.heap.size 77 #[.int .i64 14, .int .i64 A, .int .i64 B, .string t] (w.alloc (.cells #[.int .i64 14, .int .i64 A, .int .i64 B, .string t] 77 (0, 0))) := Bk.new _ _ _
  have h1 := h.alloc (.cells #[.int .i64 14, .int .i64 A, .int .i64 B, .string t] 77 (0, 0))
  have b1 : Fr base D w (w.alloc (.cells #[.int .i64 14, .int .i64 A, .int .i64 B, .string t] 77 (0, 0))) := (Fr.refl base D w).alloc hb _
  obtain ⟨W1, HW1⟩ : ∃ W1, Hid (w.alloc (.cells #[.int .i64 14, .int .i64 A, .int .i64 B, .string t] 77 (0, 0)) = W1) := ⟨_, Lib.hid rfl⟩
  have hsz : (w.alloc (.cells #[.int .i64 14, .int .i64 A, .int .i64 B, .string t] 77 (0, 0))).heap.size = w.heap.size + 1 := by simp
  rw [HW1.out] at hO0 h1 b1 hsz
  have hO1 := hO0.alloc (.cells #[.string E.t, .int .i64 E.h, .int .i64 E.a] 35 (0, 0))
  have hE1 : Bk (w.heap.size + 1) 35 #[.string E.t, .int .i64 E.h, .int .i64 E.a] (W1.alloc (.cells #[.string E.t, .int .i64 E.h, .int .i64 E.a] 35 (0, 0))) := Bk.new' _ _ _ _ hsz.symm
  have h2 := h1.alloc (.cells #[.string E.t, .int .i64 E.h, .int .i64 E.a] 35 (0, 0))
  have b2 := b1.alloc (Nat.le_trans hb b1.size) (.cells #[.string E.t, .int .i64 E.h, .int .i64 E.a] 35 (0, 0))
  obtain ⟨W2, HW2⟩ : ∃ W2, Hid (W1.alloc (.cells #[.string E.t, .int .i64 E.h, .int .i64 E.a] 35 (0, 0)) = W2) := ⟨_, Lib.hid rfl⟩
  rw [HW2.out] at hO1 hE1 h2 b2
  have hb2 := Nat.le_trans hb b2.size
  clear h h1 b1 hO0 hs hsz
  by_cases ha : A ≤ E.a
  · rw [show Vm.fin br (if A ≤ E.a then .ok s else .error 4) = .ok (s, br) by rw [if_pos ha]; rfl]
    have hq : decide (E.a < A) = false := by simp; omega
    clear ha
    obtain ⟨o0, o1, o2, o3⟩ := Bk.c4 hO1
    have hnd := fun W => needs14_any A B t W
    have HWW : Hid ((w.alloc (.cells #[.int .i64 14, .int .i64 A, .int .i64 B, .string t] 77 (0, 0))).alloc (.cells #[.string E.t, .int .i64 E.h, .int .i64 E.a] 35 (0, 0)) = W2) := Lib.hid (by rw [HW1.out, HW2.out])
    clear HW1 HW2
    go_enter Tryz.func166, Tryz.ntmps166
    go_wp2_with fail
    rw [HWW.out]
    refine (hnd _).mono ?_
    rintro e w3 ⟨rfl, c3⟩
    have h3 := h2.below c3
    have hO3 := hO1.below c3
    have hE3 := hE1.below c3
    have b3 := b2.trans (Fr.of hb2 c3)
    have hb3 := Nat.le_trans hb b3.size
    clear hnd HWW h2 hO1 hE1 b2 c3 hb2 o0 o1 o2 o3
    obtain ⟨o0, o1, o2, o3⟩ := Bk.c4 hO3
    obtain ⟨g0, g1, g2⟩ := Bk.c3w hE3
    go_wp2_with fail
    refine (needM_ok base D 0 vi vb _ br 0 w3 h3 (by simp)).mono ?_
    rintro e w4 ⟨rfl, rfl⟩
    go_wp2
    first | go_end0 | refine bodyPost_ret (results_none rfl _ _ _) rfl ?_
    exact SsP.ok rfl h3 b3
  · rw [show Vm.fin br (if A ≤ E.a then .ok s else .error 4) = .error 4 by rw [if_neg ha]; rfl]
    have hq : decide (E.a < A) = true := by simp; omega
    clear ha
    obtain ⟨o0, o1, o2, o3⟩ := Bk.c4 hO1
    have hnd := fun W => needs14_any A B t W
    have HWW : Hid ((w.alloc (.cells #[.int .i64 14, .int .i64 A, .int .i64 B, .string t] 77 (0, 0))).alloc (.cells #[.string E.t, .int .i64 E.h, .int .i64 E.a] 35 (0, 0)) = W2) := Lib.hid (by rw [HW1.out, HW2.out])
    clear HW1 HW2
    go_enter Tryz.func166, Tryz.ntmps166
    go_wp2_with fail
    rw [HWW.out]
    refine (hnd _).mono ?_
    rintro e w3 ⟨rfl, c3⟩
    have h3 := h2.below c3
    have hO3 := hO1.below c3
    have hE3 := hE1.below c3
    have b3 := b2.trans (Fr.of hb2 c3)
    have hb3 := Nat.le_trans hb b3.size
    clear hnd HWW h2 hO1 hE1 b2 c3 hb2 o0 o1 o2 o3
    obtain ⟨o0, o1, o2, o3⟩ := Bk.c4 hO3
    obtain ⟨g0, g1, g2⟩ := Bk.c3w hE3
    go_wp2_with fail
    refine (needM_ok base D 0 vi vb _ br 0 w3 h3 (by simp)).mono ?_
    rintro e w4 ⟨rfl, rfl⟩
    obtain ⟨y0, y1, y2⟩ := h3.cells
    have f2 := h3.blk.fro 2
    go_wp2
    first | go_end0 | refine bodyPost_ret (results_none rfl _ _ _) rfl ?_
    exact SsP.no rfl (h3.setQ 4) (b3.setD h3.hD 2 _)
end Go.Proofs.YtoocibabceeagabGreat

/-
  The machine of the model: dup, the shared lock's operation, conditions.
-/
namespace Go.Proofs.YtoocibabceeagabGreat
open Go.RowKit

set_option maxRecDepth 100000 in
set_option maxHeartbeats 6400000 in
theorem stepM1_any (base D : Nat) (E : Vm) (x : Jo) (s : List ByteArray) (br : List Bool) (w : World) (h : MSs base D s br 0 w) (hb : base ≤ w.heap.size) (hs : Vm.fits s) (hc : x.c = 1) :
    Calls Tryz.prog 166 #[.pointer (some ⟨D, 0, none⟩), x.val, .agg #[.string E.t, .int .i64 E.h, .int .i64 E.a]] w (SsP base D (Vm.fin br (Vm.act E x s)) w) := by
  obtain ⟨vi, vb, h⟩ := h
  rw [Vm.actE1 hc]
  obtain ⟨C, A, B, t⟩ := x
  simp only at hc ⊢
  subst hc
  have hS := hs.1
  have hZ := hs.2
  have hDl := h.blk.lt
  have hO0 : Bk w.heap.size 77 #[.int .i64 1, .int .i64 A, .int .i64 B, .string t] (w.alloc (.cells #[.int .i64 1, .int .i64 A, .int .i64 B, .string t] 77 (0, 0))) := Bk.new _ _ _
  have h1 := h.alloc (.cells #[.int .i64 1, .int .i64 A, .int .i64 B, .string t] 77 (0, 0))
  have b1 : Fr base D w (w.alloc (.cells #[.int .i64 1, .int .i64 A, .int .i64 B, .string t] 77 (0, 0))) := (Fr.refl base D w).alloc hb _
  obtain ⟨W1, HW1⟩ : ∃ W1, Hid (w.alloc (.cells #[.int .i64 1, .int .i64 A, .int .i64 B, .string t] 77 (0, 0)) = W1) := ⟨_, Lib.hid rfl⟩
  have hsz : (w.alloc (.cells #[.int .i64 1, .int .i64 A, .int .i64 B, .string t] 77 (0, 0))).heap.size = w.heap.size + 1 := by simp
  rw [HW1.out] at hO0 h1 b1 hsz
  have hO1 := hO0.alloc (.cells #[.string E.t, .int .i64 E.h, .int .i64 E.a] 35 (0, 0))
  have hE1 : Bk (w.heap.size + 1) 35 #[.string E.t, .int .i64 E.h, .int .i64 E.a] (W1.alloc (.cells #[.string E.t, .int .i64 E.h, .int .i64 E.a] 35 (0, 0))) := Bk.new' _ _ _ _ hsz.symm
  have h2 := h1.alloc (.cells #[.string E.t, .int .i64 E.h, .int .i64 E.a] 35 (0, 0))
  have b2 := b1.alloc (Nat.le_trans hb b1.size) (.cells #[.string E.t, .int .i64 E.h, .int .i64 E.a] 35 (0, 0))
  obtain ⟨W2, HW2⟩ : ∃ W2, Hid (W1.alloc (.cells #[.string E.t, .int .i64 E.h, .int .i64 E.a] 35 (0, 0)) = W2) := ⟨_, Lib.hid rfl⟩
  rw [HW2.out] at hO1 hE1 h2 b2
  have hb2 := Nat.le_trans hb b2.size
  clear h h1 b1 hO0 hs hsz
  rcases s with _ | ⟨a, r⟩
  · have hnil := hZ
    obtain ⟨o0, o1, o2, o3⟩ := Bk.c4 hO1
    have hnd := fun W => needs1_any A B t W
    have HWW : Hid ((w.alloc (.cells #[.int .i64 1, .int .i64 A, .int .i64 B, .string t] 77 (0, 0))).alloc (.cells #[.string E.t, .int .i64 E.h, .int .i64 E.a] 35 (0, 0)) = W2) := Lib.hid (by rw [HW1.out, HW2.out])
    clear HW1 HW2
    go_enter Tryz.func166, Tryz.ntmps166
    go_wp2_with fail
    rw [HWW.out]
    refine (hnd _).mono ?_
    rintro e w3 ⟨rfl, c3⟩
    have h3 := h2.below c3
    have hO3 := hO1.below c3
    have hE3 := hE1.below c3
    have b3 := b2.trans (Fr.of hb2 c3)
    have hb3 := Nat.le_trans hb b3.size
    clear hnd HWW h2 hO1 hE1 b2 c3 hb2 o0 o1 o2 o3
    obtain ⟨o0, o1, o2, o3⟩ := Bk.c4 hO3
    obtain ⟨g0, g1, g2⟩ := Bk.c3w hE3
    go_wp2_with fail
    refine (needM_no base D 1 vi vb _ br 0 w3 h3 (by simp)).mono ?_
    rintro e w4 ⟨rfl, rfl⟩
    go_wp2
    first | go_end0 | refine bodyPost_ret (results_none rfl _ _ _) rfl ?_
    exact SsP.no rfl (h3.setQ 2) (b3.setD h3.hD 2 _)
  · by_cases hp : (a :: r).length < 24
    · rw [show Vm.fin br (Vm.put a (a :: r)) = .ok (a :: a :: r, br) by unfold Vm.put; rw [if_pos hp]; rfl]
      obtain ⟨o0, o1, o2, o3⟩ := Bk.c4 hO1
      have hnd := fun W => needs1_any A B t W
      have HWW : Hid ((w.alloc (.cells #[.int .i64 1, .int .i64 A, .int .i64 B, .string t] 77 (0, 0))).alloc (.cells #[.string E.t, .int .i64 E.h, .int .i64 E.a] 35 (0, 0)) = W2) := Lib.hid (by rw [HW1.out, HW2.out])
      clear HW1 HW2
      go_enter Tryz.func166, Tryz.ntmps166
      go_wp2_with fail
      rw [HWW.out]
      refine (hnd _).mono ?_
      rintro e w3 ⟨rfl, c3⟩
      have h3 := h2.below c3
      have hO3 := hO1.below c3
      have hE3 := hE1.below c3
      have b3 := b2.trans (Fr.of hb2 c3)
      have hb3 := Nat.le_trans hb b3.size
      clear hnd HWW h2 hO1 hE1 b2 c3 hb2 o0 o1 o2 o3
      obtain ⟨o0, o1, o2, o3⟩ := Bk.c4 hO3
      obtain ⟨g0, g1, g2⟩ := Bk.c3w hE3
      go_wp2_with fail
      refine (needM_ok base D 1 vi vb _ br 0 w3 h3 (by simp)).mono ?_
      rintro e w4 ⟨rfl, rfl⟩
      obtain ⟨ai, ci, rfl, hcap, hmax⟩ := own_slice h3.its
      obtain ⟨gi, rfl, hgb, hgl⟩ := own_some h3.its (by simp)
      obtain ⟨kk, hkk⟩ : ∃ k, r.length = k := ⟨_, rfl⟩
      have hcl : w4.cell? ⟨gi, kk, none⟩ = some (.string a) := by
        have := h3.its.cellAt kk (by simp; omega)
        rw [this, List.reverse_cons, List.map_append, List.getElem?_append_right (by simp; omega)]
        simp [hkk]
      have hcld : w4.drew.cell? ⟨gi, kk, none⟩ = some (.string a) := hcl
      obtain ⟨y0, y1, y2⟩ := h3.cells
      have hp24 : kk + 1 ≤ 24 := by simp at hS; omega
      simp only [List.length_cons, hkk] at y0 hcap
      have z0 : w4.drew.cell? ⟨D, 0, none⟩ = some (.slice (some ⟨gi, 0, none⟩) (kk + 1) ci) := y0
      have hq : IntKind.i64.wrap ((kk : Int) + 1 - 1) = (kk : Int) := by rw [IntKind.wrap_i64]; omega
      have hq2 : IntKind.i64.wrap (kk : Int) = (kk : Int) := by rw [IntKind.wrap_i64]; omega
      have h3d := h3.drew
      have b3d := b3.drew
      have hpu := pushM_ok base D _ vb (a :: r) br 0 a w4.drew h3d (Nat.le_trans hb b3d.size) hp
      clear hp hkk
      go_wp2
      go_region_with (go_at_call 201; go_must (refine hpu.mono ?_); go_must (rintro e w5 ⟨v5, rfl, h5, c5, _⟩))
      all_goals
        go_wp2
        first | go_end0 | refine bodyPost_ret (results_none rfl _ _ _) rfl ?_
        exact SsP.ok rfl h5 (b3d.trans c5)
    · rw [show Vm.fin br (Vm.put a (a :: r)) = .error 5 by unfold Vm.put; rw [if_neg hp]; rfl]
      obtain ⟨o0, o1, o2, o3⟩ := Bk.c4 hO1
      have hnd := fun W => needs1_any A B t W
      have HWW : Hid ((w.alloc (.cells #[.int .i64 1, .int .i64 A, .int .i64 B, .string t] 77 (0, 0))).alloc (.cells #[.string E.t, .int .i64 E.h, .int .i64 E.a] 35 (0, 0)) = W2) := Lib.hid (by rw [HW1.out, HW2.out])
      clear HW1 HW2
      go_enter Tryz.func166, Tryz.ntmps166
      go_wp2_with fail
      rw [HWW.out]
      refine (hnd _).mono ?_
      rintro e w3 ⟨rfl, c3⟩
      have h3 := h2.below c3
      have hO3 := hO1.below c3
      have hE3 := hE1.below c3
      have b3 := b2.trans (Fr.of hb2 c3)
      have hb3 := Nat.le_trans hb b3.size
      clear hnd HWW h2 hO1 hE1 b2 c3 hb2 o0 o1 o2 o3
      obtain ⟨o0, o1, o2, o3⟩ := Bk.c4 hO3
      obtain ⟨g0, g1, g2⟩ := Bk.c3w hE3
      go_wp2_with fail
      refine (needM_ok base D 1 vi vb _ br 0 w3 h3 (by simp)).mono ?_
      rintro e w4 ⟨rfl, rfl⟩
      obtain ⟨ai, ci, rfl, hcap, hmax⟩ := own_slice h3.its
      obtain ⟨gi, rfl, hgb, hgl⟩ := own_some h3.its (by simp)
      obtain ⟨kk, hkk⟩ : ∃ k, r.length = k := ⟨_, rfl⟩
      have hcl : w4.cell? ⟨gi, kk, none⟩ = some (.string a) := by
        have := h3.its.cellAt kk (by simp; omega)
        rw [this, List.reverse_cons, List.map_append, List.getElem?_append_right (by simp; omega)]
        simp [hkk]
      have hcld : w4.drew.cell? ⟨gi, kk, none⟩ = some (.string a) := hcl
      obtain ⟨y0, y1, y2⟩ := h3.cells
      have hp24 : kk + 1 ≤ 24 := by simp at hS; omega
      simp only [List.length_cons, hkk] at y0 hcap
      have z0 : w4.drew.cell? ⟨D, 0, none⟩ = some (.slice (some ⟨gi, 0, none⟩) (kk + 1) ci) := y0
      have hq : IntKind.i64.wrap ((kk : Int) + 1 - 1) = (kk : Int) := by rw [IntKind.wrap_i64]; omega
      have hq2 : IntKind.i64.wrap (kk : Int) = (kk : Int) := by rw [IntKind.wrap_i64]; omega
      have h3d := h3.drew
      have b3d := b3.drew
      have hpu := pushM_no base D _ vb (a :: r) br 0 a w4.drew h3d hp
      clear hp hkk
      go_wp2
      go_region_with (go_at_call 201; go_must (refine hpu.mono ?_); go_must (rintro e w5 ⟨rfl, rfl⟩))
      all_goals
        go_wp2
        first | go_end0 | refine bodyPost_ret (results_none rfl _ _ _) rfl ?_
        exact SsP.no rfl (h3d.setQ 5) (b3d.setD h3.hD 2 _)
set_option maxRecDepth 100000 in
set_option maxHeartbeats 6400000 in
theorem stepM12_any (base D : Nat) (E : Vm) (x : Jo) (s : List ByteArray) (br : List Bool) (w : World) (h : MSs base D s br 0 w) (hb : base ≤ w.heap.size) (hs : Vm.fits s) (hc : x.c = 12) (hf : Jo.fld x = true) (ht : E.t.size ≤ 1048576) :
    Calls Tryz.prog 166 #[.pointer (some ⟨D, 0, none⟩), x.val, .agg #[.string E.t, .int .i64 E.h, .int .i64 E.a]] w (SsP base D (Vm.fin br (Vm.act E x s)) w) := by
  obtain ⟨vi, vb, h⟩ := h
  have hAE : Vm.act E x s = (if s.length < (x.a + x.b).toNat then .error 2
    else .ok (Vm.tr (Vm.many E.t ((s.drop x.b.toNat).take x.a.toNat).reverse (s.take x.b.toNat).reverse) :: s.drop (x.a + x.b).toNat)) := Vm.actE12 hc
  rw [hAE]
  clear hAE
  obtain ⟨C, A, B, t⟩ := x
  simp only at hc ⊢
  subst hc
  have hS := hs.1
  have hZ := hs.2
  have hDl := h.blk.lt
  have hfb : 1 ≤ A ∧ A ≤ B ∧ B ≤ 5 := by
    unfold Jo.fld at hf
    simp at hf
    omega
  obtain ⟨m, rfl⟩ := Int.eq_ofNat_of_zero_le (show 0 ≤ A by omega)
  obtain ⟨n, rfl⟩ := Int.eq_ofNat_of_zero_le (show 0 ≤ B by omega)
  have hm : 1 ≤ m ∧ m ≤ n ∧ n ≤ 5 := by omega
  have hmn : ((m : Int) + (n : Int)).toNat = m + n := by omega
  rw [hmn, Int.toNat_natCast, Int.toNat_natCast]
  have hO0 : Bk w.heap.size 77 #[.int .i64 12, .int .i64 m, .int .i64 n, .string t] (w.alloc (.cells #[.int .i64 12, .int .i64 m, .int .i64 n, .string t] 77 (0, 0))) := Bk.new _ _ _
  have h1 := h.alloc (.cells #[.int .i64 12, .int .i64 m, .int .i64 n, .string t] 77 (0, 0))
  have b1 : Fr base D w (w.alloc (.cells #[.int .i64 12, .int .i64 m, .int .i64 n, .string t] 77 (0, 0))) := (Fr.refl base D w).alloc hb _
  obtain ⟨W1, HW1⟩ : ∃ W1, Hid (w.alloc (.cells #[.int .i64 12, .int .i64 m, .int .i64 n, .string t] 77 (0, 0)) = W1) := ⟨_, Lib.hid rfl⟩
  have hsz : (w.alloc (.cells #[.int .i64 12, .int .i64 m, .int .i64 n, .string t] 77 (0, 0))).heap.size = w.heap.size + 1 := by simp
  rw [HW1.out] at hO0 h1 b1 hsz
  have hO1 := hO0.alloc (.cells #[.string E.t, .int .i64 E.h, .int .i64 E.a] 35 (0, 0))
  have hE1 : Bk (w.heap.size + 1) 35 #[.string E.t, .int .i64 E.h, .int .i64 E.a] (W1.alloc (.cells #[.string E.t, .int .i64 E.h, .int .i64 E.a] 35 (0, 0))) := Bk.new' _ _ _ _ hsz.symm
  have h2 := h1.alloc (.cells #[.string E.t, .int .i64 E.h, .int .i64 E.a] 35 (0, 0))
  have b2 := b1.alloc (Nat.le_trans hb b1.size) (.cells #[.string E.t, .int .i64 E.h, .int .i64 E.a] 35 (0, 0))
  obtain ⟨W2, HW2⟩ : ∃ W2, Hid (W1.alloc (.cells #[.string E.t, .int .i64 E.h, .int .i64 E.a] 35 (0, 0)) = W2) := ⟨_, Lib.hid rfl⟩
  rw [HW2.out] at hO1 hE1 h2 b2
  have hb2 := Nat.le_trans hb b2.size
  clear h h1 b1 hO0 hs hsz
  by_cases hln : s.length < m + n
  · rw [if_pos hln]
    obtain ⟨o0, o1, o2, o3⟩ := Bk.c4 hO1
    have hnd := fun W => needs12_any (m : Int) (n : Int) t W (by omega) (by omega) (by omega) (by omega)
    have HWW : Hid ((w.alloc (.cells #[.int .i64 12, .int .i64 m, .int .i64 n, .string t] 77 (0, 0))).alloc (.cells #[.string E.t, .int .i64 E.h, .int .i64 E.a] 35 (0, 0)) = W2) := Lib.hid (by rw [HW1.out, HW2.out])
    clear HW1 HW2
    go_enter Tryz.func166, Tryz.ntmps166
    go_wp2_with fail
    rw [HWW.out]
    refine (hnd _).mono ?_
    rintro e w3 ⟨rfl, c3⟩
    have h3 := h2.below c3
    have hO3 := hO1.below c3
    have hE3 := hE1.below c3
    have b3 := b2.trans (Fr.of hb2 c3)
    have hb3 := Nat.le_trans hb b3.size
    clear hnd HWW h2 hO1 hE1 b2 c3 hb2 o0 o1 o2 o3
    obtain ⟨o0, o1, o2, o3⟩ := Bk.c4 hO3
    obtain ⟨g0, g1, g2⟩ := Bk.c3w hE3
    go_wp2_with fail
    have hne := needM_no base D (m + n) vi vb s br 0 w3 h3 hln
    rw [Int.natCast_add] at hne
    refine hne.mono ?_
    rintro e w4 ⟨rfl, rfl⟩
    go_wp2
    first | go_end0 | refine bodyPost_ret (results_none rfl _ _ _) rfl ?_
    exact SsP.no rfl (h3.setQ 2) (b3.setD h3.hD 2 _)
  · rw [if_neg hln]
    obtain ⟨R, HR⟩ : ∃ R, Hid (Vm.many E.t ((s.drop n).take m).reverse (s.take n).reverse = R) := ⟨_, Lib.hid rfl⟩
    rw [HR.out]
    obtain ⟨o0, o1, o2, o3⟩ := Bk.c4 hO1
    have hnd := fun W => needs12_any (m : Int) (n : Int) t W (by omega) (by omega) (by omega) (by omega)
    have HWW : Hid ((w.alloc (.cells #[.int .i64 12, .int .i64 m, .int .i64 n, .string t] 77 (0, 0))).alloc (.cells #[.string E.t, .int .i64 E.h, .int .i64 E.a] 35 (0, 0)) = W2) := Lib.hid (by rw [HW1.out, HW2.out])
    clear HW1 HW2
    go_enter Tryz.func166, Tryz.ntmps166
    go_wp2_with fail
    rw [HWW.out]
    refine (hnd _).mono ?_
    rintro e w3 ⟨rfl, c3⟩
    have h3 := h2.below c3
    have hO3 := hO1.below c3
    have hE3 := hE1.below c3
    have b3 := b2.trans (Fr.of hb2 c3)
    have hb3 := Nat.le_trans hb b3.size
    clear hnd HWW h2 hO1 hE1 b2 c3 hb2 o0 o1 o2 o3
    obtain ⟨o0, o1, o2, o3⟩ := Bk.c4 hO3
    obtain ⟨g0, g1, g2⟩ := Bk.c3w hE3
    go_wp2_with fail
    have hne := needM_ok base D (m + n) vi vb s br 0 w3 h3 (by omega)
    rw [Int.natCast_add] at hne
    refine hne.mono ?_
    rintro e w4 ⟨rfl, rfl⟩
    go_wp2_with fail
    refine (takeS_any base D n vi vb s br 0 _ h3 hb3 hS (by omega) (by omega)).mono ?_
    rintro e w5 ⟨a5, cp5, v5, rfl, own5, h5, _, c5, k5⟩
    have b5 := b3.trans c5
    have hb5 := Nat.le_trans hb b5.size
    have hO5 := hO3.fr c5 (by omega) (by decide) (by decide)
    have hE5 := hE3.fr c5 (by omega) (by decide) (by decide)
    clear o0 o1 o2 o3 g0 g1 g2
    obtain ⟨o0, o1, o2, o3⟩ := Bk.c4 hO5
    obtain ⟨g0, g1, g2⟩ := Bk.c3w hE5
    go_wp2_with fail
    refine (takeS_any base D m v5 vb (s.drop n) br 0 _ h5 hb5 (by rw [List.length_drop]; omega) (by omega) (by rw [List.length_drop]; omega)).mono ?_
    rintro e w6 ⟨a6, cp6, v6, rfl, own6, h6, _, c6, k6⟩
    have b6 := b5.trans c6
    have hb6 := Nat.le_trans hb b6.size
    have hE6 := hE5.fr c6 (by omega) (by decide) (by decide)
    clear o0 o1 o2 o3 g0 g1 g2
    obtain ⟨g0, g1, g2⟩ := Bk.c3w hE6
    have sk := (SR.own (ss := (s.take n).reverse) own5).2
    have sk6 : SR w6 a5 n (s.take n).reverse := by
      refine ⟨sk.1, fun h0 => ?_⟩
      obtain ⟨bq, off, ha, hbl, hcq⟩ := sk.2 h0
      have hbD : bq ≠ D := by
        subst ha
        obtain ⟨gq, he, hge, _⟩ := own_some own5 h0
        cases he
        have := h3.blk.lt
        omega
      exact ⟨bq, off, ha, Nat.lt_of_lt_of_le hbl c6.size, fun i hi => (World.cell?_of_block (w := w5) (a := ⟨bq, off + i, none⟩) (k6 bq hbl hbD)).trans (hcq i hi)⟩
    have sg6 := (SR.own (ss := ((s.drop n).take m).reverse) own6).2
    have hmy := l11Many_any a5 a6 n cp5 m cp6 _ _ E.t w6 sk6 sg6 (by omega) (by omega) ht
    rw [HR.out] at hmy
    have hdd : (s.drop n).drop m = s.drop (m + n) := by rw [List.drop_drop, Nat.add_comm]
    rw [hdd] at h6
    have hdl : (s.drop (m + n)).length < 24 := by rw [List.length_drop]; omega
    clear own5 own6 sk sk6 sg6 k5 k6 c5 c6 h5 hO5 hE5 b5 hb5 h3 hO3 hE3 b3 hb3
    go_wp2_with fail
    refine hmy.mono ?_
    rintro e w7 ⟨rfl, c7⟩
    have h7 := h6.below c7
    have b7 := b6.trans (Fr.of hb6 c7)
    have hb7 := Nat.le_trans hb b7.size
    go_wp2_with fail
    refine (l11Bool_any R _).mono ?_
    rintro e wb ⟨rfl, rfl⟩
    go_wp2_with fail
    refine (pushM_ok base D v6 vb (s.drop (m + n)) br 0 (Vm.tr R) _ h7 hb7 hdl).mono ?_
    rintro e w8 ⟨v8, rfl, h8, c8, _⟩
    go_wp2
    first | go_end0 | refine bodyPost_ret (results_none rfl _ _ _) rfl ?_
    exact SsP.ok rfl h8 (b7.trans c8)
set_option maxRecDepth 100000 in
set_option maxHeartbeats 6400000 in
theorem nest8_any (base D : Nat) (s : List ByteArray) (br : List Bool) (w : World) (h : MSs base D s br 0 w) (hbr : br.length ≤ 4) (hne : br ≠ []) :
    Calls Tryz.prog 164 #[.pointer (some ⟨D, 0, none⟩), .int .i64 8] w (SsP base D (Vm.cond 8 s br) w) := by
  obtain ⟨vi, vb, h⟩ := h
  rcases br with _ | ⟨b, r⟩
  · exact absurd rfl hne
  clear hne
  obtain ⟨a, cap, rfl, hcap, hmax⟩ := own_slice h.brs
  obtain ⟨g, rfl, hgb, hgl⟩ := own_some h.brs (by simp)
  have hbs := h.brs
  obtain ⟨c0, c1, c2⟩ := h.cells
  have f1 := h.blk.fro 1
  obtain ⟨k, hk⟩ : ∃ k, r.length = k := ⟨_, rfl⟩
  simp only [List.length_cons] at hbr hcap c1
  rw [hk] at c1 hcap hbr
  have c1d : w.drew.cell? ⟨D, 1, none⟩ = some (.slice (some ⟨g, 0, none⟩) (k + 1) cap) := c1
  have hq : IntKind.i64.wrap ((k : Int) + 1 - 1) = (k : Int) := by rw [IntKind.wrap_i64]; omega
  have hq2 : IntKind.i64.wrap (k : Int) = (k : Int) := by rw [IntKind.wrap_i64]; omega
  have H0 := Lib.hid h
  have hsl := fun W => sliceB_hi g (k + 1) k cap (by omega) hcap W
  have hF : w.ownsRow base 4 1 (.slice (some ⟨g, 0, none⟩) r.length cap) r.length (r.reverse.map Value.bool) := by
    rw [List.reverse_cons, List.map_append] at hbs
    have := ownsRow_front hbs
    simpa using this
  have HF := Lib.hid hF
  have HK := Lib.hid hk
  clear h hbs hF hk
  go_enter Tryz.func164, Tryz.ntmps164
  go_wp2
  first | go_end0 | refine bodyPost_ret (results_none rfl _ _ _) rfl ?_
  have k1 := (H0.out.setB (br' := r) (World.grownBy.refl _ _) HF.out).1
  rw [HK.out] at k1
  exact SsP.ok Vm.cond8 k1 ((Fr.refl base D w).setD H0.out.hD 1 _)
set_option maxRecDepth 100000 in
set_option maxHeartbeats 6400000 in
theorem nest7_any (base D : Nat) (s : List ByteArray) (br : List Bool) (w : World) (h : MSs base D s br 0 w) (hbr : br.length ≤ 4) (hne : br ≠ []) :
    Calls Tryz.prog 164 #[.pointer (some ⟨D, 0, none⟩), .int .i64 7] w (SsP base D (Vm.cond 7 s br) w) := by
  obtain ⟨vi, vb, h⟩ := h
  rcases br with _ | ⟨b, r⟩
  · exact absurd rfl hne
  clear hne
  obtain ⟨a, cap, rfl, hcap, hmax⟩ := own_slice h.brs
  obtain ⟨g, rfl, hgb, hgl⟩ := own_some h.brs (by simp)
  have hbs := h.brs
  obtain ⟨c0, c1, c2⟩ := h.cells
  have f1 := h.blk.fro 1
  obtain ⟨k, hk⟩ : ∃ k, r.length = k := ⟨_, rfl⟩
  simp only [List.length_cons] at hbr hcap c1
  rw [hk] at c1 hcap hbr
  have c1d : w.drew.cell? ⟨D, 1, none⟩ = some (.slice (some ⟨g, 0, none⟩) (k + 1) cap) := c1
  have hq : IntKind.i64.wrap ((k : Int) + 1 - 1) = (k : Int) := by rw [IntKind.wrap_i64]; omega
  have hq2 : IntKind.i64.wrap (k : Int) = (k : Int) := by rw [IntKind.wrap_i64]; omega
  have H0 := Lib.hid h
  have hcl : w.cell? ⟨g, k, none⟩ = some (.bool b) := by
    obtain ⟨_, hr⟩ := br_row hbs
    obtain ⟨g', he, _, hc⟩ := hr (by simp)
    cases he
    have := hc k (by simp; omega)
    rw [this, List.getD_eq_getElem?_getD, List.reverse_cons, List.getElem?_append_right (by simp; omega)]
    simp [hk]
  have hcld : w.drew.cell? ⟨g, k, none⟩ = some (.bool b) := hcl
  have hfr : w.frozen? ⟨g, k, none⟩ = false := hbs.frozenAt k
  have hfrd : w.drew.frozen? ⟨g, k, none⟩ = false := hfr
  have hF : (w.setCell ⟨g, k, none⟩ (.bool (!b))).ownsRow base 4 1 (.slice (some ⟨g, 0, none⟩) (r.length + 1) cap) (r.length + 1) (((!b) :: r).reverse.map Value.bool) := by
    have := own_put (j := k) hbs (.bool (!b))
    rw [List.reverse_cons, List.map_append, List.set_append, if_neg (by simp; omega)] at this
    simpa [hk] using this
  have hgD : D ≠ g := fun e => h.bD (by rw [e]; rfl)
  have hMM : MS base D vi (.slice (some ⟨g, 0, none⟩) (r.length + 1) cap) s ((!b) :: r) 0 (w.setCell ⟨g, k, none⟩ (.bool (!b))) :=
    ⟨h.hD, h.blk.oset g k _ hgD, own_set h.its g k _ (fun e => by
      rcases own_two h.its h.brs (by decide) with h | h
      · rw [h] at e; cases e
      · exact h e), hF⟩
  have HM := Lib.hid hMM
  have HBS := Lib.hid hbs
  clear h hbs hF hk hMM
  go_enter Tryz.func164, Tryz.ntmps164
  go_wp2
  go_region
  all_goals
    go_wp2
    first | go_end0 | refine bodyPost_ret (results_none rfl _ _ _) rfl ?_
    exact SsP.ok Vm.cond7 (show MS base D vi _ s ((!b) :: r) 0 (w.drew.setCell ⟨g, k, none⟩ (.bool (!b))) from HM.out.drew) ((Fr.refl base D w).drew.setO (show w.drew.ownsRow base 4 1 _ _ _ from HBS.out) (.inr rfl) hgb k _)
set_option maxRecDepth 100000 in
set_option maxHeartbeats 6400000 in
theorem nest6_skip (base D : Nat) (s : List ByteArray) (br : List Bool) (w : World) (h : MSs base D s br 0 w) (hb : base ≤ w.heap.size) (hbr : br.length ≤ 4) (hlv : Vm.live br = false) :
    Calls Tryz.prog 164 #[.pointer (some ⟨D, 0, none⟩), .int .i64 6] w (SsP base D (Vm.cond 6 s br) w) := by
  obtain ⟨vi, vb, h⟩ := h
  rw [Vm.cond6_no hlv]
  obtain ⟨i0, hi, hz0, hz1, hz2⟩ := info_parts info_bool
  obtain ⟨ab, cb, rfl, hcapb, hmaxb⟩ := own_slice h.brs
  have hac := activeM_any base D vi _ s br 0 w h (by omega)
  rw [hlv] at hac
  obtain ⟨c0, c1, c2⟩ := h.cells
  have f1 := h.blk.fro 1
  have hown := h.brs.alloc (.cells #[.bool false] 4)
  have H := Lib.hid h
  obtain ⟨n, hn⟩ : ∃ n, br.length = n := ⟨_, rfl⟩
  rw [hn] at c1 hbr hown
  have HN := Lib.hid hn
  have hq : IntKind.i64.wrap ((n : Int) - 1) = (n : Int) - 1 := by rw [IntKind.wrap_i64]; omega
  clear h hlv hn
  go_enter Tryz.func164, Tryz.ntmps164
  go_wp2_with fail
  refine hac.mono ?_
  rintro e w1 ⟨rfl, rfl⟩
  go_wp2_with (at_builtin; refine wpList_append_own _ rfl _ _ 143 rfl base 4 i0 (.bool false) 1 1 Tryz.underlying143 hi hz0 hz1 hz2 rfl (by decide) _ _ _ rfl hown ⟨w1.heap.size, 0, none⟩ 1 1 [.bool false] rfl rfl ?c1 ?c2 ?c3 ?c4 ?c5 ?_)
  case c1 => exact one_new _ _ _
  case c2 => intro u hu; simp at hu; subst hu; rfl
  case c3 => unfold maxLen; omega
  case c4 => omega
  case c5 => simp; omega
  intro v5 w5 hown5 hg5 _
  obtain ⟨a5, c5, rfl, _⟩ := own_slice hown5
  have hg6 : w1.grownBy w5 (Value.slice ab n cb).ownBlock := grownBy_trans' (World.grownBy_alloc _ _ _) hg5
  have k1 := (MS.setB (br' := false :: br) (v' := .slice a5 (n + 1) c5) (by have := H.out; rw [HN.out] at this; exact this) hg6 (by rw [List.length_cons, HN.out, List.reverse_cons, List.map_append, List.map_reverse]; exact hown5))
  have d1 := (k1.2.cell 1).trans rfl
  have f1' := k1.2.fro 1
  have HB6 : Hid (Fr base D w1 w5) := Lib.hid ((Fr.refl base D w1).grown hg6 (by have := H.out.brs; rw [HN.out] at this; exact this) (.inr rfl) hb (Nat.le_refl _))
  have K1 := Lib.hid k1.1
  clear k1 hown hown5 hg5 hg6
  go_wp2
  first | go_end0 | refine bodyPost_ret (results_none rfl _ _ _) rfl ?_
  exact SsP.ok rfl K1.out (HB6.out.setD H.out.hD 1 _)
set_option maxRecDepth 100000 in
set_option maxHeartbeats 6400000 in
theorem nest6_live (base D : Nat) (s : List ByteArray) (br : List Bool) (w : World) (h : MSs base D s br 0 w) (hb : base ≤ w.heap.size) (hbr : br.length ≤ 4) (hs : Vm.fits s) (hlv : Vm.live br = true) :
    Calls Tryz.prog 164 #[.pointer (some ⟨D, 0, none⟩), .int .i64 6] w (SsP base D (Vm.cond 6 s br) w) := by
  obtain ⟨vi, vb, h⟩ := h
  obtain ⟨i0, hi, hz0, hz1, hz2⟩ := info_parts info_bool
  have hS := hs.1
  obtain ⟨ab, cb, rfl, hcapb, hmaxb⟩ := own_slice h.brs
  have hac := activeM_any base D vi _ s br 0 w h (by omega)
  rw [hlv] at hac
  obtain ⟨c0, c1, c2⟩ := h.cells
  obtain ⟨n, hn⟩ : ∃ n, br.length = n := ⟨_, rfl⟩
  have hq : IntKind.i64.wrap ((n : Int) - 1) = (n : Int) - 1 := by rw [IntKind.wrap_i64]; omega
  rcases s with _ | ⟨a, r⟩
  · rw [Vm.cond6_nil hlv]
    have hne := needM_no base D 1 vi _ [] br 0 w h (by simp)
    rw [hn] at c1
    have H := Lib.hid h
    clear h hlv hn
    go_enter Tryz.func164, Tryz.ntmps164
    go_wp2_with fail
    refine hac.mono ?_
    rintro e w1 ⟨rfl, rfl⟩
    go_wp2_with fail
    refine hne.mono ?_
    rintro e w2 ⟨rfl, rfl⟩
    go_wp2
    first | go_end0 | refine bodyPost_ret (results_none rfl _ _ _) rfl ?_
    exact SsP.no rfl (H.out.setQ 2) ((Fr.refl base D w1).setD H.out.hD 2 _)
  · rw [Vm.cond6_yes hlv]
    obtain ⟨q, HQ⟩ : ∃ q, Hid (decide (a.size ≠ 0) = q) := ⟨_, Lib.hid rfl⟩
    rw [HQ.out]
    have hqe : (!a.toList.isEmpty) = q := by rw [str_empty_iff, ← HQ.out]; simp
    have hqd : (!decide (a = ByteArray.empty)) = q := by
      rw [← hqe]
      congr 1
      rw [str_empty_iff, decide_eq_decide]
      exact ⟨fun e => by rw [e]; rfl, fun e => ByteArray.ext (Array.eq_empty_of_size_eq_zero e)⟩
    have hne := needM_ok base D 1 vi _ (a :: r) br 0 w h (by simp)
    have hpp := popM_any base D vi _ a r br 0 w.drew h.drew (by simp at hS; omega)
    have c1d : w.drew.cell? ⟨D, 1, none⟩ = some (.slice ab br.length cb) := c1
    rw [hn] at c1 c1d hbr
    have HD := h.hD
    have HN := Lib.hid hn
    clear h hlv hn hs HQ
    go_enter Tryz.func164, Tryz.ntmps164
    go_wp2_with fail
    refine hac.mono ?_
    rintro e w1 ⟨rfl, rfl⟩
    go_wp2_with fail
    refine hne.mono ?_
    rintro e w2 ⟨rfl, rfl⟩
    clear hac hne
    go_wp2
    go_region_law (first
      | (refine step_append_own rfl _ _ 143 rfl base 4 i0 (.bool false) 1 1 Tryz.underlying143 hi hz0 hz1 hz2 rfl (by decide) _ _ _ rfl (by exact hbrs3.alloc _) ⟨w3.heap.size, 0, none⟩ 1 1 [.bool q] rfl rfl (one_new w3 _ _) (by intro u hu; simp at hu; subst hu; rfl) (by unfold maxLen; omega) (by omega) (by have := c3.size; simp; simp at hb this; omega) (fun v5 w5 hown5 hg5 => ?_)
         obtain ⟨a5, c5, rfl, _⟩ := own_slice hown5
         have hg6 : w3.grownBy w5 (Value.slice ab n cb).ownBlock := grownBy_trans' (World.grownBy_alloc _ _ _) hg5
         have k1 := (MS.setB (br' := q :: br) (v' := .slice a5 (n + 1) c5) (by have := h3; rw [HN.out] at this; exact this) hg6 (by rw [List.length_cons, HN.out, List.reverse_cons, List.map_append]; exact hown5))
         have d1 := (k1.2.cell 1).trans rfl
         have f1 := k1.2.fro 1
         have hB6 : Fr base D w2.drew w5 := c3.trans ((Fr.refl base D w3).grown hg6 hbrs3 (.inr rfl) (Nat.le_trans hb c3.size) (Nat.le_refl _)))
      | (rw [if_pos (by simp [Region.wanted])]; go_simp; go_at_call 199; refine hpp.mono ?_; rintro e w3 ⟨v3, rfl, h3, _, c3⟩; have hbrs3 : w3.ownsRow base 4 1 (.slice ab n cb) n (br.reverse.map Value.bool) := (by have := h3.brs; rw [HN.out] at this; exact this); obtain ⟨m0, m1, m2⟩ := h3.cells; rw [HN.out] at m1; have mm1 : (w3.alloc (.cells #[.bool q] 4)).cell? ⟨D, 1, none⟩ = some (.slice ab n cb) := (by have := (h3.alloc (.cells #[.bool q] 4)).cells.2.1; rw [HN.out] at this; exact this)))
    all_goals
      go_wp2
      first | go_end0 | refine bodyPost_ret (results_none rfl _ _ _) rfl ?_
      exact SsP.ok rfl k1.1 ((Fr.refl base D w2).drew.trans (hB6.setD HD 1 _))
end Go.Proofs.YtoocibabceeagabGreat
