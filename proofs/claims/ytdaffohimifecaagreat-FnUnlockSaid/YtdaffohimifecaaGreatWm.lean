/-
  The machine of the model: a step, one contract for each operation.
-/
import Derived.Test.YtdaffohimifecaaGreatWl
import Derived.Test.YtdaffohimifecaaGreatWe
namespace Go.Proofs.YtdaffohimifecaaGreat
open Go.RowKit

def MSs (base D : Nat) (s : List ByteArray) (br : List Bool) (q : Int) (w : World) : Prop := ∃ vi vb, MS base D vi vb s br q w
/-- What a step of the model leaves. -/
def SsP (base D : Nat) (r : Except Int (List ByteArray × List Bool)) (w : World) (e : Ending) (w' : World) : Prop := e = .returned (.tuple #[]) ∧ Fr base D w w' ∧ (match r with
  | .ok m => MSs base D m.1 m.2 0 w'
  | .error c => ∃ s' br', MSs base D s' br' c w')
theorem SsP.ok {base D : Nat} {r : Except Int (List ByteArray × List Bool)} {w w' : World} {vi vb : Value} {s : List ByteArray} {br : List Bool} (hr : r = .ok (s, br)) (h : MS base D vi vb s br 0 w') (hb : Fr base D w w') : SsP base D r w (.returned (.tuple #[])) w' := by
  subst hr
  exact ⟨rfl, hb, vi, vb, h⟩
theorem SsP.no {base D : Nat} {r : Except Int (List ByteArray × List Bool)} {w w' : World} {vi vb : Value} {s : List ByteArray} {br : List Bool} {c : Int} (hr : r = .error c) (h : MS base D vi vb s br c w') (hb : Fr base D w w') : SsP base D r w (.returned (.tuple #[])) w' := by
  subst hr
  exact ⟨rfl, hb, s, br, vi, vb, h⟩
theorem needs0_any (A B : Int) (t : ByteArray) (w : World) : Calls Tryz.prog 71 #[.agg #[.int .i64 0, .int .i64 A, .int .i64 B, .string t]] w fun e w' => e = .returned (.int .i64 0) ∧ Below w.heap.size w w' := by
  go_enter Tryz.func71, Tryz.ntmps71
  go_wp2
  go_ret
  exact ⟨rfl, (Below.refl _ _).alloc (Nat.le_refl _) _⟩
theorem needs1_any (A B : Int) (t : ByteArray) (w : World) : Calls Tryz.prog 71 #[.agg #[.int .i64 1, .int .i64 A, .int .i64 B, .string t]] w fun e w' => e = .returned (.int .i64 1) ∧ Below w.heap.size w w' := by
  go_enter Tryz.func71, Tryz.ntmps71
  go_wp2
  go_ret
  exact ⟨rfl, (Below.refl _ _).alloc (Nat.le_refl _) _⟩
theorem needs2_any (A B : Int) (t : ByteArray) (w : World) : Calls Tryz.prog 71 #[.agg #[.int .i64 2, .int .i64 A, .int .i64 B, .string t]] w fun e w' => e = .returned (.int .i64 1) ∧ Below w.heap.size w w' := by
  go_enter Tryz.func71, Tryz.ntmps71
  go_wp2
  go_ret
  exact ⟨rfl, (Below.refl _ _).alloc (Nat.le_refl _) _⟩
theorem needs3_any (A B : Int) (t : ByteArray) (w : World) : Calls Tryz.prog 71 #[.agg #[.int .i64 3, .int .i64 A, .int .i64 B, .string t]] w fun e w' => e = .returned (.int .i64 2) ∧ Below w.heap.size w w' := by
  go_enter Tryz.func71, Tryz.ntmps71
  go_wp2
  go_ret
  exact ⟨rfl, (Below.refl _ _).alloc (Nat.le_refl _) _⟩
theorem needs4_any (A B : Int) (t : ByteArray) (w : World) : Calls Tryz.prog 71 #[.agg #[.int .i64 4, .int .i64 A, .int .i64 B, .string t]] w fun e w' => e = .returned (.int .i64 2) ∧ Below w.heap.size w w' := by
  go_enter Tryz.func71, Tryz.ntmps71
  go_wp2
  go_ret
  exact ⟨rfl, (Below.refl _ _).alloc (Nat.le_refl _) _⟩
theorem needs5_any (A B : Int) (t : ByteArray) (w : World) : Calls Tryz.prog 71 #[.agg #[.int .i64 5, .int .i64 A, .int .i64 B, .string t]] w fun e w' => e = .returned (.int .i64 1) ∧ Below w.heap.size w w' := by
  go_enter Tryz.func71, Tryz.ntmps71
  go_wp2
  go_ret
  exact ⟨rfl, (Below.refl _ _).alloc (Nat.le_refl _) _⟩
theorem needs9_any (A B : Int) (t : ByteArray) (w : World) : Calls Tryz.prog 71 #[.agg #[.int .i64 9, .int .i64 A, .int .i64 B, .string t]] w fun e w' => e = .returned (.int .i64 1) ∧ Below w.heap.size w w' := by
  go_enter Tryz.func71, Tryz.ntmps71
  go_wp2
  go_ret
  exact ⟨rfl, (Below.refl _ _).alloc (Nat.le_refl _) _⟩
theorem needs10_any (A B : Int) (t : ByteArray) (w : World) : Calls Tryz.prog 71 #[.agg #[.int .i64 10, .int .i64 A, .int .i64 B, .string t]] w fun e w' => e = .returned (.int .i64 1) ∧ Below w.heap.size w w' := by
  go_enter Tryz.func71, Tryz.ntmps71
  go_wp2
  go_ret
  exact ⟨rfl, (Below.refl _ _).alloc (Nat.le_refl _) _⟩
theorem needs11_any (A B : Int) (t : ByteArray) (w : World) : Calls Tryz.prog 71 #[.agg #[.int .i64 11, .int .i64 A, .int .i64 B, .string t]] w fun e w' => e = .returned (.int .i64 2) ∧ Below w.heap.size w w' := by
  go_enter Tryz.func71, Tryz.ntmps71
  go_wp2
  go_ret
  exact ⟨rfl, (Below.refl _ _).alloc (Nat.le_refl _) _⟩
theorem needs12_any (A B : Int) (t : ByteArray) (w : World) (h0 : 0 ≤ A) (h1 : A ≤ 5) (h2 : 0 ≤ B) (h3 : B ≤ 5) : Calls Tryz.prog 71 #[.agg #[.int .i64 12, .int .i64 A, .int .i64 B, .string t]] w fun e w' => e = .returned (.int .i64 (A + B)) ∧ Below w.heap.size w w' := by
  have hwr : IntKind.i64.wrap (A + B) = A + B := by rw [IntKind.wrap_i64]; omega
  go_enter Tryz.func71, Tryz.ntmps71
  go_wp2
  go_ret
  exact ⟨rfl, (Below.refl _ _).alloc (Nat.le_refl _) _⟩
theorem needs13_any (A B : Int) (t : ByteArray) (w : World) : Calls Tryz.prog 71 #[.agg #[.int .i64 13, .int .i64 A, .int .i64 B, .string t]] w fun e w' => e = .returned (.int .i64 0) ∧ Below w.heap.size w w' := by
  go_enter Tryz.func71, Tryz.ntmps71
  go_wp2
  go_ret
  exact ⟨rfl, (Below.refl _ _).alloc (Nat.le_refl _) _⟩
theorem needs14_any (A B : Int) (t : ByteArray) (w : World) : Calls Tryz.prog 71 #[.agg #[.int .i64 14, .int .i64 A, .int .i64 B, .string t]] w fun e w' => e = .returned (.int .i64 0) ∧ Below w.heap.size w w' := by
  go_enter Tryz.func71, Tryz.ntmps71
  go_wp2
  go_ret
  exact ⟨rfl, (Below.refl _ _).alloc (Nat.le_refl _) _⟩
set_option maxRecDepth 100000 in
set_option maxHeartbeats 6400000 in
theorem stepM0_any (base D : Nat) (E : Vm) (x : Jo) (s : List ByteArray) (br : List Bool) (w : World) (h : MSs base D s br 0 w) (hb : base ≤ w.heap.size) (hs : Vm.fits s) (hc : x.c = 0) :
    Calls Tryz.prog 42 #[.pointer (some ⟨D, 0, none⟩), x.val, .agg #[.string E.t, .int .i64 E.h, .int .i64 E.a]] w (SsP base D (Vm.fin br (Vm.act E x s)) w) := by
  obtain ⟨vi, vb, h⟩ := h
  rw [Vm.actE0 hc]
  obtain ⟨C, A, B, t⟩ := x
  simp only at hc ⊢
  subst hc
  have hS := hs.1
  have hZ := hs.2
  have hDl := h.blk.lt
  have hO0 : Bk w.heap.size 69 #[.int .i64 0, .int .i64 A, .int .i64 B, .string t] (w.alloc (.cells #[.int .i64 0, .int .i64 A, .int .i64 B, .string t] 69 (0, 0))) := Bk.new _ _ _
  have h1 := h.alloc (.cells #[.int .i64 0, .int .i64 A, .int .i64 B, .string t] 69 (0, 0))
  have b1 : Fr base D w (w.alloc (.cells #[.int .i64 0, .int .i64 A, .int .i64 B, .string t] 69 (0, 0))) := (Fr.refl base D w).alloc hb _
  obtain ⟨W1, HW1⟩ : ∃ W1, Hid (w.alloc (.cells #[.int .i64 0, .int .i64 A, .int .i64 B, .string t] 69 (0, 0)) = W1) := ⟨_, Lib.hid rfl⟩
  have hsz : (w.alloc (.cells #[.int .i64 0, .int .i64 A, .int .i64 B, .string t] 69 (0, 0))).heap.size = w.heap.size + 1 := by simp
  rw [HW1.out] at hO0 h1 b1 hsz
  have hO1 := hO0.alloc (.cells #[.string E.t, .int .i64 E.h, .int .i64 E.a] 26 (0, 0))
  have hE1 : Bk (w.heap.size + 1) 26 #[.string E.t, .int .i64 E.h, .int .i64 E.a] (W1.alloc (.cells #[.string E.t, .int .i64 E.h, .int .i64 E.a] 26 (0, 0))) := Bk.new' _ _ _ _ hsz.symm
  have h2 := h1.alloc (.cells #[.string E.t, .int .i64 E.h, .int .i64 E.a] 26 (0, 0))
  have b2 := b1.alloc (Nat.le_trans hb b1.size) (.cells #[.string E.t, .int .i64 E.h, .int .i64 E.a] 26 (0, 0))
  obtain ⟨W2, HW2⟩ : ∃ W2, Hid (W1.alloc (.cells #[.string E.t, .int .i64 E.h, .int .i64 E.a] 26 (0, 0)) = W2) := ⟨_, Lib.hid rfl⟩
  rw [HW2.out] at hO1 hE1 h2 b2
  have hb2 := Nat.le_trans hb b2.size
  clear h h1 b1 hO0 hs hsz
  by_cases hp : s.length < 24
  · rw [show Vm.fin br (Vm.put t s) = .ok (t :: s, br) by unfold Vm.put; rw [if_pos hp]; rfl]
    obtain ⟨o0, o1, o2, o3⟩ := Bk.c4 hO1
    have hnd := fun W => needs0_any A B t W
    have HWW : Hid ((w.alloc (.cells #[.int .i64 0, .int .i64 A, .int .i64 B, .string t] 69 (0, 0))).alloc (.cells #[.string E.t, .int .i64 E.h, .int .i64 E.a] 26 (0, 0)) = W2) := Lib.hid (by rw [HW1.out, HW2.out])
    clear HW1 HW2
    go_enter Tryz.func42, Tryz.ntmps42
    go_wp2_with fail
    rw [HWW.out]
    refine (hnd _).mono ?_
    rintro e w3 ⟨rfl, c3⟩
    have h3 := h2.below c3
    have hO3 := hO1.below c3
    have hE3 := hE1.below c3
    have b3 := b2.trans (Fr.of hb2 c3)
    have hb3 := Nat.le_trans hb b3.size
    clear hnd HWW h2 hO1 hE1 b2 c3 hb2 o0 o1 o2 o3
    obtain ⟨o0, o1, o2, o3⟩ := Bk.c4 hO3
    obtain ⟨g0, g1, g2⟩ := Bk.c3w hE3
    go_wp2_with fail
    refine (needM_ok base D 0 vi vb _ br 0 w3 h3 (by simp)).mono ?_
    rintro e w4 ⟨rfl, rfl⟩
    go_wp2_with fail
    refine (pushM_ok base D vi vb s br 0 t _ h3 hb3 hp).mono ?_
    rintro e w4 ⟨v4, rfl, h4, c4, _⟩
    have b4 := b3.trans c4
    have hb4 := Nat.le_trans hb b4.size
    have hO4 := hO3.fr c4 (by omega) (by decide) (by decide)
    have hE4 := hE3.fr c4 (by omega) (by decide) (by decide)
    clear h3 b3 c4 hb3 hO3 hE3 o0 o1 o2 o3 g0 g1 g2
    obtain ⟨o0, o1, o2, o3⟩ := Bk.c4 hO4
    obtain ⟨g0, g1, g2⟩ := Bk.c3w hE4
    go_wp2
    first | go_end0 | refine bodyPost_ret (results_none rfl _ _ _) rfl ?_
    exact SsP.ok rfl h4 b4
  · rw [show Vm.fin br (Vm.put t s) = .error 5 by unfold Vm.put; rw [if_neg hp]; rfl]
    obtain ⟨o0, o1, o2, o3⟩ := Bk.c4 hO1
    have hnd := fun W => needs0_any A B t W
    have HWW : Hid ((w.alloc (.cells #[.int .i64 0, .int .i64 A, .int .i64 B, .string t] 69 (0, 0))).alloc (.cells #[.string E.t, .int .i64 E.h, .int .i64 E.a] 26 (0, 0)) = W2) := Lib.hid (by rw [HW1.out, HW2.out])
    clear HW1 HW2
    go_enter Tryz.func42, Tryz.ntmps42
    go_wp2_with fail
    rw [HWW.out]
    refine (hnd _).mono ?_
    rintro e w3 ⟨rfl, c3⟩
    have h3 := h2.below c3
    have hO3 := hO1.below c3
    have hE3 := hE1.below c3
    have b3 := b2.trans (Fr.of hb2 c3)
    have hb3 := Nat.le_trans hb b3.size
    clear hnd HWW h2 hO1 hE1 b2 c3 hb2 o0 o1 o2 o3
    obtain ⟨o0, o1, o2, o3⟩ := Bk.c4 hO3
    obtain ⟨g0, g1, g2⟩ := Bk.c3w hE3
    go_wp2_with fail
    refine (needM_ok base D 0 vi vb _ br 0 w3 h3 (by simp)).mono ?_
    rintro e w4 ⟨rfl, rfl⟩
    go_wp2_with fail
    refine (pushM_no base D vi vb s br 0 t _ h3 hp).mono ?_
    rintro e w5 ⟨rfl, rfl⟩
    go_wp2
    first | go_end0 | refine bodyPost_ret (results_none rfl _ _ _) rfl ?_
    exact SsP.no rfl (h3.setQ 5) (b3.setD h3.hD 2 _)
set_option maxRecDepth 100000 in
set_option maxHeartbeats 6400000 in
theorem stepM2_any (base D : Nat) (E : Vm) (x : Jo) (s : List ByteArray) (br : List Bool) (w : World) (h : MSs base D s br 0 w) (hb : base ≤ w.heap.size) (hs : Vm.fits s) (hc : x.c = 2) :
    Calls Tryz.prog 42 #[.pointer (some ⟨D, 0, none⟩), x.val, .agg #[.string E.t, .int .i64 E.h, .int .i64 E.a]] w (SsP base D (Vm.fin br (Vm.act E x s)) w) := by
  obtain ⟨vi, vb, h⟩ := h
  rw [Vm.actE2 hc]
  obtain ⟨C, A, B, t⟩ := x
  simp only at hc ⊢
  subst hc
  have hS := hs.1
  have hZ := hs.2
  have hDl := h.blk.lt
  have hO0 : Bk w.heap.size 69 #[.int .i64 2, .int .i64 A, .int .i64 B, .string t] (w.alloc (.cells #[.int .i64 2, .int .i64 A, .int .i64 B, .string t] 69 (0, 0))) := Bk.new _ _ _
  have h1 := h.alloc (.cells #[.int .i64 2, .int .i64 A, .int .i64 B, .string t] 69 (0, 0))
  have b1 : Fr base D w (w.alloc (.cells #[.int .i64 2, .int .i64 A, .int .i64 B, .string t] 69 (0, 0))) := (Fr.refl base D w).alloc hb _
  obtain ⟨W1, HW1⟩ : ∃ W1, Hid (w.alloc (.cells #[.int .i64 2, .int .i64 A, .int .i64 B, .string t] 69 (0, 0)) = W1) := ⟨_, Lib.hid rfl⟩
  have hsz : (w.alloc (.cells #[.int .i64 2, .int .i64 A, .int .i64 B, .string t] 69 (0, 0))).heap.size = w.heap.size + 1 := by simp
  rw [HW1.out] at hO0 h1 b1 hsz
  have hO1 := hO0.alloc (.cells #[.string E.t, .int .i64 E.h, .int .i64 E.a] 26 (0, 0))
  have hE1 : Bk (w.heap.size + 1) 26 #[.string E.t, .int .i64 E.h, .int .i64 E.a] (W1.alloc (.cells #[.string E.t, .int .i64 E.h, .int .i64 E.a] 26 (0, 0))) := Bk.new' _ _ _ _ hsz.symm
  have h2 := h1.alloc (.cells #[.string E.t, .int .i64 E.h, .int .i64 E.a] 26 (0, 0))
  have b2 := b1.alloc (Nat.le_trans hb b1.size) (.cells #[.string E.t, .int .i64 E.h, .int .i64 E.a] 26 (0, 0))
  obtain ⟨W2, HW2⟩ : ∃ W2, Hid (W1.alloc (.cells #[.string E.t, .int .i64 E.h, .int .i64 E.a] 26 (0, 0)) = W2) := ⟨_, Lib.hid rfl⟩
  rw [HW2.out] at hO1 hE1 h2 b2
  have hb2 := Nat.le_trans hb b2.size
  clear h h1 b1 hO0 hs hsz
  rcases s with _ | ⟨a, r⟩
  · have hnil := hZ
    obtain ⟨o0, o1, o2, o3⟩ := Bk.c4 hO1
    have hnd := fun W => needs2_any A B t W
    have HWW : Hid ((w.alloc (.cells #[.int .i64 2, .int .i64 A, .int .i64 B, .string t] 69 (0, 0))).alloc (.cells #[.string E.t, .int .i64 E.h, .int .i64 E.a] 26 (0, 0)) = W2) := Lib.hid (by rw [HW1.out, HW2.out])
    clear HW1 HW2
    go_enter Tryz.func42, Tryz.ntmps42
    go_wp2_with fail
    rw [HWW.out]
    refine (hnd _).mono ?_
    rintro e w3 ⟨rfl, c3⟩
    have h3 := h2.below c3
    have hO3 := hO1.below c3
    have hE3 := hE1.below c3
    have b3 := b2.trans (Fr.of hb2 c3)
    have hb3 := Nat.le_trans hb b3.size
    clear hnd HWW h2 hO1 hE1 b2 c3 hb2 o0 o1 o2 o3
    obtain ⟨o0, o1, o2, o3⟩ := Bk.c4 hO3
    obtain ⟨g0, g1, g2⟩ := Bk.c3w hE3
    go_wp2_with fail
    refine (needM_no base D 1 vi vb _ br 0 w3 h3 (by simp)).mono ?_
    rintro e w4 ⟨rfl, rfl⟩
    go_wp2
    first | go_end0 | refine bodyPost_ret (results_none rfl _ _ _) rfl ?_
    exact SsP.no rfl (h3.setQ 2) (b3.setD h3.hD 2 _)
  · have hr : Hid (Vm.fin br (.ok r) = .ok (r, br)) := Lib.hid rfl
    obtain ⟨o0, o1, o2, o3⟩ := Bk.c4 hO1
    have hnd := fun W => needs2_any A B t W
    have HWW : Hid ((w.alloc (.cells #[.int .i64 2, .int .i64 A, .int .i64 B, .string t] 69 (0, 0))).alloc (.cells #[.string E.t, .int .i64 E.h, .int .i64 E.a] 26 (0, 0)) = W2) := Lib.hid (by rw [HW1.out, HW2.out])
    clear HW1 HW2
    go_enter Tryz.func42, Tryz.ntmps42
    go_wp2_with fail
    rw [HWW.out]
    refine (hnd _).mono ?_
    rintro e w3 ⟨rfl, c3⟩
    have h3 := h2.below c3
    have hO3 := hO1.below c3
    have hE3 := hE1.below c3
    have b3 := b2.trans (Fr.of hb2 c3)
    have hb3 := Nat.le_trans hb b3.size
    clear hnd HWW h2 hO1 hE1 b2 c3 hb2 o0 o1 o2 o3
    obtain ⟨o0, o1, o2, o3⟩ := Bk.c4 hO3
    obtain ⟨g0, g1, g2⟩ := Bk.c3w hE3
    go_wp2_with fail
    refine (needM_ok base D 1 vi vb _ br 0 w3 h3 (by simp)).mono ?_
    rintro e w4 ⟨rfl, rfl⟩
    go_wp2_with fail
    refine (popM_any base D vi vb a r br 0 _ h3 (by simp at hS ⊢; omega)).mono ?_
    rintro e w4 ⟨v4, rfl, h4, _, c4⟩
    have b4 := b3.trans c4
    have hb4 := Nat.le_trans hb b4.size
    have hO4 := hO3.fr c4 (by omega) (by decide) (by decide)
    have hE4 := hE3.fr c4 (by omega) (by decide) (by decide)
    clear h3 b3 c4 hb3 hO3 hE3 o0 o1 o2 o3 g0 g1 g2
    obtain ⟨o0, o1, o2, o3⟩ := Bk.c4 hO4
    obtain ⟨g0, g1, g2⟩ := Bk.c3w hE4
    go_wp2
    first | go_end0 | refine bodyPost_ret (results_none rfl _ _ _) rfl ?_
    exact SsP.ok hr.out h4 b4
set_option maxRecDepth 100000 in
set_option maxHeartbeats 6400000 in
theorem stepM3_any (base D : Nat) (E : Vm) (x : Jo) (s : List ByteArray) (br : List Bool) (w : World) (h : MSs base D s br 0 w) (hb : base ≤ w.heap.size) (hs : Vm.fits s) (hc : x.c = 3) :
    Calls Tryz.prog 42 #[.pointer (some ⟨D, 0, none⟩), x.val, .agg #[.string E.t, .int .i64 E.h, .int .i64 E.a]] w (SsP base D (Vm.fin br (Vm.act E x s)) w) := by
  obtain ⟨vi, vb, h⟩ := h
  rw [Vm.actE3 hc]
  obtain ⟨C, A, B, t⟩ := x
  simp only at hc ⊢
  subst hc
  have hS := hs.1
  have hZ := hs.2
  have hDl := h.blk.lt
  have hO0 : Bk w.heap.size 69 #[.int .i64 3, .int .i64 A, .int .i64 B, .string t] (w.alloc (.cells #[.int .i64 3, .int .i64 A, .int .i64 B, .string t] 69 (0, 0))) := Bk.new _ _ _
  have h1 := h.alloc (.cells #[.int .i64 3, .int .i64 A, .int .i64 B, .string t] 69 (0, 0))
  have b1 : Fr base D w (w.alloc (.cells #[.int .i64 3, .int .i64 A, .int .i64 B, .string t] 69 (0, 0))) := (Fr.refl base D w).alloc hb _
  obtain ⟨W1, HW1⟩ : ∃ W1, Hid (w.alloc (.cells #[.int .i64 3, .int .i64 A, .int .i64 B, .string t] 69 (0, 0)) = W1) := ⟨_, Lib.hid rfl⟩
  have hsz : (w.alloc (.cells #[.int .i64 3, .int .i64 A, .int .i64 B, .string t] 69 (0, 0))).heap.size = w.heap.size + 1 := by simp
  rw [HW1.out] at hO0 h1 b1 hsz
  have hO1 := hO0.alloc (.cells #[.string E.t, .int .i64 E.h, .int .i64 E.a] 26 (0, 0))
  have hE1 : Bk (w.heap.size + 1) 26 #[.string E.t, .int .i64 E.h, .int .i64 E.a] (W1.alloc (.cells #[.string E.t, .int .i64 E.h, .int .i64 E.a] 26 (0, 0))) := Bk.new' _ _ _ _ hsz.symm
  have h2 := h1.alloc (.cells #[.string E.t, .int .i64 E.h, .int .i64 E.a] 26 (0, 0))
  have b2 := b1.alloc (Nat.le_trans hb b1.size) (.cells #[.string E.t, .int .i64 E.h, .int .i64 E.a] 26 (0, 0))
  obtain ⟨W2, HW2⟩ : ∃ W2, Hid (W1.alloc (.cells #[.string E.t, .int .i64 E.h, .int .i64 E.a] 26 (0, 0)) = W2) := ⟨_, Lib.hid rfl⟩
  rw [HW2.out] at hO1 hE1 h2 b2
  have hb2 := Nat.le_trans hb b2.size
  clear h h1 b1 hO0 hs hsz
  rcases s with _ | ⟨a, _ | ⟨b, r⟩⟩
  · have hnil := hZ
    obtain ⟨o0, o1, o2, o3⟩ := Bk.c4 hO1
    have hnd := fun W => needs3_any A B t W
    have HWW : Hid ((w.alloc (.cells #[.int .i64 3, .int .i64 A, .int .i64 B, .string t] 69 (0, 0))).alloc (.cells #[.string E.t, .int .i64 E.h, .int .i64 E.a] 26 (0, 0)) = W2) := Lib.hid (by rw [HW1.out, HW2.out])
    clear HW1 HW2
    go_enter Tryz.func42, Tryz.ntmps42
    go_wp2_with fail
    rw [HWW.out]
    refine (hnd _).mono ?_
    rintro e w3 ⟨rfl, c3⟩
    have h3 := h2.below c3
    have hO3 := hO1.below c3
    have hE3 := hE1.below c3
    have b3 := b2.trans (Fr.of hb2 c3)
    have hb3 := Nat.le_trans hb b3.size
    clear hnd HWW h2 hO1 hE1 b2 c3 hb2 o0 o1 o2 o3
    obtain ⟨o0, o1, o2, o3⟩ := Bk.c4 hO3
    obtain ⟨g0, g1, g2⟩ := Bk.c3w hE3
    go_wp2_with fail
    refine (needM_no base D 2 vi vb _ br 0 w3 h3 (by simp)).mono ?_
    rintro e w4 ⟨rfl, rfl⟩
    go_wp2
    first | go_end0 | refine bodyPost_ret (results_none rfl _ _ _) rfl ?_
    exact SsP.no rfl (h3.setQ 2) (b3.setD h3.hD 2 _)
  · have hnil := hZ
    obtain ⟨o0, o1, o2, o3⟩ := Bk.c4 hO1
    have hnd := fun W => needs3_any A B t W
    have HWW : Hid ((w.alloc (.cells #[.int .i64 3, .int .i64 A, .int .i64 B, .string t] 69 (0, 0))).alloc (.cells #[.string E.t, .int .i64 E.h, .int .i64 E.a] 26 (0, 0)) = W2) := Lib.hid (by rw [HW1.out, HW2.out])
    clear HW1 HW2
    go_enter Tryz.func42, Tryz.ntmps42
    go_wp2_with fail
    rw [HWW.out]
    refine (hnd _).mono ?_
    rintro e w3 ⟨rfl, c3⟩
    have h3 := h2.below c3
    have hO3 := hO1.below c3
    have hE3 := hE1.below c3
    have b3 := b2.trans (Fr.of hb2 c3)
    have hb3 := Nat.le_trans hb b3.size
    clear hnd HWW h2 hO1 hE1 b2 c3 hb2 o0 o1 o2 o3
    obtain ⟨o0, o1, o2, o3⟩ := Bk.c4 hO3
    obtain ⟨g0, g1, g2⟩ := Bk.c3w hE3
    go_wp2_with fail
    refine (needM_no base D 2 vi vb _ br 0 w3 h3 (by simp)).mono ?_
    rintro e w4 ⟨rfl, rfl⟩
    go_wp2
    first | go_end0 | refine bodyPost_ret (results_none rfl _ _ _) rfl ?_
    exact SsP.no rfl (h3.setQ 2) (b3.setD h3.hD 2 _)
  · have hr : Hid (Vm.fin br (.ok (b :: a :: r)) = .ok (b :: a :: r, br)) := Lib.hid rfl
    obtain ⟨o0, o1, o2, o3⟩ := Bk.c4 hO1
    have hnd := fun W => needs3_any A B t W
    have HWW : Hid ((w.alloc (.cells #[.int .i64 3, .int .i64 A, .int .i64 B, .string t] 69 (0, 0))).alloc (.cells #[.string E.t, .int .i64 E.h, .int .i64 E.a] 26 (0, 0)) = W2) := Lib.hid (by rw [HW1.out, HW2.out])
    clear HW1 HW2
    go_enter Tryz.func42, Tryz.ntmps42
    go_wp2_with fail
    rw [HWW.out]
    refine (hnd _).mono ?_
    rintro e w3 ⟨rfl, c3⟩
    have h3 := h2.below c3
    have hO3 := hO1.below c3
    have hE3 := hE1.below c3
    have b3 := b2.trans (Fr.of hb2 c3)
    have hb3 := Nat.le_trans hb b3.size
    clear hnd HWW h2 hO1 hE1 b2 c3 hb2 o0 o1 o2 o3
    obtain ⟨o0, o1, o2, o3⟩ := Bk.c4 hO3
    obtain ⟨g0, g1, g2⟩ := Bk.c3w hE3
    go_wp2_with fail
    refine (needM_ok base D 2 vi vb _ br 0 w3 h3 (by simp)).mono ?_
    rintro e w4 ⟨rfl, rfl⟩
    go_wp2_with fail
    refine (popM_any base D vi vb a (b :: r) br 0 _ h3 (by simp at hS ⊢; omega)).mono ?_
    rintro e w4 ⟨v4, rfl, h4, _, c4⟩
    have b4 := b3.trans c4
    have hb4 := Nat.le_trans hb b4.size
    have hO4 := hO3.fr c4 (by omega) (by decide) (by decide)
    have hE4 := hE3.fr c4 (by omega) (by decide) (by decide)
    clear h3 b3 c4 hb3 hO3 hE3 o0 o1 o2 o3 g0 g1 g2
    obtain ⟨o0, o1, o2, o3⟩ := Bk.c4 hO4
    obtain ⟨g0, g1, g2⟩ := Bk.c3w hE4
    go_wp2_with fail
    refine (popM_any base D v4 vb b r br 0 _ h4 (by simp at hS ⊢; omega)).mono ?_
    rintro e w5 ⟨v5, rfl, h5, _, c5⟩
    have b5 := b4.trans c5
    have hb5 := Nat.le_trans hb b5.size
    have hO5 := hO4.fr c5 (by omega) (by decide) (by decide)
    have hE5 := hE4.fr c5 (by omega) (by decide) (by decide)
    clear h4 b4 c5 hb4 hO4 hE4 o0 o1 o2 o3 g0 g1 g2
    obtain ⟨o0, o1, o2, o3⟩ := Bk.c4 hO5
    obtain ⟨g0, g1, g2⟩ := Bk.c3w hE5
    go_wp2_with fail
    refine (pushM_ok base D v5 vb r br 0 a _ h5 hb5 (by simp at hS ⊢; omega)).mono ?_
    rintro e w6 ⟨v6, rfl, h6, c6, _⟩
    have b6 := b5.trans c6
    have hb6 := Nat.le_trans hb b6.size
    have hO6 := hO5.fr c6 (by omega) (by decide) (by decide)
    have hE6 := hE5.fr c6 (by omega) (by decide) (by decide)
    clear h5 b5 c6 hb5 hO5 hE5 o0 o1 o2 o3 g0 g1 g2
    obtain ⟨o0, o1, o2, o3⟩ := Bk.c4 hO6
    obtain ⟨g0, g1, g2⟩ := Bk.c3w hE6
    go_wp2_with fail
    refine (pushM_ok base D v6 vb (a :: r) br 0 b _ h6 hb6 (by simp at hS ⊢; omega)).mono ?_
    rintro e w7 ⟨v7, rfl, h7, c7, _⟩
    have b7 := b6.trans c7
    have hb7 := Nat.le_trans hb b7.size
    have hO7 := hO6.fr c7 (by omega) (by decide) (by decide)
    have hE7 := hE6.fr c7 (by omega) (by decide) (by decide)
    clear h6 b6 c7 hb6 hO6 hE6 o0 o1 o2 o3 g0 g1 g2
    obtain ⟨o0, o1, o2, o3⟩ := Bk.c4 hO7
    obtain ⟨g0, g1, g2⟩ := Bk.c3w hE7
    go_wp2
    first | go_end0 | refine bodyPost_ret (results_none rfl _ _ _) rfl ?_
    exact SsP.ok hr.out h7 b7
set_option maxRecDepth 100000 in
set_option maxHeartbeats 6400000 in
theorem stepM4_any (base D : Nat) (E : Vm) (x : Jo) (s : List ByteArray) (br : List Bool) (w : World) (h : MSs base D s br 0 w) (hb : base ≤ w.heap.size) (hs : Vm.fits s) (hc : x.c = 4) :
    Calls Tryz.prog 42 #[.pointer (some ⟨D, 0, none⟩), x.val, .agg #[.string E.t, .int .i64 E.h, .int .i64 E.a]] w (SsP base D (Vm.fin br (Vm.act E x s)) w) := by
  obtain ⟨vi, vb, h⟩ := h
  rw [Vm.actE4 hc]
  obtain ⟨C, A, B, t⟩ := x
  simp only at hc ⊢
  subst hc
  have hS := hs.1
  have hZ := hs.2
  have hDl := h.blk.lt
  have hO0 : Bk w.heap.size 69 #[.int .i64 4, .int .i64 A, .int .i64 B, .string t] (w.alloc (.cells #[.int .i64 4, .int .i64 A, .int .i64 B, .string t] 69 (0, 0))) := Bk.new _ _ _
  have h1 := h.alloc (.cells #[.int .i64 4, .int .i64 A, .int .i64 B, .string t] 69 (0, 0))
  have b1 : Fr base D w (w.alloc (.cells #[.int .i64 4, .int .i64 A, .int .i64 B, .string t] 69 (0, 0))) := (Fr.refl base D w).alloc hb _
  obtain ⟨W1, HW1⟩ : ∃ W1, Hid (w.alloc (.cells #[.int .i64 4, .int .i64 A, .int .i64 B, .string t] 69 (0, 0)) = W1) := ⟨_, Lib.hid rfl⟩
  have hsz : (w.alloc (.cells #[.int .i64 4, .int .i64 A, .int .i64 B, .string t] 69 (0, 0))).heap.size = w.heap.size + 1 := by simp
  rw [HW1.out] at hO0 h1 b1 hsz
  have hO1 := hO0.alloc (.cells #[.string E.t, .int .i64 E.h, .int .i64 E.a] 26 (0, 0))
  have hE1 : Bk (w.heap.size + 1) 26 #[.string E.t, .int .i64 E.h, .int .i64 E.a] (W1.alloc (.cells #[.string E.t, .int .i64 E.h, .int .i64 E.a] 26 (0, 0))) := Bk.new' _ _ _ _ hsz.symm
  have h2 := h1.alloc (.cells #[.string E.t, .int .i64 E.h, .int .i64 E.a] 26 (0, 0))
  have b2 := b1.alloc (Nat.le_trans hb b1.size) (.cells #[.string E.t, .int .i64 E.h, .int .i64 E.a] 26 (0, 0))
  obtain ⟨W2, HW2⟩ : ∃ W2, Hid (W1.alloc (.cells #[.string E.t, .int .i64 E.h, .int .i64 E.a] 26 (0, 0)) = W2) := ⟨_, Lib.hid rfl⟩
  rw [HW2.out] at hO1 hE1 h2 b2
  have hb2 := Nat.le_trans hb b2.size
  clear h h1 b1 hO0 hs hsz
  rcases s with _ | ⟨a, _ | ⟨b, r⟩⟩
  · have hnil := hZ
    obtain ⟨o0, o1, o2, o3⟩ := Bk.c4 hO1
    have hnd := fun W => needs4_any A B t W
    have HWW : Hid ((w.alloc (.cells #[.int .i64 4, .int .i64 A, .int .i64 B, .string t] 69 (0, 0))).alloc (.cells #[.string E.t, .int .i64 E.h, .int .i64 E.a] 26 (0, 0)) = W2) := Lib.hid (by rw [HW1.out, HW2.out])
    clear HW1 HW2
    go_enter Tryz.func42, Tryz.ntmps42
    go_wp2_with fail
    rw [HWW.out]
    refine (hnd _).mono ?_
    rintro e w3 ⟨rfl, c3⟩
    have h3 := h2.below c3
    have hO3 := hO1.below c3
    have hE3 := hE1.below c3
    have b3 := b2.trans (Fr.of hb2 c3)
    have hb3 := Nat.le_trans hb b3.size
    clear hnd HWW h2 hO1 hE1 b2 c3 hb2 o0 o1 o2 o3
    obtain ⟨o0, o1, o2, o3⟩ := Bk.c4 hO3
    obtain ⟨g0, g1, g2⟩ := Bk.c3w hE3
    go_wp2_with fail
    refine (needM_no base D 2 vi vb _ br 0 w3 h3 (by simp)).mono ?_
    rintro e w4 ⟨rfl, rfl⟩
    go_wp2
    first | go_end0 | refine bodyPost_ret (results_none rfl _ _ _) rfl ?_
    exact SsP.no rfl (h3.setQ 2) (b3.setD h3.hD 2 _)
  · have hnil := hZ
    obtain ⟨o0, o1, o2, o3⟩ := Bk.c4 hO1
    have hnd := fun W => needs4_any A B t W
    have HWW : Hid ((w.alloc (.cells #[.int .i64 4, .int .i64 A, .int .i64 B, .string t] 69 (0, 0))).alloc (.cells #[.string E.t, .int .i64 E.h, .int .i64 E.a] 26 (0, 0)) = W2) := Lib.hid (by rw [HW1.out, HW2.out])
    clear HW1 HW2
    go_enter Tryz.func42, Tryz.ntmps42
    go_wp2_with fail
    rw [HWW.out]
    refine (hnd _).mono ?_
    rintro e w3 ⟨rfl, c3⟩
    have h3 := h2.below c3
    have hO3 := hO1.below c3
    have hE3 := hE1.below c3
    have b3 := b2.trans (Fr.of hb2 c3)
    have hb3 := Nat.le_trans hb b3.size
    clear hnd HWW h2 hO1 hE1 b2 c3 hb2 o0 o1 o2 o3
    obtain ⟨o0, o1, o2, o3⟩ := Bk.c4 hO3
    obtain ⟨g0, g1, g2⟩ := Bk.c3w hE3
    go_wp2_with fail
    refine (needM_no base D 2 vi vb _ br 0 w3 h3 (by simp)).mono ?_
    rintro e w4 ⟨rfl, rfl⟩
    go_wp2
    first | go_end0 | refine bodyPost_ret (results_none rfl _ _ _) rfl ?_
    exact SsP.no rfl (h3.setQ 2) (b3.setD h3.hD 2 _)
  · have hr : Hid (Vm.fin br (.ok (Vm.tr (decide (b = a)) :: r)) = .ok (Vm.tr (decide (b = a)) :: r, br)) := Lib.hid rfl
    obtain ⟨q, HQ⟩ : ∃ q, Hid (decide (b = a) = q) := ⟨_, Lib.hid rfl⟩
    have hq : (a.toList == b.toList) = q := by
      rw [← HQ.out, Bool.eq_iff_iff, decide_eq_true_eq, beq_iff_eq]
      refine ⟨fun e => ?_, fun e => by rw [e]⟩
      rw [ByteArray.toList_eq, ByteArray.toList_eq] at e
      exact (ByteArray.ext (Array.toList_inj.1 e)).symm
    have hq2 : decide (a = b) = q := by rw [← HQ.out, decide_eq_decide]; exact ⟨fun e => e.symm, fun e => e.symm⟩
    rw [HQ.out] at hr
    obtain ⟨o0, o1, o2, o3⟩ := Bk.c4 hO1
    have hnd := fun W => needs4_any A B t W
    have HWW : Hid ((w.alloc (.cells #[.int .i64 4, .int .i64 A, .int .i64 B, .string t] 69 (0, 0))).alloc (.cells #[.string E.t, .int .i64 E.h, .int .i64 E.a] 26 (0, 0)) = W2) := Lib.hid (by rw [HW1.out, HW2.out])
    clear HW1 HW2
    go_enter Tryz.func42, Tryz.ntmps42
    go_wp2_with fail
    rw [HWW.out]
    refine (hnd _).mono ?_
    rintro e w3 ⟨rfl, c3⟩
    have h3 := h2.below c3
    have hO3 := hO1.below c3
    have hE3 := hE1.below c3
    have b3 := b2.trans (Fr.of hb2 c3)
    have hb3 := Nat.le_trans hb b3.size
    clear hnd HWW h2 hO1 hE1 b2 c3 hb2 o0 o1 o2 o3
    obtain ⟨o0, o1, o2, o3⟩ := Bk.c4 hO3
    obtain ⟨g0, g1, g2⟩ := Bk.c3w hE3
    go_wp2_with fail
    refine (needM_ok base D 2 vi vb _ br 0 w3 h3 (by simp)).mono ?_
    rintro e w4 ⟨rfl, rfl⟩
    go_wp2_with fail
    refine (popM_any base D vi vb a (b :: r) br 0 _ h3 (by simp at hS ⊢; omega)).mono ?_
    rintro e w4 ⟨v4, rfl, h4, _, c4⟩
    have b4 := b3.trans c4
    have hb4 := Nat.le_trans hb b4.size
    have hO4 := hO3.fr c4 (by omega) (by decide) (by decide)
    have hE4 := hE3.fr c4 (by omega) (by decide) (by decide)
    clear h3 b3 c4 hb3 hO3 hE3 o0 o1 o2 o3 g0 g1 g2
    obtain ⟨o0, o1, o2, o3⟩ := Bk.c4 hO4
    obtain ⟨g0, g1, g2⟩ := Bk.c3w hE4
    go_wp2_with fail
    refine (popM_any base D v4 vb b r br 0 _ h4 (by simp at hS ⊢; omega)).mono ?_
    rintro e w5 ⟨v5, rfl, h5, _, c5⟩
    have b5 := b4.trans c5
    have hb5 := Nat.le_trans hb b5.size
    have hO5 := hO4.fr c5 (by omega) (by decide) (by decide)
    have hE5 := hE4.fr c5 (by omega) (by decide) (by decide)
    clear h4 b4 c5 hb4 hO4 hE4 o0 o1 o2 o3 g0 g1 g2
    obtain ⟨o0, o1, o2, o3⟩ := Bk.c4 hO5
    obtain ⟨g0, g1, g2⟩ := Bk.c3w hE5
    go_wp2_with fail
    refine (l11Bool_any q _).mono ?_
    rintro e wb ⟨rfl, rfl⟩
    go_wp2_with fail
    refine (pushM_ok base D v5 vb r br 0 (Vm.tr q) _ h5 hb5 (by simp at hS ⊢; omega)).mono ?_
    rintro e w6 ⟨v6, rfl, h6, c6, _⟩
    have b6 := b5.trans c6
    have hb6 := Nat.le_trans hb b6.size
    have hO6 := hO5.fr c6 (by omega) (by decide) (by decide)
    have hE6 := hE5.fr c6 (by omega) (by decide) (by decide)
    clear h5 b5 c6 hb5 hO5 hE5 o0 o1 o2 o3 g0 g1 g2
    obtain ⟨o0, o1, o2, o3⟩ := Bk.c4 hO6
    obtain ⟨g0, g1, g2⟩ := Bk.c3w hE6
    go_wp2
    first | go_end0 | refine bodyPost_ret (results_none rfl _ _ _) rfl ?_
    exact SsP.ok (by rw [HQ.out]; exact hr.out) h6 b6
set_option maxRecDepth 100000 in
set_option maxHeartbeats 6400000 in
theorem stepM5_any (base D : Nat) (E : Vm) (x : Jo) (s : List ByteArray) (br : List Bool) (w : World) (h : MSs base D s br 0 w) (hb : base ≤ w.heap.size) (hs : Vm.fits s) (hc : x.c = 5) :
    Calls Tryz.prog 42 #[.pointer (some ⟨D, 0, none⟩), x.val, .agg #[.string E.t, .int .i64 E.h, .int .i64 E.a]] w (SsP base D (Vm.fin br (Vm.act E x s)) w) := by
  obtain ⟨vi, vb, h⟩ := h
  rw [Vm.actE5 hc]
  obtain ⟨C, A, B, t⟩ := x
  simp only at hc ⊢
  subst hc
  have hS := hs.1
  have hZ := hs.2
  have hDl := h.blk.lt
  have hO0 : Bk w.heap.size 69 #[.int .i64 5, .int .i64 A, .int .i64 B, .string t] (w.alloc (.cells #[.int .i64 5, .int .i64 A, .int .i64 B, .string t] 69 (0, 0))) := Bk.new _ _ _
  have h1 := h.alloc (.cells #[.int .i64 5, .int .i64 A, .int .i64 B, .string t] 69 (0, 0))
  have b1 : Fr base D w (w.alloc (.cells #[.int .i64 5, .int .i64 A, .int .i64 B, .string t] 69 (0, 0))) := (Fr.refl base D w).alloc hb _
  obtain ⟨W1, HW1⟩ : ∃ W1, Hid (w.alloc (.cells #[.int .i64 5, .int .i64 A, .int .i64 B, .string t] 69 (0, 0)) = W1) := ⟨_, Lib.hid rfl⟩
  have hsz : (w.alloc (.cells #[.int .i64 5, .int .i64 A, .int .i64 B, .string t] 69 (0, 0))).heap.size = w.heap.size + 1 := by simp
  rw [HW1.out] at hO0 h1 b1 hsz
  have hO1 := hO0.alloc (.cells #[.string E.t, .int .i64 E.h, .int .i64 E.a] 26 (0, 0))
  have hE1 : Bk (w.heap.size + 1) 26 #[.string E.t, .int .i64 E.h, .int .i64 E.a] (W1.alloc (.cells #[.string E.t, .int .i64 E.h, .int .i64 E.a] 26 (0, 0))) := Bk.new' _ _ _ _ hsz.symm
  have h2 := h1.alloc (.cells #[.string E.t, .int .i64 E.h, .int .i64 E.a] 26 (0, 0))
  have b2 := b1.alloc (Nat.le_trans hb b1.size) (.cells #[.string E.t, .int .i64 E.h, .int .i64 E.a] 26 (0, 0))
  obtain ⟨W2, HW2⟩ : ∃ W2, Hid (W1.alloc (.cells #[.string E.t, .int .i64 E.h, .int .i64 E.a] 26 (0, 0)) = W2) := ⟨_, Lib.hid rfl⟩
  rw [HW2.out] at hO1 hE1 h2 b2
  have hb2 := Nat.le_trans hb b2.size
  clear h h1 b1 hO0 hs hsz
  rcases s with _ | ⟨a, r⟩
  · have hnil := hZ
    obtain ⟨o0, o1, o2, o3⟩ := Bk.c4 hO1
    have hnd := fun W => needs5_any A B t W
    have HWW : Hid ((w.alloc (.cells #[.int .i64 5, .int .i64 A, .int .i64 B, .string t] 69 (0, 0))).alloc (.cells #[.string E.t, .int .i64 E.h, .int .i64 E.a] 26 (0, 0)) = W2) := Lib.hid (by rw [HW1.out, HW2.out])
    clear HW1 HW2
    go_enter Tryz.func42, Tryz.ntmps42
    go_wp2_with fail
    rw [HWW.out]
    refine (hnd _).mono ?_
    rintro e w3 ⟨rfl, c3⟩
    have h3 := h2.below c3
    have hO3 := hO1.below c3
    have hE3 := hE1.below c3
    have b3 := b2.trans (Fr.of hb2 c3)
    have hb3 := Nat.le_trans hb b3.size
    clear hnd HWW h2 hO1 hE1 b2 c3 hb2 o0 o1 o2 o3
    obtain ⟨o0, o1, o2, o3⟩ := Bk.c4 hO3
    obtain ⟨g0, g1, g2⟩ := Bk.c3w hE3
    go_wp2_with fail
    refine (needM_no base D 1 vi vb _ br 0 w3 h3 (by simp)).mono ?_
    rintro e w4 ⟨rfl, rfl⟩
    go_wp2
    first | go_end0 | refine bodyPost_ret (results_none rfl _ _ _) rfl ?_
    exact SsP.no rfl (h3.setQ 2) (b3.setD h3.hD 2 _)
  · obtain ⟨q, HQ⟩ : ∃ q, Hid (decide (a.size = 0) = q) := ⟨_, Lib.hid rfl⟩
    have hr : Hid (Vm.fin br (.ok (Vm.tr (decide (a.size = 0)) :: r)) = .ok (Vm.tr q :: r, br)) := Lib.hid (by rw [HQ.out]; rfl)
    have hq : a.toList.isEmpty = q := by rw [str_empty_iff, HQ.out]
    obtain ⟨o0, o1, o2, o3⟩ := Bk.c4 hO1
    have hnd := fun W => needs5_any A B t W
    have HWW : Hid ((w.alloc (.cells #[.int .i64 5, .int .i64 A, .int .i64 B, .string t] 69 (0, 0))).alloc (.cells #[.string E.t, .int .i64 E.h, .int .i64 E.a] 26 (0, 0)) = W2) := Lib.hid (by rw [HW1.out, HW2.out])
    clear HW1 HW2
    go_enter Tryz.func42, Tryz.ntmps42
    go_wp2_with fail
    rw [HWW.out]
    refine (hnd _).mono ?_
    rintro e w3 ⟨rfl, c3⟩
    have h3 := h2.below c3
    have hO3 := hO1.below c3
    have hE3 := hE1.below c3
    have b3 := b2.trans (Fr.of hb2 c3)
    have hb3 := Nat.le_trans hb b3.size
    clear hnd HWW h2 hO1 hE1 b2 c3 hb2 o0 o1 o2 o3
    obtain ⟨o0, o1, o2, o3⟩ := Bk.c4 hO3
    obtain ⟨g0, g1, g2⟩ := Bk.c3w hE3
    go_wp2_with fail
    refine (needM_ok base D 1 vi vb _ br 0 w3 h3 (by simp)).mono ?_
    rintro e w4 ⟨rfl, rfl⟩
    go_wp2_with fail
    refine (popM_any base D vi vb a r br 0 _ h3 (by simp at hS ⊢; omega)).mono ?_
    rintro e w4 ⟨v4, rfl, h4, _, c4⟩
    have b4 := b3.trans c4
    have hb4 := Nat.le_trans hb b4.size
    have hO4 := hO3.fr c4 (by omega) (by decide) (by decide)
    have hE4 := hE3.fr c4 (by omega) (by decide) (by decide)
    clear h3 b3 c4 hb3 hO3 hE3 o0 o1 o2 o3 g0 g1 g2
    obtain ⟨o0, o1, o2, o3⟩ := Bk.c4 hO4
    obtain ⟨g0, g1, g2⟩ := Bk.c3w hE4
    go_wp2_with fail
    refine (l11Bool_any q _).mono ?_
    rintro e wb ⟨rfl, rfl⟩
    go_wp2_with fail
    refine (pushM_ok base D v4 vb r br 0 (Vm.tr q) _ h4 hb4 (by simp at hS ⊢; omega)).mono ?_
    rintro e w5 ⟨v5, rfl, h5, c5, _⟩
    have b5 := b4.trans c5
    have hb5 := Nat.le_trans hb b5.size
    have hO5 := hO4.fr c5 (by omega) (by decide) (by decide)
    have hE5 := hE4.fr c5 (by omega) (by decide) (by decide)
    clear h4 b4 c5 hb4 hO4 hE4 o0 o1 o2 o3 g0 g1 g2
    obtain ⟨o0, o1, o2, o3⟩ := Bk.c4 hO5
    obtain ⟨g0, g1, g2⟩ := Bk.c3w hE5
    go_wp2
    first | go_end0 | refine bodyPost_ret (results_none rfl _ _ _) rfl ?_
    exact SsP.ok hr.out h5 b5
set_option maxRecDepth 100000 in
set_option maxHeartbeats 6400000 in
theorem stepM9_any (base D : Nat) (E : Vm) (x : Jo) (s : List ByteArray) (br : List Bool) (w : World) (h : MSs base D s br 0 w) (hb : base ≤ w.heap.size) (hs : Vm.fits s) (hc : x.c = 9) :
    Calls Tryz.prog 42 #[.pointer (some ⟨D, 0, none⟩), x.val, .agg #[.string E.t, .int .i64 E.h, .int .i64 E.a]] w (SsP base D (Vm.fin br (Vm.act E x s)) w) := by
  obtain ⟨vi, vb, h⟩ := h
  rw [Vm.actE9 hc]
  obtain ⟨C, A, B, t⟩ := x
  simp only at hc ⊢
  subst hc
  have hS := hs.1
  have hZ := hs.2
  have hDl := h.blk.lt
  have hO0 : Bk w.heap.size 69 #[.int .i64 9, .int .i64 A, .int .i64 B, .string t] (w.alloc (.cells #[.int .i64 9, .int .i64 A, .int .i64 B, .string t] 69 (0, 0))) := Bk.new _ _ _
  have h1 := h.alloc (.cells #[.int .i64 9, .int .i64 A, .int .i64 B, .string t] 69 (0, 0))
  have b1 : Fr base D w (w.alloc (.cells #[.int .i64 9, .int .i64 A, .int .i64 B, .string t] 69 (0, 0))) := (Fr.refl base D w).alloc hb _
  obtain ⟨W1, HW1⟩ : ∃ W1, Hid (w.alloc (.cells #[.int .i64 9, .int .i64 A, .int .i64 B, .string t] 69 (0, 0)) = W1) := ⟨_, Lib.hid rfl⟩
  have hsz : (w.alloc (.cells #[.int .i64 9, .int .i64 A, .int .i64 B, .string t] 69 (0, 0))).heap.size = w.heap.size + 1 := by simp
  rw [HW1.out] at hO0 h1 b1 hsz
  have hO1 := hO0.alloc (.cells #[.string E.t, .int .i64 E.h, .int .i64 E.a] 26 (0, 0))
  have hE1 : Bk (w.heap.size + 1) 26 #[.string E.t, .int .i64 E.h, .int .i64 E.a] (W1.alloc (.cells #[.string E.t, .int .i64 E.h, .int .i64 E.a] 26 (0, 0))) := Bk.new' _ _ _ _ hsz.symm
  have h2 := h1.alloc (.cells #[.string E.t, .int .i64 E.h, .int .i64 E.a] 26 (0, 0))
  have b2 := b1.alloc (Nat.le_trans hb b1.size) (.cells #[.string E.t, .int .i64 E.h, .int .i64 E.a] 26 (0, 0))
  obtain ⟨W2, HW2⟩ : ∃ W2, Hid (W1.alloc (.cells #[.string E.t, .int .i64 E.h, .int .i64 E.a] 26 (0, 0)) = W2) := ⟨_, Lib.hid rfl⟩
  rw [HW2.out] at hO1 hE1 h2 b2
  have hb2 := Nat.le_trans hb b2.size
  clear h h1 b1 hO0 hs hsz
  rcases s with _ | ⟨a, r⟩
  · have hnil := hZ
    obtain ⟨o0, o1, o2, o3⟩ := Bk.c4 hO1
    have hnd := fun W => needs9_any A B t W
    have HWW : Hid ((w.alloc (.cells #[.int .i64 9, .int .i64 A, .int .i64 B, .string t] 69 (0, 0))).alloc (.cells #[.string E.t, .int .i64 E.h, .int .i64 E.a] 26 (0, 0)) = W2) := Lib.hid (by rw [HW1.out, HW2.out])
    clear HW1 HW2
    go_enter Tryz.func42, Tryz.ntmps42
    go_wp2_with fail
    rw [HWW.out]
    refine (hnd _).mono ?_
    rintro e w3 ⟨rfl, c3⟩
    have h3 := h2.below c3
    have hO3 := hO1.below c3
    have hE3 := hE1.below c3
    have b3 := b2.trans (Fr.of hb2 c3)
    have hb3 := Nat.le_trans hb b3.size
    clear hnd HWW h2 hO1 hE1 b2 c3 hb2 o0 o1 o2 o3
    obtain ⟨o0, o1, o2, o3⟩ := Bk.c4 hO3
    obtain ⟨g0, g1, g2⟩ := Bk.c3w hE3
    go_wp2_with fail
    refine (needM_no base D 1 vi vb _ br 0 w3 h3 (by simp)).mono ?_
    rintro e w4 ⟨rfl, rfl⟩
    go_wp2
    first | go_end0 | refine bodyPost_ret (results_none rfl _ _ _) rfl ?_
    exact SsP.no rfl (h3.setQ 2) (b3.setD h3.hD 2 _)
  · by_cases ha : a.size = 0
    · have hr : Hid (Vm.fin br (if a.size = 0 then .error 3 else .ok r) = .error 3) := Lib.hid (by rw [if_pos ha]; rfl)
      have hq : a.toList.isEmpty = true := by rw [str_empty_iff]; simp [ha]
      clear ha
      change Calls _ _ _ _ (SsP base D (Vm.fin br (if a.size = 0 then .error 3 else .ok r)) w)
      rw [hr.out]
      obtain ⟨o0, o1, o2, o3⟩ := Bk.c4 hO1
      have hnd := fun W => needs9_any A B t W
      have HWW : Hid ((w.alloc (.cells #[.int .i64 9, .int .i64 A, .int .i64 B, .string t] 69 (0, 0))).alloc (.cells #[.string E.t, .int .i64 E.h, .int .i64 E.a] 26 (0, 0)) = W2) := Lib.hid (by rw [HW1.out, HW2.out])
      clear HW1 HW2
      go_enter Tryz.func42, Tryz.ntmps42
      go_wp2_with fail
      rw [HWW.out]
      refine (hnd _).mono ?_
      rintro e w3 ⟨rfl, c3⟩
      have h3 := h2.below c3
      have hO3 := hO1.below c3
      have hE3 := hE1.below c3
      have b3 := b2.trans (Fr.of hb2 c3)
      have hb3 := Nat.le_trans hb b3.size
      clear hnd HWW h2 hO1 hE1 b2 c3 hb2 o0 o1 o2 o3
      obtain ⟨o0, o1, o2, o3⟩ := Bk.c4 hO3
      obtain ⟨g0, g1, g2⟩ := Bk.c3w hE3
      go_wp2_with fail
      refine (needM_ok base D 1 vi vb _ br 0 w3 h3 (by simp)).mono ?_
      rintro e w4 ⟨rfl, rfl⟩
      go_wp2_with fail
      refine (popM_any base D vi vb a r br 0 _ h3 (by simp at hS ⊢; omega)).mono ?_
      rintro e w4 ⟨v4, rfl, h4, _, c4⟩
      have b4 := b3.trans c4
      have hb4 := Nat.le_trans hb b4.size
      have hO4 := hO3.fr c4 (by omega) (by decide) (by decide)
      have hE4 := hE3.fr c4 (by omega) (by decide) (by decide)
      clear h3 b3 c4 hb3 hO3 hE3 o0 o1 o2 o3 g0 g1 g2
      obtain ⟨o0, o1, o2, o3⟩ := Bk.c4 hO4
      obtain ⟨g0, g1, g2⟩ := Bk.c3w hE4
      obtain ⟨y0, y1, y2⟩ := h4.cells
      have f2 := h4.blk.fro 2
      go_wp2
      first | go_end0 | refine bodyPost_ret (results_none rfl _ _ _) rfl ?_
      exact SsP.no rfl (h4.setQ 3) (b4.setD h4.hD 2 _)
    · have hr : Hid (Vm.fin br (if a.size = 0 then .error 3 else .ok r) = .ok (r, br)) := Lib.hid (by rw [if_neg ha]; rfl)
      have hq : a.toList.isEmpty = false := by rw [str_empty_iff]; simp [ha]
      clear ha
      change Calls _ _ _ _ (SsP base D (Vm.fin br (if a.size = 0 then .error 3 else .ok r)) w)
      rw [hr.out]
      obtain ⟨o0, o1, o2, o3⟩ := Bk.c4 hO1
      have hnd := fun W => needs9_any A B t W
      have HWW : Hid ((w.alloc (.cells #[.int .i64 9, .int .i64 A, .int .i64 B, .string t] 69 (0, 0))).alloc (.cells #[.string E.t, .int .i64 E.h, .int .i64 E.a] 26 (0, 0)) = W2) := Lib.hid (by rw [HW1.out, HW2.out])
      clear HW1 HW2
      go_enter Tryz.func42, Tryz.ntmps42
      go_wp2_with fail
      rw [HWW.out]
      refine (hnd _).mono ?_
      rintro e w3 ⟨rfl, c3⟩
      have h3 := h2.below c3
      have hO3 := hO1.below c3
      have hE3 := hE1.below c3
      have b3 := b2.trans (Fr.of hb2 c3)
      have hb3 := Nat.le_trans hb b3.size
      clear hnd HWW h2 hO1 hE1 b2 c3 hb2 o0 o1 o2 o3
      obtain ⟨o0, o1, o2, o3⟩ := Bk.c4 hO3
      obtain ⟨g0, g1, g2⟩ := Bk.c3w hE3
      go_wp2_with fail
      refine (needM_ok base D 1 vi vb _ br 0 w3 h3 (by simp)).mono ?_
      rintro e w4 ⟨rfl, rfl⟩
      go_wp2_with fail
      refine (popM_any base D vi vb a r br 0 _ h3 (by simp at hS ⊢; omega)).mono ?_
      rintro e w4 ⟨v4, rfl, h4, _, c4⟩
      have b4 := b3.trans c4
      have hb4 := Nat.le_trans hb b4.size
      have hO4 := hO3.fr c4 (by omega) (by decide) (by decide)
      have hE4 := hE3.fr c4 (by omega) (by decide) (by decide)
      clear h3 b3 c4 hb3 hO3 hE3 o0 o1 o2 o3 g0 g1 g2
      obtain ⟨o0, o1, o2, o3⟩ := Bk.c4 hO4
      obtain ⟨g0, g1, g2⟩ := Bk.c3w hE4
      go_wp2
      first | go_end0 | refine bodyPost_ret (results_none rfl _ _ _) rfl ?_
      exact SsP.ok rfl h4 b4
set_option maxRecDepth 100000 in
set_option maxHeartbeats 6400000 in
theorem stepM10_any (base D : Nat) (E : Vm) (x : Jo) (s : List ByteArray) (br : List Bool) (w : World) (h : MSs base D s br 0 w) (hb : base ≤ w.heap.size) (hs : Vm.fits s) (hc : x.c = 10) :
    Calls Tryz.prog 42 #[.pointer (some ⟨D, 0, none⟩), x.val, .agg #[.string E.t, .int .i64 E.h, .int .i64 E.a]] w (SsP base D (Vm.fin br (Vm.act E x s)) w) := by
  obtain ⟨vi, vb, h⟩ := h
  rw [Vm.actE10 hc]
  obtain ⟨C, A, B, t⟩ := x
  simp only at hc ⊢
  subst hc
  have hS := hs.1
  have hZ := hs.2
  have hDl := h.blk.lt
  have hO0 : Bk w.heap.size 69 #[.int .i64 10, .int .i64 A, .int .i64 B, .string t] (w.alloc (.cells #[.int .i64 10, .int .i64 A, .int .i64 B, .string t] 69 (0, 0))) := Bk.new _ _ _
  have h1 := h.alloc (.cells #[.int .i64 10, .int .i64 A, .int .i64 B, .string t] 69 (0, 0))
  have b1 : Fr base D w (w.alloc (.cells #[.int .i64 10, .int .i64 A, .int .i64 B, .string t] 69 (0, 0))) := (Fr.refl base D w).alloc hb _
  obtain ⟨W1, HW1⟩ : ∃ W1, Hid (w.alloc (.cells #[.int .i64 10, .int .i64 A, .int .i64 B, .string t] 69 (0, 0)) = W1) := ⟨_, Lib.hid rfl⟩
  have hsz : (w.alloc (.cells #[.int .i64 10, .int .i64 A, .int .i64 B, .string t] 69 (0, 0))).heap.size = w.heap.size + 1 := by simp
  rw [HW1.out] at hO0 h1 b1 hsz
  have hO1 := hO0.alloc (.cells #[.string E.t, .int .i64 E.h, .int .i64 E.a] 26 (0, 0))
  have hE1 : Bk (w.heap.size + 1) 26 #[.string E.t, .int .i64 E.h, .int .i64 E.a] (W1.alloc (.cells #[.string E.t, .int .i64 E.h, .int .i64 E.a] 26 (0, 0))) := Bk.new' _ _ _ _ hsz.symm
  have h2 := h1.alloc (.cells #[.string E.t, .int .i64 E.h, .int .i64 E.a] 26 (0, 0))
  have b2 := b1.alloc (Nat.le_trans hb b1.size) (.cells #[.string E.t, .int .i64 E.h, .int .i64 E.a] 26 (0, 0))
  obtain ⟨W2, HW2⟩ : ∃ W2, Hid (W1.alloc (.cells #[.string E.t, .int .i64 E.h, .int .i64 E.a] 26 (0, 0)) = W2) := ⟨_, Lib.hid rfl⟩
  rw [HW2.out] at hO1 hE1 h2 b2
  have hb2 := Nat.le_trans hb b2.size
  clear h h1 b1 hO0 hs hsz
  rcases s with _ | ⟨a, r⟩
  · have hnil := hZ
    obtain ⟨o0, o1, o2, o3⟩ := Bk.c4 hO1
    have hnd := fun W => needs10_any A B t W
    have HWW : Hid ((w.alloc (.cells #[.int .i64 10, .int .i64 A, .int .i64 B, .string t] 69 (0, 0))).alloc (.cells #[.string E.t, .int .i64 E.h, .int .i64 E.a] 26 (0, 0)) = W2) := Lib.hid (by rw [HW1.out, HW2.out])
    clear HW1 HW2
    go_enter Tryz.func42, Tryz.ntmps42
    go_wp2_with fail
    rw [HWW.out]
    refine (hnd _).mono ?_
    rintro e w3 ⟨rfl, c3⟩
    have h3 := h2.below c3
    have hO3 := hO1.below c3
    have hE3 := hE1.below c3
    have b3 := b2.trans (Fr.of hb2 c3)
    have hb3 := Nat.le_trans hb b3.size
    clear hnd HWW h2 hO1 hE1 b2 c3 hb2 o0 o1 o2 o3
    obtain ⟨o0, o1, o2, o3⟩ := Bk.c4 hO3
    obtain ⟨g0, g1, g2⟩ := Bk.c3w hE3
    go_wp2_with fail
    refine (needM_no base D 1 vi vb _ br 0 w3 h3 (by simp)).mono ?_
    rintro e w4 ⟨rfl, rfl⟩
    go_wp2
    first | go_end0 | refine bodyPost_ret (results_none rfl _ _ _) rfl ?_
    exact SsP.no rfl (h3.setQ 2) (b3.setD h3.hD 2 _)
  · have hr : Hid (Vm.fin br (.ok (Dg.bytes (Dg.of a) :: r)) = .ok (Dg.bytes (Dg.of a) :: r, br)) := Lib.hid rfl
    have hsz : a.size ≤ 80 := hZ a (List.mem_cons_self ..)
    obtain ⟨e0, e1⟩ := Dg.of_bd a
    have hd1 := fun W => specDigest_same a W (by omega)
    have hd2 := fun W => l2Bytes_any (Dg.of a) W e0 e1
    obtain ⟨Q, HQ⟩ : ∃ Q, Hid (Dg.of a = Q) := ⟨_, Lib.hid rfl⟩
    rw [HQ.out] at hd1 hd2 hr
    obtain ⟨V, HV⟩ : ∃ V, Hid (Dg.bytes Q = V) := ⟨_, Lib.hid rfl⟩
    rw [HV.out] at hd2 hr
    clear e0 e1 hsz hZ
    obtain ⟨o0, o1, o2, o3⟩ := Bk.c4 hO1
    have hnd := fun W => needs10_any A B t W
    have HWW : Hid ((w.alloc (.cells #[.int .i64 10, .int .i64 A, .int .i64 B, .string t] 69 (0, 0))).alloc (.cells #[.string E.t, .int .i64 E.h, .int .i64 E.a] 26 (0, 0)) = W2) := Lib.hid (by rw [HW1.out, HW2.out])
    clear HW1 HW2
    go_enter Tryz.func42, Tryz.ntmps42
    go_wp2_with fail
    rw [HWW.out]
    refine (hnd _).mono ?_
    rintro e w3 ⟨rfl, c3⟩
    have h3 := h2.below c3
    have hO3 := hO1.below c3
    have hE3 := hE1.below c3
    have b3 := b2.trans (Fr.of hb2 c3)
    have hb3 := Nat.le_trans hb b3.size
    clear hnd HWW h2 hO1 hE1 b2 c3 hb2 o0 o1 o2 o3
    obtain ⟨o0, o1, o2, o3⟩ := Bk.c4 hO3
    obtain ⟨g0, g1, g2⟩ := Bk.c3w hE3
    go_wp2_with fail
    refine (needM_ok base D 1 vi vb _ br 0 w3 h3 (by simp)).mono ?_
    rintro e w4 ⟨rfl, rfl⟩
    go_wp2_with fail
    refine (popM_any base D vi vb a r br 0 _ h3 (by simp at hS ⊢; omega)).mono ?_
    rintro e w4 ⟨v4, rfl, h4, _, c4⟩
    have b4 := b3.trans c4
    have hb4 := Nat.le_trans hb b4.size
    have hO4 := hO3.fr c4 (by omega) (by decide) (by decide)
    have hE4 := hE3.fr c4 (by omega) (by decide) (by decide)
    clear h3 b3 c4 hb3 hO3 hE3 o0 o1 o2 o3 g0 g1 g2
    obtain ⟨o0, o1, o2, o3⟩ := Bk.c4 hO4
    obtain ⟨g0, g1, g2⟩ := Bk.c3w hE4
    go_wp2_with fail
    refine (hd1 _).mono ?_
    rintro e w5 ⟨rfl, rfl⟩
    go_wp2_with fail
    refine (hd2 _).mono ?_
    rintro e w6 ⟨rfl, c6⟩
    have h6 := h4.below c6
    have b6 := b4.trans (Fr.of hb4 c6)
    have hb6 := Nat.le_trans hb b6.size
    go_wp2_with fail
    refine (pushM_ok base D v4 vb r br 0 V _ h6 hb6 (by simp at hS ⊢; omega)).mono ?_
    rintro e w7 ⟨v7, rfl, h7, c7, _⟩
    go_wp2
    first | go_end0 | refine bodyPost_ret (results_none rfl _ _ _) rfl ?_
    exact SsP.ok (by rw [HQ.out, HV.out]; exact hr.out) h7 (b6.trans c7)
set_option maxRecDepth 100000 in
set_option maxHeartbeats 6400000 in
theorem stepM11_any (base D : Nat) (E : Vm) (x : Jo) (s : List ByteArray) (br : List Bool) (w : World) (h : MSs base D s br 0 w) (hb : base ≤ w.heap.size) (hs : Vm.fits s) (hc : x.c = 11) (ht : E.t.size ≤ 1048576) :
    Calls Tryz.prog 42 #[.pointer (some ⟨D, 0, none⟩), x.val, .agg #[.string E.t, .int .i64 E.h, .int .i64 E.a]] w (SsP base D (Vm.fin br (Vm.act E x s)) w) := by
  obtain ⟨vi, vb, h⟩ := h
  rw [Vm.actE11 hc]
  obtain ⟨C, A, B, t⟩ := x
  simp only at hc ⊢
  subst hc
  have hS := hs.1
  have hZ := hs.2
  have hDl := h.blk.lt
  have hO0 : Bk w.heap.size 69 #[.int .i64 11, .int .i64 A, .int .i64 B, .string t] (w.alloc (.cells #[.int .i64 11, .int .i64 A, .int .i64 B, .string t] 69 (0, 0))) := Bk.new _ _ _
  have h1 := h.alloc (.cells #[.int .i64 11, .int .i64 A, .int .i64 B, .string t] 69 (0, 0))
  have b1 : Fr base D w (w.alloc (.cells #[.int .i64 11, .int .i64 A, .int .i64 B, .string t] 69 (0, 0))) := (Fr.refl base D w).alloc hb _
  obtain ⟨W1, HW1⟩ : ∃ W1, Hid (w.alloc (.cells #[.int .i64 11, .int .i64 A, .int .i64 B, .string t] 69 (0, 0)) = W1) := ⟨_, Lib.hid rfl⟩
  have hsz : (w.alloc (.cells #[.int .i64 11, .int .i64 A, .int .i64 B, .string t] 69 (0, 0))).heap.size = w.heap.size + 1 := by simp
  rw [HW1.out] at hO0 h1 b1 hsz
  have hO1 := hO0.alloc (.cells #[.string E.t, .int .i64 E.h, .int .i64 E.a] 26 (0, 0))
  have hE1 : Bk (w.heap.size + 1) 26 #[.string E.t, .int .i64 E.h, .int .i64 E.a] (W1.alloc (.cells #[.string E.t, .int .i64 E.h, .int .i64 E.a] 26 (0, 0))) := Bk.new' _ _ _ _ hsz.symm
  have h2 := h1.alloc (.cells #[.string E.t, .int .i64 E.h, .int .i64 E.a] 26 (0, 0))
  have b2 := b1.alloc (Nat.le_trans hb b1.size) (.cells #[.string E.t, .int .i64 E.h, .int .i64 E.a] 26 (0, 0))
  obtain ⟨W2, HW2⟩ : ∃ W2, Hid (W1.alloc (.cells #[.string E.t, .int .i64 E.h, .int .i64 E.a] 26 (0, 0)) = W2) := ⟨_, Lib.hid rfl⟩
  rw [HW2.out] at hO1 hE1 h2 b2
  have hb2 := Nat.le_trans hb b2.size
  clear h h1 b1 hO0 hs hsz
  rcases s with _ | ⟨a, _ | ⟨b, r⟩⟩
  · have hnil := hZ
    obtain ⟨o0, o1, o2, o3⟩ := Bk.c4 hO1
    have hnd := fun W => needs11_any A B t W
    have HWW : Hid ((w.alloc (.cells #[.int .i64 11, .int .i64 A, .int .i64 B, .string t] 69 (0, 0))).alloc (.cells #[.string E.t, .int .i64 E.h, .int .i64 E.a] 26 (0, 0)) = W2) := Lib.hid (by rw [HW1.out, HW2.out])
    clear HW1 HW2
    go_enter Tryz.func42, Tryz.ntmps42
    go_wp2_with fail
    rw [HWW.out]
    refine (hnd _).mono ?_
    rintro e w3 ⟨rfl, c3⟩
    have h3 := h2.below c3
    have hO3 := hO1.below c3
    have hE3 := hE1.below c3
    have b3 := b2.trans (Fr.of hb2 c3)
    have hb3 := Nat.le_trans hb b3.size
    clear hnd HWW h2 hO1 hE1 b2 c3 hb2 o0 o1 o2 o3
    obtain ⟨o0, o1, o2, o3⟩ := Bk.c4 hO3
    obtain ⟨g0, g1, g2⟩ := Bk.c3w hE3
    go_wp2_with fail
    refine (needM_no base D 2 vi vb _ br 0 w3 h3 (by simp)).mono ?_
    rintro e w4 ⟨rfl, rfl⟩
    go_wp2
    first | go_end0 | refine bodyPost_ret (results_none rfl _ _ _) rfl ?_
    exact SsP.no rfl (h3.setQ 2) (b3.setD h3.hD 2 _)
  · have hnil := hZ
    obtain ⟨o0, o1, o2, o3⟩ := Bk.c4 hO1
    have hnd := fun W => needs11_any A B t W
    have HWW : Hid ((w.alloc (.cells #[.int .i64 11, .int .i64 A, .int .i64 B, .string t] 69 (0, 0))).alloc (.cells #[.string E.t, .int .i64 E.h, .int .i64 E.a] 26 (0, 0)) = W2) := Lib.hid (by rw [HW1.out, HW2.out])
    clear HW1 HW2
    go_enter Tryz.func42, Tryz.ntmps42
    go_wp2_with fail
    rw [HWW.out]
    refine (hnd _).mono ?_
    rintro e w3 ⟨rfl, c3⟩
    have h3 := h2.below c3
    have hO3 := hO1.below c3
    have hE3 := hE1.below c3
    have b3 := b2.trans (Fr.of hb2 c3)
    have hb3 := Nat.le_trans hb b3.size
    clear hnd HWW h2 hO1 hE1 b2 c3 hb2 o0 o1 o2 o3
    obtain ⟨o0, o1, o2, o3⟩ := Bk.c4 hO3
    obtain ⟨g0, g1, g2⟩ := Bk.c3w hE3
    go_wp2_with fail
    refine (needM_no base D 2 vi vb _ br 0 w3 h3 (by simp)).mono ?_
    rintro e w4 ⟨rfl, rfl⟩
    go_wp2
    first | go_end0 | refine bodyPost_ret (results_none rfl _ _ _) rfl ?_
    exact SsP.no rfl (h3.setQ 2) (b3.setD h3.hD 2 _)
  · have hr : Hid (Vm.fin br (.ok (Vm.tr (Vm.sg E.t b a) :: r)) = .ok (Vm.tr (Vm.sg E.t b a) :: r, br)) := Lib.hid rfl
    have hsd := fun W => l11Signed_any a b E.t W ht
    obtain ⟨q, HQ⟩ : ∃ q, Hid (Vm.sg E.t b a = q) := ⟨_, Lib.hid rfl⟩
    rw [HQ.out] at hr hsd
    obtain ⟨o0, o1, o2, o3⟩ := Bk.c4 hO1
    have hnd := fun W => needs11_any A B t W
    have HWW : Hid ((w.alloc (.cells #[.int .i64 11, .int .i64 A, .int .i64 B, .string t] 69 (0, 0))).alloc (.cells #[.string E.t, .int .i64 E.h, .int .i64 E.a] 26 (0, 0)) = W2) := Lib.hid (by rw [HW1.out, HW2.out])
    clear HW1 HW2
    go_enter Tryz.func42, Tryz.ntmps42
    go_wp2_with fail
    rw [HWW.out]
    refine (hnd _).mono ?_
    rintro e w3 ⟨rfl, c3⟩
    have h3 := h2.below c3
    have hO3 := hO1.below c3
    have hE3 := hE1.below c3
    have b3 := b2.trans (Fr.of hb2 c3)
    have hb3 := Nat.le_trans hb b3.size
    clear hnd HWW h2 hO1 hE1 b2 c3 hb2 o0 o1 o2 o3
    obtain ⟨o0, o1, o2, o3⟩ := Bk.c4 hO3
    obtain ⟨g0, g1, g2⟩ := Bk.c3w hE3
    go_wp2_with fail
    refine (needM_ok base D 2 vi vb _ br 0 w3 h3 (by simp)).mono ?_
    rintro e w4 ⟨rfl, rfl⟩
    go_wp2_with fail
    refine (popM_any base D vi vb a (b :: r) br 0 _ h3 (by simp at hS ⊢; omega)).mono ?_
    rintro e w4 ⟨v4, rfl, h4, _, c4⟩
    have b4 := b3.trans c4
    have hb4 := Nat.le_trans hb b4.size
    have hO4 := hO3.fr c4 (by omega) (by decide) (by decide)
    have hE4 := hE3.fr c4 (by omega) (by decide) (by decide)
    clear h3 b3 c4 hb3 hO3 hE3 o0 o1 o2 o3 g0 g1 g2
    obtain ⟨o0, o1, o2, o3⟩ := Bk.c4 hO4
    obtain ⟨g0, g1, g2⟩ := Bk.c3w hE4
    go_wp2_with fail
    refine (popM_any base D v4 vb b r br 0 _ h4 (by simp at hS ⊢; omega)).mono ?_
    rintro e w5 ⟨v5, rfl, h5, _, c5⟩
    have b5 := b4.trans c5
    have hb5 := Nat.le_trans hb b5.size
    have hO5 := hO4.fr c5 (by omega) (by decide) (by decide)
    have hE5 := hE4.fr c5 (by omega) (by decide) (by decide)
    clear h4 b4 c5 hb4 hO4 hE4 o0 o1 o2 o3 g0 g1 g2
    obtain ⟨o0, o1, o2, o3⟩ := Bk.c4 hO5
    obtain ⟨g0, g1, g2⟩ := Bk.c3w hE5
    go_wp2_with fail
    refine (hsd _).mono ?_
    rintro e w6 ⟨rfl, c6⟩
    have h6 := h5.below c6
    have b6 := b5.trans (Fr.of hb5 c6)
    have hb6 := Nat.le_trans hb b6.size
    go_wp2_with fail
    refine (l11Bool_any q _).mono ?_
    rintro e wb ⟨rfl, rfl⟩
    go_wp2_with fail
    refine (pushM_ok base D v5 vb r br 0 (Vm.tr q) _ h6 hb6 (by simp at hS ⊢; omega)).mono ?_
    rintro e w7 ⟨v7, rfl, h7, c7, _⟩
    go_wp2
    first | go_end0 | refine bodyPost_ret (results_none rfl _ _ _) rfl ?_
    exact SsP.ok (by rw [HQ.out]; exact hr.out) h7 (b6.trans c7)
set_option maxRecDepth 100000 in
set_option maxHeartbeats 6400000 in
theorem stepM13_any (base D : Nat) (E : Vm) (x : Jo) (s : List ByteArray) (br : List Bool) (w : World) (h : MSs base D s br 0 w) (hb : base ≤ w.heap.size) (hs : Vm.fits s) (hc : x.c = 13) :
    Calls Tryz.prog 42 #[.pointer (some ⟨D, 0, none⟩), x.val, .agg #[.string E.t, .int .i64 E.h, .int .i64 E.a]] w (SsP base D (Vm.fin br (Vm.act E x s)) w) := by
  obtain ⟨vi, vb, h⟩ := h
  rw [Vm.actE13 hc]
  obtain ⟨C, A, B, t⟩ := x
  simp only at hc ⊢
  subst hc
  have hS := hs.1
  have hZ := hs.2
  have hDl := h.blk.lt
  have hO0 : Bk w.heap.size 69 #[.int .i64 13, .int .i64 A, .int .i64 B, .string t] (w.alloc (.cells #[.int .i64 13, .int .i64 A, .int .i64 B, .string t] 69 (0, 0))) := Bk.new _ _ _
  have h1 := h.alloc (.cells #[.int .i64 13, .int .i64 A, .int .i64 B, .string t] 69 (0, 0))
  have b1 : Fr base D w (w.alloc (.cells #[.int .i64 13, .int .i64 A, .int .i64 B, .string t] 69 (0, 0))) := (Fr.refl base D w).alloc hb _
  obtain ⟨W1, HW1⟩ : ∃ W1, Hid (w.alloc (.cells #[.int .i64 13, .int .i64 A, .int .i64 B, .string t] 69 (0, 0)) = W1) := ⟨_, Lib.hid rfl⟩
  have hsz : (w.alloc (.cells #[.int .i64 13, .int .i64 A, .int .i64 B, .string t] 69 (0, 0))).heap.size = w.heap.size + 1 := by simp
  rw [HW1.out] at hO0 h1 b1 hsz
  have hO1 := hO0.alloc (.cells #[.string E.t, .int .i64 E.h, .int .i64 E.a] 26 (0, 0))
  have hE1 : Bk (w.heap.size + 1) 26 #[.string E.t, .int .i64 E.h, .int .i64 E.a] (W1.alloc (.cells #[.string E.t, .int .i64 E.h, .int .i64 E.a] 26 (0, 0))) := Bk.new' _ _ _ _ hsz.symm
  have h2 := h1.alloc (.cells #[.string E.t, .int .i64 E.h, .int .i64 E.a] 26 (0, 0))
  have b2 := b1.alloc (Nat.le_trans hb b1.size) (.cells #[.string E.t, .int .i64 E.h, .int .i64 E.a] 26 (0, 0))
  obtain ⟨W2, HW2⟩ : ∃ W2, Hid (W1.alloc (.cells #[.string E.t, .int .i64 E.h, .int .i64 E.a] 26 (0, 0)) = W2) := ⟨_, Lib.hid rfl⟩
  rw [HW2.out] at hO1 hE1 h2 b2
  have hb2 := Nat.le_trans hb b2.size
  clear h h1 b1 hO0 hs hsz
  by_cases ha : A ≤ E.h
  · rw [show Vm.fin br (if A ≤ E.h then .ok s else .error 4) = .ok (s, br) by rw [if_pos ha]; rfl]
    have hq : decide (E.h < A) = false := by simp; omega
    clear ha
    obtain ⟨o0, o1, o2, o3⟩ := Bk.c4 hO1
    have hnd := fun W => needs13_any A B t W
    have HWW : Hid ((w.alloc (.cells #[.int .i64 13, .int .i64 A, .int .i64 B, .string t] 69 (0, 0))).alloc (.cells #[.string E.t, .int .i64 E.h, .int .i64 E.a] 26 (0, 0)) = W2) := Lib.hid (by rw [HW1.out, HW2.out])
    clear HW1 HW2
    go_enter Tryz.func42, Tryz.ntmps42
    go_wp2_with fail
    rw [HWW.out]
    refine (hnd _).mono ?_
    rintro e w3 ⟨rfl, c3⟩
    have h3 := h2.below c3
    have hO3 := hO1.below c3
    have hE3 := hE1.below c3
    have b3 := b2.trans (Fr.of hb2 c3)
    have hb3 := Nat.le_trans hb b3.size
    clear hnd HWW h2 hO1 hE1 b2 c3 hb2 o0 o1 o2 o3
    obtain ⟨o0, o1, o2, o3⟩ := Bk.c4 hO3
    obtain ⟨g0, g1, g2⟩ := Bk.c3w hE3
    go_wp2_with fail
    refine (needM_ok base D 0 vi vb _ br 0 w3 h3 (by simp)).mono ?_
    rintro e w4 ⟨rfl, rfl⟩
    go_wp2
    first | go_end0 | refine bodyPost_ret (results_none rfl _ _ _) rfl ?_
    exact SsP.ok rfl h3 b3
  · rw [show Vm.fin br (if A ≤ E.h then .ok s else .error 4) = .error 4 by rw [if_neg ha]; rfl]
    have hq : decide (E.h < A) = true := by simp; omega
    clear ha
    obtain ⟨o0, o1, o2, o3⟩ := Bk.c4 hO1
    have hnd := fun W => needs13_any A B t W
    have HWW : Hid ((w.alloc (.cells #[.int .i64 13, .int .i64 A, .int .i64 B, .string t] 69 (0, 0))).alloc (.cells #[.string E.t, .int .i64 E.h, .int .i64 E.a] 26 (0, 0)) = W2) := Lib.hid (by rw [HW1.out, HW2.out])
    clear HW1 HW2
    go_enter Tryz.func42, Tryz.ntmps42
    go_wp2_with fail
    rw [HWW.out]
    refine (hnd _).mono ?_
    rintro e w3 ⟨rfl, c3⟩
    have h3 := h2.below c3
    have hO3 := hO1.below c3
    have hE3 := hE1.below c3
    have b3 := b2.trans (Fr.of hb2 c3)
    have hb3 := Nat.le_trans hb b3.size
    clear hnd HWW h2 hO1 hE1 b2 c3 hb2 o0 o1 o2 o3
    obtain ⟨o0, o1, o2, o3⟩ := Bk.c4 hO3
    obtain ⟨g0, g1, g2⟩ := Bk.c3w hE3
    go_wp2_with fail
    refine (needM_ok base D 0 vi vb _ br 0 w3 h3 (by simp)).mono ?_
    rintro e w4 ⟨rfl, rfl⟩
    obtain ⟨y0, y1, y2⟩ := h3.cells
    have f2 := h3.blk.fro 2
    go_wp2
    first | go_end0 | refine bodyPost_ret (results_none rfl _ _ _) rfl ?_
    exact SsP.no rfl (h3.setQ 4) (b3.setD h3.hD 2 _)
set_option maxRecDepth 100000 in
set_option maxHeartbeats 6400000 in
theorem stepM14_any (base D : Nat) (E : Vm) (x : Jo) (s : List ByteArray) (br : List Bool) (w : World) (h : MSs base D s br 0 w) (hb : base ≤ w.heap.size) (hs : Vm.fits s) (hc : x.c = 14) :
    Calls Tryz.prog 42 #[.pointer (some ⟨D, 0, none⟩), x.val, .agg #[.string E.t, .int .i64 E.h, .int .i64 E.a]] w (SsP base D (Vm.fin br (Vm.act E x s)) w) := by
  obtain ⟨vi, vb, h⟩ := h
  rw [Vm.actE14 hc]
  obtain ⟨C, A, B, t⟩ := x
  simp only at hc ⊢
  subst hc
  have hS := hs.1
  have hZ := hs.2
  have hDl := h.blk.lt
  have hO0 : Bk w.heap.size 69 #[.int .i64 14, .int .i64 A, .int .i64 B, .string t] (w.alloc (.cells #[.int .i64 14, .int .i64 A, .int .i64 B, .string t] 69 (0, 0))) := Bk.new _ _ _
  have h1 := h.alloc (.cells #[.int .i64 14, .int .i64 A, .int .i64 B, .string t] 69 (0, 0))
  have b1 : Fr base D w (w.alloc (.cells #[.int .i64 14, .int .i64 A, .int .i64 B, .string t] 69 (0, 0))) := (Fr.refl base D w).alloc hb _
  obtain ⟨W1, HW1⟩ : ∃ W1, Hid (w.alloc (.cells #[.int .i64 14, .int .i64 A, .int .i64 B, .string t] 69 (0, 0)) = W1) := ⟨_, Lib.hid rfl⟩
  have hsz : (w.alloc (.cells #[.int .i64 14, .int .i64 A, .int .i64 B, .string t] 69 (0, 0))).heap.size = w.heap.size + 1 := by simp
  rw [HW1.out] at hO0 h1 b1 hsz
  have hO1 := hO0.alloc (.cells #[.string E.t, .int .i64 E.h, .int .i64 E.a] 26 (0, 0))
  have hE1 : Bk (w.heap.size + 1) 26 #[.string E.t, .int .i64 E.h, .int .i64 E.a] (W1.alloc (.cells #[.string E.t, .int .i64 E.h, .int .i64 E.a] 26 (0, 0))) := Bk.new' _ _ _ _ hsz.symm
  have h2 := h1.alloc (.cells #[.string E.t, .int .i64 E.h, .int .i64 E.a] 26 (0, 0))
  have b2 := b1.alloc (Nat.le_trans hb b1.size) (.cells #[.string E.t, .int .i64 E.h, .int .i64 E.a] 26 (0, 0))
  obtain ⟨W2, HW2⟩ : ∃ W2, Hid (W1.alloc (.cells #[.string E.t, .int .i64 E.h, .int .i64 E.a] 26 (0, 0)) = W2) := ⟨_, Lib.hid rfl⟩
  rw [HW2.out] at hO1 hE1 h2 b2
  have hb2 := Nat.le_trans hb b2.size
  clear h h1 b1 hO0 hs hsz
  by_cases ha : A ≤ E.a
  · rw [show Vm.fin br (if A ≤ E.a then .ok s else .error 4) = .ok (s, br) by rw [if_pos ha]; rfl]
    have hq : decide (E.a < A) = false := by simp; omega
    clear ha
    obtain ⟨o0, o1, o2, o3⟩ := Bk.c4 hO1
    have hnd := fun W => needs14_any A B t W
    have HWW : Hid ((w.alloc (.cells #[.int .i64 14, .int .i64 A, .int .i64 B, .string t] 69 (0, 0))).alloc (.cells #[.string E.t, .int .i64 E.h, .int .i64 E.a] 26 (0, 0)) = W2) := Lib.hid (by rw [HW1.out, HW2.out])
    clear HW1 HW2
    go_enter Tryz.func42, Tryz.ntmps42
    go_wp2_with fail
    rw [HWW.out]
    refine (hnd _).mono ?_
    rintro e w3 ⟨rfl, c3⟩
    have h3 := h2.below c3
    have hO3 := hO1.below c3
    have hE3 := hE1.below c3
    have b3 := b2.trans (Fr.of hb2 c3)
    have hb3 := Nat.le_trans hb b3.size
    clear hnd HWW h2 hO1 hE1 b2 c3 hb2 o0 o1 o2 o3
    obtain ⟨o0, o1, o2, o3⟩ := Bk.c4 hO3
    obtain ⟨g0, g1, g2⟩ := Bk.c3w hE3
    go_wp2_with fail
    refine (needM_ok base D 0 vi vb _ br 0 w3 h3 (by simp)).mono ?_
    rintro e w4 ⟨rfl, rfl⟩
    go_wp2
    first | go_end0 | refine bodyPost_ret (results_none rfl _ _ _) rfl ?_
    exact SsP.ok rfl h3 b3
  · rw [show Vm.fin br (if A ≤ E.a then .ok s else .error 4) = .error 4 by rw [if_neg ha]; rfl]
    have hq : decide (E.a < A) = true := by simp; omega
    clear ha
    obtain ⟨o0, o1, o2, o3⟩ := Bk.c4 hO1
    have hnd := fun W => needs14_any A B t W
    have HWW : Hid ((w.alloc (.cells #[.int .i64 14, .int .i64 A, .int .i64 B, .string t] 69 (0, 0))).alloc (.cells #[.string E.t, .int .i64 E.h, .int .i64 E.a] 26 (0, 0)) = W2) := Lib.hid (by rw [HW1.out, HW2.out])
    clear HW1 HW2
    go_enter Tryz.func42, Tryz.ntmps42
    go_wp2_with fail
    rw [HWW.out]
    refine (hnd _).mono ?_
    rintro e w3 ⟨rfl, c3⟩
    have h3 := h2.below c3
    have hO3 := hO1.below c3
    have hE3 := hE1.below c3
    have b3 := b2.trans (Fr.of hb2 c3)
    have hb3 := Nat.le_trans hb b3.size
    clear hnd HWW h2 hO1 hE1 b2 c3 hb2 o0 o1 o2 o3
    obtain ⟨o0, o1, o2, o3⟩ := Bk.c4 hO3
    obtain ⟨g0, g1, g2⟩ := Bk.c3w hE3
    go_wp2_with fail
    refine (needM_ok base D 0 vi vb _ br 0 w3 h3 (by simp)).mono ?_
    rintro e w4 ⟨rfl, rfl⟩
    obtain ⟨y0, y1, y2⟩ := h3.cells
    have f2 := h3.blk.fro 2
    go_wp2
    first | go_end0 | refine bodyPost_ret (results_none rfl _ _ _) rfl ?_
    exact SsP.no rfl (h3.setQ 4) (b3.setD h3.hD 2 _)
end Go.Proofs.YtdaffohimifecaaGreat
