/-
  Contracts of chapter 8: whether a point has a given X; of the program.
-/
import Derived.Test.YtbhpealkhpginaaQr
import Derived.Shelf.Abstract
namespace Go.Proofs.Ytbhpealkhpginaa
open Go.RowKit

/-- The slice at a shows the first len shares of l. -/
def QP (w : World) (a : Option Addr) (len : Nat) (l : List (Int × Int)) : Prop :=
  0 < len → ∃ b off, a = some ⟨b, off, none⟩ ∧ b < w.heap.size ∧ ∀ j, j < len → w.cell? ⟨b, off + j * 2, none⟩ = some (.int .i64 (Po.X l j)) ∧ w.cell? ⟨b, off + j * 2 + 1, none⟩ = some (.int .i64 (Po.Y l j))
theorem QP.below {w w' : World} {a : Option Addr} {len : Nat} {l : List (Int × Int)} (h : QP w a len l) (hb : Below w.heap.size w w') : QP w' a len l := fun h0 => by
  obtain ⟨b, off, rfl, hlt, hc⟩ := h h0
  exact ⟨b, off, rfl, Nat.lt_of_lt_of_le hlt hb.size, fun j hj => ⟨(hb.cell (p := ⟨b, off + j * 2, none⟩) hlt).trans (hc j hj).1, (hb.cell (p := ⟨b, off + j * 2 + 1, none⟩) hlt).trans (hc j hj).2⟩⟩
theorem QR.qp {w : World} {a : Option Addr} {len : Nat} {l : List (Int × Int)} (h : QR w a len l) (k : Nat) (hk : k ≤ len) : QP w a k l := fun h0 => by
  obtain ⟨b, off, rfl, hlt, hc⟩ := h.2 (by omega)
  exact ⟨b, off, rfl, hlt, fun j hj => hc j (by omega)⟩
theorem makeFunc_run8 : ∀ (fn : Fn) (first cap : Array Value) (w : World), (Instr.makeFunc fn first cap).run Try.prog w = .ok (.func fn first cap) w := fun _ _ _ _ => rfl
theorem cell_alloc8 {w : World} {B : Nat} {v : Value} (h : w.cell? ⟨B, 0, none⟩ = some v) (o : Obj) : (w.alloc o).cell? ⟨B, 0, none⟩ = some v :=
  ((Below.refl w.heap.size w).alloc (Nat.le_refl _) o).cell (p := ⟨B, 0, none⟩) (World.block_lt_of_cell? w _ h) |>.trans h
set_option maxRecDepth 100000 in
set_option maxHeartbeats 800000 in
theorem hasX1_any (X Y x : Int) (B : Nat) (w : World) (hx : w.cell? ⟨B, 0, none⟩ = some (.int .i64 x)) :
    Calls Try.prog 60 #[.agg #[.int .i64 X, .int .i64 Y], .pointer (some ⟨B, 0, none⟩)] w fun e w' => e = .returned (.bool (X == x)) ∧ Below w.heap.size w w' := by
  have hx1 := cell_alloc8 hx (.cells #[.int .i64 X, .int .i64 Y] 35 (0, 0))
  have hb1 := below_alloc (Below.refl w.heap.size w) (.cells #[.int .i64 X, .int .i64 Y] 35 (0, 0))
  clear hx
  go_enter Try.func60, Try.ntmps60
  go_wp2
  go_ret
  exact ⟨rfl, hb1⟩
set_option maxRecDepth 100000 in
set_option maxHeartbeats 1600000 in
theorem indexX_any (a : Option Addr) (len cap : Nat) (l : List (Int × Int)) (x : Int) (B : Nat) (w : World) (h : QP w a len l) (hm : len ≤ 9223372036854775807) (hx : w.cell? ⟨B, 0, none⟩ = some (.int .i64 x)) :
    Calls Try.prog 65 #[.slice a len cap, .func (.func 60) #[] #[.pointer (some ⟨B, 0, none⟩)]] w fun e w' => (∃ k : Int, e = .returned (.int .i64 k) ∧ decide (0 ≤ k) = !Po.fresh l x len) ∧ Below w.heap.size w w' := by
  have hB := World.block_lt_of_cell? w _ hx
  have e1 : ∀ args w, (callFunc 60 args).run Try.prog w = .ok (.enter 60 args) w := enters_of Try.func60 (by kernel_rfl) rfl
  go_enter Try.func65, Try.ntmps65
  go_wp2
  go_loopw [8] (fun i wr => ∃ k : Nat, k ≤ len ∧ i = .int .i64 (k : Int) ∧ Hid (Po.fresh l x k = true) ∧ Below w.heap.size w wr)
    (fun i _ => len - (intOf i).toNat)
  case atStart => exact ⟨0, by omega, rfl, Lib.hid rfl, Below.refl _ _⟩
  case round =>
    obtain ⟨k, hk, rfl, hfr, hbel⟩ := hrel
    by_cases hlt : k < len
    · obtain ⟨b, off, rfl, hb, hc⟩ := (h.below hbel) (by omega)
      obtain ⟨c0, c1⟩ := hc k hlt
      have HNo : Hid (Po.X l k = x → decide ((0 : Int) ≤ (k : Int)) = !Po.fresh l x len) := Lib.hid fun he => by
        rw [Po.fresh_no he len hlt, decide_eq_true (Int.natCast_nonneg k)]
        rfl
      have HYes : Hid (Po.X l k ≠ x → Po.fresh l x (k + 1) = true) := Lib.hid fun hne => by
        show (Po.fresh l x k && !(Po.X l k == x)) = true
        rw [hfr.out, Bool.true_and, Bool.not_eq_true', beq_eq_false_iff_ne]
        exact hne
      obtain ⟨V, HV⟩ : ∃ V, Hid (Po.X l k = V) := ⟨_, Lib.hid rfl⟩
      obtain ⟨Y, HY⟩ : ∃ V, Hid (Po.Y l k = V) := ⟨_, Lib.hid rfl⟩
      rw [HV.out] at c0 HNo HYes
      rw [HY.out] at c1
      have hcon := hasX1_any V Y x B wr ((hbel.cell (p := ⟨B, 0, none⟩) hB).trans hx)
      clear hc HV HY h hfr hx
      by_cases he : V = x
      · have HN := Lib.hid (HNo.out he)
        have hq : (V == x) = true := by simp [he]
        rw [hq] at hcon
        clear HNo HYes hq he
        go_wp2_with fail
        refine hcon.mono ?_
        rintro e2 w2 ⟨rfl, hb2⟩
        have hc2 := below_after hbel hb2
        clear hb2 hbel hcon
        go_wp2
        go_ret
        exact ⟨⟨_, rfl, HN.out⟩, hc2⟩
      · have HN := Lib.hid (HYes.out he)
        have hq : (V == x) = false := by simp [he]
        rw [hq] at hcon
        clear HNo HYes hq he
        go_wp2_with fail
        refine hcon.mono ?_
        rintro e2 w2 ⟨rfl, hb2⟩
        have hc2 := below_after hbel hb2
        clear hb2 hbel hcon
        go_wp2
        go_roundw
        case rel => exact ⟨k + 1, by omega, by simp, HN, hc2⟩
        case measure => simp [intOf]; omega
    · have hk2 : k = len := by omega
      subst hk2
      have HN : Hid (decide ((0 : Int) ≤ -1) = !Po.fresh l x k) := Lib.hid (by rw [hfr.out]; rfl)
      clear h hfr
      go_wp2
      go_ret
      exact ⟨⟨_, rfl, HN.out⟩, hbel⟩
set_option maxRecDepth 100000 in
set_option maxHeartbeats 800000 in
theorem containsX_any (a : Option Addr) (len cap : Nat) (l : List (Int × Int)) (x : Int) (B : Nat) (w : World) (h : QP w a len l) (hm : len ≤ 9223372036854775807) (hx : w.cell? ⟨B, 0, none⟩ = some (.int .i64 x)) :
    Calls Try.prog 59 #[.slice a len cap, .func (.func 60) #[] #[.pointer (some ⟨B, 0, none⟩)]] w fun e w' => e = .returned (.bool (!Po.fresh l x len)) ∧ Below w.heap.size w w' := by
  have hcon := indexX_any a len cap l x B w h hm hx
  clear h hx
  go_enter Try.func59, Try.ntmps59
  go_wp2_with fail
  refine hcon.mono ?_
  rintro e1 w1 ⟨⟨k, rfl, hk⟩, hb1⟩
  have HK := Lib.hid hk
  clear hk hcon
  go_wp2
  go_ret
  exact ⟨by rw [← HK.out]; rfl, hb1⟩
set_option maxRecDepth 100000 in
set_option maxHeartbeats 800000 in
theorem hasX_any (a : Option Addr) (len cap : Nat) (l : List (Int × Int)) (x : Int) (w : World) (h : QP w a len l) (hm : len ≤ 9223372036854775807) :
    Calls Try.prog 49 #[.slice a len cap, .int .i64 x] w fun e w' => e = .returned (.bool (!Po.fresh l x len)) ∧ Below w.heap.size w w' := by
  have hmf := makeFunc_run8
  have hb0 := below_alloc (Below.refl w.heap.size w) (.cells #[.int .i64 x] 3 (0, 0))
  have HX : Bk w.heap.size 3 #[.int .i64 x] (w.alloc (.cells #[.int .i64 x] 3 (0, 0))) := Bk.new _ _ _
  have hcon := containsX_any a len cap l x w.heap.size _ (h.below hb0) hm (HX.cell 0)
  clear h HX
  go_enter Try.func49, Try.ntmps49
  go_wp2_with fail
  refine hcon.mono ?_
  rintro e1 w1 ⟨rfl, hb1⟩
  have hc1 := below_after hb0 hb1
  clear hb0 hb1 hcon
  go_wp2
  go_ret
  exact ⟨rfl, hc1⟩
end Go.Proofs.Ytbhpealkhpginaa
