import Derived.Test.YtoocibabceeagabGreatYl
import Derived.Test.YtoocibabceeagabGreatDs
import Derived.Test.YtoocibabceeagabGreatSl
import Derived.Test.YtoocibabceeagabGreatSk
import Derived.Test.YtoocibabceeagabGreatYa
import Derived.Test.YtoocibabceeagabGreatWb
import Derived.Deep.RegionWith
import Derived.Laws.Rows
/-
  Drawing for chapter 11: a stack, what a script is run with.
-/
namespace Go.Proofs.YtoocibabceeagabGreat
open Go.RowKit

/-- Drawing a stack: at most m strings of at most L bytes each; the place goes on by at most c. -/
def StackR (B : Nat) (a : Option Addr) (len cap : Nat) (zs : List Int) (p c : Nat) (m L : Nat) (w : World) (e : Ending) (w' : World) : Prop :=
  ∃ (ss : List ByteArray) (q g cp : Nat), e = .returned (.slice (some ⟨g, 0, none⟩) ss.length cp) ∧ ss.length ≤ m ∧ (∀ s ∈ ss, s.size ≤ L) ∧ p ≤ q ∧ q ≤ p + c ∧ Dw B a len cap zs w' q ∧ w.grownBy w' (some B) ∧
    w'.ownsRow w.heap.size 9 1 (.slice (some ⟨g, 0, none⟩) ss.length cp) ss.length (ss.map Value.string)
theorem Jo.item_size (r s : Int) : (Jo.item r s).size ≤ 8 := by
  rw [Jo.item_len]
  split <;> omega
set_option maxRecDepth 100000 in
set_option maxHeartbeats 1600000 in
theorem l12Sig_any (x : Int) (t : ByteArray) (w : World) (x0 : 1 ≤ x) (x1 : x ≤ 1073741788) (ht : t.size ≤ 1048576) :
    Calls Tryz.prog 55 #[.int .i64 x, .string t] w fun e w' => ∃ s : ByteArray, e = .returned (.string s) ∧ s.size ≤ 8 ∧ Below w.heap.size w w' := by
  have hcon := l5Sign_any x t w x0 x1 ht
  clear x0 x1 ht
  generalize Sg.sr x t = r at hcon
  generalize Sg.ss x t = s at hcon
  go_enter Tryz.func55, Tryz.ntmps55
  go_wp2_with fail
  refine hcon.mono ?_
  rintro e w1 ⟨rfl, hb1⟩
  go_wp2_with fail
  refine (specSigItem_any r s _).mono ?_
  rintro e w2 ⟨rfl, hb2⟩
  go_wp2
  go_ret
  exact ⟨_, rfl, Jo.item_size r s, hb1.trans (hb2.mono hb1.size)⟩
end Go.Proofs.YtoocibabceeagabGreat

/-
  Drawing for chapter 11: what a script is run with; what RunScript is asked.
-/
namespace Go.Proofs.YtoocibabceeagabGreat
open Go.RowKit

theorem Bk.store3w {B : Nat} {t : TypeId} {u0 u1 u2 : Value} {w : World} (h : Bk B t #[u0, u1, u2] w) (v0 v1 v2 : Value) : Bk B t #[v0, v1, v2] ((((w).setCell ⟨B, 0, none⟩ v0).setCell ⟨B, 1, none⟩ v1).setCell ⟨B, 2, none⟩ v2) := by
  have h0 : Bk B t #[v0, u1, u2] ((w).setCell ⟨B, 0, none⟩ v0) := h.set 0 v0
  have h1 : Bk B t #[v0, v1, u2] (((w).setCell ⟨B, 0, none⟩ v0).setCell ⟨B, 1, none⟩ v1) := h0.set 1 v1
  have h2 : Bk B t #[v0, v1, v2] ((((w).setCell ⟨B, 0, none⟩ v0).setCell ⟨B, 1, none⟩ v1).setCell ⟨B, 2, none⟩ v2) := h1.set 2 v2
  exact h2
theorem gb_set1 (W : World) (D i : Nat) (v : Value) : W.grownBy (W.setCell ⟨D, i, none⟩ v) (some D) :=
  ⟨rfl, rfl, rfl, by simp [World.setCell], fun k _ hne => Below.heap_setCell _ _ _ _ (show k ≠ D by intro h; exact hne (by rw [h]))⟩
/-- Drawing what a script is run with. -/
def EnvR (B : Nat) (a : Option Addr) (len cap : Nat) (zs : List Int) (p : Nat) (w : World) (e : Ending) (w' : World) : Prop :=
  ∃ (T : ByteArray) (h g : Int) (q : Nat), e = .returned (.agg #[.string T, .int .i64 h, .int .i64 g]) ∧ T.size ≤ 5 ∧ 0 ≤ h ∧ h < 32 ∧ -2 ≤ g ∧ g < 32 ∧ p ≤ q ∧ q ≤ p + 3 ∧ Dw B a len cap zs w' q ∧ w.grownBy w' (some B)
set_option maxRecDepth 100000 in
set_option maxHeartbeats 6400000 in
theorem l91Env_any (B : Nat) (a : Option Addr) (len cap : Nat) (zs : List Int) (p : Nat) (w : World) (hp : p ≤ 500000000) (hD0 : Dw B a len cap zs w p) :
    Calls Tryz.prog 74 #[.pointer (some ⟨B, 0, none⟩)] w (EnvR B a len cap zs p w) := by
  have hBlt := hD0.lt
  have hRB : w.heap.size ≠ B := by omega
  have hE0 : Dw B a len cap zs (w.alloc (.cells #[.string ⟨#[]⟩, .int .i64 0, .int .i64 0] 35 (0, 0))) p := hD0.alloc _
  have vR0 : Bk w.heap.size 35 #[.string ⟨#[]⟩, .int .i64 0, .int .i64 0] (w.alloc (.cells #[.string ⟨#[]⟩, .int .i64 0, .int .i64 0] 35 (0, 0))) := Bk.new _ _ _
  have hG0 : w.grownBy (w.alloc (.cells #[.string ⟨#[]⟩, .int .i64 0, .int .i64 0] 35 (0, 0))) (some B) := World.grownBy_alloc w _ (some B)
  have hlit : ∀ (W : World) (k : Nat) (s : ByteArray), ([.string ⟨#[99, 111, 105, 110]⟩, .string ⟨#[]⟩, .string ⟨#[97]⟩] : List Value)[k]? = some (.string s) → (W.alloc (.cells #[.string ⟨#[99, 111, 105, 110]⟩, .string ⟨#[]⟩, .string ⟨#[97]⟩] 9)).cell? ⟨W.heap.size, k, none⟩ = some (.string s) := fun W k s h => lit_cellV [.string ⟨#[99, 111, 105, 110]⟩, .string ⟨#[]⟩, .string ⟨#[97]⟩] 9 W k _ h
  have hpk : ∀ k : Nat, (k : Int) < 3 → ∃ s : ByteArray, ([.string ⟨#[99, 111, 105, 110]⟩, .string ⟨#[]⟩, .string ⟨#[97]⟩] : List Value)[k]? = some (.string s) ∧ s.size ≤ 5 := fun k hk => by
    match k, hk with
    | 0, _ => exact ⟨_, rfl, by decide⟩
    | 1, _ => exact ⟨_, rfl, by decide⟩
    | 2, _ => exact ⟨_, rfl, by decide⟩
  have hlitA : ∀ (k : Nat) (s : ByteArray), ([.string ⟨#[99, 111, 105, 110]⟩, .string ⟨#[]⟩, .string ⟨#[97]⟩] : List Value)[k]? = some (.string s) → ((w.alloc (.cells #[.string ⟨#[]⟩, .int .i64 0, .int .i64 0] 35 (0, 0))).alloc (.cells #[.string ⟨#[99, 111, 105, 110]⟩, .string ⟨#[]⟩, .string ⟨#[97]⟩] 9)).cell? ⟨w.heap.size + 1, k, none⟩ = some (.string s) := fun k s h => by
    have := hlit (w.alloc (.cells #[.string ⟨#[]⟩, .int .i64 0, .int .i64 0] 35 (0, 0))) k s h
    rwa [show (w.alloc (.cells #[.string ⟨#[]⟩, .int .i64 0, .int .i64 0] 35 (0, 0))).heap.size = w.heap.size + 1 by simp] at this
  have HLITA := Lib.hid hlitA
  have HLIT := Lib.hid hlit
  have HPK := Lib.hid hpk
  clear hlit hpk hlitA
  go_enter Tryz.func74, Tryz.ntmps74
  go_wp2
  go_region_with (first
    | (go_at_call_of 72 (Value.int .i64 3); refine (pick_any B a len cap zs p 3 _ (by omega) (by omega) (by exact (hE0.alloc (.cells #[.string ⟨#[99, 111, 105, 110]⟩, .string ⟨#[]⟩, .string ⟨#[97]⟩] 9)).of fun _ _ => rfl)).mono ?_; rintro e w1 ⟨x1, rfl, x10, x11, hD1, hG1⟩
       obtain ⟨k, rfl⟩ := Int.eq_ofNat_of_zero_le x10
       obtain ⟨s, hs, hsz⟩ := HPK.out k x11
       have hne : w.heap.size + 1 ≠ B := by omega
       have hc1 : w1.cell? ⟨w.heap.size + 1, k, none⟩ = some (.string s) := hG1.cell (by exact HLITA.out k s hs) (by simpa using hne)
       have vR1 := (vR0.alloc (.cells #[.string ⟨#[99, 111, 105, 110]⟩, .string ⟨#[]⟩, .string ⟨#[97]⟩] 9)).drew.gbK hG1 hRB
       have hK1 := gtrans (grownBy_drew (gb_allocK hG0 (.cells #[.string ⟨#[99, 111, 105, 110]⟩, .string ⟨#[]⟩, .string ⟨#[97]⟩] 9))) hG1)
    | (go_at_call_of 72 (Value.int .i64 3); refine (pick_any B a len cap zs p 3 _ (by omega) (by omega) (by exact hE0.of fun _ _ => rfl)).mono ?_; rintro e w1 ⟨x1, rfl, x10, x11, hF1, hG1⟩
       obtain ⟨k, rfl⟩ := Int.eq_ofNat_of_zero_le x10
       obtain ⟨s, hs, hsz⟩ := HPK.out k x11
       have hlit1 := fun W => HLIT.out W k s hs
       have vR1 := vR0.drew.gbK hG1 hRB
       have hK1 := gtrans (grownBy_drew hG0) hG1)
    | (go_at_call_of 72 (Value.int .i64 32); refine (pick_any B a len cap zs (p + 1) 32 _ (by omega) (by omega) (by exact hD1)).mono ?_; rintro e w2 ⟨x2, rfl, x20, x21, hD2, hG2⟩
       have hc2 := hG2.cell hc1 (by simpa using hne)
       have vR2 := vR1.gbK hG2 hRB
       have hK2 := gtrans hK1 hG2)
    | (go_at_call_of 72 (Value.int .i64 32); refine (pick_any B a len cap zs (p + 1) 32 _ (by omega) (by omega) (by exact hF1.alloc _)).mono ?_; rintro e w2 ⟨x2, rfl, x20, x21, hD2, hG2⟩
       have hne : w1.heap.size ≠ B := by have := hF1.lt; omega
       have hc2 := hG2.cell (hlit1 w1) (by simpa using hne)
       have vR2 := (vR1.alloc _).gbK hG2 hRB
       have hK2 := gtrans (gb_allocK hK1 _) hG2)
    | (go_at_call_of 72 (Value.int .i64 32); refine (pick_any B a len cap zs (p + 1) 32 _ (by omega) (by omega) (by exact hF1)).mono ?_; rintro e w2 ⟨x2, rfl, x20, x21, hF2, hG2⟩
       have vR2 := vR1.gbK hG2 hRB
       have hK2 := gtrans hK1 hG2)
    | (go_at_call_of 72 (Value.int .i64 34); refine (pick_any B a len cap zs (p + 1 + 1) 34 _ (by omega) (by omega) (by exact hD2)).mono ?_; rintro e w3 ⟨x3, rfl, x30, x31, hD3, hG3⟩
       have hc3 := hG3.cell hc2 (by simpa using hne)
       have vR3 := vR2.gbK hG3 hRB
       obtain ⟨r0, r1, r2⟩ := Bk.c3w vR3
       have f0 := vR3.fro 0
       have f1 := vR3.fro 1
       have f2 := vR3.fro 2
       have hw3 : IntKind.i64.wrap (x3 - 2) = x3 - 2 := IntWalk.i64_in _ (by omega)
       have hK3 := gtrans hK2 hG3)
    | (go_at_call_of 72 (Value.int .i64 34); refine (pick_any B a len cap zs (p + 1 + 1) 34 _ (by omega) (by omega) (by exact hF2.alloc _)).mono ?_; rintro e w3 ⟨x3, rfl, x30, x31, hD3, hG3⟩
       have hne : w2.heap.size ≠ B := by have := hF2.lt; omega
       have hc3 := hG3.cell (hlit1 w2) (by simpa using hne)
       have vR3 := (vR2.alloc _).gbK hG3 hRB
       obtain ⟨r0, r1, r2⟩ := Bk.c3w vR3
       have f0 := vR3.fro 0
       have f1 := vR3.fro 1
       have f2 := vR3.fro 2
       have hw3 : IntKind.i64.wrap (x3 - 2) = x3 - 2 := IntWalk.i64_in _ (by omega)
       have hK3 := gtrans (gb_allocK hK2 _) hG3)
    | (go_at_call_of 72 (Value.int .i64 34); refine (pick_any B a len cap zs (p + 1 + 1) 34 _ (by omega) (by omega) (by exact hF2)).mono ?_; rintro e w3 ⟨x3, rfl, x30, x31, hF3, hG3⟩
       have vR3' := vR2.gbK hG3 hRB
       have vR3 := vR3'.alloc (.cells #[.string ⟨#[99, 111, 105, 110]⟩, .string ⟨#[]⟩, .string ⟨#[97]⟩] 9)
       obtain ⟨r0, r1, r2⟩ := Bk.c3w vR3
       have f0 := vR3.fro 0
       have f1 := vR3.fro 1
       have f2 := vR3.fro 2
       have hD3 := hF3.alloc (.cells #[.string ⟨#[99, 111, 105, 110]⟩, .string ⟨#[]⟩, .string ⟨#[97]⟩] 9)
       have hw3 : IntKind.i64.wrap (x3 - 2) = x3 - 2 := IntWalk.i64_in _ (by omega)
       have hK3 := gb_allocK (gtrans hK2 hG3) (.cells #[.string ⟨#[99, 111, 105, 110]⟩, .string ⟨#[]⟩, .string ⟨#[97]⟩] 9)))
  all_goals
    have hR := Bk.store3w vR3 (.string s) (.int .i64 x2) (.int .i64 (x3 - 2))
    have hDz := ((hD3.osetK w.heap.size 0 (.string s) hBlt).osetK w.heap.size 1 (.int .i64 x2) hBlt).osetK w.heap.size 2 (.int .i64 (x3 - 2)) hBlt
    have hGz := gb_setK (gb_setK (gb_setK hK3 w.heap.size 0 (.string s) (Nat.le_refl _)) w.heap.size 1 (.int .i64 x2) (Nat.le_refl _)) w.heap.size 2 (.int .i64 (x3 - 2)) (Nat.le_refl _)
    go_wp2
    refine bodyPost_ret (results_cell_row (P := Tryz.prog) rfl _ _ w.heap.size 35 _ (0, 0) _ rfl hR.held Tryz.underlying35 rfl (by kernel_rfl)) rfl ?_
    exact ⟨s, x2, x3 - 2, _, rfl, hsz, by omega, by omega, by omega, by omega, by omega, by omega, hDz, hGz⟩
/-- Drawing what RunScript is asked. -/
def DrawRun (w : World) (e : Ending) (w' : World) : Prop :=
  ∃ (g2 n cap2 : Nat) (l : List Jo) (ss : List ByteArray) (g cp : Nat) (T : ByteArray) (h a : Int),
    e = .returned (.tuple #[.slice (some ⟨g2, 0, none⟩) n cap2, .slice (some ⟨g, 0, none⟩) ss.length cp, .agg #[.string T, .int .i64 h, .int .i64 a]]) ∧ OL w' (some ⟨g2, 0, none⟩) n l ∧ n ≤ 100 ∧ SR w' (some ⟨g, 0, none⟩) ss.length ss ∧ ss.length ≤ 6 ∧ (∀ s ∈ ss, s.size ≤ 81) ∧
      T.size ≤ 5 ∧ 0 ≤ h ∧ h < 32 ∧ -2 ≤ a ∧ a < 32 ∧ Below w.heap.size w w'
end Go.Proofs.YtoocibabceeagabGreat
