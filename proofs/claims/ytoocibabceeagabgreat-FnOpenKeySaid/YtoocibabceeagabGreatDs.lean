/-
  Contracts of the model's drawing kit: strings.
-/
import Derived.Test.YtoocibabceeagabGreatDr
import Derived.Test.YtoocibabceeagabGreatTx
import Derived.Test.YtoocibabceeagabGreatOw
import Derived.Deep.RegionWith
import Derived.Laws.Closers25b
import Derived.Outline
import Derived.OwnWalk
import Derived.Laws.OwnMore
namespace Go.Proofs.YtoocibabceeagabGreat
open Go.RowKit

theorem lit_cellV (vs : List Value) (t : TypeId) (W : World) (k : Nat) (v : Value) (hk : vs[k]? = some v) : (W.alloc (.cells vs.toArray t)).cell? ⟨W.heap.size, k, none⟩ = some v :=
  (World.cell?_alloc_mark W _ _ _ k).trans (by simpa using hk)
theorem grownBy_drew {w w' : World} {row : Option Nat} (h : w.grownBy w' row) : w.grownBy w'.drew row := ⟨h.os, h.tape, h.output, h.size, h.block⟩
/-- What a drawing function does that hands back a string: at most L bytes, and the place goes on by at most c. -/
def StrR (B : Nat) (a : Option Addr) (len cap : Nat) (zs : List Int) (p c : Nat) (L : Nat) (w : World) (e : Ending) (w' : World) : Prop :=
  ∃ (s : ByteArray) (q : Nat), e = .returned (.string s) ∧ s.size ≤ L ∧ p ≤ q ∧ q ≤ p + c ∧ Dw B a len cap zs w' q ∧ w.grownBy w' (some B)

set_option maxRecDepth 100000 in
set_option maxHeartbeats 800000 in
theorem l91Word_any (B : Nat) (a : Option Addr) (len cap : Nat) (zs : List Int) (p : Nat) (w : World) (hp : p ≤ 800000000) (hD0 : Dw B a len cap zs w p) :
    Calls Tryz.prog 52 #[.pointer (some ⟨B, 0, none⟩)] w (StrR B a len cap zs p 1 5 w) := by
  go_enter Tryz.func52, Tryz.ntmps52
  go_wp2_with fail
  have hD1 := hD0.alloc (.cells (([⟨#[]⟩, ⟨#[97]⟩, ⟨#[97, 98]⟩, ⟨#[99, 111, 105, 110]⟩, ⟨#[0]⟩, ⟨#[1]⟩, ⟨#[122, 122]⟩, ⟨#[104, 101, 108, 108, 111]⟩] : List ByteArray).map Value.string).toArray 9)
  refine (pick_any B a len cap zs _ 8 _ (by omega) (by omega) hD1).mono ?_
  rintro e w2 ⟨v, rfl, a2, b2, hD2, hG2⟩
  obtain ⟨k, rfl⟩ := Int.eq_ofNat_of_zero_le a2
  have hk : k < 8 := by omega
  have hne : w.heap.size ≠ B := by have := hD0.lt; omega
  obtain ⟨s, hs, hsz⟩ : ∃ s : ByteArray, ([⟨#[]⟩, ⟨#[97]⟩, ⟨#[97, 98]⟩, ⟨#[99, 111, 105, 110]⟩, ⟨#[0]⟩, ⟨#[1]⟩, ⟨#[122, 122]⟩, ⟨#[104, 101, 108, 108, 111]⟩] : List ByteArray)[k]? = some s ∧ s.size ≤ 5 := by
    match k, hk with
    | 0, _ => exact ⟨_, rfl, by decide⟩
    | 1, _ => exact ⟨_, rfl, by decide⟩
    | 2, _ => exact ⟨_, rfl, by decide⟩
    | 3, _ => exact ⟨_, rfl, by decide⟩
    | 4, _ => exact ⟨_, rfl, by decide⟩
    | 5, _ => exact ⟨_, rfl, by decide⟩
    | 6, _ => exact ⟨_, rfl, by decide⟩
    | 7, _ => exact ⟨_, rfl, by decide⟩
  have hc : w2.cell? ⟨w.heap.size, k, none⟩ = some (.string s) := hG2.cell (lit_cellV _ _ _ _ _ (by rw [List.getElem?_map, hs]; rfl)) (by simpa using hne)
  clear hs
  go_wp2
  go_ret
  exact ⟨s, _, rfl, hsz, by omega, by omega, hD2, gtrans (World.grownBy_alloc _ _ _) hG2⟩
set_option maxRecDepth 100000 in
set_option maxHeartbeats 800000 in
theorem l91Spoil_any (B : Nat) (a : Option Addr) (len cap : Nat) (zs : List Int) (p : Nat) (s : ByteArray) (w : World) (hs : s.size ≤ 1000000) (hp : p ≤ 800000000) (hD0 : Dw B a len cap zs w p) :
    Calls Tryz.prog 194 #[.pointer (some ⟨B, 0, none⟩), .string s] w (StrR B a len cap zs p 3 (s.size + 5) w) := by
  by_cases h0 : s.size = 0
  · have hz : s = ByteArray.empty := by
      cases s with | mk d => simp [ByteArray.size] at h0; subst h0; rfl
    have hE : s.toList.isEmpty = true := by rw [List.isEmpty_iff, toList_nil_iff_emptyBytes]; exact hz
    clear hz
    go_enter Tryz.func194, Tryz.ntmps194
    go_wp2_with fail
    refine (l91Word_any B a len cap zs _ _ (by omega) hD0).mono ?_
    rintro e w1 ⟨t, q, rfl, ht, q0, q1, hD1, hG1⟩
    go_wp2
    go_ret
    exact ⟨t, q, rfl, by omega, q0, by omega, hD1, hG1⟩
  have hE : s.toList.isEmpty = false := by
    rw [Bool.eq_false_iff]
    intro h
    have h' := List.isEmpty_iff.1 h
    rw [toList_nil_iff_emptyBytes] at h'
    rw [h'] at h0
    exact h0 rfl
  go_enter Tryz.func194, Tryz.ntmps194
  go_wp2_with fail
  refine (pick_any B a len cap zs _ _ _ (by omega) (by omega) hD0).mono ?_
  rintro e w1 ⟨k, rfl, a1, b1, hD1, hG1⟩
  go_wp2_with fail
  refine (pick_any B a len cap zs _ _ _ (by omega) (by omega) hD1).mono ?_
  rintro e w2 ⟨v, rfl, a2, b2, hD2, hG2⟩
  have hG := gtrans hG1 hG2
  by_cases v0 : v = 0
  · have hv0 := Lib.hid v0
    have H0 : (v == 0) = true := by simpa using v0
    clear v0
    have hadd : ∀ W, (Op.stringOp .add (s.extract 0 k.toNat) (s.extract (k + 1).toNat s.size)).run Tryz.prog W = .ok (.string (s.extract 0 k.toNat ++ s.extract (k + 1).toNat s.size)) W :=
      fun W => run_string_add_sum (P := Tryz.prog) W _ _ (by simp [ByteArray.size_extract]; omega)
    go_wp2
    go_quiet (fail)
    go_wp2
    go_ret
    exact ⟨_, _, rfl, by simp [ByteArray.size_extract]; omega, by omega, by omega, hD2.drewN _, grownBy_drewN hG _⟩
  have H0 : (v == 0) = false := by simpa using v0
  by_cases v1 : v = 1
  · have H1 : (v == 1) = true := by simpa using v1
    clear v0 v1
    go_wp2
    go_ret
    exact ⟨_, _, rfl, by simp [ByteArray.size_extract]; omega, by omega, by omega, hD2, hG⟩
  have H1 : (v == 1) = false := by simpa using v1
  by_cases v2 : v = 2
  · have H2 : (v == 2) = true := by simpa using v2
    clear v0 v1 v2
    go_wp2
    have c1 := fun (y : Int) (W : World) => conv_new [y] 1 W
    simp only [List.map, List.length] at c1
    have hadd : ∀ y W, (Op.stringOp .add (s.extract 0 k.toNat) (strOfNums [y])).run Tryz.prog W = .ok (.string (s.extract 0 k.toNat ++ strOfNums [y])) W :=
      fun y W => run_string_add_sum (P := Tryz.prog) W _ _ (by rw [strOfNums_size]; simp [ByteArray.size_extract]; omega)
    have hadd2 : ∀ y W, (Op.stringOp .add (s.extract 0 k.toNat ++ strOfNums [y]) (s.extract (k + 1).toNat s.size)).run Tryz.prog W = .ok (.string (s.extract 0 k.toNat ++ strOfNums [y] ++ s.extract (k + 1).toNat s.size)) W :=
      fun y W => run_string_add_sum (P := Tryz.prog) W _ _ (by rw [ByteArray.size_append, strOfNums_size]; simp [ByteArray.size_extract]; omega)
    have hk0 : 0 ≤ k + 1 := by omega
    have hk1 : k + 1 ≤ (s.size : Int) := by omega
    have hsl : ∀ W, (Instr.slice 9 (.string s) (some (.int .i64 (k + 1))) none none).run Tryz.prog W = .ok (.string (s.extract (k + 1).toNat s.size)) W := by
      intro W
      simp [Instr.slice, Instr.sliceBounds, Instr.sliceBound, asIntOf, run_underlying Tryz.underlying9, hk0, hk1]
    have hwr : IntKind.i64.wrap (k + 1) = k + 1 := IntWalk.i64_in _ (by omega)
    go_region_with (go_at_call 72; go_must (refine (pick_any B a len cap zs (p + 1 + 1) 256 _ (by omega) (by omega) (by exact ⟨hD2.held, hD2.row, hD2.byt, hD2.len⟩)).mono ?_); go_must (rintro e w3 ⟨y, rfl, a3, b3, hD3, hG3⟩))
    all_goals clear hwr hadd hadd2 c1 hsl
    all_goals go_wp2
    all_goals go_ret
    all_goals exact ⟨_, p + 1 + 1 + 1, rfl, by rw [ByteArray.size_append, ByteArray.size_append, strOfNums_size]; simp [ByteArray.size_extract]; omega, by omega, by omega, hD3.alloc _, gtrans (gtrans (grownBy_drew hG) hG3) (World.grownBy_alloc _ _ _)⟩
  have H2 : (v == 2) = false := by simpa using v2
  clear v0 v1 v2
  go_wp2_with fail
  refine (pick_any B a len cap zs _ _ _ (by omega) (by omega) hD2).mono ?_
  rintro e w3 ⟨y, rfl, a3, b3, hD3, hG3⟩
  have c1 := fun (W : World) => conv_new [y] 1 W
  simp only [List.map, List.length] at c1
  have hadd : ∀ W, (Op.stringOp .add s (strOfNums [y])).run Tryz.prog W = .ok (.string (s ++ strOfNums [y])) W :=
    fun W => run_string_add_sum (P := Tryz.prog) W _ _ (by rw [strOfNums_size]; simp; omega)
  go_wp2
  go_ret
  exact ⟨_, _, rfl, by rw [ByteArray.size_append, strOfNums_size]; simp, by omega, by omega, hD3.alloc _, gtrans (gtrans hG hG3) (World.grownBy_alloc _ _ _)⟩
set_option maxHeartbeats 800000 in
theorem l91Seldom_any (B : Nat) (a : Option Addr) (len cap : Nat) (zs : List Int) (p : Nat) (s : ByteArray) (w : World) (hs : s.size ≤ 1000000) (hp : p ≤ 700000000) (hD0 : Dw B a len cap zs w p) :
    Calls Tryz.prog 152 #[.pointer (some ⟨B, 0, none⟩), .string s] w (StrR B a len cap zs p 4 (s.size + 5) w) := by
  go_enter Tryz.func152, Tryz.ntmps152
  go_wp2_with fail
  refine (pick_any B a len cap zs _ 6 _ (by omega) (by omega) hD0).mono ?_
  rintro e w1 ⟨k, rfl, a1, b1, hD1, hG1⟩
  by_cases k0 : k = 0
  · have H0 : (k == 0) = true := by simpa using k0
    clear k0
    go_wp2_with fail
    refine (l91Spoil_any B a len cap zs _ s _ hs (by omega) hD1).mono ?_
    rintro e w2 ⟨t, q, rfl, ht, q0, q1, hD2, hG2⟩
    go_wp2
    go_ret
    exact ⟨t, q, rfl, ht, by omega, by omega, hD2, gtrans hG1 hG2⟩
  · have H0 : (k == 0) = false := by simpa using k0
    clear k0
    go_wp2
    go_ret
    exact ⟨s, _, rfl, by omega, by omega, by omega, hD1, hG1⟩
set_option maxRecDepth 100000 in
set_option maxHeartbeats 1600000 in
theorem l91Bytes_any (B : Nat) (a : Option Addr) (len cap : Nat) (zs : List Int) (p : Nat) (w : World) (hp : p ≤ 800000000) (hD0 : Dw B a len cap zs w p) :
    Calls Tryz.prog 151 #[.pointer (some ⟨B, 0, none⟩)] w (StrR B a len cap zs p 40 30 w) := by
  obtain ⟨i0, hi, hz0, hz1, hz2⟩ := info_parts info_u8
  have hBw := hD0.lt
  go_enter Tryz.func151, Tryz.ntmps151
  go_wp2_with fail
  refine (pick_any B a len cap zs _ 30 _ (by omega) (by omega) hD0).mono ?_
  rintro e w1 ⟨v1, rfl, a1, b1, hD1, hG1⟩
  go_wp2_with fail
  have hD2 := hD1.alloc (.cells (([0, 1, 2, 4, 7, v1] : List Int).map (Value.int .i64)).toArray 3)
  refine (pick_any B a len cap zs _ 6 _ (by omega) (by omega) hD2).mono ?_
  rintro e w3 ⟨v3, rfl, a3, b3, hD3, hG3⟩
  have hne : w1.heap.size ≠ B := by have := hD1.lt; omega
  have hcell : ∀ k, k < 6 → w3.cell? ⟨w1.heap.size, k, none⟩ = some (.int .i64 (([0, 1, 2, 4, 7, v1] : List Int).getD k 0)) :=
    fun k hk => hG3.cell (lit_cell _ _ _ _ hk) (by simpa using hne)
  have hbd := getD_bd ([0, 1, 2, 4, 7, v1] : List Int) 0 29 (by simp; omega)
  obtain ⟨k, rfl⟩ := Int.eq_ofNat_of_zero_le a3
  have hc := hcell k (by omega)
  have hb := hbd k (by simp; omega)
  generalize ([0, 1, 2, 4, 7, v1] : List Int).getD k 0 = n at hc hb
  obtain ⟨n0, n1⟩ := hb
  have hG := gtrans (gtrans hG1 (World.grownBy_alloc _ (.cells (([0, 1, 2, 4, 7, v1] : List Int).map (Value.int .i64)).toArray 3) _)) hG3
  clear hcell hbd hG1 hG3 hD0 hD1 hD2
  go_wp2
  go_loopw [4, 5] (fun v i wr => ∃ (j : Nat) (xs : List Int) (q : Nat), (j : Int) ≤ n ∧ i = .int .i64 (j : Int) ∧ xs.length = j ∧ wr.ownsRow w.heap.size 5 1 v j (xs.map (Value.int .u8)) ∧ Dw B a len cap zs wr q ∧ q ≤ p + 2 + j ∧ p ≤ q ∧ w.grownBy wr (some B))
    (fun _ i _ => (n - intOf i).toNat)
  case atStart => exact ⟨0, [], _, n0, rfl, rfl, World.ownsRow_made _ _ _ (by have := hG.size; simpa using this) (by decide) rfl, hD3.alloc _, by omega, by omega, gtrans hG (World.grownBy_alloc _ _ _)⟩
  case round =>
    obtain ⟨j, xs, q, hj, rfl, hl, hown, hD, q1, q0, hGr⟩ := hrel
    by_cases hlt : (j : Int) < n
    · go_wp2_with fail
      refine (pick_any B a len cap zs _ 256 _ (by omega) (by omega) hD).mono ?_
      rintro e w4 ⟨y, rfl, a4, b4, hD4, hG4⟩
      have hown4 := hown.kept hG4 (own_ne hown hBw)
      clear hown
      go_wp2_with (at_builtin; refine wpList_append_own _ rfl _ _ 22 rfl w.heap.size 5 i0 (.int .u8 0) 1 1 Tryz.underlying22 hi hz0 hz1 hz2 rfl (by decide) _ _ _ rfl (hown4.alloc _) ⟨w4.heap.size, 0, none⟩ 1 1 [.int .u8 y] rfl rfl ?c1 ?c2 ?c3 ?c4 ?c5 ?_)
      case c1 =>
        intro j' u hj'
        match j', hj' with
        | 0, hj' => simp at hj'; subst hj'; simp [Addr.add]
      case c2 => intro u hu; simp at hu; subst hu; rfl
      case c3 => unfold maxLen; omega
      case c4 => omega
      case c5 => have := hGr.size; have := hG4.size; simp; omega
      intro v' w5 hown5 hgrow _
      have hD5 : Dw B a len cap zs w5 (q + 1) := (hD4.alloc _).of fun k hk => hgrow.block k (by have := hD4.lt; simp; omega) (fun e => by have := (hown4.lt _ e.symm).1; omega)
      have hG5 := gtrans_own (gtrans (gtrans hGr hG4) (World.grownBy_alloc _ _ _)) hgrow (fun j he => (hown4.lt _ he).1)
      clear hown4 hgrow hGr hG4 hD hD4
      go_wp2
      go_roundw
      case rel => exact ⟨j + 1, xs ++ [y], q + 1, by omega, by simp, by simp [hl], by simpa using hown5, hD5, by omega, by omega, hG5⟩
      case measure => simp [intOf]; omega
    · have hcv := own_string hown hl
      go_wp2
      go_ret
      exact ⟨_, q, rfl, by rw [strOfNums_size]; omega, q0, by omega, hD, hGr⟩

/-- Drawing a string out of a code. -/
def DrawStr (L : Nat) (w : World) (e : Ending) (w' : World) : Prop := ∃ s : ByteArray, e = .returned (.string s) ∧ s.size ≤ L ∧ Below w.heap.size w w'


end Go.Proofs.YtoocibabceeagabGreat
