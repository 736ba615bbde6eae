/-
  Contracts of the model's drawing kit: strings.
-/
import Derived.Test.YtpldoffjclmacaaDoorDr
import Derived.Test.YtpldoffjclmacaaDoorNum
import Derived.Test.YtpldoffjclmacaaDoorOw
import Derived.Deep.RegionWith
import Derived.Laws.Closers25b
import Derived.Outline
import Derived.OwnWalk
import Derived.Laws.OwnMore
namespace Go.Proofs.YtpldoffjclmacaaDoor
open Go.RowKit

theorem lit_cellV (vs : List Value) (t : TypeId) (W : World) (k : Nat) (v : Value) (hk : vs[k]? = some v) : (W.alloc (.cells vs.toArray t)).cell? ⟨W.heap.size, k, none⟩ = some v :=
  (World.cell?_alloc_mark W _ _ _ k).trans (by simpa using hk)
theorem grownBy_drew {w w' : World} {row : Option Nat} (h : w.grownBy w' row) : w.grownBy w'.drew row := ⟨h.os, h.tape, h.output, h.size, h.block⟩
/-- What a drawing function does that hands back a string: at most L bytes, and the place goes on by at most c. -/
def StrR (B : Nat) (a : Option Addr) (len cap : Nat) (zs : List Int) (p c : Nat) (L : Nat) (w : World) (e : Ending) (w' : World) : Prop :=
  ∃ (s : ByteArray) (q : Nat), e = .returned (.string s) ∧ s.size ≤ L ∧ p ≤ q ∧ q ≤ p + c ∧ Dw B a len cap zs w' q ∧ w.grownBy w' (some B)

set_option maxRecDepth 100000 in
set_option maxHeartbeats 800000 in
theorem l91Word_any (B : Nat) (a : Option Addr) (len cap : Nat) (zs : List Int) (p : Nat) (w : World) (hp : p ≤ 800000000) (hD0 : Dw B a len cap zs w p) :
    Calls Tryd.prog 41 #[.pointer (some ⟨B, 0, none⟩)] w (StrR B a len cap zs p 1 5 w) := by
  go_enter Tryd.func41, Tryd.ntmps41
  go_wp2_with fail
  have hD1 := hD0.alloc (.cells (([⟨#[]⟩, ⟨#[97]⟩, ⟨#[97, 98]⟩, ⟨#[99, 111, 105, 110]⟩, ⟨#[0]⟩, ⟨#[1]⟩, ⟨#[122, 122]⟩, ⟨#[104, 101, 108, 108, 111]⟩] : List ByteArray).map Value.string).toArray 9)
  refine (pick_any B a len cap zs _ 8 _ (by omega) (by omega) hD1).mono ?_
  rintro e w2 ⟨v, rfl, a2, b2, hD2, hG2⟩
  obtain ⟨k, rfl⟩ := Int.eq_ofNat_of_zero_le a2
  have hk : k < 8 := by omega
  have hne : w.heap.size ≠ B := by have := hD0.lt; omega
  obtain ⟨s, hs, hsz⟩ : ∃ s : ByteArray, ([⟨#[]⟩, ⟨#[97]⟩, ⟨#[97, 98]⟩, ⟨#[99, 111, 105, 110]⟩, ⟨#[0]⟩, ⟨#[1]⟩, ⟨#[122, 122]⟩, ⟨#[104, 101, 108, 108, 111]⟩] : List ByteArray)[k]? = some s ∧ s.size ≤ 5 := by
    match k, hk with
    | 0, _ => exact ⟨_, rfl, by decide⟩
    | 1, _ => exact ⟨_, rfl, by decide⟩
    | 2, _ => exact ⟨_, rfl, by decide⟩
    | 3, _ => exact ⟨_, rfl, by decide⟩
    | 4, _ => exact ⟨_, rfl, by decide⟩
    | 5, _ => exact ⟨_, rfl, by decide⟩
    | 6, _ => exact ⟨_, rfl, by decide⟩
    | 7, _ => exact ⟨_, rfl, by decide⟩
  have hc : w2.cell? ⟨w.heap.size, k, none⟩ = some (.string s) := hG2.cell (lit_cellV _ _ _ _ _ (by rw [List.getElem?_map, hs]; rfl)) (by simpa using hne)
  clear hs
  go_wp2
  go_ret
  exact ⟨s, _, rfl, hsz, by omega, by omega, hD2, gtrans (World.grownBy_alloc _ _ _) hG2⟩
set_option maxRecDepth 100000 in
set_option maxHeartbeats 1600000 in
theorem l91Bytes_any (B : Nat) (a : Option Addr) (len cap : Nat) (zs : List Int) (p : Nat) (w : World) (hp : p ≤ 800000000) (hD0 : Dw B a len cap zs w p) :
    Calls Tryd.prog 45 #[.pointer (some ⟨B, 0, none⟩)] w (StrR B a len cap zs p 40 30 w) := by
  obtain ⟨i0, hi, hz0, hz1, hz2⟩ := info_parts info_u8
  have hBw := hD0.lt
  go_enter Tryd.func45, Tryd.ntmps45
  go_wp2_with fail
  refine (pick_any B a len cap zs _ 30 _ (by omega) (by omega) hD0).mono ?_
  rintro e w1 ⟨v1, rfl, a1, b1, hD1, hG1⟩
  go_wp2_with fail
  have hD2 := hD1.alloc (.cells (([0, 1, 2, 4, 7, v1] : List Int).map (Value.int .i64)).toArray 3)
  refine (pick_any B a len cap zs _ 6 _ (by omega) (by omega) hD2).mono ?_
  rintro e w3 ⟨v3, rfl, a3, b3, hD3, hG3⟩
  have hne : w1.heap.size ≠ B := by have := hD1.lt; omega
  have hcell : ∀ k, k < 6 → w3.cell? ⟨w1.heap.size, k, none⟩ = some (.int .i64 (([0, 1, 2, 4, 7, v1] : List Int).getD k 0)) :=
    fun k hk => hG3.cell (lit_cell _ _ _ _ hk) (by simpa using hne)
  have hbd := getD_bd ([0, 1, 2, 4, 7, v1] : List Int) 0 29 (by simp; omega)
  obtain ⟨k, rfl⟩ := Int.eq_ofNat_of_zero_le a3
  have hc := hcell k (by omega)
  have hb := hbd k (by simp; omega)
  generalize ([0, 1, 2, 4, 7, v1] : List Int).getD k 0 = n at hc hb
  obtain ⟨n0, n1⟩ := hb
  have hG := gtrans (gtrans hG1 (World.grownBy_alloc _ (.cells (([0, 1, 2, 4, 7, v1] : List Int).map (Value.int .i64)).toArray 3) _)) hG3
  clear hcell hbd hG1 hG3 hD0 hD1 hD2
  go_wp2
  go_loopw [4, 5] (fun v i wr => ∃ (j : Nat) (xs : List Int) (q : Nat), (j : Int) ≤ n ∧ i = .int .i64 (j : Int) ∧ xs.length = j ∧ wr.ownsRow w.heap.size 5 1 v j (xs.map (Value.int .u8)) ∧ Dw B a len cap zs wr q ∧ q ≤ p + 2 + j ∧ p ≤ q ∧ w.grownBy wr (some B))
    (fun _ i _ => (n - intOf i).toNat)
  case atStart => exact ⟨0, [], _, n0, rfl, rfl, World.ownsRow_made _ _ _ (by have := hG.size; simpa using this) (by decide) rfl, hD3.alloc _, by omega, by omega, gtrans hG (World.grownBy_alloc _ _ _)⟩
  case round =>
    obtain ⟨j, xs, q, hj, rfl, hl, hown, hD, q1, q0, hGr⟩ := hrel
    by_cases hlt : (j : Int) < n
    · go_wp2_with fail
      refine (pick_any B a len cap zs _ 256 _ (by omega) (by omega) hD).mono ?_
      rintro e w4 ⟨y, rfl, a4, b4, hD4, hG4⟩
      have hown4 := hown.kept hG4 (own_ne hown hBw)
      clear hown
      go_wp2_with (at_builtin; refine wpList_append_own _ rfl _ _ 22 rfl w.heap.size 5 i0 (.int .u8 0) 1 1 Tryd.underlying22 hi hz0 hz1 hz2 rfl (by decide) _ _ _ rfl (hown4.alloc _) ⟨w4.heap.size, 0, none⟩ 1 1 [.int .u8 y] rfl rfl ?c1 ?c2 ?c3 ?c4 ?c5 ?_)
      case c1 =>
        intro j' u hj'
        match j', hj' with
        | 0, hj' => simp at hj'; subst hj'; simp [Addr.add]
      case c2 => intro u hu; simp at hu; subst hu; rfl
      case c3 => unfold maxLen; omega
      case c4 => omega
      case c5 => have := hGr.size; have := hG4.size; simp; omega
      intro v' w5 hown5 hgrow _
      have hD5 : Dw B a len cap zs w5 (q + 1) := (hD4.alloc _).of fun k hk => hgrow.block k (by have := hD4.lt; simp; omega) (fun e => by have := (hown4.lt _ e.symm).1; omega)
      have hG5 := gtrans_own (gtrans (gtrans hGr hG4) (World.grownBy_alloc _ _ _)) hgrow (fun j he => (hown4.lt _ he).1)
      clear hown4 hgrow hGr hG4 hD hD4
      go_wp2
      go_roundw
      case rel => exact ⟨j + 1, xs ++ [y], q + 1, by omega, by simp, by simp [hl], by simpa using hown5, hD5, by omega, by omega, hG5⟩
      case measure => simp [intOf]; omega
    · have hcv := own_string hown hl
      go_wp2
      go_ret
      exact ⟨_, q, rfl, by rw [strOfNums_size]; omega, q0, by omega, hD, hGr⟩

/-- Drawing a string out of a code. -/
def DrawStr (L : Nat) (w : World) (e : Ending) (w' : World) : Prop := ∃ s : ByteArray, e = .returned (.string s) ∧ s.size ≤ L ∧ Below w.heap.size w w'


end Go.Proofs.YtpldoffjclmacaaDoor
