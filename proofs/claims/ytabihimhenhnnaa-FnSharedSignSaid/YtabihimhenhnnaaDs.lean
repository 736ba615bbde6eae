/-
  Contracts of the model's drawing kit: strings.
-/
import Derived.Test.YtabihimhenhnnaaDr
import Derived.Test.YtabihimhenhnnaaNum
import Derived.Test.YtabihimhenhnnaaOw
import Derived.Deep.RegionWith
import Derived.Laws.Closers25b
import Derived.Outline
import Derived.OwnWalk
import Derived.Laws.OwnMore
namespace Go.Proofs.Ytabihimhenhnnaa
open Go.RowKit

theorem lit_cellV (vs : List Value) (t : TypeId) (W : World) (k : Nat) (v : Value) (hk : vs[k]? = some v) : (W.alloc (.cells vs.toArray t)).cell? ⟨W.heap.size, k, none⟩ = some v :=
  (World.cell?_alloc_mark W _ _ _ k).trans (by simpa using hk)
theorem grownBy_drew {w w' : World} {row : Option Nat} (h : w.grownBy w' row) : w.grownBy w'.drew row := ⟨h.os, h.tape, h.output, h.size, h.block⟩
/-- What a drawing function does that hands back a string: at most L bytes, and the place goes on by at most c. -/
def StrR (B : Nat) (a : Option Addr) (len cap : Nat) (zs : List Int) (p c : Nat) (L : Nat) (w : World) (e : Ending) (w' : World) : Prop :=
  ∃ (s : ByteArray) (q : Nat), e = .returned (.string s) ∧ s.size ≤ L ∧ p ≤ q ∧ q ≤ p + c ∧ Dw B a len cap zs w' q ∧ w.grownBy w' (some B)

set_option maxRecDepth 100000 in
set_option maxHeartbeats 800000 in
theorem l91Word_any (B : Nat) (a : Option Addr) (len cap : Nat) (zs : List Int) (p : Nat) (w : World) (hp : p ≤ 800000000) (hD0 : Dw B a len cap zs w p) :
    Calls Try.prog 29 #[.pointer (some ⟨B, 0, none⟩)] w (StrR B a len cap zs p 1 5 w) := by
  go_enter Try.func29, Try.ntmps29
  go_wp2_with fail
  have hD1 := hD0.alloc (.cells (([⟨#[]⟩, ⟨#[97]⟩, ⟨#[97, 98]⟩, ⟨#[99, 111, 105, 110]⟩, ⟨#[0]⟩, ⟨#[1]⟩, ⟨#[122, 122]⟩, ⟨#[104, 101, 108, 108, 111]⟩] : List ByteArray).map Value.string).toArray 9)
  refine (pick_any B a len cap zs _ 8 _ (by omega) (by omega) hD1).mono ?_
  rintro e w2 ⟨v, rfl, a2, b2, hD2, hG2⟩
  obtain ⟨k, rfl⟩ := Int.eq_ofNat_of_zero_le a2
  have hk : k < 8 := by omega
  have hne : w.heap.size ≠ B := by have := hD0.lt; omega
  obtain ⟨s, hs, hsz⟩ : ∃ s : ByteArray, ([⟨#[]⟩, ⟨#[97]⟩, ⟨#[97, 98]⟩, ⟨#[99, 111, 105, 110]⟩, ⟨#[0]⟩, ⟨#[1]⟩, ⟨#[122, 122]⟩, ⟨#[104, 101, 108, 108, 111]⟩] : List ByteArray)[k]? = some s ∧ s.size ≤ 5 := by
    match k, hk with
    | 0, _ => exact ⟨_, rfl, by decide⟩
    | 1, _ => exact ⟨_, rfl, by decide⟩
    | 2, _ => exact ⟨_, rfl, by decide⟩
    | 3, _ => exact ⟨_, rfl, by decide⟩
    | 4, _ => exact ⟨_, rfl, by decide⟩
    | 5, _ => exact ⟨_, rfl, by decide⟩
    | 6, _ => exact ⟨_, rfl, by decide⟩
    | 7, _ => exact ⟨_, rfl, by decide⟩
  have hc : w2.cell? ⟨w.heap.size, k, none⟩ = some (.string s) := hG2.cell (lit_cellV _ _ _ _ _ (by rw [List.getElem?_map, hs]; rfl)) (by simpa using hne)
  clear hs
  go_wp2
  go_ret
  exact ⟨s, _, rfl, hsz, by omega, by omega, hD2, gtrans (World.grownBy_alloc _ _ _) hG2⟩

/-- Drawing a string out of a code. -/
def DrawStr (L : Nat) (w : World) (e : Ending) (w' : World) : Prop := ∃ s : ByteArray, e = .returned (.string s) ∧ s.size ≤ L ∧ Below w.heap.size w w'


end Go.Proofs.Ytabihimhenhnnaa
