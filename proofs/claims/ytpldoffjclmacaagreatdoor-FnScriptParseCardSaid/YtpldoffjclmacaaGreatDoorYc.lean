/-
  Contracts of scripts: numbers, ScriptBytes; of the program.
-/
import Derived.Test.YtpldoffjclmacaaGreatDoorYb
import Derived.Test.YtpldoffjclmacaaGreatDoorOf
import Derived.Test.YtpldoffjclmacaaGreatDoorBe
import Derived.Handy
import Derived.LoopN
namespace Go.Proofs.YtpldoffjclmacaaGreatDoor
open Go.RowKit

theorem En.bytes_bdY (n : Int) (h0 : 0 ≤ n) (h1 : n ≤ 4294967295) : ∀ x ∈ En.bytes n, 0 ≤ x ∧ x < 256 := by
  unfold En.bytes
  split
  · intro x hx; simp at hx; omega
  · split
    · intro x hx; simp at hx; omega
    · intro x hx; simp at hx; omega
theorem bd_lt {B b : Nat} {bs : List Value} {w : World} (h : IsBd B b bs w) : b < w.heap.size := by
  rcases h with h | h
  · exact h.lt
  · exact h.lt
theorem En.cells_numY (n : Int) (h0 : 0 ≤ n) (h1 : n ≤ 4294967295) : (En.bytes n).map (Value.int .u8) = Lib.strCells (En.num n) := by
  unfold Lib.strCells En.num
  rw [strOfNums_data, List.map_map]
  refine List.map_congr_left fun x hx => ?_
  have hb := En.bytes_bdY n h0 h1 x hx
  simp only [Function.comp_apply]
  rw [En.u8 hb.1 hb.2]
theorem En.cells_appendY (s t : ByteArray) : Lib.strCells (s ++ t) = Lib.strCells s ++ Lib.strCells t := by
  unfold Lib.strCells
  rw [ByteArray.data_append, Array.toList_append, List.map_append]
theorem new_cellsY (w : World) (vs : List Value) (t : TypeId) (B : Nat) (hB : B = w.heap.size) : ∀ j u, vs[j]? = some u → (w.alloc (.cells vs.toArray t)).cell? ((⟨B, 0, none⟩ : Addr).add j) = some u := by
  subst hB
  intro j u hj
  have hadr : (⟨w.heap.size, 0, none⟩ : Addr).add j = ⟨w.heap.size, j, none⟩ := by unfold Addr.add; split <;> simp_all
  rw [hadr]
  exact (World.cell?_alloc_mark w vs.toArray t (0, 0) j).trans (by simpa using hj)
theorem En.bytes_lenY (n : Int) : (En.bytes n).length ≤ 5 := by
  unfold En.bytes
  split
  · simp
  · split
    · simp
    · simp
theorem strCells_one (q : Int) (h0 : 0 ≤ q) (h1 : q < 256) : Lib.strCells (strOfNums [q]) = [.int .u8 q] := by
  unfold Lib.strCells
  rw [strOfNums_data]
  simp only [List.map_cons, List.map_nil]
  rw [En.u8 h0 h1]
/-- What numbers hands back for a code. -/
def NumsR (D : Nat) (w : World) (c : Int) (e : Ending) (w' : World) : Prop :=
  (∃ g, e = .returned (.slice (some ⟨g, 0, none⟩) 2 2) ∧ c = 12 ∧ w'.cell? ⟨g, 0, none⟩ = some (.pointer (some ⟨D, 1, none⟩)) ∧ w'.cell? ⟨g, 1, none⟩ = some (.pointer (some ⟨D, 2, none⟩)) ∧ g < w'.heap.size ∧ w.heap.size ≤ g ∧ Below w.heap.size w w' ∧ w'.heap[g]? = some (.cells #[.pointer (some ⟨D, 1, none⟩), .pointer (some ⟨D, 2, none⟩)] 67 (0, 0))) ∨
  (∃ g, e = .returned (.slice (some ⟨g, 0, none⟩) 1 1) ∧ (c = 13 ∨ c = 14) ∧ w'.cell? ⟨g, 0, none⟩ = some (.pointer (some ⟨D, 1, none⟩)) ∧ g < w'.heap.size ∧ w.heap.size ≤ g ∧ Below w.heap.size w w' ∧ w'.heap[g]? = some (.cells #[.pointer (some ⟨D, 1, none⟩)] 67 (0, 0))) ∨
  (e = .returned (.slice none 0 0) ∧ c ≠ 12 ∧ c ≠ 13 ∧ c ≠ 14 ∧ w' = w)
set_option maxRecDepth 100000 in
set_option maxHeartbeats 3200000 in
theorem numbers_any (D : Nat) (c : Int) (w : World) (hc : w.cell? ⟨D, 0, none⟩ = some (.int .i64 c)) :
    Calls Tryz.prog 35 #[.pointer (some ⟨D, 0, none⟩)] w (NumsR D w c) := by
  by_cases h12 : c = 12
  · subst h12
    have hcd : w.drew.cell? ⟨D, 0, none⟩ = some (.int .i64 12) := hc
    go_enter Tryz.func35, Tryz.ntmps35
    go_wp2
    go_region
    go_wp2
    go_ret
    exact .inl ⟨w.heap.size, rfl, rfl, (World.cell?_alloc_mark w #[.pointer (some ⟨D, 1, none⟩), .pointer (some ⟨D, 2, none⟩)] 67 (0, 0) 0).trans rfl, (World.cell?_alloc_mark w #[.pointer (some ⟨D, 1, none⟩), .pointer (some ⟨D, 2, none⟩)] 67 (0, 0) 1).trans rfl, by simp [World.drew], Nat.le_refl _, ((Below.refl _ _).drew).alloc (Nat.le_refl _) _, heap_alloc_new w.drew _⟩
  have q12 : (c == 12) = false := by simpa using h12
  by_cases h13 : c = 13
  · subst h13
    go_enter Tryz.func35, Tryz.ntmps35
    go_wp2
    go_ret
    exact .inr (.inl ⟨w.heap.size, rfl, .inl rfl, by simp, by simp, Nat.le_refl _, (Below.refl _ _).alloc (Nat.le_refl _) _, heap_alloc_new w _⟩)
  have q13 : (c == 13) = false := by simpa using h13
  by_cases h14 : c = 14
  · subst h14
    go_enter Tryz.func35, Tryz.ntmps35
    go_wp2
    go_ret
    exact .inr (.inl ⟨w.heap.size, rfl, .inr rfl, by simp, by simp, Nat.le_refl _, (Below.refl _ _).alloc (Nat.le_refl _) _, heap_alloc_new w _⟩)
  have q14 : (c == 14) = false := by simpa using h14
  go_enter Tryz.func35, Tryz.ntmps35
  go_wp2
  go_ret
  exact .inr (.inr ⟨rfl, h12, h13, h14, rfl⟩)
theorem numbers_none (D : Nat) (c : Int) (w : World) (hc : w.cell? ⟨D, 0, none⟩ = some (.int .i64 c)) (h12 : c ≠ 12) (h13 : c ≠ 13) (h14 : c ≠ 14) :
    Calls Tryz.prog 35 #[.pointer (some ⟨D, 0, none⟩)] w fun e w' => e = .returned (.slice none 0 0) ∧ w' = w :=
  (numbers_any D c w hc).mono fun e w' h => by
    rcases h with ⟨g, _, h, _⟩ | ⟨g, _, h, _⟩ | ⟨he, _, _, _, hw⟩
    · exact absurd h h12
    · rcases h with h | h
      · exact absurd h h13
      · exact absurd h h14
    · exact ⟨he, hw⟩
theorem numbers_one (D : Nat) (c : Int) (w : World) (hc : w.cell? ⟨D, 0, none⟩ = some (.int .i64 c)) (h1 : c = 13 ∨ c = 14) :
    Calls Tryz.prog 35 #[.pointer (some ⟨D, 0, none⟩)] w fun e w' => ∃ g, e = .returned (.slice (some ⟨g, 0, none⟩) 1 1) ∧ Bk g 67 #[.pointer (some ⟨D, 1, none⟩)] w' ∧ w.heap.size ≤ g ∧ Below w.heap.size w w' :=
  (numbers_any D c w hc).mono fun e w' h => by
    rcases h with ⟨g, _, h, _⟩ | ⟨g, he, _, _, _, hl, hb, hh⟩ | ⟨he, _, h13, h14, hw⟩
    · omega
    · exact ⟨g, he, ⟨hh⟩, hl, hb⟩
    · omega
theorem numbers_two (D : Nat) (w : World) (hc : w.cell? ⟨D, 0, none⟩ = some (.int .i64 12)) :
    Calls Tryz.prog 35 #[.pointer (some ⟨D, 0, none⟩)] w fun e w' => ∃ g, e = .returned (.slice (some ⟨g, 0, none⟩) 2 2) ∧ Bk g 67 #[.pointer (some ⟨D, 1, none⟩), .pointer (some ⟨D, 2, none⟩)] w' ∧ w.heap.size ≤ g ∧ Below w.heap.size w w' :=
  (numbers_any D 12 w hc).mono fun e w' h => by
    rcases h with ⟨g, he, _, _, _, _, hl, hb, hh⟩ | ⟨g, _, h, _⟩ | ⟨he, h12, _⟩
    · exact ⟨g, he, ⟨hh⟩, hl, hb⟩
    · omega
    · exact absurd rfl h12
theorem Bk.keep {D : Nat} {t : TypeId} {cs : Array Value} {w w' : World} {b : Nat} (h : Bk D t cs w) (hk : BdKeep b w w') (hb : D ≠ b) (ht : t ≠ 5) : Bk D t cs w' := ⟨hk D cs t (0, 0) hb ht h.held⟩
end Go.Proofs.YtpldoffjclmacaaGreatDoor
