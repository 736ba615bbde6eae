/-
  Parts between marks as the library cuts them; Split, SplitN.
-/
import Derived.Test.YtpldoffjclmacaaGreatDoorPb
import Derived.Test.YtpldoffjclmacaaGreatDoorOw
import Derived.Test.YtpldoffjclmacaaGreatDoorShelf
import Derived.Lib.Split
import Derived.Lib.SplitLaws
import Derived.Lib.IndexBytes
import Derived.Below
namespace Go.Proofs.YtpldoffjclmacaaGreatDoor
open Go.RowKit

theorem spK_zero (c : UInt8) (l : List UInt8) : Lib.splitK [c] 0 0 l = [l] := rfl
theorem spK_nil (c : UInt8) (k : Nat) : Lib.splitK [c] 0 k [] = [[]] := by
  cases k with
  | zero => rfl
  | succ k => unfold Lib.splitK; rw [if_pos (by rfl)]
theorem spK_eq (c : UInt8) (k : Nat) (l : List UInt8) : Lib.splitK [c] 0 (k + 1) (c :: l) = [] :: Lib.splitK [c] 0 k l := by
  have h : Lib.index (c :: l) [c] = 0 := by rw [Lib.index_one]; unfold Lib.indexByte; simp
  rw [Lib.splitK, h, if_neg (by decide)]
  rfl
theorem spK_ne (c b : UInt8) (k : Nat) (l : List UInt8) (h : b ≠ c) : Lib.splitK [c] 0 k (b :: l) = match Lib.splitK [c] 0 k l with
    | [] => []
    | p :: ps => (b :: p) :: ps := by
  cases k with
  | zero => rfl
  | succ k =>
    have hb : (b == c) = false := by simpa using h
    have hi : Lib.index (b :: l) [c] = if Lib.index l [c] == -1 then -1 else Lib.index l [c] + 1 := by
      rw [Lib.index_one, Lib.index_one]
      conv => lhs; unfold Lib.indexByte
      rw [hb]; rfl
    have hge : -1 ≤ Lib.index l [c] := by rw [Lib.index_one]; exact Lib.indexByte_ge l c
    rw [Lib.splitK, hi, Lib.splitK]
    by_cases hm : Lib.index l [c] = -1
    · rw [hm]
      simp
    · have hm1 : (Lib.index l [c] == -1) = false := by simpa using hm
      have hm2 : (Lib.index l [c] + 1 == -1) = false := by simp; omega
      obtain ⟨n, hn⟩ := Int.eq_ofNat_of_zero_le (show 0 ≤ Lib.index l [c] by omega)
      rw [hm1]
      simp only [hm2, Bool.false_eq_true, if_false]
      rw [hn]
      have e : ((n : Int) + 1).toNat = n + 1 := by omega
      rw [e, Int.toNat_natCast]
      simp [List.take_succ_cons, List.drop_succ_cons]
theorem spK_ne_nil (c : UInt8) (k : Nat) (l : List UInt8) : ∃ p ps, Lib.splitK [c] 0 k l = p :: ps := by
  cases k with
  | zero => exact ⟨_, _, rfl⟩
  | succ k =>
    unfold Lib.splitK
    split
    · exact ⟨_, _, rfl⟩
    · exact ⟨_, _, rfl⟩
/-- The bytes as numbers. -/
def Jo.N (l : List UInt8) : List Int := l.map fun c => (c.toNat : Int)
theorem spK_all (c : UInt8) (l : List UInt8) : ∀ k, l.count c ≤ k → (Lib.splitK [c] 0 k l).map Jo.N = Jo.split (c.toNat : Int) (Jo.N l) := by
  induction l with
  | nil => intro k _; rw [spK_nil]; rfl
  | cons b l ih =>
    intro k hk
    by_cases h : b = c
    · subst h
      rw [List.count_cons_self] at hk
      obtain ⟨k, rfl⟩ : ∃ j, k = j + 1 := ⟨k - 1, by omega⟩
      rw [spK_eq, List.map_cons, ih k (by omega)]
      show _ = Jo.split (b.toNat : Int) ((b.toNat : Int) :: Jo.N l)
      conv => rhs; unfold Jo.split
      rw [if_pos rfl]; rfl
    · rw [List.count_cons_of_ne h] at hk
      have hi := ih k hk
      have hne : ¬ ((b.toNat : Int) = (c.toNat : Int)) := fun e => h (UInt8.toNat_inj.1 (by omega))
      rw [spK_ne c b k l h]
      obtain ⟨p, ps, hp⟩ := spK_ne_nil c k l
      rw [hp] at hi ⊢
      show (Jo.N (b :: p)) :: ps.map Jo.N = Jo.split (c.toNat : Int) ((b.toNat : Int) :: Jo.N l)
      conv => rhs; unfold Jo.split
      rw [if_neg hne, ← hi]
      rfl
theorem spK_len (c : UInt8) (l : List UInt8) : ∀ k, k ≤ l.count c → (Lib.splitK [c] 0 k l).length = k + 1 := by
  induction l with
  | nil => intro k hk; rw [spK_nil]; simp at hk; subst hk; rfl
  | cons b l ih =>
    intro k hk
    by_cases h : b = c
    · subst h
      rw [List.count_cons_self] at hk
      cases k with
      | zero => rfl
      | succ k => rw [spK_eq, List.length_cons, ih k (by omega)]
    · rw [List.count_cons_of_ne h] at hk
      have hi := ih k hk
      rw [spK_ne c b k l h]
      obtain ⟨p, ps, hp⟩ := spK_ne_nil c k l
      rw [hp] at hi ⊢
      exact hi
theorem split_count (c : UInt8) (l : List UInt8) : (Jo.split (c.toNat : Int) (Jo.N l)).length = l.count c + 1 := by
  rw [← spK_all c l _ (Nat.le_refl _), List.length_map, spK_len c l _ (Nat.le_refl _)]
theorem spB_all (c : UInt8) (s : ByteArray) (k : Nat) (h : s.data.toList.count c ≤ k) : (Lib.splitB ⟨#[c]⟩ 0 k s).map Jo.L = Jo.split (c.toNat : Int) (Jo.L s) := by
  have h1 := Lib.splitB_data ⟨#[c]⟩ 0 k s
  have h2 := spK_all c s.data.toList k h
  show _ = Jo.split (c.toNat : Int) (Jo.N s.data.toList)
  rw [← h2, show Lib.splitK [c] 0 k s.data.toList = _ from h1.symm, List.map_map]
  rfl
theorem spB_len (c : UInt8) (s : ByteArray) (k : Nat) (h : k ≤ s.data.toList.count c) : (Lib.splitB ⟨#[c]⟩ 0 k s).length = k + 1 := by
  have h1 := congrArg List.length (Lib.splitB_data ⟨#[c]⟩ 0 k s)
  rw [List.length_map] at h1
  rw [h1]
  exact spK_len c s.data.toList k h
theorem count_size (c : UInt8) (s : ByteArray) : s.data.toList.count c ≤ s.size := by
  have := List.count_le_length (a := c) (l := s.data.toList)
  rw [Array.length_toList] at this
  exact this
/-- Words in a block. -/
def SB (w : World) (g n : Nat) (ss : List ByteArray) : Prop := ss.length = n ∧ g < w.heap.size ∧ ∀ j, j < n → w.cell? ⟨g, j, none⟩ = some (.string (ss.getD j ByteArray.empty))
theorem SB.below {w w' : World} {g n : Nat} {ss : List ByteArray} (h : SB w g n ss) (hb : Below w.heap.size w w') : SB w' g n ss :=
  ⟨h.1, Nat.lt_of_lt_of_le h.2.1 hb.size, fun j hj => (World.cell?_of_block (w := w) (a := ⟨g, j, none⟩) (hb.block g h.2.1)).trans (h.2.2 j hj)⟩
theorem SB.alloc {w : World} {g n : Nat} {ss : List ByteArray} (h : SB w g n ss) (o : Obj) : SB (w.alloc o) g n ss := h.below ((Below.refl _ _).alloc (Nat.le_refl _) o)
theorem SB.new (w : World) (ss : List ByteArray) (cs : Array Value) (hc : ∀ j, j < ss.length → cs[j]? = some (.string (ss.getD j ByteArray.empty))) : SB (w.alloc (.cells cs 9)) w.heap.size ss.length ss :=
  ⟨rfl, by simp, fun j hj => (World.cell?_alloc_mark w cs 9 (0, 0) j).trans (hc j hj)⟩
/-- What the cut of a text into words hands back. -/
def JoCut (s : ByteArray) (w : World) (e : Ending) (w' : World) : Prop :=
  ∃ (n cap : Nat) (ss : List ByteArray), e = .returned (.slice (some ⟨w.heap.size, 0, none⟩) n cap) ∧ n ≤ cap ∧ cap ≤ 41 ∧ SB w' w.heap.size n ss ∧ Below w.heap.size w w' ∧ w.heap.size < w'.heap.size ∧ 1 ≤ n ∧ (∀ p ∈ ss, p.size ≤ s.size) ∧
    (((Jo.split 32 (Jo.L s)).length ≤ 40 ∧ ss.map Jo.L = Jo.split 32 (Jo.L s)) ∨ (40 < (Jo.split 32 (Jo.L s)).length ∧ n = 41))
theorem spB_size (c : UInt8) : ∀ (k : Nat) (s : ByteArray), ∀ p ∈ Lib.splitB ⟨#[c]⟩ 0 k s, p.size ≤ s.size
  | 0, s => fun p hp => by rw [Lib.splitB_zero] at hp; simp at hp; subst hp; exact Nat.le_refl _
  | k + 1, s => fun p hp => by
    unfold Lib.splitB at hp
    split at hp
    · simp at hp; subst hp; exact Nat.le_refl _
    · rcases List.mem_cons.1 hp with h | h
      · rw [h, ByteArray.size_extract]; omega
      · have := spB_size c k _ p h
        rw [ByteArray.size_extract] at this
        omega
theorem getD_str (ss : List ByteArray) (j : Nat) (h : j < ss.length) : (ss.map Value.string)[j]? = some (.string (ss.getD j ByteArray.empty)) := by
  rw [List.getElem?_map, List.getElem?_eq_getElem h, List.getD_eq_getElem?_getD, List.getElem?_eq_getElem h]
  rfl
theorem cut_any (s : ByteArray) (m : Int) (w : World) (hs : s.size ≤ 1048576) (hm : w.cell? ⟨2, 0, none⟩ = some (.int .i64 m)) :
    Calls Tryz.prog 45 #[.string s, .string ⟨#[32]⟩, .int .i64 41] w (JoCut s w) := by
  refine (Tryz.strings_SplitN s ⟨#[32]⟩ 41 m w (by omega) hm (by decide) (by decide) (by decide)).mono ?_
  rintro e w' ⟨he, hw⟩
  have hsz := count_size 32 s
  have hsp := split_count 32 s.data.toList
  have hll : (Jo.split 32 (Jo.L s)).length = s.data.toList.count 32 + 1 := hsp
  have hlen := Lib.splitB_length_le ⟨#[32]⟩ 0 (min 41 (s.size + 1) - 1) s
  have hpos : 1 ≤ (Lib.splitB ⟨#[32]⟩ 0 (min 41 (s.size + 1) - 1) s).length := by
    have h1 := congrArg List.length (Lib.splitB_data ⟨#[32]⟩ 0 (min 41 (s.size + 1) - 1) s)
    obtain ⟨p, ps, hp⟩ := spK_ne_nil 32 (min 41 (s.size + 1) - 1) s.data.toList
    rw [List.length_map, show (⟨#[32]⟩ : ByteArray).data.toList = [32] from rfl, hp, List.length_cons] at h1
    omega
  refine ⟨_, _, Lib.splitB ⟨#[32]⟩ 0 (min 41 (s.size + 1) - 1) s, he, by omega, by omega, ?_, ?_, ?_, hpos, spB_size 32 _ s, ?_⟩
  · rw [hw]
    refine SB.new w _ _ fun j hj => ?_
    unfold Lib.cellsOf
    rw [List.getElem?_toArray, List.getElem?_append_left (by simpa using hj)]
    exact getD_str _ j hj
  · rw [hw]; exact (Below.refl _ _).alloc (Nat.le_refl _) _
  · rw [hw]; simp
  · by_cases h40 : (Jo.split 32 (Jo.L s)).length ≤ 40
    · exact .inl ⟨h40, spB_all 32 s _ (by omega)⟩
    · exact .inr ⟨by omega, by rw [show min 41 (s.size + 1) - 1 = 40 by omega, spB_len 32 s 40 (by omega)]⟩
/-- What the cut of a word into parts hands back. -/
def JoPt (s : ByteArray) (w : World) (e : Ending) (w' : World) : Prop :=
  ∃ (n : Nat) (ss : List ByteArray), e = .returned (.slice (some ⟨w.heap.size, 0, none⟩) n n) ∧ n ≤ s.size + 1 ∧ SB w' w.heap.size n ss ∧ Below w.heap.size w w' ∧ w.heap.size < w'.heap.size ∧ 1 ≤ n ∧ ss.map Jo.L = Jo.split 58 (Jo.L s) ∧ ∀ p ∈ ss, p.size ≤ s.size
theorem parts_any (s : ByteArray) (m : Int) (w : World) (hs : s.size ≤ 1048576) (hm : w.cell? ⟨2, 0, none⟩ = some (.int .i64 m)) :
    Calls Tryz.prog 68 #[.string s, .string ⟨#[58]⟩] w (JoPt s w) := by
  refine (Tryz.strings_Split s ⟨#[58]⟩ m w (by omega) hm (by decide)).mono ?_
  rintro e w' ⟨he, hw⟩
  have hc : Lib.countB s ⟨#[58]⟩ = s.data.toList.count 58 := Lib.count_one 58 s.data.toList
  have hsz := count_size 58 s
  rw [hc] at he hw
  have hl := spB_len 58 s _ (Nat.le_refl (s.data.toList.count 58))
  refine ⟨_, Lib.splitB ⟨#[58]⟩ 0 (s.data.toList.count 58) s, he, by omega, ?_, ?_, ?_, by omega, spB_all 58 s _ (Nat.le_refl _), spB_size 58 _ s⟩
  · rw [hw, ← hl]
    refine SB.new w _ _ fun j hj => ?_
    rw [List.getElem?_toArray]
    exact getD_str _ j hj
  · rw [hw]; exact (Below.refl _ _).alloc (Nat.le_refl _) _
  · rw [hw]; simp
end Go.Proofs.YtpldoffjclmacaaGreatDoor
