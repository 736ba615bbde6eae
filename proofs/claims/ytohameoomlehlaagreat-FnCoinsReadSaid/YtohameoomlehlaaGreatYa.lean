/-
  Contracts of scripts: SigItem, ItemSig; of the program; items and signatures back and forth.
-/
import Derived.Test.YtohameoomlehlaaGreatOg
import Derived.ChangeSame
import Derived.Deep.Strs
import Derived.Lib.SmallJoins
import Derived.OpenShut
import Derived.WideShapes
import Derived.Deep.RegionHeld3
import Derived.Deep.DeepMust
import Derived.Deep.QuietTactic
import Derived.BigQuiet
namespace Go.Proofs.YtohameoomlehlaaGreat
open Go.RowKit Go.Joins Go.WideShapes Go.ChangeShapes Go.Deep

theorem wp_meetY {P : Program} {c : Code} {Q : Exit → Act → World → Prop} {a : Act} {w : World} (F : World → Prop) (A : Act)
    (h1 : c.wp P (fun e a' w' => match e with | .normal => a' = A ∧ F w' | _ => False) a w) (h2 : ∀ w', F w' → Q .normal A w') : c.wp P Q a w :=
  Code.wp_mono (fun e a' w' h => by
    cases e <;> first | exact (h : False).elim | (obtain ⟨ha, hF⟩ := h; subst ha; exact h2 w' hF)) h1
/-- The bytes of a digest, or none. -/
def Jo.db (d : Int) : ByteArray := if Jo.isd d = true then Dg.bytes d else ⟨#[]⟩
theorem Jo.db_size (d : Int) : (Jo.db d).size = if Jo.isd d = true then 4 else 0 := by
  unfold Jo.db
  split
  · exact Dg.bytes_size d
  · rfl
theorem Jo.isd_iff (d : Int) : Jo.isd d = true ↔ 0 ≤ d ∧ d ≤ 4294967295 := by unfold Jo.isd; simp
theorem Jo.item_len (r s : Int) : (Jo.item r s).size = if Jo.isd r = true ∧ Jo.isd s = true then 8 else 0 := by
  unfold Jo.item
  split
  · rw [ByteArray.size_append, Dg.bytes_size, Dg.bytes_size]
  · rfl

/-- What ItemSig reads. -/
def Jo.sr (s : ByteArray) : Int := if s.size = 8 then Dg.num (s.extract 0 4) else 0
def Jo.ss (s : ByteArray) : Int := if s.size = 8 then Dg.num (s.extract 4 s.size) else 0
theorem bytes_cut4 (a b : ByteArray) (ha : a.size = 4) (hb : b.size = 4) : (a ++ b).extract 0 4 = a ∧ (a ++ b).extract 4 (a ++ b).size = b := by
  have h1 : (a ++ b).size = 8 := by rw [ByteArray.size_append]; omega
  refine ⟨?_, ?_⟩
  · apply ByteArray.ext
    apply Array.toList_inj.1
    rw [ByteArray.data_extract, Array.toList_extract, ByteArray.data_append, Array.toList_append, List.extract_eq_take_drop, List.drop_zero]
    rw [List.take_append_of_le_length (by rw [Array.length_toList]; exact Nat.le_of_eq ha.symm), List.take_of_length_le (by rw [Array.length_toList]; exact Nat.le_of_eq ha)]
  · apply ByteArray.ext
    apply Array.toList_inj.1
    rw [h1, ByteArray.data_extract, Array.toList_extract, ByteArray.data_append, Array.toList_append, List.extract_eq_take_drop]
    rw [List.drop_append_of_le_length (by rw [Array.length_toList]; exact Nat.le_of_eq ha.symm), List.drop_of_length_le (by rw [Array.length_toList]; exact Nat.le_of_eq ha), List.nil_append, List.take_of_length_le (by rw [Array.length_toList]; exact Nat.le_of_eq hb)]
theorem bytes_join4 (s : ByteArray) (h : s.size = 8) : s.extract 0 4 ++ s.extract 4 s.size = s := by
  apply ByteArray.ext
  apply Array.toList_inj.1
  rw [ByteArray.data_append, Array.toList_append, ByteArray.data_extract, ByteArray.data_extract, Array.toList_extract, Array.toList_extract, List.extract_eq_take_drop, List.extract_eq_take_drop, List.drop_zero, h]
  have hl : s.data.toList.length = 8 := by rw [Array.length_toList]; exact h
  rw [List.take_of_length_le (l := List.drop 4 _) (by rw [List.length_drop]; omega)]
  exact List.take_append_drop 4 _
/-- An item that is read is written in the same way. -/
theorem Jo.item_read {s : ByteArray} (h : s.size = 8) : Jo.item (Jo.sr s) (Jo.ss s) = s := by
  have h1 : (s.extract 0 4).size = 4 := by rw [ByteArray.size_extract]; omega
  have h2 : (s.extract 4 s.size).size = 4 := by rw [ByteArray.size_extract]; omega
  have b1 := Dg.num_bd (s.extract 0 4)
  have b2 := Dg.num_bd (s.extract 4 s.size)
  unfold Jo.sr Jo.ss
  rw [if_pos h, if_pos h]
  unfold Jo.item
  rw [if_pos ⟨(Jo.isd_iff _).2 (by omega), (Jo.isd_iff _).2 (by omega)⟩, Dg.bytes_num _ h1, Dg.bytes_num _ h2, bytes_join4 s h]
/-- An item that is written is read. -/
theorem Jo.read_item {r s : Int} (h : Jo.isd r = true ∧ Jo.isd s = true) : Jo.sr (Jo.item r s) = r ∧ Jo.ss (Jo.item r s) = s := by
  have hl := Jo.item_len r s
  rw [if_pos h] at hl
  obtain ⟨r0, r1⟩ := (Jo.isd_iff r).1 h.1
  obtain ⟨s0, s1⟩ := (Jo.isd_iff s).1 h.2
  have e : Jo.item r s = Dg.bytes r ++ Dg.bytes s := if_pos h
  obtain ⟨c1, c2⟩ := bytes_cut4 (Dg.bytes r) (Dg.bytes s) (Dg.bytes_size r) (Dg.bytes_size s)
  unfold Jo.sr Jo.ss
  rw [if_pos hl, if_pos hl, e, c1, c2, Dg.num_bytes r r0 r1, Dg.num_bytes s s0 s1]
  exact ⟨rfl, rfl⟩
theorem below_allocY {w w1 : World} (h : Below w.heap.size w w1) (A : Obj) : Below w.heap.size w (w1.alloc A) := h.alloc h.size A
section
variable {H : Type} {enc : TypeId × Value → H} {W : World} {base : Nat} {spare : Nat → Bool} {held : Bool}
end
end Go.Proofs.YtohameoomlehlaaGreat
