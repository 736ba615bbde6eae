/-
  Contracts of scripts: SigItem, ItemSig; of the program; items and signatures back and forth.
-/
import Derived.Test.YtoocibabceeagabGreatOg
import Derived.ChangeSame
import Derived.Deep.Strs
import Derived.Lib.SmallJoins
import Derived.OpenShut
import Derived.WideShapes
import Derived.Deep.RegionHeld3
import Derived.Deep.DeepMust
import Derived.Deep.QuietTactic
import Derived.BigQuiet
namespace Go.Proofs.YtoocibabceeagabGreat
open Go.RowKit Go.Joins Go.WideShapes Go.ChangeShapes Go.Deep

theorem wp_meetY {P : Program} {c : Code} {Q : Exit → Act → World → Prop} {a : Act} {w : World} (F : World → Prop) (A : Act)
    (h1 : c.wp P (fun e a' w' => match e with | .normal => a' = A ∧ F w' | _ => False) a w) (h2 : ∀ w', F w' → Q .normal A w') : c.wp P Q a w :=
  Code.wp_mono (fun e a' w' h => by
    cases e <;> first | exact (h : False).elim | (obtain ⟨ha, hF⟩ := h; subst ha; exact h2 w' hF)) h1
/-- The bytes of a digest, or none. -/
def Jo.db (d : Int) : ByteArray := if Jo.isd d = true then Dg.bytes d else ⟨#[]⟩
theorem Jo.db_size (d : Int) : (Jo.db d).size = if Jo.isd d = true then 4 else 0 := by
  unfold Jo.db
  split
  · exact Dg.bytes_size d
  · rfl
theorem Jo.isd_iff (d : Int) : Jo.isd d = true ↔ 0 ≤ d ∧ d ≤ 4294967295 := by unfold Jo.isd; simp
theorem Jo.item_len (r s : Int) : (Jo.item r s).size = if Jo.isd r = true ∧ Jo.isd s = true then 8 else 0 := by
  unfold Jo.item
  split
  · rw [ByteArray.size_append, Dg.bytes_size, Dg.bytes_size]
  · rfl
theorem implDb_any (d : Int) (w : World) : Calls Tryz.prog 39 #[.int .i64 d] w fun e w' => e = .returned (.string (Jo.db d)) ∧ Below w.heap.size w w' := by
  cases h : Jo.isd d
  · have e : Jo.db d = ⟨#[]⟩ := if_neg (by rw [h]; simp)
    rw [e]
    exact implDigestBytes_no d w (by unfold Jo.isd at h; simp at h; omega)
  · have e : Jo.db d = Dg.bytes d := if_pos h
    rw [e]
    obtain ⟨h0, h1⟩ := (Jo.isd_iff d).1 h
    exact implDigestBytes_ok d w h0 h1
set_option maxRecDepth 100000 in
set_option maxHeartbeats 1600000 in
theorem implSigItem_any (r s : Int) (w : World) : Calls Tryz.prog 89 #[.agg #[.int .i64 r, .int .i64 s]] w fun e w' => e = .returned (.string (Jo.item r s)) ∧ Below w.heap.size w w' := by
  have hv0 : Bk w.heap.size 38 #[.int .i64 r, .int .i64 s] (w.alloc (.cells #[.int .i64 r, .int .i64 s] 38 (0, 0))) := Bk.new _ _ _
  have hb0 : Below w.heap.size w (w.alloc (.cells #[.int .i64 r, .int .i64 s] 38 (0, 0))) := (Below.refl _ _).alloc (Nat.le_refl _) _
  have hcr := fun W => implDb_any r W
  have hcs := fun W => implDb_any s W
  have HR := Lib.hid (Jo.db_size r)
  have HS := Lib.hid (Jo.db_size s)
  have HI : Hid (Jo.item r s = if (Jo.db r ++ Jo.db s).size = 8 then Jo.db r ++ Jo.db s else ⟨#[]⟩) := Lib.hid (by
    rw [ByteArray.size_append, Jo.db_size, Jo.db_size]
    unfold Jo.item Jo.db
    cases hr : Jo.isd r <;> cases hs : Jo.isd s <;> simp)
  have hp : (Jo.db r).size ≤ 4 := by rw [HR.out]; split <;> omega
  have hq : (Jo.db s).size ≤ 4 := by rw [HS.out]; split <;> omega
  obtain ⟨P, HP⟩ : ∃ P, Hid (Jo.db r = P) := ⟨_, Lib.hid rfl⟩
  obtain ⟨Q, HQ⟩ : ∃ P, Hid (Jo.db s = P) := ⟨_, Lib.hid rfl⟩
  rw [HP.out] at HI hp
  rw [HQ.out] at HI hq
  simp only [HP.out] at hcr
  simp only [HQ.out] at hcs
  have hadd : ∀ W, (Op.stringOp .add P Q).run Tryz.prog W = .ok (.string (P ++ Q)) W := fun W => run_string_add_sum (P := Tryz.prog) W _ _ (by omega)
  obtain ⟨X, HX⟩ : ∃ P, Hid (Jo.item r s = P) := ⟨_, Lib.hid rfl⟩
  rw [HX.out] at HI ⊢
  obtain ⟨Y, HY⟩ : ∃ Y, Hid (P ++ Q = Y) := ⟨_, Lib.hid rfl⟩
  rw [HY.out] at HI
  simp only [HY.out] at hadd
  clear HR HS HP HQ HX HY hp hq
  have hS0 : (w.alloc (.cells #[.int .i64 r, .int .i64 s] 38 (0, 0))).drew.cell? ⟨w.heap.size, 0, none⟩ = some (.int .i64 r) ∧ (w.alloc (.cells #[.int .i64 r, .int .i64 s] 38 (0, 0))).drew.cell? ⟨w.heap.size, 1, none⟩ = some (.int .i64 s) := ⟨hv0.drew.cell 0, hv0.drew.cell 1⟩
  go_enter Tryz.func89, Tryz.ntmps89
  go_wp2
  apply wp_meetY (fun w' => Below w.heap.size w w')
  case h1 =>
    go_region_held3 (fun W => W.cell? ⟨w.heap.size, 0, none⟩ = some (.int .i64 r) ∧ W.cell? ⟨w.heap.size, 1, none⟩ = some (.int .i64 s)) (first | with_reducible exact hS0 | with_reducible exact hSR | with_reducible exact hSS)
      (first
        | (go_at_call_of 39 (Value.int .i64 r); refine (hcr _).mono ?_; rintro e wR ⟨rfl, hbR⟩; have hvR : Bk w.heap.size 38 #[.int .i64 r, .int .i64 s] wR := (by first | exact hvS.below hbR | exact hv0.drew.below hbR); have hblR : Below w.heap.size w wR := (by first | exact below_aft9 hblS hbR | exact below_aft9 hb0.drew hbR); have hSR : wR.cell? ⟨w.heap.size, 0, none⟩ = some (.int .i64 r) ∧ wR.cell? ⟨w.heap.size, 1, none⟩ = some (.int .i64 s) := ⟨hvR.cell 0, hvR.cell 1⟩)
        | (go_at_call_of 39 (Value.int .i64 s); refine (hcs _).mono ?_; rintro e wS ⟨rfl, hbS⟩; have hvS : Bk w.heap.size 38 #[.int .i64 r, .int .i64 s] wS := (by first | exact hvR.below hbS | exact hv0.drew.below hbS); have hblS : Below w.heap.size w wS := (by first | exact below_aft9 hblR hbS | exact below_aft9 hb0.drew hbS); have hSS : wS.cell? ⟨w.heap.size, 0, none⟩ = some (.int .i64 r) ∧ wS.cell? ⟨w.heap.size, 1, none⟩ = some (.int .i64 s) := ⟨hvS.cell 0, hvS.cell 1⟩))
    all_goals (refine ⟨rfl, ?_⟩; first | with_reducible exact hblS | with_reducible exact hblR)
  case h2 =>
    intro w2 hbel2
    by_cases h8 : Y.size = 8
    · have hz : ((Y.size : Int) == 8) = true := by simp [h8]
      have hz2 : ((Y.size : Int) != 8) = false := by simp [h8]
      have HE : Hid (X = Y) := Lib.hid (by rw [HI.out, if_pos h8])
      clear h8 HI
      go_wp2
      go_ret
      exact ⟨by rw [HE.out]; rfl, hbel2⟩
    · have hz : ((Y.size : Int) == 8) = false := by simpa using fun e : (Y.size : Int) = 8 => h8 (by omega)
      have hz2 : ((Y.size : Int) != 8) = true := by simpa using fun e : (Y.size : Int) = 8 => h8 (by omega)
      have HE : Hid (X = ⟨#[]⟩) := Lib.hid (by rw [HI.out, if_neg h8])
      clear h8 HI
      go_wp2
      go_ret
      exact ⟨by rw [HE.out]; rfl, hbel2⟩
set_option maxRecDepth 100000 in
set_option maxHeartbeats 1600000 in
theorem implItemSig_yes (s : ByteArray) (w : World) (h : s.size = 8) : Calls Tryz.prog 44 #[.string s] w fun e w' => e = .returned (.tuple #[.agg #[.int .i64 (Dg.num (s.extract 0 4)), .int .i64 (Dg.num (s.extract 4 s.size))], .bool true]) ∧ Below w.heap.size w w' := by
  have h1 : (s.extract 0 4).size = 4 := by rw [ByteArray.size_extract]; omega
  have h2 : (s.extract 4 s.size).size = 4 := by rw [ByteArray.size_extract]; omega
  have hc1 := fun W => implBytesDigest_ok _ W h1
  have hc2 := fun W => implBytesDigest_ok _ W h2
  have hs1 : ∀ W, (Instr.slice 9 (.string s) none (some (.int .i64 4)) none).run Tryz.prog W = .ok (.string (s.extract 0 4)) W := fun W => by
    simp [Instr.slice, Instr.sliceBounds, Instr.sliceBound, asIntOf, run_underlying Tryz.underlying9, h]
  have hs2 : ∀ W, (Instr.slice 9 (.string s) (some (.int .i64 4)) none none).run Tryz.prog W = .ok (.string (s.extract 4 s.size)) W := fun W => by
    simp [Instr.slice, Instr.sliceBounds, Instr.sliceBound, asIntOf, run_underlying Tryz.underlying9, h]
  have hz : ((s.size : Int) == 8) = true := by simp [h]
  have hz2 : ((s.size : Int) != 8) = false := by simp [h]
  have hv0 : Bk w.heap.size 38 #[.int .i64 0, .int .i64 0] (w.alloc (.cells #[.int .i64 0, .int .i64 0] 38 (0, 0))) := Bk.new _ _ _
  have hb0 : Below w.heap.size w (w.alloc (.cells #[.int .i64 0, .int .i64 0] 38 (0, 0))) := (Below.refl _ _).alloc (Nat.le_refl _) _
  obtain ⟨X, HX⟩ : ∃ X, Hid (s.extract 0 4 = X) := ⟨_, Lib.hid rfl⟩
  obtain ⟨Y, HY⟩ : ∃ X, Hid (s.extract 4 s.size = X) := ⟨_, Lib.hid rfl⟩
  rw [HX.out] at hc1 hs1 ⊢
  rw [HY.out] at hc2 hs2 ⊢
  clear h1 h2 h HX HY
  go_enter Tryz.func44, Tryz.ntmps44
  go_wp2_with fail
  refine (hc1 _).mono ?_
  rintro e1 w1 ⟨rfl, hb1⟩
  have hv1 := hv0.below hb1
  have hbel1 := below_aft9 hb0 hb1
  go_wp2_with fail
  refine (hc2 _).mono ?_
  rintro e2 w2 ⟨rfl, hb2⟩
  have hv2 := hv1.below hb2
  have hbel2 := below_aft9 hbel1 hb2
  obtain ⟨c0, c1⟩ := Bk.c2 hv2
  obtain ⟨f0, f1⟩ := hv2.f2
  have hv3 := Bk.store2 hv2 (.int .i64 (Dg.num X)) (.int .i64 (Dg.num Y))
  have hbel3 := below_store2 hbel2 w.heap.size (Nat.le_refl _) (.int .i64 (Dg.num X)) (.int .i64 (Dg.num Y))
  clear hv0 hb0 hv1 hbel1 hb1 hb2 hbel2 hv2
  go_wp2
  refine bodyPost_ret (results_cell_tmp3 (P := Tryz.prog) rfl _ _ w.heap.size 38 _ (0, 0) _ rfl hv3.held Tryz.underlying38 rfl (by kernel_rfl)) rfl ?_
  exact ⟨rfl, hbel3⟩
set_option maxRecDepth 100000 in
set_option maxHeartbeats 1600000 in
theorem implItemSig_no (s : ByteArray) (w : World) (h : s.size ≠ 8) : Calls Tryz.prog 44 #[.string s] w fun e w' => e = .returned (.tuple #[.agg #[.int .i64 0, .int .i64 0], .bool false]) ∧ Below w.heap.size w w' := by
  have hz : ((s.size : Int) == 8) = false := by simpa using fun e : (s.size : Int) = 8 => h (by omega)
  have hz2 : ((s.size : Int) != 8) = true := by simpa using fun e : (s.size : Int) = 8 => h (by omega)
  have hv0 : Bk w.heap.size 38 #[.int .i64 0, .int .i64 0] (w.alloc (.cells #[.int .i64 0, .int .i64 0] 38 (0, 0))) := Bk.new _ _ _
  have hb0 : Below w.heap.size w (w.alloc (.cells #[.int .i64 0, .int .i64 0] 38 (0, 0))) := (Below.refl _ _).alloc (Nat.le_refl _) _
  clear h
  go_enter Tryz.func44, Tryz.ntmps44
  go_wp2
  refine bodyPost_ret (results_cell_tmp3 (P := Tryz.prog) rfl _ _ w.heap.size 38 _ (0, 0) _ rfl hv0.held Tryz.underlying38 rfl (by kernel_rfl)) rfl ?_
  exact ⟨rfl, hb0⟩

/-- What ItemSig reads. -/
def Jo.sr (s : ByteArray) : Int := if s.size = 8 then Dg.num (s.extract 0 4) else 0
def Jo.ss (s : ByteArray) : Int := if s.size = 8 then Dg.num (s.extract 4 s.size) else 0
theorem specItemSig_any (s : ByteArray) (w : World) : Calls Tryz.prog 207 #[.string s] w fun e w' => e = .returned (.tuple #[.agg #[.int .i64 (Jo.sr s), .int .i64 (Jo.ss s)], .bool (decide (s.size = 8))]) ∧ Below w.heap.size w w' := by
  unfold Jo.sr Jo.ss
  by_cases h : s.size = 8
  · rw [if_pos h, if_pos h, decide_eq_true h]; exact specItemSig_yes s w h
  · rw [if_neg h, if_neg h, decide_eq_false h]; exact specItemSig_no s w h
theorem implItemSig_any (s : ByteArray) (w : World) : Calls Tryz.prog 44 #[.string s] w fun e w' => e = .returned (.tuple #[.agg #[.int .i64 (Jo.sr s), .int .i64 (Jo.ss s)], .bool (decide (s.size = 8))]) ∧ Below w.heap.size w w' := by
  unfold Jo.sr Jo.ss
  by_cases h : s.size = 8
  · rw [if_pos h, if_pos h, decide_eq_true h]; exact implItemSig_yes s w h
  · rw [if_neg h, if_neg h, decide_eq_false h]; exact implItemSig_no s w h
theorem bytes_cut4 (a b : ByteArray) (ha : a.size = 4) (hb : b.size = 4) : (a ++ b).extract 0 4 = a ∧ (a ++ b).extract 4 (a ++ b).size = b := by
  have h1 : (a ++ b).size = 8 := by rw [ByteArray.size_append]; omega
  refine ⟨?_, ?_⟩
  · apply ByteArray.ext
    apply Array.toList_inj.1
    rw [ByteArray.data_extract, Array.toList_extract, ByteArray.data_append, Array.toList_append, List.extract_eq_take_drop, List.drop_zero]
    rw [List.take_append_of_le_length (by rw [Array.length_toList]; exact Nat.le_of_eq ha.symm), List.take_of_length_le (by rw [Array.length_toList]; exact Nat.le_of_eq ha)]
  · apply ByteArray.ext
    apply Array.toList_inj.1
    rw [h1, ByteArray.data_extract, Array.toList_extract, ByteArray.data_append, Array.toList_append, List.extract_eq_take_drop]
    rw [List.drop_append_of_le_length (by rw [Array.length_toList]; exact Nat.le_of_eq ha.symm), List.drop_of_length_le (by rw [Array.length_toList]; exact Nat.le_of_eq ha), List.nil_append, List.take_of_length_le (by rw [Array.length_toList]; exact Nat.le_of_eq hb)]
theorem bytes_join4 (s : ByteArray) (h : s.size = 8) : s.extract 0 4 ++ s.extract 4 s.size = s := by
  apply ByteArray.ext
  apply Array.toList_inj.1
  rw [ByteArray.data_append, Array.toList_append, ByteArray.data_extract, ByteArray.data_extract, Array.toList_extract, Array.toList_extract, List.extract_eq_take_drop, List.extract_eq_take_drop, List.drop_zero, h]
  have hl : s.data.toList.length = 8 := by rw [Array.length_toList]; exact h
  rw [List.take_of_length_le (l := List.drop 4 _) (by rw [List.length_drop]; omega)]
  exact List.take_append_drop 4 _
/-- An item that is read is written in the same way. -/
theorem Jo.item_read {s : ByteArray} (h : s.size = 8) : Jo.item (Jo.sr s) (Jo.ss s) = s := by
  have h1 : (s.extract 0 4).size = 4 := by rw [ByteArray.size_extract]; omega
  have h2 : (s.extract 4 s.size).size = 4 := by rw [ByteArray.size_extract]; omega
  have b1 := Dg.num_bd (s.extract 0 4)
  have b2 := Dg.num_bd (s.extract 4 s.size)
  unfold Jo.sr Jo.ss
  rw [if_pos h, if_pos h]
  unfold Jo.item
  rw [if_pos ⟨(Jo.isd_iff _).2 (by omega), (Jo.isd_iff _).2 (by omega)⟩, Dg.bytes_num _ h1, Dg.bytes_num _ h2, bytes_join4 s h]
/-- An item that is written is read. -/
theorem Jo.read_item {r s : Int} (h : Jo.isd r = true ∧ Jo.isd s = true) : Jo.sr (Jo.item r s) = r ∧ Jo.ss (Jo.item r s) = s := by
  have hl := Jo.item_len r s
  rw [if_pos h] at hl
  obtain ⟨r0, r1⟩ := (Jo.isd_iff r).1 h.1
  obtain ⟨s0, s1⟩ := (Jo.isd_iff s).1 h.2
  have e : Jo.item r s = Dg.bytes r ++ Dg.bytes s := if_pos h
  obtain ⟨c1, c2⟩ := bytes_cut4 (Dg.bytes r) (Dg.bytes s) (Dg.bytes_size r) (Dg.bytes_size s)
  unfold Jo.sr Jo.ss
  rw [if_pos hl, if_pos hl, e, c1, c2, Dg.num_bytes r r0 r1, Dg.num_bytes s s0 s1]
  exact ⟨rfl, rfl⟩
theorem below_allocY {w w1 : World} (h : Below w.heap.size w w1) (A : Obj) : Below w.heap.size w (w1.alloc A) := h.alloc h.size A
section
variable {H : Type} {enc : TypeId × Value → H} {W : World} {base : Nat} {spare : Nat → Bool} {held : Bool}
end
end Go.Proofs.YtoocibabceeagabGreat
