/-
  Contracts of scripts: wordCodes, a map; of the program.
-/
import Derived.Test.YtpldoffjclmacaaGreatDoorYh
import Derived.Carry
namespace Go.Proofs.YtpldoffjclmacaaGreatDoor
open Go.RowKit Go.Maps

/-- A word as a string. -/
def Jo.wstr (c : Nat) : ByteArray := strOfNums (Jo.name c)
/-- A word as a key. -/
def Jo.wkey (c : Nat) : List UInt8 := (Jo.wstr c).data.toList
theorem Jo.wkey_inj : ∀ a b : Fin 15, Jo.wkey a.val = Jo.wkey b.val → a = b := by decide +kernel
theorem Jo.wstr_size : ∀ a : Fin 15, (Jo.wstr a.val).size ≤ 6 := by decide +kernel
/-- What the map holds behind the first k words. -/
structure Jo.MP (k : Nat) (D : DataW Unit) : Prop where
  isMap : IsMap D
  has : ∀ c : List UInt8, Maps.has D (.string c) = true ↔ ∃ j : Nat, j < k ∧ Jo.wkey j = c
  at_ : ∀ j : Nat, j < k → ∀ z, D.atKey (.string (Jo.wkey j)) z = .lit (.int .i64 (j : Int))
theorem Jo.MP.zero : Jo.MP 0 (.map []) :=
  ⟨isMap_empty, fun d => ⟨fun h => by simp [Maps.has] at h, fun ⟨j, hj, _⟩ => absurd hj (by omega)⟩, fun j hj => absurd hj (by omega)⟩
theorem Jo.MP.put {k : Nat} {D : DataW Unit} (h : Jo.MP k D) (hk : k < 15) : Jo.MP (k + 1) (D.put (.string (Jo.wkey k)) (.lit (.int .i64 (k : Int)))) := by
  have hkl : WideAt.IsKeyLit (.string (Jo.wkey k)) := trivial
  refine ⟨h.isMap.put _ _, fun d => ?_, fun j hj z => ?_⟩
  · by_cases hd : d = Jo.wkey k
    · subst hd
      exact ⟨fun _ => ⟨k, by omega, rfl⟩, fun _ => has_put_same h.isMap hkl _⟩
    · rw [has_put_other (by simpa using hd), h.has]
      exact ⟨fun ⟨j, hj, he⟩ => ⟨j, by omega, he⟩, fun ⟨j, hj, he⟩ => ⟨j, by
        rcases Nat.lt_or_ge j k with h' | h'
        · exact h'
        · have : j = k := by omega
          subst this
          exact absurd he.symm hd, he⟩⟩
  · by_cases hjk : j = k
    · subst hjk
      rw [atKey_put_same h.isMap hkl]
    · have hne : Jo.wkey j ≠ Jo.wkey k := fun e => hjk (by have := Jo.wkey_inj ⟨j, by omega⟩ ⟨k, hk⟩ e; exact congrArg Fin.val this)
      rw [atKey_put_other (by simpa using hne)]
      exact h.at_ j (by omega) z
theorem jo_keyed : Keyed Tryz.prog 9 := string_keyed Tryz.underlying9
theorem jo_keyOf (s : ByteArray) (h : s.size ≤ maxLen) : keyOf Tryz.prog 9 (.string s) = some (.string s.data.toList) := WideMaps.keyOf_string_mk Tryz.underlying9 h
theorem jo_zero (w : World) : (zeroValue 3).run Tryz.prog w = .ok (.int .i64 0) w := by kernel_rfl
theorem opw_idx0 (W : World) : (Instr.index 63 (.agg #[.string (Jo.wstr 0), .string (Jo.wstr 1), .string (Jo.wstr 2), .string (Jo.wstr 3), .string (Jo.wstr 4), .string (Jo.wstr 5), .string (Jo.wstr 6), .string (Jo.wstr 7), .string (Jo.wstr 8), .string (Jo.wstr 9), .string (Jo.wstr 10), .string (Jo.wstr 11), .string (Jo.wstr 12), .string (Jo.wstr 13), .string (Jo.wstr 14)]) (.int .i64 (0 : Int))).run Tryz.prog W = .ok (.string (Jo.wstr 0)) W := by kernel_rfl
theorem opw_idx1 (W : World) : (Instr.index 63 (.agg #[.string (Jo.wstr 0), .string (Jo.wstr 1), .string (Jo.wstr 2), .string (Jo.wstr 3), .string (Jo.wstr 4), .string (Jo.wstr 5), .string (Jo.wstr 6), .string (Jo.wstr 7), .string (Jo.wstr 8), .string (Jo.wstr 9), .string (Jo.wstr 10), .string (Jo.wstr 11), .string (Jo.wstr 12), .string (Jo.wstr 13), .string (Jo.wstr 14)]) (.int .i64 (1 : Int))).run Tryz.prog W = .ok (.string (Jo.wstr 1)) W := by kernel_rfl
theorem opw_idx2 (W : World) : (Instr.index 63 (.agg #[.string (Jo.wstr 0), .string (Jo.wstr 1), .string (Jo.wstr 2), .string (Jo.wstr 3), .string (Jo.wstr 4), .string (Jo.wstr 5), .string (Jo.wstr 6), .string (Jo.wstr 7), .string (Jo.wstr 8), .string (Jo.wstr 9), .string (Jo.wstr 10), .string (Jo.wstr 11), .string (Jo.wstr 12), .string (Jo.wstr 13), .string (Jo.wstr 14)]) (.int .i64 (2 : Int))).run Tryz.prog W = .ok (.string (Jo.wstr 2)) W := by kernel_rfl
theorem opw_idx3 (W : World) : (Instr.index 63 (.agg #[.string (Jo.wstr 0), .string (Jo.wstr 1), .string (Jo.wstr 2), .string (Jo.wstr 3), .string (Jo.wstr 4), .string (Jo.wstr 5), .string (Jo.wstr 6), .string (Jo.wstr 7), .string (Jo.wstr 8), .string (Jo.wstr 9), .string (Jo.wstr 10), .string (Jo.wstr 11), .string (Jo.wstr 12), .string (Jo.wstr 13), .string (Jo.wstr 14)]) (.int .i64 (3 : Int))).run Tryz.prog W = .ok (.string (Jo.wstr 3)) W := by kernel_rfl
theorem opw_idx4 (W : World) : (Instr.index 63 (.agg #[.string (Jo.wstr 0), .string (Jo.wstr 1), .string (Jo.wstr 2), .string (Jo.wstr 3), .string (Jo.wstr 4), .string (Jo.wstr 5), .string (Jo.wstr 6), .string (Jo.wstr 7), .string (Jo.wstr 8), .string (Jo.wstr 9), .string (Jo.wstr 10), .string (Jo.wstr 11), .string (Jo.wstr 12), .string (Jo.wstr 13), .string (Jo.wstr 14)]) (.int .i64 (4 : Int))).run Tryz.prog W = .ok (.string (Jo.wstr 4)) W := by kernel_rfl
theorem opw_idx5 (W : World) : (Instr.index 63 (.agg #[.string (Jo.wstr 0), .string (Jo.wstr 1), .string (Jo.wstr 2), .string (Jo.wstr 3), .string (Jo.wstr 4), .string (Jo.wstr 5), .string (Jo.wstr 6), .string (Jo.wstr 7), .string (Jo.wstr 8), .string (Jo.wstr 9), .string (Jo.wstr 10), .string (Jo.wstr 11), .string (Jo.wstr 12), .string (Jo.wstr 13), .string (Jo.wstr 14)]) (.int .i64 (5 : Int))).run Tryz.prog W = .ok (.string (Jo.wstr 5)) W := by kernel_rfl
theorem opw_idx6 (W : World) : (Instr.index 63 (.agg #[.string (Jo.wstr 0), .string (Jo.wstr 1), .string (Jo.wstr 2), .string (Jo.wstr 3), .string (Jo.wstr 4), .string (Jo.wstr 5), .string (Jo.wstr 6), .string (Jo.wstr 7), .string (Jo.wstr 8), .string (Jo.wstr 9), .string (Jo.wstr 10), .string (Jo.wstr 11), .string (Jo.wstr 12), .string (Jo.wstr 13), .string (Jo.wstr 14)]) (.int .i64 (6 : Int))).run Tryz.prog W = .ok (.string (Jo.wstr 6)) W := by kernel_rfl
theorem opw_idx7 (W : World) : (Instr.index 63 (.agg #[.string (Jo.wstr 0), .string (Jo.wstr 1), .string (Jo.wstr 2), .string (Jo.wstr 3), .string (Jo.wstr 4), .string (Jo.wstr 5), .string (Jo.wstr 6), .string (Jo.wstr 7), .string (Jo.wstr 8), .string (Jo.wstr 9), .string (Jo.wstr 10), .string (Jo.wstr 11), .string (Jo.wstr 12), .string (Jo.wstr 13), .string (Jo.wstr 14)]) (.int .i64 (7 : Int))).run Tryz.prog W = .ok (.string (Jo.wstr 7)) W := by kernel_rfl
theorem opw_idx8 (W : World) : (Instr.index 63 (.agg #[.string (Jo.wstr 0), .string (Jo.wstr 1), .string (Jo.wstr 2), .string (Jo.wstr 3), .string (Jo.wstr 4), .string (Jo.wstr 5), .string (Jo.wstr 6), .string (Jo.wstr 7), .string (Jo.wstr 8), .string (Jo.wstr 9), .string (Jo.wstr 10), .string (Jo.wstr 11), .string (Jo.wstr 12), .string (Jo.wstr 13), .string (Jo.wstr 14)]) (.int .i64 (8 : Int))).run Tryz.prog W = .ok (.string (Jo.wstr 8)) W := by kernel_rfl
theorem opw_idx9 (W : World) : (Instr.index 63 (.agg #[.string (Jo.wstr 0), .string (Jo.wstr 1), .string (Jo.wstr 2), .string (Jo.wstr 3), .string (Jo.wstr 4), .string (Jo.wstr 5), .string (Jo.wstr 6), .string (Jo.wstr 7), .string (Jo.wstr 8), .string (Jo.wstr 9), .string (Jo.wstr 10), .string (Jo.wstr 11), .string (Jo.wstr 12), .string (Jo.wstr 13), .string (Jo.wstr 14)]) (.int .i64 (9 : Int))).run Tryz.prog W = .ok (.string (Jo.wstr 9)) W := by kernel_rfl
theorem opw_idx10 (W : World) : (Instr.index 63 (.agg #[.string (Jo.wstr 0), .string (Jo.wstr 1), .string (Jo.wstr 2), .string (Jo.wstr 3), .string (Jo.wstr 4), .string (Jo.wstr 5), .string (Jo.wstr 6), .string (Jo.wstr 7), .string (Jo.wstr 8), .string (Jo.wstr 9), .string (Jo.wstr 10), .string (Jo.wstr 11), .string (Jo.wstr 12), .string (Jo.wstr 13), .string (Jo.wstr 14)]) (.int .i64 (10 : Int))).run Tryz.prog W = .ok (.string (Jo.wstr 10)) W := by kernel_rfl
theorem opw_idx11 (W : World) : (Instr.index 63 (.agg #[.string (Jo.wstr 0), .string (Jo.wstr 1), .string (Jo.wstr 2), .string (Jo.wstr 3), .string (Jo.wstr 4), .string (Jo.wstr 5), .string (Jo.wstr 6), .string (Jo.wstr 7), .string (Jo.wstr 8), .string (Jo.wstr 9), .string (Jo.wstr 10), .string (Jo.wstr 11), .string (Jo.wstr 12), .string (Jo.wstr 13), .string (Jo.wstr 14)]) (.int .i64 (11 : Int))).run Tryz.prog W = .ok (.string (Jo.wstr 11)) W := by kernel_rfl
theorem opw_idx12 (W : World) : (Instr.index 63 (.agg #[.string (Jo.wstr 0), .string (Jo.wstr 1), .string (Jo.wstr 2), .string (Jo.wstr 3), .string (Jo.wstr 4), .string (Jo.wstr 5), .string (Jo.wstr 6), .string (Jo.wstr 7), .string (Jo.wstr 8), .string (Jo.wstr 9), .string (Jo.wstr 10), .string (Jo.wstr 11), .string (Jo.wstr 12), .string (Jo.wstr 13), .string (Jo.wstr 14)]) (.int .i64 (12 : Int))).run Tryz.prog W = .ok (.string (Jo.wstr 12)) W := by kernel_rfl
theorem opw_idx13 (W : World) : (Instr.index 63 (.agg #[.string (Jo.wstr 0), .string (Jo.wstr 1), .string (Jo.wstr 2), .string (Jo.wstr 3), .string (Jo.wstr 4), .string (Jo.wstr 5), .string (Jo.wstr 6), .string (Jo.wstr 7), .string (Jo.wstr 8), .string (Jo.wstr 9), .string (Jo.wstr 10), .string (Jo.wstr 11), .string (Jo.wstr 12), .string (Jo.wstr 13), .string (Jo.wstr 14)]) (.int .i64 (13 : Int))).run Tryz.prog W = .ok (.string (Jo.wstr 13)) W := by kernel_rfl
theorem opw_idx14 (W : World) : (Instr.index 63 (.agg #[.string (Jo.wstr 0), .string (Jo.wstr 1), .string (Jo.wstr 2), .string (Jo.wstr 3), .string (Jo.wstr 4), .string (Jo.wstr 5), .string (Jo.wstr 6), .string (Jo.wstr 7), .string (Jo.wstr 8), .string (Jo.wstr 9), .string (Jo.wstr 10), .string (Jo.wstr 11), .string (Jo.wstr 12), .string (Jo.wstr 13), .string (Jo.wstr 14)]) (.int .i64 (14 : Int))).run Tryz.prog W = .ok (.string (Jo.wstr 14)) W := by kernel_rfl
theorem opw_idx (k : Nat) (hk : k < 15) (W : World) : (Instr.index 63 (.agg #[.string (Jo.wstr 0), .string (Jo.wstr 1), .string (Jo.wstr 2), .string (Jo.wstr 3), .string (Jo.wstr 4), .string (Jo.wstr 5), .string (Jo.wstr 6), .string (Jo.wstr 7), .string (Jo.wstr 8), .string (Jo.wstr 9), .string (Jo.wstr 10), .string (Jo.wstr 11), .string (Jo.wstr 12), .string (Jo.wstr 13), .string (Jo.wstr 14)]) (.int .i64 (k : Int))).run Tryz.prog W = .ok (.string (Jo.wstr k)) W := by
  have h : k = 0 ∨ k = 1 ∨ k = 2 ∨ k = 3 ∨ k = 4 ∨ k = 5 ∨ k = 6 ∨ k = 7 ∨ k = 8 ∨ k = 9 ∨ k = 10 ∨ k = 11 ∨ k = 12 ∨ k = 13 ∨ k = 14 := by omega
  rcases h with rfl | rfl | rfl | rfl | rfl | rfl | rfl | rfl | rfl | rfl | rfl | rfl | rfl | rfl | rfl
  · exact opw_idx0 W
  · exact opw_idx1 W
  · exact opw_idx2 W
  · exact opw_idx3 W
  · exact opw_idx4 W
  · exact opw_idx5 W
  · exact opw_idx6 W
  · exact opw_idx7 W
  · exact opw_idx8 W
  · exact opw_idx9 W
  · exact opw_idx10 W
  · exact opw_idx11 W
  · exact opw_idx12 W
  · exact opw_idx13 W
  · exact opw_idx14 W
/-- What wordCodes hands back. -/
def JoMap (w : World) (e : Ending) (w' : World) : Prop :=
  ∃ D, e = .returned (.map (some w.heap.size)) ∧ w'.ownsMap Tryz.prog 9 (plainElem Tryz.prog 3) w.heap.size 15 D ∧ Jo.MP 15 D ∧ Below w.heap.size w w' ∧ w.heap.size < w'.heap.size
set_option maxRecDepth 100000 in
set_option maxHeartbeats 3200000 in
theorem wordCodes_any (w : World) (hg : GV w) : Calls Tryz.prog 44 #[] w (JoMap w) := by
  have hmm := @run_makeMap Tryz.prog
  have HM0 := Lib.hid Jo.MP.zero
  have hg1 : GV (w.alloc (.map #[] 0)) := hg.below ⟨rfl, rfl, rfl, by simp, fun k hk => Below.heap_alloc _ _ _ hk⟩
  have g0 : (w.alloc (.map #[] 0)).cell? ⟨0, 0, none⟩ = some (.string (Jo.wstr 0)) := hg1.1 0 (by omega)
  have g1 : (w.alloc (.map #[] 0)).cell? ⟨0, 1, none⟩ = some (.string (Jo.wstr 1)) := hg1.1 1 (by omega)
  have g2 : (w.alloc (.map #[] 0)).cell? ⟨0, 2, none⟩ = some (.string (Jo.wstr 2)) := hg1.1 2 (by omega)
  have g3 : (w.alloc (.map #[] 0)).cell? ⟨0, 3, none⟩ = some (.string (Jo.wstr 3)) := hg1.1 3 (by omega)
  have g4 : (w.alloc (.map #[] 0)).cell? ⟨0, 4, none⟩ = some (.string (Jo.wstr 4)) := hg1.1 4 (by omega)
  have g5 : (w.alloc (.map #[] 0)).cell? ⟨0, 5, none⟩ = some (.string (Jo.wstr 5)) := hg1.1 5 (by omega)
  have g6 : (w.alloc (.map #[] 0)).cell? ⟨0, 6, none⟩ = some (.string (Jo.wstr 6)) := hg1.1 6 (by omega)
  have g7 : (w.alloc (.map #[] 0)).cell? ⟨0, 7, none⟩ = some (.string (Jo.wstr 7)) := hg1.1 7 (by omega)
  have g8 : (w.alloc (.map #[] 0)).cell? ⟨0, 8, none⟩ = some (.string (Jo.wstr 8)) := hg1.1 8 (by omega)
  have g9 : (w.alloc (.map #[] 0)).cell? ⟨0, 9, none⟩ = some (.string (Jo.wstr 9)) := hg1.1 9 (by omega)
  have g10 : (w.alloc (.map #[] 0)).cell? ⟨0, 10, none⟩ = some (.string (Jo.wstr 10)) := hg1.1 10 (by omega)
  have g11 : (w.alloc (.map #[] 0)).cell? ⟨0, 11, none⟩ = some (.string (Jo.wstr 11)) := hg1.1 11 (by omega)
  have g12 : (w.alloc (.map #[] 0)).cell? ⟨0, 12, none⟩ = some (.string (Jo.wstr 12)) := hg1.1 12 (by omega)
  have g13 : (w.alloc (.map #[] 0)).cell? ⟨0, 13, none⟩ = some (.string (Jo.wstr 13)) := hg1.1 13 (by omega)
  have g14 : (w.alloc (.map #[] 0)).cell? ⟨0, 14, none⟩ = some (.string (Jo.wstr 14)) := hg1.1 14 (by omega)
  have hidx := opw_idx
  have HIDX := Lib.hid hidx
  clear hidx hg hg1
  go_enter Tryz.func44, Tryz.ntmps44
  go_wp2
  go_loopw [6] (fun i wr => ∃ (k : Nat) (D : DataW Unit), k ≤ 15 ∧ i = .int .i64 (k : Int) ∧ wr.ownsMap Tryz.prog 9 (plainElem Tryz.prog 3) w.heap.size k D ∧ Jo.MP k D ∧ Below w.heap.size w wr ∧ w.heap.size < wr.heap.size)
    (fun i _ => 15 - (intOf i).toNat)
  case atStart => exact ⟨0, _, by omega, rfl, World.ownsMap_made _ _ _ _, HM0.out, (Below.refl _ _).alloc (Nat.le_refl _) _, by simp⟩
  case round =>
    clear g0 g1 g2 g3 g4 g5 g6 g7 g8 g9 g10 g11 g12 g13 g14
    obtain ⟨k, D, hk, rfl, hown, hMD, hbel, hsz⟩ := hrel
    by_cases hlt : k < 15
    · have hi := HIDX.out k hlt
      have hsz6 := Jo.wstr_size ⟨k, hlt⟩
      have hkey := jo_keyOf (Jo.wstr k) (by unfold maxLen; simp only at hsz6; omega)
      have HP := Lib.hid (hMD.put hlt)
      have HKEY := Lib.hid hkey
      have hval : plainElem (H := Unit) Tryz.prog 3 (.int .i64 (k : Int)) = some (.lit (.int .i64 (k : Int)), []) := plainElem_int Tryz.underlying3 (WalkArith.wf_i64 (by omega))
      have HVAL := Lib.hid hval
      clear hval hMD hkey hsz6
      go_wp2_with (at_mapUpdate; refine wpList_mapUpdate_own _ rfl _ _ _ 77 rfl 9 3 jo_keyed Tryz.underlying77 _ w.heap.size k D rfl hown (by unfold maxLen; omega) _ _ _ rfl rfl HKEY.out _ [] HVAL.out ?_)
      intro w3 hown3 hgr3
      have hbel3 := Below.grown hbel hgr3 (by omega) (fun j hj => by cases hj; exact Nat.le_refl _)
      have hsz3 := Nat.lt_of_lt_of_le hsz hgr3.size
      clear hown hgr3 hbel
      go_wp2
      go_roundw
      case rel => exact ⟨k + 1, _, by omega, by simp, hown3, HP.out, hbel3, hsz3⟩
      case measure => simp [intOf]; omega
    · obtain rfl : k = 15 := by omega
      go_wp2
      go_ret
      exact ⟨D, rfl, hown, hMD, hbel, hsz⟩
end Go.Proofs.YtpldoffjclmacaaGreatDoor
