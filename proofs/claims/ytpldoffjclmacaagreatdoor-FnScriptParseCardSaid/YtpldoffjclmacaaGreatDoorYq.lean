/-
  Contracts of scripts: plainNumber; of the program.
-/
import Derived.Test.YtpldoffjclmacaaGreatDoorYh
import Derived.Test.YtpldoffjclmacaaGreatDoorShelf2
import Derived.Lib.SmallJoins
namespace Go.Proofs.YtpldoffjclmacaaGreatDoor
open Go.RowKit

theorem atoi_dec : ∀ a b : Fin 100, Lib.atoiAll ((Jo.dec ((100 * a.val + b.val : Nat) : Int)).map fun x => UInt8.ofNat x.toNat) = .ok ((100 * a.val + b.val : Nat) : Int) := by decide +kernel
theorem atoi_str {u : Int} (h0 : 0 ≤ u) (h1 : u ≤ 9999) : Lib.atoiAll (strOfNums (Jo.dec u)).data.toList = .ok u := by
  obtain ⟨n, rfl⟩ := Int.eq_ofNat_of_zero_le h0
  rw [strOfNums_data]
  have h := atoi_dec ⟨n / 100, by omega⟩ ⟨n % 100, by omega⟩
  simp only [show 100 * (n / 100) + n % 100 = n by omega] at h
  exact h
theorem atoi_bd {l : List UInt8} {v : Int} (h : Lib.atoiAll l = .ok v) : -9223372036854775808 ≤ v ∧ v ≤ 9223372036854775807 := by
  unfold Lib.atoiAll at h
  split at h
  · cases h
  · simp only at h
    split at h
    · cases h
    · cases h
    · split at h
      · cases h
      · split at h
        · cases h
        · rename_i u _ h1 h2
          injection h with h
          split at h <;> omega
theorem Jo.num_or (p : List Int) : Jo.num p = -1 ∨ 0 ≤ Jo.num p := by
  unfold Jo.num
  split
  · split
    · rename_i hd; rw [Jo.dg_iff] at hd; right; omega
    · exact .inl rfl
  · split
    · rename_i hd; simp only [Jo.dg_iff] at hd; right; omega
    · exact .inl rfl
  · split
    · rename_i hd; simp only [Jo.dg_iff] at hd; right; omega
    · exact .inl rfl
  · split
    · rename_i hd; simp only [Jo.dg_iff] at hd; right; omega
    · exact .inl rfl
  · exact .inl rfl
theorem num_str {s : ByteArray} (h : 0 ≤ Jo.num (Jo.L s)) : s = strOfNums (Jo.dec (Jo.num (Jo.L s))) ∧ Jo.num (Jo.L s) ≤ 9999 := by
  obtain ⟨h1, h2⟩ := Jo.dec_num h
  exact ⟨by rw [h1, Jo.str_L], h2⟩
theorem num_atoi {s : ByteArray} (h : 0 ≤ Jo.num (Jo.L s)) : Lib.atoiAll s.data.toList = .ok (Jo.num (Jo.L s)) := by
  obtain ⟨h1, h2⟩ := num_str h
  have := atoi_str h h2
  rw [← h1] at this
  exact this
/-- What plainNumber tells of a number's digits. -/
def NumT (s : ByteArray) (n : Int) (ok : Bool) : Prop := (ok = true → Jo.num (Jo.L s) = n ∨ (Jo.num (Jo.L s) = -1 ∧ (n < 0 ∨ 9999 < n))) ∧ (ok = false → Jo.num (Jo.L s) = -1)
theorem NumT.bad {s : ByteArray} (n : Int) (h : ∀ v, Lib.atoiAll s.data.toList ≠ .ok v) : NumT s n false := by
  refine ⟨(fun h => by cases h), fun _ => ?_⟩
  rcases Jo.num_or (Jo.L s) with h1 | h1
  · exact h1
  · exact absurd (num_atoi h1) (h _)
theorem NumT.yes {s : ByteArray} {v : Int} (h : Lib.atoiAll s.data.toList = .ok v) (hs : s = ⟨(Lib.itoa v).toArray⟩) : NumT s v true := by
  refine ⟨fun _ => ?_, (fun h => by cases h)⟩
  rcases Jo.num_or (Jo.L s) with h1 | h1
  · by_cases hv : 0 ≤ v ∧ v ≤ 9999
    · rw [itoa_dec hv.1 hv.2] at hs
      left
      rw [hs, Jo.L_str _ (fun x hx => by have := (Jo.dec_dg hv.1 hv.2).1 x hx; omega), Jo.num_dec hv.1 hv.2]
    · exact .inr ⟨h1, by omega⟩
  · have := num_atoi h1
    rw [h] at this
    injection this with this
    exact .inl this.symm
theorem NumT.no {s : ByteArray} {v : Int} (h : Lib.atoiAll s.data.toList = .ok v) (hs : s ≠ ⟨(Lib.itoa v).toArray⟩) (n : Int) : NumT s n false := by
  refine ⟨(fun h => by cases h), fun _ => ?_⟩
  rcases Jo.num_or (Jo.L s) with h1 | h1
  · exact h1
  · obtain ⟨h2, h3⟩ := num_str h1
    have h4 := num_atoi h1
    rw [h] at h4
    injection h4 with h4
    rw [← h4] at h2 h1 h3
    rw [← itoa_dec h1 h3] at h2
    exact absurd h2 hs
theorem bytesWorld_below (w : World) (t : ByteArray) : Below w.heap.size w (Lib.bytesWorld w 5 t) := Go.Joins.below_bytesWorld w.heap.size w 5 t (Nat.le_refl _)
/-- The variables of the program and of the library. -/
def GX (w : World) : Prop := GV w ∧ (∃ m, w.cell? ⟨2, 0, none⟩ = some (.int .i64 m)) ∧ (∃ te pe, w.cell? ⟨6, 0, none⟩ = some (.iface te pe)) ∧ (∃ te pe, w.cell? ⟨7, 0, none⟩ = some (.iface te pe)) ∧
  w.cell? ⟨1, 0, none⟩ = some (.iface 111 (.agg #[typeHandle Tryz.prog 45]))
theorem cell_bel {w w' : World} (hb : Below w.heap.size w w') {g : Nat} {v : Value} (h : w.cell? ⟨g, 0, none⟩ = some v) : w'.cell? ⟨g, 0, none⟩ = some v :=
  (World.cell?_of_block (w := w) (a := ⟨g, 0, none⟩) (hb.block g (World.block_lt_of_cell? w _ h))).trans h
theorem GX.below {w w' : World} (h : GX w) (hb : Below w.heap.size w w') : GX w' := by
  obtain ⟨h1, ⟨m, h2⟩, ⟨t3, p3, h3⟩, ⟨t4, p4, h4⟩, h5⟩ := h
  exact ⟨h1.below hb, ⟨m, cell_bel hb h2⟩, ⟨t3, p3, cell_bel hb h3⟩, ⟨t4, p4, cell_bel hb h4⟩, cell_bel hb h5⟩
theorem bytes_beq (a b : ByteArray) : (a.toList == b.toList) = decide (a = b) := by
  rw [Bool.eq_iff_iff, decide_eq_true_eq, beq_iff_eq, ByteArray.toList_eq, ByteArray.toList_eq]
  exact ⟨fun h => ByteArray.ext (Array.toList_inj.1 h), fun h => by rw [h]⟩
set_option maxRecDepth 100000 in
set_option maxHeartbeats 3200000 in
theorem plainNumber_any (s : ByteArray) (w : World) (hs : s.size ≤ 1048576) (hg : GX w) :
    Calls Tryz.prog 69 #[.string s] w fun e w' => ∃ n ok, e = .returned (.tuple #[.int .i64 n, .bool ok]) ∧ Hid (NumT s n ok) ∧ Below w.heap.size w w' := by
  obtain ⟨hgv, _, ⟨t3, p3, h3⟩, ⟨t4, p4, h4⟩, _⟩ := hg
  cases ha : Lib.atoiAll s.data.toList with
  | ok v =>
    obtain ⟨v0, v1⟩ := atoi_bd ha
    have hcon := Tryz.strconv_Atoi_ok s (by omega) v ha w
    have hcon2 := fun W (hW : GV W) => Tryz.strconv_Itoa v v0 v1 W hW.2
    have hbq := bytes_beq ⟨(Lib.itoa v).toArray⟩ s
    by_cases he : s = ⟨(Lib.itoa v).toArray⟩
    · have HT := Lib.hid (NumT.yes ha he)
      rw [← he] at hbq
      simp only [decide_true] at hbq
      rw [← he] at hcon2
      clear ha he
      go_enter Tryz.func69, Tryz.ntmps69
      go_wp2_with fail
      refine hcon.mono ?_
      rintro e w1 ⟨rfl, hw1⟩
      have hb1 : Below w.heap.size w w1 := by
        rcases hw1 with rfl | ⟨t, rfl⟩
        · exact Below.refl _ _
        · exact bytesWorld_below w t
      have hg1 := hgv.below hb1
      clear hw1 hcon hgv
      go_wp2_with fail
      refine (hcon2 _ hg1).mono ?_
      rintro e w2 ⟨rfl, k, os, hw2⟩
      have hb2 : Below w1.heap.size w1 w2 := by rw [hw2]; exact below_regrown w1 (w1.drewN k).drawn os
      have hbel := below_aft9 hb1 hb2
      clear hw2 hcon2
      go_wp2
      go_ret2
      exact ⟨v, true, rfl, HT, hbel⟩
    · have HT := Lib.hid (NumT.no ha he 0)
      have hne : decide ((⟨(Lib.itoa v).toArray⟩ : ByteArray) = s) = false := decide_eq_false (fun h => he h.symm)
      rw [hne] at hbq
      obtain ⟨X, HX⟩ : ∃ X, Hid ((⟨(Lib.itoa v).toArray⟩ : ByteArray) = X) := ⟨_, Lib.hid rfl⟩
      rw [HX.out] at hbq
      simp only [HX.out] at hcon2
      clear ha he hne HX
      go_enter Tryz.func69, Tryz.ntmps69
      go_wp2_with fail
      refine hcon.mono ?_
      rintro e w1 ⟨rfl, hw1⟩
      have hb1 : Below w.heap.size w w1 := by
        rcases hw1 with rfl | ⟨t, rfl⟩
        · exact Below.refl _ _
        · exact bytesWorld_below w t
      have hg1 := hgv.below hb1
      clear hw1 hcon hgv
      go_wp2_with fail
      refine (hcon2 _ hg1).mono ?_
      rintro e w2 ⟨rfl, k, os, hw2⟩
      have hb2 : Below w1.heap.size w1 w2 := by rw [hw2]; exact below_regrown w1 (w1.drewN k).drawn os
      have hbel := below_aft9 hb1 hb2
      clear hw2 hcon2
      go_wp2
      go_ret2
      exact ⟨0, false, rfl, HT, hbel⟩
  | «syntax» =>
    have hcon := Tryz.strconv_Atoi_syntax s (by omega) ha _ w h3 (.inr ⟨_, _, rfl⟩)
    have HT := Lib.hid (NumT.bad (s := s) 0 (fun v h => by rw [ha] at h; cases h))
    clear ha
    go_enter Tryz.func69, Tryz.ntmps69
    go_wp2_with fail
    refine hcon.mono ?_
    rintro e w1 ⟨N, rfl, _, _, hb1⟩
    go_wp2
    go_ret2
    exact ⟨0, false, rfl, HT, hb1⟩
  | range =>
    have hcon := Tryz.strconv_Atoi_range s (by omega) ha _ w h4 (.inr ⟨_, _, rfl⟩)
    have HT := Lib.hid (NumT.bad (s := s) 0 (fun v h => by rw [ha] at h; cases h))
    clear ha
    go_enter Tryz.func69, Tryz.ntmps69
    go_wp2_with fail
    refine hcon.mono ?_
    rintro e w1 ⟨N, rfl, _, _, hb1⟩
    go_wp2
    go_ret2
    exact ⟨0, false, rfl, HT, hb1⟩
end Go.Proofs.YtpldoffjclmacaaGreatDoor
