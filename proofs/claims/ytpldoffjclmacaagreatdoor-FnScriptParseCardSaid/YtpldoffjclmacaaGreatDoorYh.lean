/-
  Contracts of scripts: the words that the program keeps in a variable, Itoa, word; of the program.
-/
import Derived.Test.YtpldoffjclmacaaGreatDoorYc
import Derived.Test.YtpldoffjclmacaaGreatDoorOd
import Derived.Test.YtpldoffjclmacaaGreatDoorShelf
import Derived.WalkSmall
import Derived.Lib.LaidTab
import Derived.Lib.ItoaNum
import Derived.Lib.QuietBelow
namespace Go.Proofs.YtpldoffjclmacaaGreatDoor
open Go.RowKit

/-- The variables hold what start-up lays. -/
def GV (w : World) : Prop := (∀ c, c < 15 → w.cell? ⟨0, c, none⟩ = some (.string (strOfNums (Jo.name c)))) ∧ Lib.TabIs Tryz.prog w "internal/strconv.uint64pow10" .u64 Lib.pow10Tab
theorem gTab : Tryz.prog.globalNamed "internal/strconv.uint64pow10" = some 3 := by kernel_rfl
theorem GV.below {w w' : World} (h : GV w) (hb : Below w.heap.size w w') : GV w' := by
  refine ⟨fun c hc => (World.cell?_of_block (w := w) (a := ⟨0, c, none⟩) (hb.block 0 (World.block_lt_of_cell? w _ (h.1 c hc)))).trans (h.1 c hc), ?_⟩
  refine var?_below hb gTab ?_ h.2
  have h1 := h.2
  unfold Lib.TabIs World.var? at h1
  rw [gTab] at h1
  simp only [Option.bind_some] at h1
  rcases Nat.lt_or_ge 3 w.heap.size with hl | hl
  · exact hl
  · rw [Array.getElem?_eq_none hl] at h1
    cases h1
theorem itoa_dec {n : Int} (h0 : 0 ≤ n) (h1 : n ≤ 9999) : (⟨(Lib.itoa n).toArray⟩ : ByteArray) = strOfNums (Jo.dec n) := by
  apply ByteArray.ext
  apply Array.toList_inj.1
  rw [strOfNums_data]
  obtain ⟨u, rfl⟩ := Int.eq_ofNat_of_zero_le h0
  unfold Lib.itoa
  rw [if_neg (by omega)]
  show Lib.decDigits u = _
  have e2 : ∀ (x : Nat) (y : Int), (x : Int) = y → UInt8.ofNat x = UInt8.ofNat y.toNat := fun x y h => by rw [← h]; rfl
  by_cases a : u < 10
  · rw [Lib.decDigits, dif_pos a]
    unfold Jo.dec
    rw [if_pos (by omega), e2 (48 + u) (48 + (u : Int)) (by omega)]
    rfl
  rw [Lib.decDigits, dif_neg a]
  by_cases b : u < 100
  · rw [Lib.decDigits, dif_pos (by omega)]
    unfold Jo.dec
    rw [if_neg (by omega), if_pos (by omega), e2 (48 + u / 10) (48 + (u : Int) / 10) (by omega), e2 (48 + u % 10) (48 + (u : Int) % 10) (by omega)]
    rfl
  rw [Lib.decDigits, dif_neg (by omega)]
  by_cases c : u < 1000
  · rw [Lib.decDigits, dif_pos (by omega)]
    unfold Jo.dec
    rw [if_neg (by omega), if_neg (by omega), if_pos (by omega), e2 (48 + u / 10 / 10) (48 + (u : Int) / 100) (by omega), e2 (48 + u / 10 % 10) (48 + (u : Int) / 10 % 10) (by omega), e2 (48 + u % 10) (48 + (u : Int) % 10) (by omega)]
    rfl
  rw [Lib.decDigits, dif_neg (by omega), Lib.decDigits, dif_pos (by omega)]
  unfold Jo.dec
  rw [if_neg (by omega), if_neg (by omega), if_neg (by omega), e2 (48 + u / 10 / 10 / 10) (48 + (u : Int) / 1000) (by omega), e2 (48 + u / 10 / 10 % 10) (48 + (u : Int) / 100 % 10) (by omega), e2 (48 + u / 10 % 10) (48 + (u : Int) / 10 % 10) (by omega), e2 (48 + u % 10) (48 + (u : Int) % 10) (by omega)]
  rfl
theorem itoa_any (n : Int) (h0 : 0 ≤ n) (h1 : n ≤ 9999) (w : World) (hg : GV w) :
    Calls Tryz.prog 36 #[.int .i64 n] w fun e w' => e = .returned (.string (strOfNums (Jo.dec n))) ∧ Below w.heap.size w w' :=
  (Tryz.strconv_Itoa n (by omega) (by omega) w hg.2).mono fun e w' ⟨he, k, os, hw⟩ => by
    refine ⟨by rw [he, itoa_dec h0 h1], ?_⟩
    rw [hw]
    exact below_regrown w (w.drewN k).drawn os
theorem str_58 (P : List Int) : (⟨#[58]⟩ : ByteArray) ++ strOfNums P = strOfNums (58 :: P) := (Jo.str_append [58] P).symm
set_option maxRecDepth 100000 in
set_option maxHeartbeats 3200000 in
theorem word_any (x : Jo) (w : World) (hf : Jo.fld x = true) (hg : GV w) :
    Calls Tryz.prog 19 #[.agg #[.int .i64 x.c, .int .i64 x.a, .int .i64 x.b, .string x.t]] w fun e w' => e = .returned (.string (strOfNums (Jo.word x))) ∧ Below w.heap.size w w' := by
  rcases Jo.kinds hf with ⟨e, ht⟩ | ⟨e, h1, h2, h3⟩ | ⟨e, h1, h2⟩ | ⟨e, h1, h2⟩ | ⟨k, e, h1, h2⟩
  · rw [e]
    obtain ⟨C, A, B, t⟩ := x
    simp only at ht ⊢
    clear e hf
    have HWD : Hid (Jo.word ⟨0, 0, 0, t⟩ = Jo.name 0 ++ Hx.of t t.size) := Lib.hid rfl
    have hcon := fun W => implHexOf_any t W (by omega)
    have hadd := fun W => str_add W (Jo.name 0) (Hx.of t t.size) (by rw [Hx.of_len]; show 1 + _ ≤ _; omega)
    have hX0 := Bk.new w 40 #[.int .i64 0, .int .i64 0, .int .i64 0, .string t]
    have hb0 : Below w.heap.size w (w.alloc (.cells #[.int .i64 0, .int .i64 0, .int .i64 0, .string t] 40 (0, 0))) := (Below.refl _ _).alloc (Nat.le_refl _) _
    have hg0 := hg.below hb0
    have gn := hg0.1 0 (by omega)
    obtain ⟨d0, d1, d2, d3⟩ := Bk.c4 hX0
    obtain ⟨NM, HNM⟩ : ∃ z, Hid (strOfNums (Jo.name 0) = z) := ⟨_, Lib.hid rfl⟩
    obtain ⟨HX, HHX⟩ : ∃ z, Hid (strOfNums (Hx.of t t.size) = z) := ⟨_, Lib.hid rfl⟩
    obtain ⟨RS, HRS⟩ : ∃ z, Hid (strOfNums (Jo.name 0 ++ Hx.of t t.size) = z) := ⟨_, Lib.hid rfl⟩
    rw [HNM.out] at gn
    simp only [HHX.out] at hcon
    simp only [HNM.out, HHX.out, HRS.out] at hadd
    have HFIN : Hid (strOfNums (Jo.word ⟨0, 0, 0, t⟩) = RS) := Lib.hid (by rw [HWD.out, HRS.out])
    clear HNM HHX HRS HWD hg hg0 hX0
    go_enter Tryz.func19, Tryz.ntmps19
    go_wp2_with fail
    refine (hcon _).mono ?_
    rintro e w1 ⟨rfl, hb1⟩
    have hbel := below_aft9 hb0 hb1
    go_wp2
    go_ret
    exact ⟨by rw [HFIN.out]; rfl, hbel⟩
  · rw [e]
    obtain ⟨C, A, B, t⟩ := x
    simp only at h1 h2 h3 ⊢
    clear e hf
    have hlA := (Jo.dec_dg (n := A) (by omega) (by omega)).2.2
    have hlB := (Jo.dec_dg (n := B) (by omega) (by omega)).2.2
    have HWD : Hid (Jo.word ⟨12, A, B, ⟨#[]⟩⟩ = Jo.name 12 ++ (58 :: Jo.dec A) ++ (58 :: Jo.dec B)) := Lib.hid (by rw [List.append_assoc]; rfl)
    have hadd1 := fun W => ba_add W ⟨#[58]⟩ (strOfNums (Jo.dec A)) (by rw [strOfNums_size]; show 1 + _ ≤ _; omega)
    have hadd2 := fun W => str_add W (Jo.name 12) (58 :: Jo.dec A) (by rw [List.length_cons]; show 4 + _ ≤ _; omega)
    have hadd3 := fun W => ba_add W ⟨#[58]⟩ (strOfNums (Jo.dec B)) (by rw [strOfNums_size]; show 1 + _ ≤ _; omega)
    have hadd4 := fun W => str_add W (Jo.name 12 ++ (58 :: Jo.dec A)) (58 :: Jo.dec B) (by rw [List.length_append, List.length_cons, List.length_cons]; show 4 + _ + _ ≤ _; omega)
    have hconA := fun W h => itoa_any A (by omega) (by omega) W h
    have hconB := fun W h => itoa_any B (by omega) (by omega) W h
    rw [str_58] at hadd1 hadd3
    have hX0 := Bk.new w 40 #[.int .i64 12, .int .i64 A, .int .i64 B, .string ⟨#[]⟩]
    have hb0 : Below w.heap.size w (w.alloc (.cells #[.int .i64 12, .int .i64 A, .int .i64 B, .string ⟨#[]⟩] 40 (0, 0))) := (Below.refl _ _).alloc (Nat.le_refl _) _
    have hg0 := hg.below hb0
    have gn := hg0.1 12 (by omega)
    obtain ⟨d0, d1, d2, d3⟩ := Bk.c4 hX0
    obtain ⟨NM, HNM⟩ : ∃ z, Hid (strOfNums (Jo.name 12) = z) := ⟨_, Lib.hid rfl⟩
    obtain ⟨DA, HDA⟩ : ∃ z, Hid (strOfNums (Jo.dec A) = z) := ⟨_, Lib.hid rfl⟩
    obtain ⟨DB, HDB⟩ : ∃ z, Hid (strOfNums (Jo.dec B) = z) := ⟨_, Lib.hid rfl⟩
    obtain ⟨CA, HCA⟩ : ∃ z, Hid (strOfNums (58 :: Jo.dec A) = z) := ⟨_, Lib.hid rfl⟩
    obtain ⟨CB, HCB⟩ : ∃ z, Hid (strOfNums (58 :: Jo.dec B) = z) := ⟨_, Lib.hid rfl⟩
    obtain ⟨RA, HRA⟩ : ∃ z, Hid (strOfNums (Jo.name 12 ++ (58 :: Jo.dec A)) = z) := ⟨_, Lib.hid rfl⟩
    obtain ⟨RB, HRB⟩ : ∃ z, Hid (strOfNums (Jo.name 12 ++ (58 :: Jo.dec A) ++ (58 :: Jo.dec B)) = z) := ⟨_, Lib.hid rfl⟩
    rw [HNM.out] at gn
    simp only [HDA.out] at hconA
    simp only [HDB.out] at hconB
    simp only [HDA.out, HCA.out] at hadd1
    simp only [HNM.out, HCA.out, HRA.out] at hadd2
    simp only [HDB.out, HCB.out] at hadd3
    simp only [HRA.out, HCB.out, HRB.out] at hadd4
    have HFIN : Hid (strOfNums (Jo.word ⟨12, A, B, ⟨#[]⟩⟩) = RB) := Lib.hid (by rw [HWD.out, HRB.out])
    clear HNM HDA HDB HCA HCB HRA HRB HWD hg hlA hlB
    go_enter Tryz.func19, Tryz.ntmps19
    go_wp2_with fail
    refine (numbers_two w.heap.size _ d0).mono ?_
    rintro e w1 ⟨g, rfl, vG1, hgl, hb1⟩
    have hbel1 := below_aft9 hb0 hb1
    have hg1 := hg0.below hb1
    have vX1 := hX0.below hb1
    obtain ⟨g0, g1⟩ := Bk.c2 vG1
    obtain ⟨e0, e1, e2, e3⟩ := Bk.c4 vX1
    clear hg0 hX0 hb0 hb1 d0 d1 d2 d3 gn
    go_wp2
    refine wp_loop_rounds 3 ?_
    rw [rounds_succ]
    go_wp2_with fail
    refine (hconA _ hg1).mono ?_
    rintro e w2 ⟨rfl, hb2⟩
    have hbel2 := below_aft9 hbel1 hb2
    have hg2 := hg1.below hb2
    have vX2 := vX1.below hb2
    have vG2 := vG1.below hb2
    obtain ⟨i0, i1⟩ := Bk.c2 vG2
    obtain ⟨j0, j1, j2, j3⟩ := Bk.c4 vX2
    clear hg1 vX1 vG1 hbel1 hb2 g0 g1 e0 e1 e2 e3
    go_wp2
    rw [rounds_succ]
    go_wp2_with fail
    refine (hconB _ hg2).mono ?_
    rintro e w3 ⟨rfl, hb3⟩
    have hbel3 := below_aft9 hbel2 hb3
    clear hg2 vX2 vG2 hbel2 hb3 i0 i1 j0 j1 j2 j3
    go_wp2
    rw [rounds_succ]
    go_wp2
    go_ret
    exact ⟨by rw [HFIN.out]; rfl, hbel3⟩
  · rw [e]
    obtain ⟨C, A, B, t⟩ := x
    simp only at h1 h2 ⊢
    clear e hf
    have hlA := (Jo.dec_dg (n := A) (by omega) (by omega)).2.2
    have HWD : Hid (Jo.word ⟨13, A, 0, ⟨#[]⟩⟩ = Jo.name 13 ++ (58 :: Jo.dec A)) := Lib.hid rfl
    have hadd1 := fun W => ba_add W ⟨#[58]⟩ (strOfNums (Jo.dec A)) (by rw [strOfNums_size]; show 1 + _ ≤ _; omega)
    have hadd2 := fun W => str_add W (Jo.name 13) (58 :: Jo.dec A) (by rw [List.length_cons]; show 5 + _ ≤ _; omega)
    have hconA := fun W h => itoa_any A (by omega) (by omega) W h
    rw [str_58] at hadd1
    have hX0 := Bk.new w 40 #[.int .i64 13, .int .i64 A, .int .i64 0, .string ⟨#[]⟩]
    have hb0 : Below w.heap.size w (w.alloc (.cells #[.int .i64 13, .int .i64 A, .int .i64 0, .string ⟨#[]⟩] 40 (0, 0))) := (Below.refl _ _).alloc (Nat.le_refl _) _
    have hg0 := hg.below hb0
    have gn := hg0.1 13 (by omega)
    obtain ⟨d0, d1, d2, d3⟩ := Bk.c4 hX0
    obtain ⟨NM, HNM⟩ : ∃ z, Hid (strOfNums (Jo.name 13) = z) := ⟨_, Lib.hid rfl⟩
    obtain ⟨DA, HDA⟩ : ∃ z, Hid (strOfNums (Jo.dec A) = z) := ⟨_, Lib.hid rfl⟩
    obtain ⟨CA, HCA⟩ : ∃ z, Hid (strOfNums (58 :: Jo.dec A) = z) := ⟨_, Lib.hid rfl⟩
    obtain ⟨RA, HRA⟩ : ∃ z, Hid (strOfNums (Jo.name 13 ++ (58 :: Jo.dec A)) = z) := ⟨_, Lib.hid rfl⟩
    rw [HNM.out] at gn
    simp only [HDA.out] at hconA
    simp only [HDA.out, HCA.out] at hadd1
    simp only [HNM.out, HCA.out, HRA.out] at hadd2
    have HFIN : Hid (strOfNums (Jo.word ⟨13, A, 0, ⟨#[]⟩⟩) = RA) := Lib.hid (by rw [HWD.out, HRA.out])
    clear HNM HDA HCA HRA HWD hg hlA
    go_enter Tryz.func19, Tryz.ntmps19
    go_wp2_with fail
    refine (numbers_one w.heap.size 13 _ d0 (by omega)).mono ?_
    rintro e w1 ⟨g, rfl, vG1, hgl, hb1⟩
    have hbel1 := below_aft9 hb0 hb1
    have hg1 := hg0.below hb1
    have vX1 := hX0.below hb1
    have g0 : w1.cell? ⟨g, 0, none⟩ = some (.pointer (some ⟨w.heap.size, 1, none⟩)) := vG1.cell 0
    obtain ⟨e0, e1, e2, e3⟩ := Bk.c4 vX1
    clear hg0 hX0 hb0 hb1 d0 d1 d2 d3 gn
    go_wp2
    refine wp_loop_rounds 2 ?_
    rw [rounds_succ]
    go_wp2_with fail
    refine (hconA _ hg1).mono ?_
    rintro e w2 ⟨rfl, hb2⟩
    have hbel2 := below_aft9 hbel1 hb2
    clear hg1 vX1 vG1 hbel1 hb2 g0 e0 e1 e2 e3
    go_wp2
    rw [rounds_succ]
    go_wp2
    go_ret
    exact ⟨by rw [HFIN.out]; rfl, hbel2⟩
  · rw [e]
    obtain ⟨C, A, B, t⟩ := x
    simp only at h1 h2 ⊢
    clear e hf
    have hlA := (Jo.dec_dg (n := A) (by omega) (by omega)).2.2
    have HWD : Hid (Jo.word ⟨14, A, 0, ⟨#[]⟩⟩ = Jo.name 14 ++ (58 :: Jo.dec A)) := Lib.hid rfl
    have hadd1 := fun W => ba_add W ⟨#[58]⟩ (strOfNums (Jo.dec A)) (by rw [strOfNums_size]; show 1 + _ ≤ _; omega)
    have hadd2 := fun W => str_add W (Jo.name 14) (58 :: Jo.dec A) (by rw [List.length_cons]; show 5 + _ ≤ _; omega)
    have hconA := fun W h => itoa_any A (by omega) (by omega) W h
    rw [str_58] at hadd1
    have hX0 := Bk.new w 40 #[.int .i64 14, .int .i64 A, .int .i64 0, .string ⟨#[]⟩]
    have hb0 : Below w.heap.size w (w.alloc (.cells #[.int .i64 14, .int .i64 A, .int .i64 0, .string ⟨#[]⟩] 40 (0, 0))) := (Below.refl _ _).alloc (Nat.le_refl _) _
    have hg0 := hg.below hb0
    have gn := hg0.1 14 (by omega)
    obtain ⟨d0, d1, d2, d3⟩ := Bk.c4 hX0
    obtain ⟨NM, HNM⟩ : ∃ z, Hid (strOfNums (Jo.name 14) = z) := ⟨_, Lib.hid rfl⟩
    obtain ⟨DA, HDA⟩ : ∃ z, Hid (strOfNums (Jo.dec A) = z) := ⟨_, Lib.hid rfl⟩
    obtain ⟨CA, HCA⟩ : ∃ z, Hid (strOfNums (58 :: Jo.dec A) = z) := ⟨_, Lib.hid rfl⟩
    obtain ⟨RA, HRA⟩ : ∃ z, Hid (strOfNums (Jo.name 14 ++ (58 :: Jo.dec A)) = z) := ⟨_, Lib.hid rfl⟩
    rw [HNM.out] at gn
    simp only [HDA.out] at hconA
    simp only [HDA.out, HCA.out] at hadd1
    simp only [HNM.out, HCA.out, HRA.out] at hadd2
    have HFIN : Hid (strOfNums (Jo.word ⟨14, A, 0, ⟨#[]⟩⟩) = RA) := Lib.hid (by rw [HWD.out, HRA.out])
    clear HNM HDA HCA HRA HWD hg hlA
    go_enter Tryz.func19, Tryz.ntmps19
    go_wp2_with fail
    refine (numbers_one w.heap.size 14 _ d0 (by omega)).mono ?_
    rintro e w1 ⟨g, rfl, vG1, hgl, hb1⟩
    have hbel1 := below_aft9 hb0 hb1
    have hg1 := hg0.below hb1
    have vX1 := hX0.below hb1
    have g0 : w1.cell? ⟨g, 0, none⟩ = some (.pointer (some ⟨w.heap.size, 1, none⟩)) := vG1.cell 0
    obtain ⟨e0, e1, e2, e3⟩ := Bk.c4 vX1
    clear hg0 hX0 hb0 hb1 d0 d1 d2 d3 gn
    go_wp2
    refine wp_loop_rounds 2 ?_
    rw [rounds_succ]
    go_wp2_with fail
    refine (hconA _ hg1).mono ?_
    rintro e w2 ⟨rfl, hb2⟩
    have hbel2 := below_aft9 hbel1 hb2
    clear hg1 vX1 vG1 hbel1 hb2 g0 e0 e1 e2 e3
    go_wp2
    rw [rounds_succ]
    go_wp2
    go_ret
    exact ⟨by rw [HFIN.out]; rfl, hbel2⟩
  · rw [e]
    clear e hf
    have HWD : Hid (Jo.word ⟨(k : Int), 0, 0, ⟨#[]⟩⟩ = Jo.name k) := Lib.hid (Jo.word_k h1 h2)
    have q0 : ((k : Int) == 0) = false := by have : k ≠ 0 := by omega
                                             simpa using this
    have hlt : k < 15 := by omega
    have hX0 := Bk.new w 40 #[.int .i64 (k : Int), .int .i64 0, .int .i64 0, .string ⟨#[]⟩]
    have hb0 : Below w.heap.size w (w.alloc (.cells #[.int .i64 (k : Int), .int .i64 0, .int .i64 0, .string ⟨#[]⟩] 40 (0, 0))) := (Below.refl _ _).alloc (Nat.le_refl _) _
    have hg0 := hg.below hb0
    have gn := hg0.1 k hlt
    obtain ⟨d0, d1, d2, d3⟩ := Bk.c4 hX0
    obtain ⟨NM, HNM⟩ : ∃ z, Hid (strOfNums (Jo.name k) = z) := ⟨_, Lib.hid rfl⟩
    rw [HNM.out] at gn
    have HFIN : Hid (strOfNums (Jo.word ⟨(k : Int), 0, 0, ⟨#[]⟩⟩) = NM) := Lib.hid (by rw [HWD.out, HNM.out])
    clear HNM HWD hg hg0 hX0
    go_enter Tryz.func19, Tryz.ntmps19
    go_wp2_with fail
    refine (numbers_none w.heap.size (k : Int) _ d0 (by omega) (by omega) (by omega)).mono ?_
    rintro e w1 ⟨rfl, rfl⟩
    go_wp2
    refine wp_loop_rounds 1 ?_
    rw [rounds_succ]
    go_wp2
    go_ret
    exact ⟨by rw [HFIN.out]; rfl, hb0⟩
end Go.Proofs.YtpldoffjclmacaaGreatDoor
