/-
  Contracts of scripts: l6Dec, l10Names, l10Word, ScriptText; of the model.
-/
import Derived.Test.YtpldoffjclmacaaGreatDoorOc
import Derived.Test.YtpldoffjclmacaaGreatDoorHo
import Derived.Deep.RegionWith
namespace Go.Proofs.YtpldoffjclmacaaGreatDoor
open Go.RowKit

/-- The ways through a statement meet again. -/
theorem wp_meet9 {P : Program} {c : Code} {Q : Exit → Act → World → Prop} {a : Act} {w : World} (F : World → Prop) (A : Act)
    (h1 : c.wp P (fun e a' w' => match e with | .normal => a' = A ∧ F w' | _ => False) a w) (h2 : ∀ w', F w' → Q .normal A w') : c.wp P Q a w :=
  Code.wp_mono (fun e a' w' h => by
    cases e <;> first | exact (h : False).elim | (obtain ⟨ha, hF⟩ := h; subst ha; exact h2 w' hF)) h1
theorem Jo.dec_step {n : Int} (h0 : 10 ≤ n) (h1 : n ≤ 9999) : Jo.dec n = Jo.dec (n / 10) ++ [48 + n % 10] := by
  unfold Jo.dec
  by_cases a : n < 100
  · rw [if_neg (by omega), if_pos a, if_pos (by omega)]
    rfl
  · by_cases b : n < 1000
    · rw [if_neg (by omega), if_neg a, if_pos b, if_neg (by omega), if_pos (by omega)]
      simp only [List.cons_append, List.nil_append, List.cons.injEq, and_true]
      omega
    · rw [if_neg (by omega), if_neg a, if_neg b, if_neg (by omega), if_neg (by omega), if_pos (by omega)]
      simp only [List.cons_append, List.nil_append, List.cons.injEq, and_true]
      omega
theorem conv_cell1 (W : World) (B : Nat) (y : Int) (h : W.cell? ⟨B, 0, none⟩ = some (.int .u8 y)) :
    (convert 22 9 (.slice (some ⟨B, 0, none⟩) 1 1)).run Tryz.prog W = .ok (.string (strOfNums [y])) W :=
  run_convert_bytes_arg (P := Tryz.prog) _ 22 5 (by kernel_rfl) (by kernel_rfl) B 0 1 1 [y] rfl (fun i hi => by
    obtain rfl : i = 0 := by simpa using hi
    exact h) 9 (by kernel_rfl)
set_option maxRecDepth 100000 in
set_option maxHeartbeats 1600000 in
theorem l6Dec_fuel (m : Nat) : ∀ (n : Int) (w : World), 0 ≤ n → n ≤ 9999 → n < 10 ^ (m + 1) →
    Calls Tryz.prog 43 #[.int .i64 n] w fun e w' => e = .returned (.string (strOfNums (Jo.dec n))) ∧ Below w.heap.size w w' := by
  induction m with
  | zero =>
    intro n w h0 h1 h2
    have h3 : n < 10 := by simpa using h2
    have HD : Hid (Jo.dec n = [48 + n]) := Lib.hid (by unfold Jo.dec; rw [if_pos h3])
    have c1 := fun (x : Int) (W : World) => conv_new [x] 1 W
    simp only [List.map, List.length] at c1
    clear h2
    go_enter Tryz.func43, Tryz.ntmps43
    go_wp2
    go_ret
    exact ⟨by rw [HD.out]; rfl, (Below.refl _ _).alloc (Nat.le_refl _) _⟩
  | succ m ih =>
    intro n w h0 h1 h2
    by_cases h3 : n < 10
    · have HD : Hid (Jo.dec n = [48 + n]) := Lib.hid (by unfold Jo.dec; rw [if_pos h3])
      have c1 := fun (x : Int) (W : World) => conv_new [x] 1 W
      simp only [List.map, List.length] at c1
      clear h2 ih
      go_enter Tryz.func43, Tryz.ntmps43
      go_wp2
      go_ret
      exact ⟨by rw [HD.out]; rfl, (Below.refl _ _).alloc (Nat.le_refl _) _⟩
    · have HD := Lib.hid (Jo.dec_step (n := n) (by omega) h1)
      have hq : n / 10 < 10 ^ (m + 1) := by
        rw [Int.pow_succ] at h2
        omega
      have hcon := fun W => ih (n / 10) W (by omega) (by omega) hq
      have hlen := (Jo.dec_dg (n := n / 10) (by omega) (by omega)).2.2
      obtain ⟨D, HDD⟩ : ∃ D, Hid (Jo.dec (n / 10) = D) := ⟨_, Lib.hid rfl⟩
      rw [HDD.out] at HD hlen
      simp only [HDD.out] at hcon
      have hadd : ∀ W, (Op.stringOp .add (strOfNums D) (strOfNums [48 + n % 10])).run Tryz.prog W = .ok (.string (strOfNums (D ++ [48 + n % 10]))) W := fun W => by
        rw [Jo.str_append]; exact run_string_add_sum (P := Tryz.prog) W _ _ (by rw [strOfNums_size, strOfNums_size]; simp; omega)
      have hw1 : n.tdiv 10 = n / 10 := Int.tdiv_eq_ediv_of_nonneg h0
      have hw2 : IntKind.i64.wrap (n / 10) = n / 10 := IntWalk.i64_in _ (by omega)
      have hw3 : n.tmod 10 = n % 10 := Int.tmod_eq_emod_of_nonneg h0
      have hw4 : IntKind.i64.wrap (n % 10) = n % 10 := IntWalk.i64_in _ (by omega)
      have hw5 : IntKind.i64.wrap (48 + n % 10) = 48 + n % 10 := IntWalk.i64_in _ (by omega)
      have hw6 : IntKind.u8.wrap (48 + n % 10) = 48 + n % 10 := IntWalk.u8_in _ (by omega)
      have h10 : ¬ n < 10 := h3
      have hr0 : 0 ≤ n % 10 := by omega
      have hr1 : n % 10 < 10 := by omega
      clear h2 ih hq HDD
      go_enter Tryz.func43, Tryz.ntmps43
      have hcd := conv_cell1 (w.alloc (.cells #[.int .u8 (48 + n % 10)] 5)).drew w.heap.size (48 + n % 10) ((World.cell?_alloc_mark w _ _ _ 0).trans rfl)
      go_wp2
      go_region_with (first
        | (go_at_call 43; refine (hcon _).mono ?_; rintro e w1 ⟨rfl, hb1⟩; have hcv := conv_cell1 w1 w.heap.size (48 + n % 10) ((hb1.cell (p := ⟨w.heap.size, 0, none⟩) (by simp)).trans ((World.cell?_alloc_mark w _ _ _ 0).trans rfl)); have hbel := below_aft9 (((Below.refl w.heap.size w).alloc (Nat.le_refl _) (.cells #[.int .u8 (48 + n % 10)] 5)).drew) hb1)
        | (go_at_call 43; refine (hcon _).mono ?_; rintro e w1 ⟨rfl, hb1⟩; have hcv := conv_new [48 + n % 10] 1 w1; simp only [List.map, List.length] at hcv; have hbel0 := below_aft9 (Below.refl w.heap.size w).drew hb1; have hbel := hbel0.alloc hbel0.size (.cells #[.int .u8 (48 + n % 10)] 5)))
      all_goals clear hw1 hw2 hw3 hw4 hw5 hw6 hadd
      all_goals go_wp2
      all_goals go_ret
      all_goals exact ⟨by rw [HD.out]; rfl, hbel⟩
set_option maxRecDepth 100000 in
set_option maxHeartbeats 1600000 in
theorem l10Names_any (w : World) : Calls Tryz.prog 41 #[] w fun e w' => e = .returned (.slice (some ⟨w.heap.size, 0, none⟩) 15 15) ∧ (∀ k, k < 15 → w'.cell? ⟨w.heap.size, k, none⟩ = some (.string (strOfNums (Jo.name k)))) ∧ w.heap.size < w'.heap.size ∧ Below w.heap.size w w' := by
  have HC : Hid (∀ k, k < 15 → (w.alloc (.cells #[.string ⟨#[120]⟩, .string ⟨#[100, 117, 112]⟩, .string ⟨#[100, 114, 111, 112]⟩, .string ⟨#[115, 119, 97, 112]⟩, .string ⟨#[101, 113, 117, 97, 108]⟩, .string ⟨#[110, 111, 116]⟩, .string ⟨#[105, 102]⟩, .string ⟨#[101, 108, 115, 101]⟩, .string ⟨#[101, 110, 100]⟩, .string ⟨#[118, 101, 114, 105, 102, 121]⟩, .string ⟨#[100, 105, 103, 101, 115, 116]⟩, .string ⟨#[115, 105, 103, 110]⟩, .string ⟨#[109, 97, 110, 121]⟩, .string ⟨#[97, 102, 116, 101, 114]⟩, .string ⟨#[111, 108, 100, 101, 114]⟩] 9)).cell? ⟨w.heap.size, k, none⟩ = some (.string (strOfNums (Jo.name k)))) := Lib.hid (fun k hk => by
    rw [World.cell?_alloc_mark]
    have hc : k = 0 ∨ k = 1 ∨ k = 2 ∨ k = 3 ∨ k = 4 ∨ k = 5 ∨ k = 6 ∨ k = 7 ∨ k = 8 ∨ k = 9 ∨ k = 10 ∨ k = 11 ∨ k = 12 ∨ k = 13 ∨ k = 14 := by omega
    rcases hc with rfl | rfl | rfl | rfl | rfl | rfl | rfl | rfl | rfl | rfl | rfl | rfl | rfl | rfl | rfl <;> rfl)
  go_enter Tryz.func41, Tryz.ntmps41
  go_wp2
  go_ret
  exact ⟨rfl, HC.out, by simp, (Below.refl _ _).alloc (Nat.le_refl _) _⟩
theorem Jo.word_c0 (x : Jo) (h : x.c = 0) : Jo.word x = 120 :: Hx.of x.t x.t.size := by unfold Jo.word; rw [if_pos h]
theorem Jo.word_c12 (x : Jo) (h : x.c = 12) : Jo.word x = Jo.name 12 ++ 58 :: (Jo.dec x.a ++ 58 :: Jo.dec x.b) := by unfold Jo.word; rw [if_neg (by omega), if_pos h]
theorem Jo.word_c1 (x : Jo) (h : x.c = 13 ∨ x.c = 14) : Jo.word x = Jo.name x.c.toNat ++ 58 :: Jo.dec x.a := by unfold Jo.word; rw [if_neg (by omega), if_neg (by omega), if_pos h]
theorem Jo.word_cn (x : Jo) (h0 : x.c ≠ 0) (h1 : x.c ≠ 12) (h2 : x.c ≠ 13) (h3 : x.c ≠ 14) : Jo.word x = Jo.name x.c.toNat := by unfold Jo.word; rw [if_neg h0, if_neg h1, if_neg (by omega)]
theorem str_add (W : World) (a b : List Int) (h : a.length + b.length ≤ 1000000) : (Op.stringOp .add (strOfNums a) (strOfNums b)).run Tryz.prog W = .ok (.string (strOfNums (a ++ b))) W := by
  rw [Jo.str_append]
  exact run_string_add_sum (P := Tryz.prog) W _ _ (by rw [strOfNums_size, strOfNums_size]; omega)
theorem str_add1 (W : World) (a : List Int) (c : Int) (s : ByteArray) (hs : s = strOfNums [c]) (h : a.length ≤ 1000000) : (Op.stringOp .add (strOfNums a) s).run Tryz.prog W = .ok (.string (strOfNums (a ++ [c]))) W := by
  rw [hs, Jo.str_append]
  exact run_string_add_sum (P := Tryz.prog) W _ _ (by rw [strOfNums_size, strOfNums_size]; simp; omega)
set_option maxRecDepth 100000 in
set_option maxHeartbeats 1600000 in
theorem l10Word_any (C A B : Int) (t : ByteArray) (w : World) (hf : Jo.fld ⟨C, A, B, t⟩ = true) :
    Calls Tryz.prog 22 #[.agg #[.int .i64 C, .int .i64 A, .int .i64 B, .string t]] w fun e w' => e = .returned (.string (strOfNums (Jo.word ⟨C, A, B, t⟩))) ∧ Below w.heap.size w w' := by
  have hkind := Jo.kinds hf
  have hc : 0 ≤ C ∧ C ≤ 14 := by
    unfold Jo.fld at hf
    simp only [Bool.and_eq_true, decide_eq_true_eq] at hf
    exact hf.1
  obtain ⟨k, rfl⟩ := Int.eq_ofNat_of_zero_le hc.1
  have hk : k < 15 := by omega
  have hb0 : Below w.heap.size w (w.alloc (.cells #[.int .i64 (k : Int), .int .i64 A, .int .i64 B, .string t] 40 (0, 0))) := (Below.refl _ _).alloc (Nat.le_refl _) _
  have hv0 : Bk w.heap.size 40 #[.int .i64 (k : Int), .int .i64 A, .int .i64 B, .string t] (w.alloc (.cells #[.int .i64 (k : Int), .int .i64 A, .int .i64 B, .string t] 40 (0, 0))) := Bk.new w 40 _
  obtain ⟨c0, c1, c2, c3⟩ := Bk.c4 hv0.drew
  have hcon := l10Names_any
  clear hf hc
  go_enter Tryz.func22, Tryz.ntmps22
  go_wp2
  apply wp_meet9 (fun w' => Below w.heap.size w w' ∧ Bk w.heap.size 40 #[.int .i64 (k : Int), .int .i64 A, .int .i64 B, .string t] w')
  case h1 =>
    go_region_with (first | (go_at_call 41; refine (hcon _).mono ?_; rintro e w1 ⟨rfl, hn, hs1, hb1⟩; have hv1 := hv0.drew.below hb1; have hbel := below_aft9 hb0.drew hb1; obtain ⟨d0, d1, d2, d3⟩ := Bk.c4 hv1; have hnk : w1.cell? ⟨w.heap.size + 1, k, none⟩ = some (.string (strOfNums (Jo.name k))) := (by have hz := hn k hk; simpa using hz); clear hn))
    all_goals exact ⟨rfl, hbel, hv1⟩
  case h2 =>
    rintro w1 ⟨hbel, hv1⟩
    obtain ⟨d0, d1, d2, d3⟩ := Bk.c4 hv1
    have hnl := (Jo.name_plain ⟨k, hk⟩).2.2.2.2
    simp only at hnl
    have hS0 : w1.drew.cell? ⟨w.heap.size, 1, none⟩ = some (.int .i64 A) ∧ w1.drew.cell? ⟨w.heap.size, 2, none⟩ = some (.int .i64 B) := ⟨hv1.drew.cell 1, hv1.drew.cell 2⟩
    clear c0 c1 c2 c3 hcon hv0 hb0
    by_cases k0 : k = 0
    · have q0 : ((k : Int) == 0) = true := by simp [k0]
      have ht : t.size ≤ 80 := by
        rcases hkind with ⟨e, ht⟩ | ⟨e, _⟩ | ⟨e, _⟩ | ⟨e, _⟩ | ⟨j, e, _⟩
        · exact ht
        · have := congrArg Jo.c e; simp at this; omega
        · have := congrArg Jo.c e; simp at this; omega
        · have := congrArg Jo.c e; simp at this; omega
        · have := congrArg Jo.t e; simp only at this; rw [this]; decide
      have HW : Hid (Jo.word ⟨(k : Int), A, B, t⟩ = Jo.name k ++ Hx.of t t.size) := Lib.hid (by rw [Jo.word_c0 _ (by simp [k0]), k0]; rfl)
      have hln := Hx.of_len t t.size
      obtain ⟨NM, HNM⟩ : ∃ NM, Hid (Jo.name k = NM) := ⟨_, Lib.hid rfl⟩
      obtain ⟨HX, HHX⟩ : ∃ NM, Hid (Hx.of t t.size = NM) := ⟨_, Lib.hid rfl⟩
      rw [HNM.out, HHX.out] at HW
      rw [HNM.out] at hnl ⊢
      rw [HHX.out] at hln
      have hcon := fun W => specHexOf_any t W (by omega)
      simp only [HHX.out] at hcon
      have hadd := fun W => str_add W NM HX (by omega)
      clear k0 hkind
      go_wp2_with fail
      refine (hcon _).mono ?_
      rintro e w2 ⟨rfl, hb2⟩
      have hbel2 := below_aft9 hbel hb2
      go_wp2
      go_ret
      exact ⟨by rw [HW.out]; rfl, hbel2⟩
    have q0 : ((k : Int) == 0) = false := by simpa using k0
    by_cases k12 : k = 12
    · have q12 : ((k : Int) == 12) = true := by simp [k12]
      obtain ⟨hA0, hAB, hB5⟩ : 1 ≤ A ∧ A ≤ B ∧ B ≤ 5 := by
        rcases hkind with ⟨e, _⟩ | ⟨e, h1, h2, h3⟩ | ⟨e, _⟩ | ⟨e, _⟩ | ⟨j, e, _, _⟩
        · have := congrArg Jo.c e; simp at this; omega
        · exact ⟨h1, h2, h3⟩
        · have := congrArg Jo.c e; simp at this; omega
        · have := congrArg Jo.c e; simp at this; omega
        · have := congrArg Jo.c e; simp at this; omega
      have HW : Hid (Jo.word ⟨(k : Int), A, B, t⟩ = Jo.name k ++ 58 :: (Jo.dec A ++ 58 :: Jo.dec B)) := Lib.hid (by rw [Jo.word_c12 _ (by simp [k12]), k12])
      have hlA := (Jo.dec_dg (n := A) (by omega) (by omega)).2.2
      have hlB := (Jo.dec_dg (n := B) (by omega) (by omega)).2.2
      have hconA := fun W => l6Dec_fuel 3 A W (by omega) (by omega) (by simp; omega)
      have hconB := fun W => l6Dec_fuel 3 B W (by omega) (by omega) (by simp; omega)
      obtain ⟨NM, HNM⟩ : ∃ NM, Hid (Jo.name k = NM) := ⟨_, Lib.hid rfl⟩
      obtain ⟨DA, HDA⟩ : ∃ NM, Hid (Jo.dec A = NM) := ⟨_, Lib.hid rfl⟩
      obtain ⟨DB, HDB⟩ : ∃ NM, Hid (Jo.dec B = NM) := ⟨_, Lib.hid rfl⟩
      rw [HNM.out, HDA.out, HDB.out] at HW
      rw [HNM.out] at hnl ⊢
      rw [HDA.out] at hlA
      rw [HDB.out] at hlB
      simp only [HDA.out] at hconA
      simp only [HDB.out] at hconB
      have hadd1 := fun W => str_add1 W NM 58 ⟨#[58]⟩ rfl (by omega)
      have hadd2 : ∀ W, (Op.stringOp .add (strOfNums (NM ++ [58])) (strOfNums DA)).run Tryz.prog W = .ok (.string (strOfNums (NM ++ 58 :: DA))) W := fun W => by have h := str_add W (NM ++ [58]) DA (by simp; omega); simpa using h
      have hadd3 : ∀ W, (Op.stringOp .add (strOfNums (NM ++ 58 :: DA)) ⟨#[58]⟩).run Tryz.prog W = .ok (.string (strOfNums (NM ++ 58 :: (DA ++ [58])))) W := fun W => by have h := str_add1 W (NM ++ 58 :: DA) 58 ⟨#[58]⟩ rfl (by simp; omega); simpa using h
      have hadd4 : ∀ W, (Op.stringOp .add (strOfNums (NM ++ 58 :: (DA ++ [58]))) (strOfNums DB)).run Tryz.prog W = .ok (.string (strOfNums (NM ++ 58 :: (DA ++ 58 :: DB)))) W := fun W => by have h := str_add W (NM ++ 58 :: (DA ++ [58])) DB (by simp; omega); simpa using h
      clear k12 hkind k0
      go_wp2
      clear d0 d1 d2 d3
      go_region_held3 (fun W => W.cell? ⟨w.heap.size, 1, none⟩ = some (.int .i64 A) ∧ W.cell? ⟨w.heap.size, 2, none⟩ = some (.int .i64 B)) (first | with_reducible exact hS0 | with_reducible exact hSA | with_reducible exact hSB)
        (first
          | (go_at_call_of 43 (Value.int .i64 A); refine (hconA _).mono ?_; rintro e wA ⟨rfl, hbA⟩; have hvA : Bk w.heap.size 40 #[.int .i64 (k : Int), .int .i64 A, .int .i64 B, .string t] wA := (by first | exact hvB.below hbA | exact hv1.drew.below hbA); have hblA : Below w.heap.size w wA := (by first | exact below_aft9 hblB hbA | exact below_aft9 hbel.drew hbA); have hSA : wA.cell? ⟨w.heap.size, 1, none⟩ = some (.int .i64 A) ∧ wA.cell? ⟨w.heap.size, 2, none⟩ = some (.int .i64 B) := ⟨hvA.cell 1, hvA.cell 2⟩)
          | (go_at_call_of 43 (Value.int .i64 B); refine (hconB _).mono ?_; rintro e wB ⟨rfl, hbB⟩; have hvB : Bk w.heap.size 40 #[.int .i64 (k : Int), .int .i64 A, .int .i64 B, .string t] wB := (by first | exact hvA.below hbB | exact hv1.drew.below hbB); have hblB : Below w.heap.size w wB := (by first | exact below_aft9 hblA hbB | exact below_aft9 hbel.drew hbB); have hSB : wB.cell? ⟨w.heap.size, 1, none⟩ = some (.int .i64 A) ∧ wB.cell? ⟨w.heap.size, 2, none⟩ = some (.int .i64 B) := ⟨hvB.cell 1, hvB.cell 2⟩))
      all_goals go_wp2
      all_goals go_ret
      all_goals (refine ⟨by rw [HW.out]; rfl, ?_⟩; first | with_reducible exact hblB | with_reducible exact hblA)
    have q12 : ((k : Int) == 12) = false := by simpa using fun e : (k : Int) = 12 => k12 (by omega)
    by_cases k1 : k = 13 ∨ k = 14
    · obtain ⟨hA0, hA1⟩ : 0 ≤ A ∧ A ≤ 9999 := by
        rcases hkind with ⟨e, _⟩ | ⟨e, h1, h2, h3⟩ | ⟨e, h1, h2⟩ | ⟨e, h1, h2⟩ | ⟨j, e, _, _⟩
        · have := congrArg Jo.c e; simp at this; omega
        · have := congrArg Jo.c e; simp at this; omega
        · exact ⟨by omega, by omega⟩
        · exact ⟨by omega, by omega⟩
        · have := congrArg Jo.c e; simp at this; omega
      have HW : Hid (Jo.word ⟨(k : Int), A, B, t⟩ = Jo.name k ++ 58 :: Jo.dec A) := Lib.hid (by rw [Jo.word_c1 _ (by simp only; omega)]; simp)
      have hlA := (Jo.dec_dg (n := A) (by omega) (by omega)).2.2
      have hconA := fun W => l6Dec_fuel 3 A W (by omega) (by omega) (by simp; omega)
      obtain ⟨NM, HNM⟩ : ∃ NM, Hid (Jo.name k = NM) := ⟨_, Lib.hid rfl⟩
      obtain ⟨DA, HDA⟩ : ∃ NM, Hid (Jo.dec A = NM) := ⟨_, Lib.hid rfl⟩
      rw [HNM.out, HDA.out] at HW
      rw [HNM.out] at hnl ⊢
      rw [HDA.out] at hlA
      simp only [HDA.out] at hconA
      have hadd1 := fun W => str_add1 W NM 58 ⟨#[58]⟩ rfl (by omega)
      have hadd2 : ∀ W, (Op.stringOp .add (strOfNums (NM ++ [58])) (strOfNums DA)).run Tryz.prog W = .ok (.string (strOfNums (NM ++ 58 :: DA))) W := fun W => by have h := str_add W (NM ++ [58]) DA (by simp; omega); simpa using h
      have hq : ∃ o : Bool, ((k : Int) == 13) = o ∧ (o = false → ((k : Int) == 14) = true) := by
        rcases k1 with h | h
        · exact ⟨true, by simp [h], fun h => by cases h⟩
        · exact ⟨false, by simp [h], fun _ => by simp [h]⟩
      obtain ⟨o, q13, q14⟩ := hq
      clear k1 hkind k0 k12
      cases o
      · have q14' := q14 rfl
        clear q14
        go_wp2_with fail
        refine (hconA _).mono ?_
        rintro e w2 ⟨rfl, hb2⟩
        have hbel2 := below_aft9 hbel hb2
        go_wp2
        go_ret
        exact ⟨by rw [HW.out]; rfl, hbel2⟩
      · clear q14
        go_wp2_with fail
        refine (hconA _).mono ?_
        rintro e w2 ⟨rfl, hb2⟩
        have hbel2 := below_aft9 hbel hb2
        go_wp2
        go_ret
        exact ⟨by rw [HW.out]; rfl, hbel2⟩
    have q13 : ((k : Int) == 13) = false := by simpa using fun e : (k : Int) = 13 => k1 (by omega)
    have q14 : ((k : Int) == 14) = false := by simpa using fun e : (k : Int) = 14 => k1 (by omega)
    have HW : Hid (Jo.word ⟨(k : Int), A, B, t⟩ = Jo.name k) := Lib.hid (Jo.word_cn _ (by simp only; omega) (by simp only; omega) (by simp only; omega) (by simp only; omega))
    obtain ⟨NM, HNM⟩ : ∃ NM, Hid (Jo.name k = NM) := ⟨_, Lib.hid rfl⟩
    rw [HNM.out] at HW ⊢
    clear k1 hkind k0 k12
    go_wp2
    go_ret
    exact ⟨by rw [HW.out]; rfl, hbel⟩
end Go.Proofs.YtpldoffjclmacaaGreatDoor
