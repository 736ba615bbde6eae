/-
  Contracts of chapter 5: VerifyBatch; of the program.
-/
import Derived.Test.YtimajobbkemdbabVb
namespace Go.Proofs.Ytimajobbkemdbab
open Go.RowKit

/-- The ways through a statement meet again. -/
theorem wp_join {P : Program} {c : Code} {Q : Exit → Act → World → Prop} {a : Act} {w : World} (F : World → Prop) (A : Act)
    (h1 : c.wp P (fun e a' w' => match e with | .normal => a' = A ∧ F w' | _ => False) a w) (h2 : ∀ w', F w' → Q .normal A w') : c.wp P Q a w :=
  Code.wp_mono (fun e a' w' h => by
    cases e <;> first | exact (h : False).elim | (obtain ⟨ha, hF⟩ := h; subst ha; exact h2 w' hF)) h1
set_option maxRecDepth 100000 in
set_option maxHeartbeats 3200000 in
theorem implVerifyBatch_any (a b : Option Addr) (len cap len' cap' : Nat) (l : List Sg.It) (ws : List Int) (w : World) (hl : GR w a len l) (hw : IR w b len' ws) (hm : len ≤ 9223372036854775807) (hm' : len' ≤ 9223372036854775807) (ht : ∀ j, j < len → (l.getD j Sg.it0).text.size ≤ 1048576) :
    Calls Try.prog 19 #[.slice a len cap, .slice b len' cap'] w fun x w' => x = .returned (.bool (Sg.batch l ws)) ∧ Below w.heap.size w w' := by
  have hl1 := hl.1
  have hw1 := hw.1
  by_cases h0 : len < 1
  · have HB : Hid (Sg.batch l ws = false) := Lib.hid (Sg.batch_no_room (by omega))
    rw [HB.out]
    clear hl hw
    go_enter Try.func19, Try.ntmps19
    go_wp2
    go_ret
    exact ⟨rfl, Below.refl _ _⟩
  by_cases h8 : 8 < len
  · have HB : Hid (Sg.batch l ws = false) := Lib.hid (Sg.batch_no_room (by omega))
    rw [HB.out]
    clear hl hw
    go_enter Try.func19, Try.ntmps19
    go_wp2
    go_ret
    exact ⟨rfl, Below.refl _ _⟩
  by_cases he : ¬ len' = len
  · have HB : Hid (Sg.batch l ws = false) := Lib.hid (Sg.batch_no_room (by omega))
    have he1 : ((len' : Int) == (len : Int)) = false := by simp; omega
    have he2 : ((len' : Int) != (len : Int)) = true := by simp; omega
    rw [HB.out]
    clear hl hw he
    go_enter Try.func19, Try.ntmps19
    go_wp2
    go_ret
    exact ⟨rfl, Below.refl _ _⟩
  obtain rfl := Decidable.not_not.mp he
  clear he
  have HP0 : Bk w.heap.size 61 #[.int .i64 0, .int .i64 1073741789] ((w.alloc (.cells #[.int .i64 0, .int .i64 1073741789] 61 (0, 0))).alloc (.cells #[.int .i64 1, .int .i64 2147483579] 61 (0, 0))) := (Bk.new w _ _).alloc _
  have HQ0 : Bk (w.heap.size + 1) 61 #[.int .i64 1, .int .i64 2147483579] ((w.alloc (.cells #[.int .i64 0, .int .i64 1073741789] 61 (0, 0))).alloc (.cells #[.int .i64 1, .int .i64 2147483579] 61 (0, 0))) := Bk.new' _ _ _ _ (by simp)
  have hb0 : Below w.heap.size w ((w.alloc (.cells #[.int .i64 0, .int .i64 1073741789] 61 (0, 0))).alloc (.cells #[.int .i64 1, .int .i64 2147483579] 61 (0, 0))) := below_alloc (below_alloc (Below.refl _ _) _) _
  go_enter Try.func19, Try.ntmps19
  go_wp2
  go_loopw [31] (fun i wr => ∃ k : Nat, k ≤ len' ∧ i = .int .i64 (k : Int) ∧ Bk w.heap.size 61 #[.int .i64 (Sg.left l ws k), .int .i64 1073741789] wr ∧ Bk (w.heap.size + 1) 61 #[.int .i64 (Sg.right l ws k), .int .i64 2147483579] wr ∧ Hid (Sg.good l ws k = true) ∧ Below w.heap.size w wr)
    (fun i _ => len' - (intOf i).toNat)
  case atStart => exact ⟨0, by omega, rfl, HP0, HQ0, Lib.hid rfl, hb0⟩
  case round =>
    clear HP0 HQ0 hb0
    obtain ⟨k, hk, rfl, HPr, HQr, hgd, hbel⟩ := hrel
    obtain ⟨L0, L1⟩ := Sg.left_bd l ws k
    obtain ⟨R0, R1⟩ := Sg.right_bd l ws k
    by_cases hlt : k < len'
    · skip
      obtain ⟨ba, offa, rfl, hba, hca⟩ := (hl.below hbel).2 (by omega)
      obtain ⟨bb, offb, rfl, hbb, hcb⟩ := (hw.below hbel).2 (by omega)
      obtain ⟨c0, c1, c2, c3⟩ := hca k hlt
      have d0 := hcb k (by omega)
      clear hca hcb
      have HX : ∀ x : Sg.It, Hid (l.getD k Sg.it0 = x) → Hid (Sg.left l ws (k + 1) = (Sg.left l ws k + ws.getD k 0 * x.s) % 1073741789) ∧ Hid (Sg.right l ws (k + 1) = Sg.right l ws k * x.term (ws.getD k 0) % 2147483579) ∧ Hid (Sg.good l ws (k + 1) = (Sg.good l ws k && (x.sh && Sg.win (ws.getD k 0)))) := fun x h => by
        rw [← h.out]; exact ⟨Lib.hid rfl, Lib.hid rfl, Lib.hid rfl⟩
      obtain ⟨X, hX⟩ : ∃ X, Hid (l.getD k Sg.it0 = X) := ⟨_, Lib.hid rfl⟩
      obtain ⟨HL, HR, HG⟩ := HX X hX
      have hNo : (X.sh && Sg.win (ws.getD k 0)) = false → Hid (Sg.batch l ws = false) := fun h => Lib.hid (Sg.batch_no_good (Sg.good_no l ws k (by rw [hX.out]; exact h) _ (by rw [hl.1]; exact hlt)))
      rw [hX.out] at c0 c1 c2 c3
      obtain ⟨g, hg⟩ : ∃ g, Hid (ws.getD k 0 = g) := ⟨_, Lib.hid rfl⟩
      rw [hg.out] at d0 HL HR HG hNo
      obtain ⟨K, t, R, S⟩ := X
      have htt : t.size ≤ 1048576 := by have := ht k hlt; rw [hX.out] at this; exact this
      simp only [] at c0 c1 c2 c3
      clear HX hX hg
      have HX0 : Bk wr.heap.size 42 #[.int .i64 K, .string t, .int .i64 R, .int .i64 S] (wr.alloc (.cells #[.int .i64 K, .string t, .int .i64 R, .int .i64 S] 42 (0, 0))) := Bk.new _ _ _
      have hb0 := below_alloc hbel (.cells #[.int .i64 K, .string t, .int .i64 R, .int .i64 S] 42 (0, 0))
      have HP0 := HPr.alloc (.cells #[.int .i64 K, .string t, .int .i64 R, .int .i64 S] 42 (0, 0))
      have HQ0 := HQr.alloc (.cells #[.int .i64 K, .string t, .int .i64 R, .int .i64 S] 42 (0, 0))
      clear HPr HQr
      cases hsh : Sg.shape K R S
      · have HN := hNo (by show (Sg.shape K R S && Sg.win g) = false; rw [hsh]; rfl)
        have hcon1 := fun W => asEquation_no K R S t W hsh
        clear hl hw hNo HL HR HG hsh hgd
        go_wp2_with fail
        refine (hcon1 _).mono ?_
        rintro x2 w2 ⟨rfl, hb2⟩
        go_wp2
        go_ret
        exact ⟨by rw [HN.out]; rfl, below_alloc (below_after hb0 hb2) _⟩
      · have hcon1 := fun W => asEquation_yes K R S t W hsh htt
        obtain ⟨C, HC⟩ : ∃ C, Hid (Sg.ch R K t = C) := ⟨_, Lib.hid rfl⟩
        rw [HC.out] at hcon1
        have hcon2 := isScalar0_any g
        cases hwn : Sg.win g
        · have HN := hNo (by show (Sg.shape K R S && Sg.win g) = false; rw [hwn, Bool.and_false])
          rw [hwn] at hcon2
          clear hl hw hNo HL HR HG hsh hgd hwn HC
          go_wp2_with fail
          refine (hcon1 _).mono ?_
          rintro x2 w2 ⟨rfl, hb2⟩
          have hd2 : (w2.alloc (.cells #[.int .i64 S, .int .i64 1073741789, .int .i64 R, .int .i64 2147483579, .int .i64 K, .int .i64 2147483579, .int .i64 C, .int .i64 1073741789] 83 (0, 0))).cell? ⟨bb, offb + k, none⟩ = some (.int .i64 g) := by
            exact (Below.cell (below_alloc (below_after (below_alloc (Below.refl wr.heap.size wr) (.cells #[.int .i64 K, .string t, .int .i64 R, .int .i64 S] 42 (0, 0))) hb2) (.cells #[.int .i64 S, .int .i64 1073741789, .int .i64 R, .int .i64 2147483579, .int .i64 K, .int .i64 2147483579, .int .i64 C, .int .i64 1073741789] 83 (0, 0))) (p := ⟨bb, offb + k, none⟩) hbb).trans d0
          go_wp2_with fail
          refine (hcon2 _).mono ?_
          rintro x3 w3 ⟨rfl, rfl⟩
          go_wp2
          go_ret
          exact ⟨by rw [HN.out]; rfl, below_alloc (below_after hb0 hb2) _⟩
        · have HG' : Hid (Sg.good l ws (k + 1) = true) := by rw [HG.out, hgd.out, show (Sg.It.mk K t R S).sh = true from hsh, hwn]; exact rfl
          rw [hwn] at hcon2
          obtain ⟨g0, g1⟩ := (Sg.win_iff g).mp hwn
          obtain ⟨⟨hkE, _⟩, hrE, s0, s1⟩ := (Sg.shape_iff _ _ _).mp hsh
          obtain ⟨kk0, kk1⟩ := Gr.E_bd hkE
          obtain ⟨rr0, rr1⟩ := Gr.E_bd hrE
          obtain ⟨e0, e1⟩ := Sg.ch_bd R K t
          rw [HC.out] at e0 e1
          have HL' : Hid (Sg.left l ws (k + 1) = (Sg.left l ws k + g * S % 1073741789) % 1073741789) := by
            have h1 : Sg.left l ws (k + 1) = (Sg.left l ws k + g * S) % 1073741789 := HL.out
            rw [h1]
            exact Lib.hid (by omega)
          have HR' : Hid (Sg.right l ws (k + 1) = Sg.right l ws k * Sg.tm K C R g % 2147483579) := by
            rw [← HC.out]
            exact HR
          obtain ⟨Lk, HLk⟩ : ∃ L, Hid (Sg.left l ws k = L) := ⟨_, Lib.hid rfl⟩
          obtain ⟨Rk, HRk⟩ : ∃ L, Hid (Sg.right l ws k = L) := ⟨_, Lib.hid rfl⟩
          obtain ⟨L2, HL2⟩ : ∃ L, Hid (Sg.left l ws (k + 1) = L) := ⟨_, Lib.hid rfl⟩
          obtain ⟨R2, HR2⟩ : ∃ L, Hid (Sg.right l ws (k + 1) = L) := ⟨_, Lib.hid rfl⟩
          rw [HLk.out] at L0 L1 HL' HP0
          rw [HRk.out] at R0 R1 HR' HQ0
          have m0 := Int.emod_nonneg (g * S) (show (1073741789 : Int) ≠ 0 by decide)
          have m1 := Int.emod_lt_of_pos (g * S) (show (0 : Int) < 1073741789 by decide)
          obtain ⟨t0, t1⟩ := Sg.tm_bd K C R g
          have hcon3 := fun W => times_any g S 1073741789 W (by omega) (by omega) g0 g1 s0 s1
          obtain ⟨M, HM⟩ : ∃ M, Hid (g * S % 1073741789 = M) := ⟨_, Lib.hid rfl⟩
          rw [HM.out] at hcon3 m0 m1 HL'
          have hcon4 := fun W => plus_any Lk M 1073741789 W (by omega) (by omega) L0 L1 m0 m1
          rw [← HL'.out, HL2.out] at hcon4
          have hcon5 := fun W => rightSide_any K C R S g W (by omega) (by omega) (by omega) (by omega) e0 e1 g0 g1
          obtain ⟨T, HT⟩ : ∃ T, Hid (Sg.tm K C R g = T) := ⟨_, Lib.hid rfl⟩
          rw [HT.out] at hcon5 t0 t1 HR'
          have hcon6 := fun W => times_any Rk T 2147483579 W (by omega) (by omega) R0 R1 t0 t1
          rw [← HR'.out, HR2.out] at hcon6
          clear hl hw hNo HL HR HG hsh hwn hkE hrE HC HM HT HL' HR' hgd HLk HRk e0 e1 kk0 kk1 rr0 rr1 s0 s1 g0 g1 m0 m1 t0 t1 L0 L1 R0 R1 htt
          go_wp2_with fail
          refine (hcon1 _).mono ?_
          rintro x2 w2 ⟨rfl, hb2⟩
          have hd2 : (w2.alloc (.cells #[.int .i64 S, .int .i64 1073741789, .int .i64 R, .int .i64 2147483579, .int .i64 K, .int .i64 2147483579, .int .i64 C, .int .i64 1073741789] 83 (0, 0))).cell? ⟨bb, offb + k, none⟩ = some (.int .i64 g) := by
            exact (Below.cell (below_alloc (below_after (below_alloc (Below.refl wr.heap.size wr) (.cells #[.int .i64 K, .string t, .int .i64 R, .int .i64 S] 42 (0, 0))) hb2) (.cells #[.int .i64 S, .int .i64 1073741789, .int .i64 R, .int .i64 2147483579, .int .i64 K, .int .i64 2147483579, .int .i64 C, .int .i64 1073741789] 83 (0, 0))) (p := ⟨bb, offb + k, none⟩) hbb).trans d0
          have l1 : w.heap.size + 1 < w2.heap.size := (HQ0.below hb2).lt
          have HP3 := ((HP0.below hb2).alloc (.cells #[.int .i64 S, .int .i64 1073741789, .int .i64 R, .int .i64 2147483579, .int .i64 K, .int .i64 2147483579, .int .i64 C, .int .i64 1073741789] 83 (0, 0))).alloc (.cells #[.int .i64 g, .int .i64 1073741789] 61 (0, 0))
          have HQ3 := ((HQ0.below hb2).alloc (.cells #[.int .i64 S, .int .i64 1073741789, .int .i64 R, .int .i64 2147483579, .int .i64 K, .int .i64 2147483579, .int .i64 C, .int .i64 1073741789] 83 (0, 0))).alloc (.cells #[.int .i64 g, .int .i64 1073741789] 61 (0, 0))
          have HE3 := (Bk.new w2 83 #[.int .i64 S, .int .i64 1073741789, .int .i64 R, .int .i64 2147483579, .int .i64 K, .int .i64 2147483579, .int .i64 C, .int .i64 1073741789]).alloc (.cells #[.int .i64 g, .int .i64 1073741789] 61 (0, 0))
          have HW3 : Bk (w2.heap.size + 1) 61 #[.int .i64 g, .int .i64 1073741789] ((w2.alloc (.cells #[.int .i64 S, .int .i64 1073741789, .int .i64 R, .int .i64 2147483579, .int .i64 K, .int .i64 2147483579, .int .i64 C, .int .i64 1073741789] 83 (0, 0))).alloc (.cells #[.int .i64 g, .int .i64 1073741789] 61 (0, 0))) := Bk.new' _ _ _ _ (by simp)
          have hc3 := below_alloc (below_alloc (below_after hb0 hb2) (.cells #[.int .i64 S, .int .i64 1073741789, .int .i64 R, .int .i64 2147483579, .int .i64 K, .int .i64 2147483579, .int .i64 C, .int .i64 1073741789] 83 (0, 0))) (.cells #[.int .i64 g, .int .i64 1073741789] 61 (0, 0))
          clear HX0 hb0 HP0 HQ0 hb2 hcon1 d0 c0 c1 c2 c3
          go_wp2_with fail
          refine (hcon2 _).mono ?_
          rintro x3 w3 ⟨rfl, rfl⟩
          obtain ⟨p30, p31⟩ := Bk.c2 HP3
          obtain ⟨e30, e31, e32, e33, e34, e35, e36, e37⟩ := Bk.c8 HE3
          obtain ⟨w30, w31⟩ := Bk.c2 HW3
          go_wp2
          apply wp_join (fun w' => Bk w.heap.size 61 #[.int .i64 L2, .int .i64 1073741789] w' ∧ Bk (w.heap.size + 1) 61 #[.int .i64 Rk, .int .i64 2147483579] w' ∧ Bk w2.heap.size 83 #[.int .i64 S, .int .i64 1073741789, .int .i64 R, .int .i64 2147483579, .int .i64 K, .int .i64 2147483579, .int .i64 C, .int .i64 1073741789] w' ∧ Bk (w2.heap.size + 1) 61 #[.int .i64 g, .int .i64 1073741789] w' ∧ Below w.heap.size w w')
          case h1 =>
            go_region_with (first
              | (go_at_call 43; refine (hcon3 _).mono ?_; rintro x4 w4 ⟨rfl, hb4⟩; have HP4 := HP3.drew.below hb4; have HQ4 := HQ3.drew.below hb4; have HE4 := HE3.drew.below hb4; have HW4 := HW3.drew.below hb4; have hc4 := below_after hc3.drew hb4; obtain ⟨p40, p41⟩ := Bk.c2 HP4; obtain ⟨e40, e41, _, _, _, _, _, _⟩ := Bk.c8 HE4; obtain ⟨w40, w41⟩ := Bk.c2 HW4)
              | (go_at_call 41; refine (hcon4 _).mono ?_; rintro x5 w5 ⟨rfl, hb5⟩; have HP5 := HP4.below hb5; have HQ5 := HQ4.below hb5; have HE5 := HE4.below hb5; have HW5 := HW4.below hb5; have hc5 := below_after hc4 hb5; obtain ⟨p50, p51⟩ := Bk.c2 HP5; obtain ⟨f50, f51⟩ := HP5.f2; have HP6 := Bk.store2 HP5 (.int .i64 L2) (.int .i64 1073741789); have HQ6 := Bk.other2 HQ5 w.heap.size (by omega) (.int .i64 L2) (.int .i64 1073741789); have HE6 := Bk.other2 HE5 w.heap.size (by omega) (.int .i64 L2) (.int .i64 1073741789); have HW6 := Bk.other2 HW5 w.heap.size (by omega) (.int .i64 L2) (.int .i64 1073741789); have hc6 := below_store2 hc5 w.heap.size (by omega) (.int .i64 L2) (.int .i64 1073741789)))
            all_goals exact ⟨rfl, HP6, HQ6, HE6, HW6, hc6⟩
          case h2 =>
            clear HP3 HQ3 HE3 HW3 hc3 p30 p31 e30 e31 e32 e33 e34 e35 e36 e37 w30 w31 hcon3 hcon4 hd2
            rintro w6 ⟨HP6, HQ6, HE6, HW6, hc6⟩
            obtain ⟨q60, q61⟩ := Bk.c2 HQ6
            obtain ⟨e60, e61, e62, e63, e64, e65, e66, e67⟩ := Bk.c8 HE6
            obtain ⟨w60, w61⟩ := Bk.c2 HW6
            go_wp2
            apply wp_join (fun w' => Bk w.heap.size 61 #[.int .i64 L2, .int .i64 1073741789] w' ∧ Bk (w.heap.size + 1) 61 #[.int .i64 R2, .int .i64 2147483579] w' ∧ Bk w2.heap.size 83 #[.int .i64 S, .int .i64 1073741789, .int .i64 R, .int .i64 2147483579, .int .i64 K, .int .i64 2147483579, .int .i64 C, .int .i64 1073741789] w' ∧ Bk (w2.heap.size + 1) 61 #[.int .i64 g, .int .i64 1073741789] w' ∧ Below w.heap.size w w')
            case h1 =>
              go_region_with (first
                | (go_at_call 59; refine (hcon5 _).mono ?_; rintro x7 w7 ⟨rfl, hb7⟩; have HP7 := HP6.drew.below hb7; have HQ7 := HQ6.drew.below hb7; have HE7 := HE6.drew.below hb7; have HW7 := HW6.drew.below hb7; have hc7 := below_after hc6.drew hb7; obtain ⟨q70, q71⟩ := Bk.c2 HQ7)
                | (go_at_call 43; refine (hcon6 _).mono ?_; rintro x8 w8 ⟨rfl, hb8⟩; have HP8 := HP7.below hb8; have HQ8 := HQ7.below hb8; have HE8 := HE7.below hb8; have HW8 := HW7.below hb8; have hc8 := below_after hc7 hb8; obtain ⟨q80, q81⟩ := Bk.c2 HQ8; obtain ⟨f80, f81⟩ := HQ8.f2; have HQ9 := Bk.store2 HQ8 (.int .i64 R2) (.int .i64 2147483579); have HP9 := Bk.other2 HP8 (w.heap.size + 1) (by omega) (.int .i64 R2) (.int .i64 2147483579); have HE9 := Bk.other2 HE8 (w.heap.size + 1) (by omega) (.int .i64 R2) (.int .i64 2147483579); have HW9 := Bk.other2 HW8 (w.heap.size + 1) (by omega) (.int .i64 R2) (.int .i64 2147483579); have hc9 := below_store2 hc8 (w.heap.size + 1) (by omega) (.int .i64 R2) (.int .i64 2147483579)))
              all_goals exact ⟨rfl, HP9, HQ9, HE9, HW9, hc9⟩
            case h2 =>
              clear HP6 HQ6 HE6 HW6 hc6 q60 q61 e60 e61 e62 e63 e64 e65 e66 e67 w60 w61 hcon5 hcon6
              rintro w9 ⟨HP9, HQ9, _, _, hc9⟩
              go_wp2
              go_roundw
              case rel => exact ⟨k + 1, by omega, by simp, by rw [HL2.out]; exact HP9, by rw [HR2.out]; exact HQ9, HG', hc9⟩
              case measure => simp [intOf]; omega
    · have hk2 : k = len' := by omega
      subst hk2
      have HB : Hid (Sg.batch l ws = (Sg.gp (Sg.left l ws k) == Sg.right l ws k)) := by
        have := Sg.batch_eq (l := l) (ws := ws) (by omega) (by rw [hl1]; exact hgd.out)
        rw [hl1] at this
        exact Lib.hid this
      have hcon := fun W => basePower_any (Sg.left l ws k) 1073741789 W (by omega)
      obtain ⟨G, HG⟩ : ∃ G, Hid (Sg.gp (Sg.left l ws k) = G) := ⟨_, Lib.hid rfl⟩
      obtain ⟨Rk, HRk⟩ : ∃ R, Hid (Sg.right l ws k = R) := ⟨_, Lib.hid rfl⟩
      obtain ⟨Lk, HLk⟩ : ∃ L, Hid (Sg.left l ws k = L) := ⟨_, Lib.hid rfl⟩
      rw [HG.out, HRk.out] at HB
      rw [HG.out, HLk.out] at hcon
      rw [HLk.out] at HPr
      rw [HRk.out] at HQr
      clear HG HRk HLk hgd hl hw L0 L1 R0 R1
      have hq1 := fun W => eq_residue G 2147483579 Rk 2147483579 W
      rw [show ((2147483579 : Int) == 2147483579) = true from rfl, Bool.and_true] at hq1
      have hq2 := noGuard_residue
      have hSof : ∀ W, Bk w.heap.size 61 #[.int .i64 Lk, .int .i64 1073741789] W → Bk (w.heap.size + 1) 61 #[.int .i64 Rk, .int .i64 2147483579] W → W.cell? ⟨w.heap.size, 0, none⟩ = some (.int .i64 Lk) ∧ W.cell? ⟨w.heap.size, 1, none⟩ = some (.int .i64 1073741789) ∧ W.cell? ⟨w.heap.size + 1, 0, none⟩ = some (.int .i64 Rk) ∧ W.cell? ⟨w.heap.size + 1, 1, none⟩ = some (.int .i64 2147483579) := fun W h k => ⟨h.cell 0, h.cell 1, k.cell 0, k.cell 1⟩
      have hS0 := hSof _ HPr.drew HQr.drew
      go_wp2
      go_region_held3 (fun W => W.cell? ⟨w.heap.size, 0, none⟩ = some (.int .i64 Lk) ∧ W.cell? ⟨w.heap.size, 1, none⟩ = some (.int .i64 1073741789) ∧ W.cell? ⟨w.heap.size + 1, 0, none⟩ = some (.int .i64 Rk) ∧ W.cell? ⟨w.heap.size + 1, 1, none⟩ = some (.int .i64 2147483579)) (first | with_reducible exact hS0 | with_reducible exact hS2)
        (first
          | (go_at_call 44; refine (hcon _).mono ?_; rintro x2 w2 ⟨rfl, hb2⟩; have hS2 := hSof _ (HPr.drew.below hb2) (HQr.drew.below hb2); have hc2 := below_after hbel.drew hb2))
      go_wp2
      go_ret
      exact ⟨by rw [HB.out]; rfl, hc2⟩
end Go.Proofs.Ytimajobbkemdbab
