/-
  Contracts of chapter 8: valid shares; of the program.
-/
import Derived.Test.YtbhpealkhpginaaRg
import Derived.Test.YtbhpealkhpginaaQs
import Derived.Test.YtbhpealkhpginaaSh
namespace Go.Proofs.Ytbhpealkhpginaa
open Go.RowKit

theorem slice3_parts (b off n cap k : Nat) (W : World) (hk : k ≤ cap) :
    (Instr.slice 26 (.slice (some ⟨b, off, none⟩) n cap) none (some (.int .i64 (k : Int))) (some (.int .i64 (k : Int)))).run Try.prog W = .ok (.slice (some ⟨b, off, none⟩) k k) W := by
  simp [Instr.slice, Instr.sliceBounds, Instr.sliceBound, asIntOf, run_underlying Try.underlying26, hk, Addr.add]
/-- The ways through a statement meet again. -/
theorem wp_meet8 {P : Program} {c : Code} {Q : Exit → Act → World → Prop} {a : Act} {w : World} (F : World → Prop) (A : Act)
    (h1 : c.wp P (fun e a' w' => match e with | .normal => a' = A ∧ F w' | _ => False) a w) (h2 : ∀ w', F w' → Q .normal A w') : c.wp P Q a w :=
  Code.wp_mono (fun e a' w' h => by
    cases e <;> first | exact (h : False).elim | (obtain ⟨ha, hF⟩ := h; subst ha; exact h2 w' hF)) h1
theorem QP.drew {w : World} {a : Option Addr} {len : Nat} {l : List (Int × Int)} (h : QP w a len l) : QP w.drew a len l := h
set_option maxRecDepth 100000 in
set_option maxHeartbeats 3200000 in
theorem areShares_any (a : Option Addr) (len cap : Nat) (l : List (Int × Int)) (w : World) (h : QR w a len l) (hcap : len ≤ cap) (hm : len ≤ 9223372036854775807) :
    Calls Try.prog 43 #[.slice a len cap] w fun e w' => e = .returned (.bool (Po.ok l)) ∧ Below w.heap.size w w' := by
  have hl := h.1
  by_cases hr0 : len < 1
  · have HN : Hid (Po.ok l = false) := Lib.hid (Po.ok_no_room (by omega))
    have hi : (len : Int) < 1 := by omega
    clear h
    go_enter Try.func43, Try.ntmps43
    go_wp2
    go_ret
    exact ⟨by rw [HN.out]; rfl, Below.refl _ _⟩
  by_cases hr1 : 8 < len
  · have HN : Hid (Po.ok l = false) := Lib.hid (Po.ok_no_room (by omega))
    have hi : ¬ (len : Int) < 1 := by omega
    have hj : (8 : Int) < len := by omega
    clear h
    go_enter Try.func43, Try.ntmps43
    go_wp2
    go_ret
    exact ⟨by rw [HN.out]; rfl, Below.refl _ _⟩
  have hi : ¬ (len : Int) < 1 := by omega
  have hj : ¬ (8 : Int) < len := by omega
  go_enter Try.func43, Try.ntmps43
  go_wp2
  go_loopw [15] (fun i wr => ∃ k : Nat, k ≤ len ∧ i = .int .i64 (k : Int) ∧ Hid (Po.gd l k = true) ∧ Below w.heap.size w wr)
    (fun i _ => len - (intOf i).toNat)
  case atStart => exact ⟨0, by omega, rfl, Lib.hid rfl, Below.refl _ _⟩
  case round =>
    obtain ⟨k, hk, rfl, hgd, hbel⟩ := hrel
    clear hi hj
    by_cases hlt : k < len
    · have h1 := h.below hbel
      obtain ⟨b, off, rfl, hb, hc⟩ := h1.2 (by omega)
      have c0 := (hc k hlt).1
      have c1 := (hc k hlt).2
      have HNo : Hid ((Po.inX (Po.X l k) && Po.inY (Po.Y l k) && Po.fresh l (Po.X l k) k) = false → Po.ok l = false) := Lib.hid fun hf => Po.ok_no_gd (Po.gd_no k hf _ (by omega))
      have HYes : Hid (Po.inX (Po.X l k) = true → Po.inY (Po.Y l k) = true → Po.fresh l (Po.X l k) k = true → Po.gd l (k + 1) = true) := Lib.hid fun a b c => by
        show (Po.gd l k && _) = true
        rw [hgd.out, a, b, c]
        rfl
      have hsl := fun W => slice3_parts b off len cap k W (by omega)
      obtain ⟨V, HV⟩ : ∃ V, Hid (Po.X l k = V) := ⟨_, Lib.hid rfl⟩
      obtain ⟨Y, HY⟩ : ∃ V, Hid (Po.Y l k = V) := ⟨_, Lib.hid rfl⟩
      rw [HV.out] at c0 HNo HYes
      rw [HY.out] at c1 HNo HYes
      have hconX := fun W => isScalar_any V W
      have hconY := fun W => isScalar0_any Y W
      rw [show Gr.sok V = Po.inX V from rfl] at hconX
      rw [show Sg.win Y = Po.inY Y from rfl] at hconY
      have HX1 : Bk wr.heap.size 35 #[.int .i64 V, .int .i64 Y] (wr.alloc (.cells #[.int .i64 V, .int .i64 Y] 35 (0, 0))) := Bk.new _ _ _
      have hA1 := below_alloc (Below.refl wr.heap.size wr) (.cells #[.int .i64 V, .int .i64 Y] 35 (0, 0))
      obtain ⟨W1, HW⟩ : ∃ W1, Hid (wr.alloc (.cells #[.int .i64 V, .int .i64 Y] 35 (0, 0)) = W1) := ⟨_, Lib.hid rfl⟩
      rw [HW.out] at HX1 hA1
      have hQ1 : QP W1 (some ⟨b, off, none⟩) k l := (h1.qp k hk).below hA1
      have hbel1 := below_after hbel hA1
      have hconH := hasX_any (some ⟨b, off, none⟩) k k l V W1.drew hQ1.drew (by omega)
      obtain ⟨z0, z1⟩ := Bk.c2 HX1
      obtain ⟨y0, y1⟩ := Bk.c2 HX1.drew
      have hbd : ∀ W, Below W1.drew.heap.size W1.drew W → W.cell? ⟨wr.heap.size, 0, none⟩ = some (.int .i64 V) ∧ W.cell? ⟨wr.heap.size, 1, none⟩ = some (.int .i64 Y) := fun W hq => Bk.c2 (HX1.drew.below hq)
      clear hc h1 hgd hA1 hQ1 hbel h HX1 hb
      cases hx : Po.inX V
      · have HN := Lib.hid (HNo.out (by rw [hx]; rfl))
        rw [hx] at hconX
        clear HNo HYes hx hconY HV HY hconH
        go_wp2
        rw [HW.out]
        clear HW
        go_quiet ((go_at_call 48; refine Calls.quiet_of_same (hconX _)))
        go_wp2
        go_ret
        exact ⟨by rw [HN.out]; rfl, below_drewN8 hbel1 _⟩
      · cases hy : Po.inY Y
        · have HN := Lib.hid (HNo.out (by rw [hy, Bool.and_false]; rfl))
          rw [hx] at hconX
          rw [hy] at hconY
          clear HNo HYes hx hy HV HY hconH
          go_wp2
          rw [HW.out]
          clear HW
          go_quiet (first | (go_at_call 48; refine Calls.quiet_of_same (hconX _)) | (go_at_call 50; refine Calls.quiet_of_same (hconY _)))
          go_wp2
          go_ret
          exact ⟨by rw [HN.out]; rfl, below_drewN8 hbel1 _⟩
        · have HNo2 : Hid (Po.fresh l V k = false → Po.ok l = false) := Lib.hid fun hf => HNo.out (by rw [hf, Bool.and_false])
          have HYes2 := Lib.hid (HYes.out hx hy)
          rw [hx] at hconX
          rw [hy] at hconY
          clear HNo HYes hx hy HY HV
          go_wp2
          rw [HW.out]
          clear HW
          obtain ⟨T, HT⟩ : ∃ T, Hid (Po.fresh l V k = T) := ⟨_, Lib.hid rfl⟩
          rw [HT.out] at hconH
          have hS0 : W1.drew.cell? ⟨wr.heap.size, 0, none⟩ = some (.int .i64 V) ∧ W1.drew.cell? ⟨wr.heap.size, 1, none⟩ = some (.int .i64 Y) := ⟨y0, y1⟩
          clear z0 z1 y0 y1
          apply wp_meet8 (fun w' => Below w.heap.size w w')
          case h1 =>
            go_region_held3 (fun W => W.cell? ⟨wr.heap.size, 0, none⟩ = some (.int .i64 V) ∧ W.cell? ⟨wr.heap.size, 1, none⟩ = some (.int .i64 Y)) (first | with_reducible exact hS0 | with_reducible exact hS1)
              (first
              | (go_at_call 48; refine (hconX _).mono ?_; rintro e2 w2 ⟨rfl, hw2⟩; subst hw2)
              | (go_at_call 50; refine (hconY _).mono ?_; rintro e3 w3 ⟨rfl, hw3⟩; subst hw3)
              | (go_at_call 49; refine hconH.mono ?_; rintro e4 w4 ⟨rfl, hb4⟩; have hS1 := hbd _ hb4; have hc4 := below_after hbel1.drew hb4))
            all_goals exact ⟨rfl, hc4⟩
          case h2 =>
            intro w5 hc5
            cases T
            · have HN := Lib.hid (HNo2.out HT.out)
              clear HNo2 HYes2 HT
              go_wp2
              go_ret
              exact ⟨by rw [HN.out]; rfl, hc5⟩
            · have HG := Lib.hid (HYes2.out HT.out)
              clear HNo2 HYes2 HT
              go_wp2
              go_roundw
              case rel => exact ⟨k + 1, by omega, by simp, HG, hc5⟩
              case measure => simp [intOf]; omega
    · have hk2 : k = len := by omega
      subst hk2
      have HN : Hid (Po.ok l = true) := Lib.hid (Po.ok_yes (by omega) (by rw [hl]; exact hgd.out))
      clear h hgd
      go_wp2
      go_ret
      exact ⟨by rw [HN.out]; rfl, hbel⟩
end Go.Proofs.Ytbhpealkhpginaa
