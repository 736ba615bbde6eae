/-
  Contracts of chapter 5: VerifyBatch; of the model.
-/
import Derived.Test.YtimajobbkemdbabSk
import Derived.Test.YtimajobbkemdbabIl
import Derived.Deep.RegionHeld3
namespace Go.Proofs.Ytimajobbkemdbab
open Go.RowKit

/-- The slice at a holds the len signed messages l. -/
def GR (w : World) (a : Option Addr) (len : Nat) (l : List Sg.It) : Prop :=
  l.length = len ∧ (0 < len → ∃ b off, a = some ⟨b, off, none⟩ ∧ b < w.heap.size ∧ ∀ j, j < len → w.cell? ⟨b, off + j * 4, none⟩ = some (.int .i64 (l.getD j Sg.it0).key) ∧ w.cell? ⟨b, off + j * 4 + 1, none⟩ = some (.string (l.getD j Sg.it0).text) ∧ w.cell? ⟨b, off + j * 4 + 2, none⟩ = some (.int .i64 (l.getD j Sg.it0).r) ∧ w.cell? ⟨b, off + j * 4 + 3, none⟩ = some (.int .i64 (l.getD j Sg.it0).s))
theorem GR.grown {w w' : World} {a : Option Addr} {len : Nat} {l : List Sg.It} {row : Option Nat} (h : GR w a len l) (hg : w.grownBy w' row) (hne : 0 < len → ∀ b off, a = some ⟨b, off, none⟩ → some b ≠ row) : GR w' a len l :=
  ⟨h.1, fun h0 => by
    obtain ⟨b, off, rfl, hb, hc⟩ := h.2 h0
    have hn : some b ≠ row := by simpa using hne h0 b off rfl
    exact ⟨b, off, rfl, Nat.lt_of_lt_of_le hb hg.size, fun j hj => ⟨hg.cell (hc j hj).1 (by simpa using hn), hg.cell (hc j hj).2.1 (by simpa using hn), hg.cell (hc j hj).2.2.1 (by simpa using hn), hg.cell (hc j hj).2.2.2 (by simpa using hn)⟩⟩⟩
theorem GR.below {w w' : World} {a : Option Addr} {len : Nat} {l : List Sg.It} (h : GR w a len l) (hb : Below w.heap.size w w') : GR w' a len l :=
  h.grown (row := none) ⟨hb.os, hb.tape, hb.output, hb.size, fun k hk _ => hb.block k hk⟩ (fun _ _ _ _ => by simp)
theorem GR.alloc {w : World} {a : Option Addr} {len : Nat} {l : List Sg.It} (h : GR w a len l) (o : Obj) : GR (w.alloc o) a len l :=
  h.grown (World.grownBy_alloc w o none) (fun _ _ _ _ => by simp)
theorem Sg.room_no (n m : Nat) (h : ¬ (1 ≤ n ∧ n ≤ 8 ∧ m = n)) : Sg.room n m = false := by
  unfold Sg.room
  simp
  omega
theorem Sg.batch_no_room {l : List Sg.It} {ws : List Int} (h : ¬ (1 ≤ l.length ∧ l.length ≤ 8 ∧ ws.length = l.length)) : Sg.batch l ws = false := by
  unfold Sg.batch
  rw [Sg.room_no _ _ h, Bool.false_and]
theorem Sg.batch_no_good {l : List Sg.It} {ws : List Int} (h : Sg.good l ws l.length = false) : Sg.batch l ws = false := by
  unfold Sg.batch
  rw [h, Bool.false_and, Bool.and_false]
theorem Sg.batch_eq {l : List Sg.It} {ws : List Int} (hr : 1 ≤ l.length ∧ l.length ≤ 8 ∧ ws.length = l.length) (hg : Sg.good l ws l.length = true) : Sg.batch l ws = (Sg.gp (Sg.left l ws l.length) == Sg.right l ws l.length) := by
  unfold Sg.batch Sg.room
  rw [hg]
  simp [hr]
set_option maxRecDepth 100000 in
set_option maxHeartbeats 3200000 in
theorem specVerifyBatch_any (a b : Option Addr) (len cap len' cap' : Nat) (l : List Sg.It) (ws : List Int) (w : World) (hl : GR w a len l) (hw : IR w b len' ws) (hm : len ≤ 9223372036854775807) (hm' : len' ≤ 9223372036854775807) (ht : ∀ j, j < len → (l.getD j Sg.it0).text.size ≤ 1048576) :
    Calls Try.prog 20 #[.slice a len cap, .slice b len' cap'] w fun x w' => x = .returned (.bool (Sg.batch l ws)) ∧ Below w.heap.size w w' := by
  have hl1 := hl.1
  have hw1 := hw.1
  by_cases hr : ¬ (1 ≤ len ∧ len ≤ 8)
  · have HB : Hid (Sg.batch l ws = false) := Lib.hid (Sg.batch_no_room (by omega))
    have HT : Hid ((decide ((1 : Int) ≤ (len : Int)) && decide ((len : Int) ≤ 8)) = false) := Lib.hid (by simp; omega)
    rw [HB.out]
    clear hr hl hw
    go_enter Try.func20, Try.ntmps20
    go_wp2_with fail
    refine (l6In_any (len : Int) 1 8 _).mono ?_
    rw [HT.out]
    rintro e1 w1 ⟨rfl, rfl⟩
    go_wp2
    go_ret
    exact ⟨rfl, Below.refl _ _⟩
  replace hr := Decidable.not_not.mp hr
  have HT : Hid ((decide ((1 : Int) ≤ (len : Int)) && decide ((len : Int) ≤ 8)) = true) := Lib.hid (by simp; omega)
  by_cases he : ¬ len' = len
  · have HB : Hid (Sg.batch l ws = false) := Lib.hid (Sg.batch_no_room (by omega))
    have he1 : ((len' : Int) == (len : Int)) = false := by simp; omega
    have he2 : ((len' : Int) != (len : Int)) = true := by simp; omega
    rw [HB.out]
    clear hr hl hw he
    go_enter Try.func20, Try.ntmps20
    go_wp2_with fail
    refine (l6In_any (len : Int) 1 8 _).mono ?_
    rw [HT.out]
    rintro e1 w1 ⟨rfl, rfl⟩
    go_wp2
    go_ret
    exact ⟨rfl, Below.refl _ _⟩
  obtain rfl := Decidable.not_not.mp he
  clear he
  go_enter Try.func20, Try.ntmps20
  go_wp2_with fail
  refine (l6In_any (len' : Int) 1 8 _).mono ?_
  rw [HT.out]
  rintro e1 w1 ⟨rfl, rfl⟩
  go_wp2
  go_loopw [5, 6, 7] (fun lf rg i wr => ∃ k : Nat, k ≤ len' ∧ i = .int .i64 (k : Int) ∧ lf = .int .i64 (Sg.left l ws k) ∧ rg = .int .i64 (Sg.right l ws k) ∧ Hid (Sg.good l ws k = true) ∧ Below w.heap.size w wr)
    (fun _ _ i _ => len' - (intOf i).toNat)
  case atStart => exact ⟨0, by omega, rfl, rfl, rfl, Lib.hid rfl, Below.refl _ _⟩
  case round =>
    obtain ⟨k, hk, rfl, rfl, rfl, hgd, hbel⟩ := hrel
    obtain ⟨L0, L1⟩ := Sg.left_bd l ws k
    obtain ⟨R0, R1⟩ := Sg.right_bd l ws k
    by_cases hlt : k < len'
    · skip
      obtain ⟨ba, offa, rfl, hba, hca⟩ := (hl.below hbel).2 (by omega)
      obtain ⟨bb, offb, rfl, hbb, hcb⟩ := (hw.below hbel).2 (by omega)
      obtain ⟨c0, c1, c2, c3⟩ := hca k hlt
      have d0 := hcb k (by omega)
      clear hca hcb
      have HX : ∀ x : Sg.It, Hid (l.getD k Sg.it0 = x) → Hid (Sg.left l ws (k + 1) = (Sg.left l ws k + ws.getD k 0 * x.s) % 1073741789) ∧ Hid (Sg.right l ws (k + 1) = Sg.right l ws k * x.term (ws.getD k 0) % 2147483579) ∧ Hid (Sg.good l ws (k + 1) = (Sg.good l ws k && (x.sh && Sg.win (ws.getD k 0)))) := fun x h => by
        rw [← h.out]; exact ⟨Lib.hid rfl, Lib.hid rfl, Lib.hid rfl⟩
      obtain ⟨X, hX⟩ : ∃ X, Hid (l.getD k Sg.it0 = X) := ⟨_, Lib.hid rfl⟩
      obtain ⟨HL, HR, HG⟩ := HX X hX
      have hNo : (X.sh && Sg.win (ws.getD k 0)) = false → Hid (Sg.batch l ws = false) := fun h => Lib.hid (Sg.batch_no_good (Sg.good_no l ws k (by rw [hX.out]; exact h) _ (by rw [hl.1]; exact hlt)))
      rw [hX.out] at c0 c1 c2 c3
      obtain ⟨g, hg⟩ : ∃ g, Hid (ws.getD k 0 = g) := ⟨_, Lib.hid rfl⟩
      rw [hg.out] at d0 HL HR HG hNo
      obtain ⟨K, t, R, S⟩ := X
      have htt : t.size ≤ 1048576 := by have := ht k hlt; rw [hX.out] at this; exact this
      simp only [] at c0 c1 c2 c3
      clear HX hX hg
      have HX0 : Bk wr.heap.size 42 #[.int .i64 K, .string t, .int .i64 R, .int .i64 S] (wr.alloc (.cells #[.int .i64 K, .string t, .int .i64 R, .int .i64 S] 42 (0, 0))) := Bk.new _ _ _
      have hb0 := below_alloc hbel (.cells #[.int .i64 K, .string t, .int .i64 R, .int .i64 S] 42 (0, 0))
      have hcon1 := l5Shape_any K R S
      cases hsh : Sg.shape K R S
      · have HN := hNo (by show (Sg.shape K R S && Sg.win g) = false; rw [hsh]; rfl)
        rw [hsh] at hcon1
        clear hl hw hNo HL HR HG hsh hgd
        go_wp2_with fail
        refine (hcon1 _).mono ?_
        rintro x2 w2 ⟨rfl, hb2⟩
        go_wp2
        go_ret
        exact ⟨by rw [HN.out]; rfl, below_after hb0 hb2⟩
      · cases hwn : Sg.win g
        · have HN := hNo (by show (Sg.shape K R S && Sg.win g) = false; rw [hwn, Bool.and_false])
          have HT : Hid ((decide (0 ≤ g) && decide (g ≤ 1073741788)) = false) := Lib.hid hwn
          rw [hsh] at hcon1
          clear hl hw hNo HL HR HG hsh hgd hwn
          go_wp2_with fail
          refine (hcon1 _).mono ?_
          rintro x2 w2 ⟨rfl, hb2⟩
          go_wp2_with fail
          refine (l6In_any g 0 1073741788 _).mono ?_
          rw [HT.out]
          rintro x3 w3 ⟨rfl, rfl⟩
          go_wp2
          go_ret
          exact ⟨by rw [HN.out]; rfl, below_after hb0 hb2⟩
        · have HT : Hid ((decide (0 ≤ g) && decide (g ≤ 1073741788)) = true) := Lib.hid hwn
          have HG' : Hid (Sg.good l ws (k + 1) = true) := by rw [HG.out, hgd.out, show (Sg.It.mk K t R S).sh = true from hsh, hwn]; exact rfl
          obtain ⟨g0, g1⟩ := (Sg.win_iff g).mp hwn
          obtain ⟨⟨hkE, _⟩, hrE, s0, s1⟩ := (Sg.shape_iff _ _ _).mp hsh
          obtain ⟨kk0, kk1⟩ := Gr.E_bd hkE
          obtain ⟨rr0, rr1⟩ := Gr.E_bd hrE
          rw [hsh] at hcon1
          have hcon3 := fun W => l5Challenge_any R K t W (by omega) (by omega) (by omega) (by omega) htt
          obtain ⟨e0, e1⟩ := Sg.ch_bd R K t
          have HL' : Hid (Sg.left l ws (k + 1) = (Sg.left l ws k + g * S) % 1073741789) := HL
          have HR' : Hid (Sg.right l ws (k + 1) = Sg.right l ws k * (Gr.pw 2147483579 R g * Gr.pw 2147483579 K (g * Sg.ch R K t % 1073741789) % 2147483579) % 2147483579) := HR
          obtain ⟨C, HC⟩ : ∃ C, Hid (Sg.ch R K t = C) := ⟨_, Lib.hid rfl⟩
          rw [HC.out] at hcon3 e0 e1 HR'
          obtain ⟨Lk, HLk⟩ : ∃ L, Hid (Sg.left l ws k = L) := ⟨_, Lib.hid rfl⟩
          obtain ⟨Rk, HRk⟩ : ∃ L, Hid (Sg.right l ws k = L) := ⟨_, Lib.hid rfl⟩
          rw [HLk.out] at L0 L1 HL' ⊢
          rw [HRk.out] at R0 R1 HR' ⊢
          obtain ⟨m0, m1⟩ := Gr.mul_bd g S 1073741789 g0 g1 s0 s1 (by omega)
          obtain ⟨n0, n1⟩ := Gr.mul_bd g C 1073741789 g0 g1 e0 e1 (by omega)
          obtain ⟨E, HE⟩ : ∃ E, Hid (g * C % 1073741789 = E) := ⟨_, Lib.hid rfl⟩
          have E0 : 0 ≤ E := by rw [← HE.out]; exact Int.emod_nonneg _ (by decide)
          have E1 : E < 1073741789 := by rw [← HE.out]; exact Int.emod_lt_of_pos _ (by decide)
          have hcon4 := fun W => l4Exp_any R g W (by omega) (by omega) (by omega)
          have hcon5 := fun W => l4Exp_any K E W (by omega) (by omega) (by omega)
          rw [HE.out] at HR'
          obtain ⟨P1, HP1⟩ : ∃ P, Hid (Gr.pw 2147483579 R g = P) := ⟨_, Lib.hid rfl⟩
          obtain ⟨P2, HP2⟩ : ∃ P, Hid (Gr.pw 2147483579 K E = P) := ⟨_, Lib.hid rfl⟩
          obtain ⟨p0, p1⟩ := Gr.pb R g
          obtain ⟨q0, q1⟩ := Gr.pb K E
          rw [HP1.out] at hcon4 p0 p1 HR'
          rw [HP2.out] at hcon5 q0 q1 HR'
          have hcon6 := fun W => l4Mul_any P1 P2 W p0 p1 q0 q1
          obtain ⟨M, HM⟩ : ∃ M, Hid (P1 * P2 % 2147483579 = M) := ⟨_, Lib.hid rfl⟩
          have M0 : 0 ≤ M := by rw [← HM.out]; exact Int.emod_nonneg _ (by decide)
          have M1 : M < 2147483579 := by rw [← HM.out]; exact Int.emod_lt_of_pos _ (by decide)
          rw [HM.out] at hcon6 HR'
          have hcon7 := fun W => l4Mul_any Rk M W R0 R1 M0 M1
          rw [← HR'.out] at hcon7
          obtain ⟨R2, HR2⟩ : ∃ R, Hid (Sg.right l ws (k + 1) = R) := ⟨_, Lib.hid rfl⟩
          rw [HR2.out] at hcon7
          clear hNo HL HR HG hsh hwn hkE hrE HC HP1 HP2 HM HR' hgd
          go_wp2_with fail
          refine (hcon1 _).mono ?_
          rintro x2 w2 ⟨rfl, hb2⟩
          have HX2 := HX0.below hb2
          replace hb2 := below_after hb0 hb2
          obtain ⟨y0, y1, y2, y3⟩ := Bk.c4 HX2
          clear HX0 hb0
          go_wp2_with fail
          refine (l6In_any g 0 1073741788 _).mono ?_
          rw [HT.out]
          rintro x3 w3 ⟨rfl, rfl⟩
          go_wp2_with fail
          refine (hcon3 _).mono ?_
          rintro x4 w4 ⟨rfl, hb4⟩
          have HX4 := HX2.below hb4
          replace hb4 := below_after hb2 hb4
          obtain ⟨v0, v1, v2, v3⟩ := Bk.c4 HX4
          obtain ⟨u0, u1, u2, u3⟩ := Bk.c4 HX4.drew
          have hS4 : w4.drew.cell? ⟨wr.heap.size, 0, none⟩ = some (.int .i64 K) ∧ w4.drew.cell? ⟨wr.heap.size, 2, none⟩ = some (.int .i64 R) := ⟨u0, u2⟩
          clear HX2 hb2 y0 y1 y2 y3 u0 u1 u2 u3
          go_wp2
          rw [HE.out]
          go_region_held3 (fun W => W.cell? ⟨wr.heap.size, 0, none⟩ = some (.int .i64 K) ∧ W.cell? ⟨wr.heap.size, 2, none⟩ = some (.int .i64 R)) (first | with_reducible exact hS4)
            (first
              | (go_at_call_of 61 (Value.int .i64 R); refine (hcon4 _).mono ?_; rintro x5 w5 ⟨rfl, rfl⟩)
              | (go_at_call_of 61 (Value.int .i64 K); refine (hcon5 _).mono ?_; rintro x6 w6 ⟨rfl, rfl⟩)
              | (go_at_call_of 48 (Value.int .i64 P1); refine (hcon6 _).mono ?_; rintro x7 w7 ⟨rfl, rfl⟩)
              | (go_at_call_of 48 (Value.int .i64 Rk); refine (hcon7 _).mono ?_; rintro x8 w8 ⟨rfl, rfl⟩))
          go_wp2
          go_roundw
          case rel => exact ⟨k + 1, by omega, by simp, by rw [HL'.out], by rw [HR2.out], HG', hb4.drew⟩
          case measure => simp [intOf]; omega
    · have hk2 : k = len' := by omega
      subst hk2
      have HB : Hid (Sg.batch l ws = (Sg.gp (Sg.left l ws k) == Sg.right l ws k)) := by
        have := Sg.batch_eq (l := l) (ws := ws) (by omega) (by rw [hl1]; exact hgd.out)
        rw [hl1] at this
        exact Lib.hid this
      have hcon := fun W => l4Base_any (Sg.left l ws k) W (by omega)
      rw [show Gr.pw 2147483579 4 (Sg.left l ws k) = Sg.gp (Sg.left l ws k) from rfl] at hcon
      obtain ⟨G, HG⟩ : ∃ G, Hid (Sg.gp (Sg.left l ws k) = G) := ⟨_, Lib.hid rfl⟩
      obtain ⟨Rk, HRk⟩ : ∃ R, Hid (Sg.right l ws k = R) := ⟨_, Lib.hid rfl⟩
      obtain ⟨Lk, HLk⟩ : ∃ L, Hid (Sg.left l ws k = L) := ⟨_, Lib.hid rfl⟩
      rw [HG.out, HRk.out] at HB
      rw [HG.out, HLk.out] at hcon
      rw [HLk.out, HRk.out]
      clear HG HRk HLk hgd hl hw L0 L1 R0 R1
      go_wp2_with fail
      refine (hcon _).mono ?_
      rintro x2 w2 ⟨rfl, rfl⟩
      go_wp2
      go_ret
      exact ⟨by rw [HB.out]; rfl, hbel⟩
end Go.Proofs.Ytimajobbkemdbab
