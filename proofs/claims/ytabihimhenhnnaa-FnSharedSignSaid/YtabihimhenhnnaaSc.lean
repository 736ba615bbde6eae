/-
  Contracts of chapter 7: what is done at each participant; of the program.
-/
import Derived.Test.YtabihimhenhnnaaSp
import Derived.Test.YtabihimhenhnnaaSk
import Derived.Test.YtabihimhenhnnaaSj
import Derived.Test.YtabihimhenhnnaaAe
namespace Go.Proofs.Ytabihimhenhnnaa
open Go.RowKit

/-- The ways through a statement meet again. -/
theorem wp_meet {P : Program} {c : Code} {Q : Exit → Act → World → Prop} {a : Act} {w : World} (F : World → Prop) (A : Act)
    (h1 : c.wp P (fun e a' w' => match e with | .normal => a' = A ∧ F w' | _ => False) a w) (h2 : ∀ w', F w' → Q .normal A w') : c.wp P Q a w :=
  Code.wp_mono (fun e a' w' h => by
    cases e <;> first | exact (h : False).elim | (obtain ⟨ha, hF⟩ := h; subst ha; exact h2 w' hF)) h1
theorem Sd.add (S : ByteArray) (hS : S.size ≤ 1048576) (d : Int) (W : World) : (Op.stringOp .add S (Dg.bytes d)).run Try.prog W = .ok (.string (S ++ Dg.bytes d)) W :=
  run_string_add_sum (P := Try.prog) W _ _ (by rw [Dg.bytes_size]; omega)
set_option maxRecDepth 100000 in
set_option maxHeartbeats 1600000 in
theorem weigh1_any (b t : Nat) (u0 u2 u3 : Value) (k : Int) (S : ByteArray) (w : World) (k0 : 0 ≤ k) (k1 : k ≤ 4294967295) (hS : S.size ≤ 1048576)
    (HP : Bk b 52 #[u0, .int .i64 k, u2, u3] w) (HT : Bk t 9 #[.string S] w) :
    Calls Try.prog 65 #[.pointer (some ⟨b, 0, none⟩), .pointer (some ⟨t, 0, none⟩)] w fun e w' => e = .returned (.tuple #[]) ∧ Bk t 9 #[.string (S ++ Dg.bytes k)] w' ∧ Below t w w' := by
  have hadd := Sd.add S hS k
  obtain ⟨N, HN⟩ : ∃ N, Hid (S ++ Dg.bytes k = N) := ⟨_, Lib.hid rfl⟩
  rw [HN.out] at hadd ⊢
  have hcon := fun W => implDigestBytes_ok k W k0 k1
  have hlt := HT.lt
  obtain ⟨c0, c1, c2, c3⟩ := Bk.c4 HP.drew
  have t0 := HT.drew.cell 0
  simp at t0
  clear HN k0 k1 hS
  go_enter Try.func65, Try.ntmps65
  go_wp2
  apply wp_meet (fun w' => Bk t 9 #[.string N] w' ∧ Below t w w')
  case h1 =>
    go_region_with (go_at_call 59; refine (hcon _).mono ?_; rintro e1 w1 ⟨rfl, hb1⟩; have HP1 := HP.drew.below hb1; have HT1 := HT.drew.below hb1; obtain ⟨c10, c11, c12, c13⟩ := Bk.c4 HP1; have t1 := HT1.cell 0; simp at t1; have f0 := HT1.fro 0; have HT2 := HT1.set 0 (.string N); have hc1 : Below t w w1 := (Below.refl t w).drew.trans (hb1.mono (Nat.le_of_lt hlt)); have hc2 := hc1.setCell (p := ⟨t, 0, none⟩) (Nat.le_refl t) (.string N))
    all_goals exact ⟨rfl, HT2, hc2⟩
  case h2 =>
    rintro w3 ⟨HT3, hc3⟩
    go_end0
    exact ⟨rfl, HT3, hc3⟩
set_option maxRecDepth 100000 in
set_option maxHeartbeats 1600000 in
theorem weigh2_any (b t : Nat) (u0 u2 u3 : Value) (k : Int) (S : ByteArray) (w : World) (k0 : 0 ≤ k) (k1 : k ≤ 4294967295) (hS : S.size ≤ 1048576)
    (HP : Bk b 52 #[u0, .int .i64 k, u2, u3] w) (HT : Bk t 9 #[.string S] w) :
    Calls Try.prog 66 #[.pointer (some ⟨b, 0, none⟩), .pointer (some ⟨t, 0, none⟩)] w fun e w' => e = .returned (.tuple #[]) ∧ Bk b 52 #[u0, .int .i64 k, .int .i64 (1 + Dg.of (S ++ Dg.bytes k) % 1073741788), .int .i64 1073741789] w' ∧ (∀ B T cs, B ≠ b → Bk B T cs w → Bk B T cs w') ∧ Below b w w' := by
  have hadd := Sd.add S hS k
  have hsz : (S ++ Dg.bytes k).size ≤ 9223372036854775807 := by rw [ByteArray.size_append, Dg.bytes_size]; omega
  obtain ⟨N, HN⟩ : ∃ N, Hid (S ++ Dg.bytes k = N) := ⟨_, Lib.hid rfl⟩
  rw [HN.out] at hadd hsz ⊢
  have hcon := fun W => implDigestBytes_ok k W k0 k1
  have hcon2 := fun W => implDigest_any N W hsz
  obtain ⟨d0, d1⟩ := Dg.of_bd N
  obtain ⟨D, HD⟩ : ∃ D, Hid (Dg.of N = D) := ⟨_, Lib.hid rfl⟩
  rw [HD.out] at hcon2 d0 d1 ⊢
  have hlt := HP.lt
  obtain ⟨c0, c1, c2, c3⟩ := Bk.c4 HP.drew
  have t0 := HT.drew.cell 0
  simp at t0
  clear HN HD k0 k1 hS hsz
  go_enter Try.func66, Try.ntmps66
  go_wp2
  apply wp_meet (fun w' => Bk b 52 #[u0, .int .i64 k, u2, u3] w' ∧ (∀ B T cs, Bk B T cs w → Bk B T cs w') ∧ Below w.heap.size w w')
  case h1 =>
    go_region_with (first
      | (go_at_call 59; refine (hcon _).mono ?_; rintro e1 w1 ⟨rfl, hb1⟩; have HP1 := HP.drew.below hb1; have HT1 := HT.drew.below hb1; obtain ⟨c10, c11, c12, c13⟩ := Bk.c4 HP1; have t1 := HT1.cell 0; simp at t1; have hc1 : Below w.heap.size w w1 := below_after (Below.refl _ _).drew hb1)
      | (go_at_call 58; refine (hcon2 w1).mono ?_; rintro e2 w2 ⟨rfl, hb2⟩; have HP2 := HP1.below hb2; have hc2 := below_after hc1 hb2))
    all_goals exact ⟨rfl, HP2, fun B T cs h => h.below hc2, hc2⟩
  case h2 =>
    rintro w3 ⟨HP3, hk3, hc3⟩
    obtain ⟨c30, c31, c32, c33⟩ := Bk.c4 HP3
    have f2 := HP3.fro 2
    have f3 := HP3.fro 3
    have HP4 := (HP3.set 2 (.int .i64 (1 + D % 1073741788))).set 3 (.int .i64 1073741789)
    have hc4 := ((hc3.mono (Nat.le_of_lt hlt)).setCell (p := ⟨b, 2, none⟩) (Nat.le_refl b) (.int .i64 (1 + D % 1073741788))).setCell (p := ⟨b, 3, none⟩) (Nat.le_refl b) (.int .i64 1073741789)
    have hk4 : ∀ B T cs, B ≠ b → Bk B T cs w → Bk B T cs ((w3.setCell ⟨b, 2, none⟩ (.int .i64 (1 + D % 1073741788))).setCell ⟨b, 3, none⟩ (.int .i64 1073741789)) := fun B T cs hne h => ((hk3 B T cs h).oset b 2 _ hne).oset b 3 _ hne
    clear HP HT hk3
    go_wp2
    go_end0
    exact ⟨rfl, HP4, hk4, hc4⟩
set_option maxRecDepth 100000 in
set_option maxHeartbeats 1600000 in
theorem keyStep_any (b t : Nat) (u0 u3 : Value) (k wn P : Int) (w : World) (k0 : 0 ≤ k) (k1 : k < 2147483579) (n1 : wn ≤ 1073741789) (P0 : 0 ≤ P) (P1 : P < 2147483579)
    (HP : Bk b 52 #[u0, .int .i64 k, .int .i64 wn, u3] w) (HT : Bk t 50 #[.int .i64 P, .int .i64 2147483579] w) :
    Calls Try.prog 52 #[.pointer (some ⟨b, 0, none⟩), .pointer (some ⟨t, 0, none⟩)] w fun e w' => e = .returned (.tuple #[]) ∧ Bk t 50 #[.int .i64 (P * Gr.pw 2147483579 k wn % 2147483579), .int .i64 2147483579] w' ∧ Below t w w' := by
  have hcon := fun W => power_any k 2147483579 wn W (by omega) (by omega) k0 k1 (by omega)
  have q0 := Gr.pw_bd 2147483579 k wn (by decide)
  obtain ⟨G, HG⟩ : ∃ G, Hid (Gr.pw 2147483579 k wn = G) := ⟨_, Lib.hid rfl⟩
  rw [HG.out] at hcon q0 ⊢
  have hcon2 := fun W => times_any P G 2147483579 W (by omega) (by omega) P0 P1 q0.1 q0.2
  obtain ⟨V, HV⟩ : ∃ V, Hid (P * G % 2147483579 = V) := ⟨_, Lib.hid rfl⟩
  rw [HV.out] at hcon2 ⊢
  have hlt := HT.lt
  obtain ⟨c0, c1, c2, c3⟩ := Bk.c4 HP.drew
  obtain ⟨t0, t1⟩ := Bk.c2 HT.drew
  clear HG HV k0 k1 P0 P1 n1 q0
  go_enter Try.func52, Try.ntmps52
  go_wp2
  apply wp_meet (fun w' => Bk t 50 #[.int .i64 V, .int .i64 2147483579] w' ∧ Below t w w')
  case h1 =>
    go_region_with (first
      | (go_at_call 53; refine (hcon _).mono ?_; rintro e1 w1 ⟨rfl, hb1⟩; have HP1 := HP.drew.below hb1; have HT1 := HT.drew.below hb1; obtain ⟨c10, c11, c12, c13⟩ := Bk.c4 HP1; obtain ⟨t10, t11⟩ := Bk.c2 HT1; have hc1 : Below w.heap.size w w1 := below_after (Below.refl _ _).drew hb1)
      | (go_at_call 35; refine (hcon2 w1).mono ?_; rintro e2 w2 ⟨rfl, hb2⟩; have HT2 := HT1.below hb2; obtain ⟨t20, t21⟩ := Bk.c2 HT2; obtain ⟨f0, f1⟩ := HT2.f2; have HT3 := Bk.store2 HT2 (.int .i64 V) (.int .i64 2147483579); have hc2 := ((below_after hc1 hb2).mono (Nat.le_of_lt hlt)); have hc3 := (hc2.setCell (p := ⟨t, 0, none⟩) (Nat.le_refl t) (.int .i64 V)).setCell (p := ⟨t, 1, none⟩) (Nat.le_refl t) (.int .i64 2147483579)))
    all_goals exact ⟨rfl, HT3, hc3⟩
  case h2 =>
    rintro w4 ⟨HT4, hc4⟩
    go_end0
    exact ⟨rfl, HT4, hc4⟩
set_option maxRecDepth 100000 in
set_option maxHeartbeats 1600000 in
theorem signStep_any (b tn tt ts : Nat) (x k wn A B : Int) (t : ByteArray) (w : World) (x0 : 0 ≤ x) (x1 : x < 1073741789) (n0 : 0 ≤ wn) (n1 : wn < 1073741789) (A0 : 0 ≤ A) (A1 : A < 1073741789) (B0 : 0 ≤ B) (B1 : B < 1073741789) (ht : t.size ≤ 1048576) (C : Nat) (hb : b < C) (hn : C ≤ tn) (hs : C ≤ ts) (hns : tn ≠ ts)
    (HP : Bk b 52 #[.int .i64 x, .int .i64 k, .int .i64 wn, .int .i64 1073741789] w) (HT : Bk tt 9 #[.string t] w) (HA : Bk tn 50 #[.int .i64 A, .int .i64 1073741789] w) (HB : Bk ts 50 #[.int .i64 B, .int .i64 1073741789] w) :
    Calls Try.prog 32 #[.pointer (some ⟨b, 0, none⟩), .pointer (some ⟨tn, 0, none⟩), .pointer (some ⟨tt, 0, none⟩), .pointer (some ⟨ts, 0, none⟩)] w fun e w' => e = .returned (.tuple #[]) ∧ Bk tn 50 #[.int .i64 ((A + Sg.no x t) % 1073741789), .int .i64 1073741789] w' ∧ Bk ts 50 #[.int .i64 ((B + wn * x % 1073741789) % 1073741789), .int .i64 1073741789] w' ∧ Below C w w' := by
  have hcon := fun W => nonceOf_any x t W x0 (by omega) ht
  have q0 := Sg.no_bd x t
  obtain ⟨G, HG⟩ : ∃ G, Hid (Sg.no x t = G) := ⟨_, Lib.hid rfl⟩
  rw [HG.out] at hcon q0 ⊢
  have hcon2 := fun W => plus_any A G 1073741789 W (by omega) (by omega) A0 A1 (by omega) (by omega)
  obtain ⟨V, HV⟩ : ∃ V, Hid ((A + G) % 1073741789 = V) := ⟨_, Lib.hid rfl⟩
  rw [HV.out] at hcon2 ⊢
  have hcon3 := fun W => times_any wn x 1073741789 W (by omega) (by omega) n0 n1 x0 x1
  have q1 := Int.emod_nonneg (wn * x) (show (1073741789 : Int) ≠ 0 by decide)
  have q2 := Int.emod_lt_of_pos (wn * x) (show (0 : Int) < 1073741789 by decide)
  obtain ⟨M, HM⟩ : ∃ M, Hid (wn * x % 1073741789 = M) := ⟨_, Lib.hid rfl⟩
  rw [HM.out] at hcon3 q1 q2 ⊢
  have hcon4 := fun W => plus_any B M 1073741789 W (by omega) (by omega) B0 B1 q1 q2
  obtain ⟨Z, HZ⟩ : ∃ Z, Hid ((B + M) % 1073741789 = Z) := ⟨_, Lib.hid rfl⟩
  rw [HZ.out] at hcon4 ⊢
  have hlt := HA.lt
  have hlt2 := HB.lt
  obtain ⟨c0, c1, c2, c3⟩ := Bk.c4 HP.drew
  have t0 := HT.drew.cell 0
  simp at t0
  obtain ⟨a0, a1⟩ := Bk.c2 HA.drew
  clear HG HV HM HZ x0 x1 n0 n1 A0 A1 B0 B1 ht q0 q1 q2
  go_enter Try.func32, Try.ntmps32
  go_wp2
  apply wp_meet (fun w' => Bk b 52 #[.int .i64 x, .int .i64 k, .int .i64 wn, .int .i64 1073741789] w' ∧ Bk tn 50 #[.int .i64 V, .int .i64 1073741789] w' ∧ Bk ts 50 #[.int .i64 B, .int .i64 1073741789] w' ∧ Below C w w')
  case h1 =>
    go_region_with (first
      | (go_at_call 34; refine (hcon _).mono ?_; rintro e1 w1 ⟨rfl, hb1⟩; have HP1 := HP.drew.below hb1; have HT1 := HT.drew.below hb1; have HA1 := HA.drew.below hb1; have HB1 := HB.drew.below hb1; obtain ⟨c10, c11, c12, c13⟩ := Bk.c4 HP1; obtain ⟨a10, a11⟩ := Bk.c2 HA1; have t1 := HT1.cell 0; simp at t1; have hc1 : Below w.heap.size w w1 := below_after (Below.refl _ _).drew hb1)
      | (go_at_call 33; refine (hcon2 w1).mono ?_; rintro e2 w2 ⟨rfl, hb2⟩; have HA2 := HA1.below hb2; have HB2 := HB1.below hb2; have HP2 := HP1.below hb2; obtain ⟨a20, a21⟩ := Bk.c2 HA2; obtain ⟨f0, f1⟩ := HA2.f2; have HA3 := Bk.store2 HA2 (.int .i64 V) (.int .i64 1073741789); have HB3 := Bk.other2 HB2 tn hns.symm (.int .i64 V) (.int .i64 1073741789); have HP3 := Bk.other2 HP2 tn (by omega) (.int .i64 V) (.int .i64 1073741789); have hc2 : Below C w w2 := ((below_after hc1 hb2).mono (by omega)); have hc3 := (hc2.setCell (p := ⟨tn, 0, none⟩) hn (.int .i64 V)).setCell (p := ⟨tn, 1, none⟩) hn (.int .i64 1073741789)))
    all_goals exact ⟨rfl, HP3, HA3, HB3, hc3⟩
  case h2 =>
    rintro w4 ⟨HP4, HA4, HB4, hc4⟩
    have hlt4 := HB4.lt
    have hltA4 := HA4.lt
    obtain ⟨c0, c1, c2, c3⟩ := Bk.c4 HP4.drew
    obtain ⟨b0, b1⟩ := Bk.c2 HB4.drew
    go_wp2
    apply wp_meet (fun w' => Bk tn 50 #[.int .i64 V, .int .i64 1073741789] w' ∧ Bk ts 50 #[.int .i64 Z, .int .i64 1073741789] w' ∧ Below C w w')
    case h1 =>
      go_region_with (first
        | (go_at_call 35; refine (hcon3 _).mono ?_; rintro e5 w5 ⟨rfl, hb5⟩; have HP5 := HP4.drew.below hb5; have HA5 := HA4.drew.below hb5; have HB5 := HB4.drew.below hb5; obtain ⟨c50, c51, c52, c53⟩ := Bk.c4 HP5; obtain ⟨b50, b51⟩ := Bk.c2 HB5; have hc5 : Below C w w5 := hc4.drew.trans (hb5.mono (by simpa using (by omega : C ≤ w4.heap.size))))
        | (go_at_call 33; refine (hcon4 w5).mono ?_; rintro e6 w6 ⟨rfl, hb6⟩; have hlt5 := HB5.lt; have HA6 := HA5.below hb6; have HB6 := HB5.below hb6; obtain ⟨b60, b61⟩ := Bk.c2 HB6; obtain ⟨f60, f61⟩ := HB6.f2; have HB7 := Bk.store2 HB6 (.int .i64 Z) (.int .i64 1073741789); have HA7 := Bk.other2 HA6 ts hns (.int .i64 Z) (.int .i64 1073741789); have hc6 : Below C w w6 := hc5.trans (hb6.mono (by omega)); have hc7 := (hc6.setCell (p := ⟨ts, 0, none⟩) hs (.int .i64 Z)).setCell (p := ⟨ts, 1, none⟩) hs (.int .i64 1073741789)))
      all_goals exact ⟨rfl, HA7, HB7, hc7⟩
    case h2 =>
      rintro w8 ⟨HA8, HB8, hc8⟩
      go_end0
      exact ⟨rfl, HA8, HB8, hc8⟩
end Go.Proofs.Ytabihimhenhnnaa
