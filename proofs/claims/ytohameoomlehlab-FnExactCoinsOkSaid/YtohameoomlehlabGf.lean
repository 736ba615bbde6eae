/-
  The program's coins: bytes and digest.
-/
import Derived.Test.YtohameoomlehlabCs
import Derived.Test.YtohameoomlehlabW0
import Derived.Test.YtohameoomlehlabCd
namespace Go.Proofs.Ytohameoomlehlab
open Go.RowKit

theorem Co.num_flag (r : Bool) : En.num (if r = true then 1 else 0) = Co.flag r := by
  cases r
  · show En.num 0 = _
    unfold En.num
    rw [En.bytes_small (by decide)]
    rfl
  · show En.num 1 = _
    unfold En.num
    rw [En.bytes_small (by decide)]
    rfl
theorem En.text_le (s : ByteArray) : (En.text s).size ≤ 5 + s.size := by
  unfold En.text
  rw [ByteArray.size_append]
  have := En.size_num s.size
  omega
theorem Co.Ok.enc_size {c : Co} (h : c.Ok) : c.enc.size ≤ 330 := by
  have h1 := Dg.bytes_size c.tx
  have h2 := En.size_num c.out
  have h3 := En.size_num c.amt
  have h4 := En.text_le c.lock
  have h5 := En.size_num c.ht
  have h6 := Co.flag_size c.rew
  have h7 := h.lock
  unfold Co.enc
  simp only [ByteArray.size_append]
  omega
theorem Co.bts_small {l : List Co} (h : ∀ c ∈ l, c.Ok) : ∀ k, k ≤ l.length → (Co.bts l k).size ≤ 10 + k * 330 := by
  intro k
  induction k with
  | zero =>
    intro _
    rw [Co.bts_zero]
    have := En.size_num (l.length : Int)
    omega
  | succ k ih =>
    intro hk
    have h1 := ih (by omega)
    have h2 := (h _ (Co.nth_mem (show k < l.length by omega))).enc_size
    rw [Co.bts_succ (by omega), ByteArray.size_append]
    omega
set_option maxRecDepth 100000 in
set_option maxHeartbeats 800000 in
theorem tw_flag (B : Nat) (O : ByteArray) (r : Bool) (w : World) (h : IsTw B B (Lib.strCells O) w) (hO : O.size ≤ 100000) :
    Calls Try.prog 75 #[.pointer (some ⟨B, 0, none⟩), .bool r] w (TwQ B O (Co.flag r) w) := by
  rw [← Co.num_flag r]
  have hc := tw_number B O (if r = true then 1 else 0) w h hO (by cases r <;> decide) (by cases r <;> decide)
  unfold TwQ at hc ⊢
  cases r
  · have hc2 := hc
    rw [show (if (false : Bool) = true then (1 : Int) else 0) = 0 from rfl] at hc2 ⊢
    obtain ⟨X, HX⟩ : ∃ X, Hid (O ++ En.num 0 = X) := ⟨_, Lib.hid rfl⟩
    rw [HX.out] at hc2 ⊢
    clear hc h
    go_enter Try.func75, Try.ntmps75
    go_wp2_with fail
    refine hc2.mono ?_
    rintro e w1 ⟨rfl, hT, hb, hk⟩
    go_wp2
    go_end0
    exact ⟨rfl, hT, hb, hk⟩
  · have hc2 := hc
    rw [show (if (true : Bool) = true then (1 : Int) else 0) = 1 from rfl] at hc2 ⊢
    obtain ⟨X, HX⟩ : ∃ X, Hid (O ++ En.num 1 = X) := ⟨_, Lib.hid rfl⟩
    rw [HX.out] at hc2 ⊢
    clear hc h
    go_enter Try.func75, Try.ntmps75
    go_wp2_with fail
    refine hc2.mono ?_
    rintro e w1 ⟨rfl, hT, hb, hk⟩
    go_wp2
    go_end0
    exact ⟨rfl, hT, hb, hk⟩
set_option maxRecDepth 100000 in
set_option maxHeartbeats 1600000 in
theorem tw_coin (B : Nat) (O : ByteArray) (tx out amt : Int) (lock : ByteArray) (ht : Int) (rew : Bool) (w : World) (h : IsTw B B (Lib.strCells O) w) (hO : O.size ≤ 60000) (hf : Co.Fit ⟨tx, out, amt, lock, ht, rew⟩) :
    Calls Try.prog 51 #[.pointer (some ⟨B, 0, none⟩), .agg #[.int .i64 tx, .int .i64 out, .int .i64 amt, .string lock, .int .i64 ht, .bool rew]] w (TwQ B O (Co.enc ⟨tx, out, amt, lock, ht, rew⟩) w) := by
  obtain ⟨g1, g2, g3, g4, g5⟩ := hf
  simp only at g1 g2 g3 g4 g5
  have hlt := tw_lt h
  have hDB : w.heap.size ≠ B := by omega
  have hT0 := tw_below h ((Below.refl _ _).alloc (Nat.le_refl _) (.cells #[.int .i64 tx, .int .i64 out, .int .i64 amt, .string lock, .int .i64 ht, .bool rew] 30 (0, 0)))
  have v0 : Bk w.heap.size 30 #[.int .i64 tx, .int .i64 out, .int .i64 amt, .string lock, .int .i64 ht, .bool rew] (w.alloc (.cells #[.int .i64 tx, .int .i64 out, .int .i64 amt, .string lock, .int .i64 ht, .bool rew] 30 (0, 0))) := Bk.new _ _ _
  have hb0 : Below B w (w.alloc (.cells #[.int .i64 tx, .int .i64 out, .int .i64 amt, .string lock, .int .i64 ht, .bool rew] 30 (0, 0))) := (Below.refl _ _).alloc (Nat.le_of_lt hlt) _
  have hq0 : TwKeep B w (w.alloc (.cells #[.int .i64 tx, .int .i64 out, .int .i64 amt, .string lock, .int .i64 ht, .bool rew] 30 (0, 0))) := TwKeep.of_below ((Below.refl _ _).alloc (Nat.le_refl _) _)
  have hzA := Dg.bytes_size tx
  have hzB := En.size_num out
  have hzC := En.size_num amt
  have hzD := En.text_size lock g4
  have hzE := En.size_num ht
  have HEN : Hid (O ++ Co.enc ⟨tx, out, amt, lock, ht, rew⟩ = O ++ Dg.bytes tx ++ En.num out ++ En.num amt ++ En.text lock ++ En.num ht ++ Co.flag rew) := Lib.hid (by
    unfold Co.enc
    simp only [Tr.assoc])
  unfold TwQ
  rw [HEN.out]
  clear HEN
  obtain ⟨XA, HXA⟩ : ∃ X, Hid (Dg.bytes tx = X) := ⟨_, Lib.hid rfl⟩
  obtain ⟨XB, HXB⟩ : ∃ X, Hid (En.num out = X) := ⟨_, Lib.hid rfl⟩
  obtain ⟨XC, HXC⟩ : ∃ X, Hid (En.num amt = X) := ⟨_, Lib.hid rfl⟩
  obtain ⟨XD, HXD⟩ : ∃ X, Hid (En.text lock = X) := ⟨_, Lib.hid rfl⟩
  obtain ⟨XE, HXE⟩ : ∃ X, Hid (En.num ht = X) := ⟨_, Lib.hid rfl⟩
  rw [HXA.out] at hzA
  rw [HXB.out] at hzB
  rw [HXC.out] at hzC
  rw [HXD.out] at hzD
  rw [HXE.out] at hzE
  rw [HXA.out, HXB.out, HXC.out, HXD.out, HXE.out]
  obtain ⟨SA, HRA⟩ : ∃ R, Hid (O ++ XA = R) := ⟨_, Lib.hid rfl⟩
  have hyA : SA.size ≤ 60004 := by rw [← HRA.out, ByteArray.size_append]; omega
  obtain ⟨SB, HRB⟩ : ∃ R, Hid (SA ++ XB = R) := ⟨_, Lib.hid rfl⟩
  have hyB : SB.size ≤ 60009 := by rw [← HRB.out, ByteArray.size_append]; omega
  obtain ⟨SC, HRC⟩ : ∃ R, Hid (SB ++ XC = R) := ⟨_, Lib.hid rfl⟩
  have hyC : SC.size ≤ 60014 := by rw [← HRC.out, ByteArray.size_append]; omega
  obtain ⟨SD, HRD⟩ : ∃ R, Hid (SC ++ XD = R) := ⟨_, Lib.hid rfl⟩
  have hyD : SD.size ≤ 64019 := by rw [← HRD.out, ByteArray.size_append]; omega
  obtain ⟨SE, HRE⟩ : ∃ R, Hid (SD ++ XE = R) := ⟨_, Lib.hid rfl⟩
  have hyE : SE.size ≤ 64024 := by rw [← HRE.out, ByteArray.size_append]; omega
  rw [HRA.out, HRB.out, HRC.out, HRD.out, HRE.out]
  obtain ⟨X, HX⟩ : ∃ X, Hid (SE ++ Co.flag rew = X) := ⟨_, Lib.hid rfl⟩
  rw [HX.out]
  obtain ⟨w0, HW0⟩ : ∃ W, Hid (w.alloc (.cells #[.int .i64 tx, .int .i64 out, .int .i64 amt, .string lock, .int .i64 ht, .bool rew] 30 (0, 0)) = W) := ⟨_, Lib.hid rfl⟩
  rw [HW0.out] at hT0 v0 hb0 hq0
  clear h
  go_enter Try.func51, Try.ntmps51
  go_wp2_with fail
  rw [HW0.out]
  clear HW0
  have hc0 := tw_digest B O tx w0 hT0 (by omega) g1.1 g1.2
  unfold TwQ at hc0
  rw [HXA.out, HRA.out] at hc0
  obtain ⟨c00, c01, c02, c03, c04, c05⟩ := Bk.c6 v0
  go_wp2_with fail
  refine hc0.mono ?_
  rintro e w1 ⟨rfl, hT1, hx0, hk0⟩
  have v1 := v0.keepT hk0 hDB (by decide)
  have hb1 := hb0.trans hx0
  have hq1 := hq0.trans hk0
  clear hc0 hT0 hx0 hk0 v0 hb0 hq0 c00 c01 c02 c03 c04 c05
  have hc1 := tw_number B SA out w1 hT1 (by omega) g2.1 g2.2
  unfold TwQ at hc1
  rw [HXB.out, HRB.out] at hc1
  obtain ⟨c10, c11, c12, c13, c14, c15⟩ := Bk.c6 v1
  go_wp2_with fail
  refine hc1.mono ?_
  rintro e w2 ⟨rfl, hT2, hx1, hk1⟩
  have v2 := v1.keepT hk1 hDB (by decide)
  have hb2 := hb1.trans hx1
  have hq2 := hq1.trans hk1
  clear hc1 hT1 hx1 hk1 v1 hb1 hq1 c10 c11 c12 c13 c14 c15
  have hc2 := tw_number B SB amt w2 hT2 (by omega) g3.1 g3.2
  unfold TwQ at hc2
  rw [HXC.out, HRC.out] at hc2
  obtain ⟨c20, c21, c22, c23, c24, c25⟩ := Bk.c6 v2
  go_wp2_with fail
  refine hc2.mono ?_
  rintro e w3 ⟨rfl, hT3, hx2, hk2⟩
  have v3 := v2.keepT hk2 hDB (by decide)
  have hb3 := hb2.trans hx2
  have hq3 := hq2.trans hk2
  clear hc2 hT2 hx2 hk2 v2 hb2 hq2 c20 c21 c22 c23 c24 c25
  have hc3 := tw_text B SC lock w3 hT3 (by omega) g4
  unfold TwQ at hc3
  rw [HXD.out, HRD.out] at hc3
  obtain ⟨c30, c31, c32, c33, c34, c35⟩ := Bk.c6 v3
  go_wp2_with fail
  refine hc3.mono ?_
  rintro e w4 ⟨rfl, hT4, hx3, hk3⟩
  have v4 := v3.keepT hk3 hDB (by decide)
  have hb4 := hb3.trans hx3
  have hq4 := hq3.trans hk3
  clear hc3 hT3 hx3 hk3 v3 hb3 hq3 c30 c31 c32 c33 c34 c35
  have hc4 := tw_number B SD ht w4 hT4 (by omega) g5.1 g5.2
  unfold TwQ at hc4
  rw [HXE.out, HRE.out] at hc4
  obtain ⟨c40, c41, c42, c43, c44, c45⟩ := Bk.c6 v4
  go_wp2_with fail
  refine hc4.mono ?_
  rintro e w5 ⟨rfl, hT5, hx4, hk4⟩
  have v5 := v4.keepT hk4 hDB (by decide)
  have hb5 := hb4.trans hx4
  have hq5 := hq4.trans hk4
  clear hc4 hT4 hx4 hk4 v4 hb4 hq4 c40 c41 c42 c43 c44 c45
  have hc5 := tw_flag B SE rew w5 hT5 (by omega)
  unfold TwQ at hc5
  rw [HX.out] at hc5
  obtain ⟨c50, c51, c52, c53, c54, c55⟩ := Bk.c6 v5
  go_wp2_with fail
  refine hc5.mono ?_
  rintro e w6 ⟨rfl, hT6, hx5, hk5⟩
  have hb6 := hb5.trans hx5
  have hq6 := hq5.trans hk5
  clear hc5 hT5 hx5 hk5 v5 hb5 hq5 c50 c51 c52 c53 c54 c55
  go_wp2
  go_end0
  exact ⟨rfl, hT6, hb6, hq6⟩
set_option maxRecDepth 100000 in
set_option maxHeartbeats 1600000 in
theorem implCoinsBytes_any (lo : Nat) (a : Option Addr) (n c : Nat) (l : List Co) (w : World) (h : CoL lo w a n l) (hcap : n ≤ c) (hn : n ≤ 1048576) (hs : ∀ x ∈ l, x.lock.size ≤ 1048576) :
    Calls Try.prog 30 #[.slice a n c] w fun e w' => e = .returned (.tuple #[.string (if Co.lok l = true then Co.bytes l else ⟨#[]⟩), .bool (Co.lok l)]) ∧ Below w.heap.size w w' := by
  have hc0 := implCoinsOk_any lo a n c l w h hcap hn hs
  have HL := Lib.hid h.1
  have HH := Lib.hid h
  have HGG := Lib.hid (Co.good_iff l)
  obtain ⟨K, hK⟩ : ∃ x, Co.lok l = x := ⟨_, rfl⟩
  rw [hK] at hc0 HGG ⊢
  clear hK h hs
  cases K
  · rw [if_neg (by decide)]
    clear HH HL HGG
    go_enter Try.func30, Try.ntmps30
    go_wp2_with fail
    refine hc0.mono ?_
    rintro e w1 ⟨rfl, hb⟩
    go_wp2
    go_ret2
    exact ⟨rfl, hb⟩
  rw [if_pos rfl]
  have HG := Lib.hid (HGG.out.1 rfl)
  have HOKS := Lib.hid (Co.good_mem HG.out)
  have hn80 : n ≤ 80 := by have := HG.out.len; have := HL.out; omega
  have HBS := Lib.hid (Co.bts_small HOKS.out)
  have HBA := Lib.hid (Co.bts_all l)
  obtain ⟨Y, HY⟩ : ∃ Y, Hid (Co.bytes l = Y) := ⟨_, Lib.hid rfl⟩
  rw [HY.out] at HBA ⊢
  clear HGG
  go_enter Try.func30, Try.ntmps30
  go_wp2_with fail
  refine hc0.mono ?_
  rintro e w1 ⟨rfl, hb⟩
  have hT0 : IsTw w1.heap.size w1.heap.size (Lib.strCells ByteArray.empty) (w1.alloc (.cells #[.pointer none, .slice none 0 0] 72)) := tw_fresh _ _ rfl
  have hb1 : Below w.heap.size w (w1.alloc (.cells #[.pointer none, .slice none 0 0] 72)) := hb.alloc hb.size _
  have hcn := tw_number w1.heap.size ByteArray.empty n _ hT0 (by decide) (by omega) (by omega)
  unfold TwQ at hcn
  rw [Tr.nilL] at hcn
  have hwB : w.heap.size ≤ w1.heap.size := hb.size
  obtain ⟨B, HB⟩ : ∃ B, Hid (w1.heap.size = B) := ⟨_, Lib.hid rfl⟩
  rw [HB.out] at hwB hcn
  clear hc0 hT0 hb
  go_wp2_with fail
  rw [HB.out]
  clear HB
  refine hcn.mono ?_
  rintro e w2 ⟨rfl, hT1, hx1, _⟩
  have hb2 := hb1.trans (hx1.mono hwB)
  have HT1 : Hid (IsTw B B (Lib.strCells (Co.bts l 0)) w2) := Lib.hid (by rw [Co.bts_zero, HL.out]; exact hT1)
  clear hcn hT1 hx1 hb1
  go_wp2
  go_loopw [15] (fun i wr => ∃ k : Nat, k ≤ n ∧ i = .int .i64 (k : Int) ∧ Hid (IsTw B B (Lib.strCells (Co.bts l k)) wr) ∧ Below w.heap.size w wr)
    (fun i _ => n - (intOf i).toNat)
  case atStart => exact ⟨0, by omega, rfl, HT1, hb2⟩
  case round =>
    clear HT1 hb2
    obtain ⟨k, hk, rfl, HTr, hbel⟩ := hrel
    by_cases hlt : k < n
    · obtain ⟨g, off, rfl, _, hgw, hcc⟩ := HH.out.2 (by omega)
      obtain ⟨q0, q1, q2, q3, q4, q5⟩ := hcc k hlt
      have hkl : k < l.length := by rw [HL.out]; exact hlt
      have HF := Lib.hid (HOKS.out _ (Co.nth_mem hkl)).fit
      have HSU := Lib.hid (Co.bts_succ hkl)
      have hz := HBS.out k (by omega)
      obtain ⟨x, HX⟩ : ∃ x, Hid (Co.nth l k = x) := ⟨_, Lib.hid rfl⟩
      rw [HX.out] at q0 q1 q2 q3 q4 q5 HF HSU
      obtain ⟨tx, out, amt, lock, ht, rew⟩ := x
      simp only at q0 q1 q2 q3 q4 q5
      have e0 := cell_belC hbel hgw q0
      have e1 := cell_belC hbel hgw q1
      have e2 := cell_belC hbel hgw q2
      have e3 := cell_belC hbel hgw q3
      have e4 := cell_belC hbel hgw q4
      have e5 := cell_belC hbel hgw q5
      obtain ⟨S, HSS⟩ : ∃ S, Hid (Co.bts l k = S) := ⟨_, Lib.hid rfl⟩
      rw [HSS.out] at hz HSU HTr
      have hbA : Below wr.heap.size wr (wr.alloc (.cells #[.int .i64 tx, .int .i64 out, .int .i64 amt, .string lock, .int .i64 ht, .bool rew] 30 (0, 0))) := (Below.refl _ _).alloc (Nat.le_refl _) _
      have hb0 := hbel.alloc hbel.size (.cells #[.int .i64 tx, .int .i64 out, .int .i64 amt, .string lock, .int .i64 ht, .bool rew] 30 (0, 0))
      have hc1 := tw_coin B S tx out amt lock ht rew _ (tw_below HTr.out hbA) (by omega) HF.out
      unfold TwQ at hc1
      rw [← HSU.out] at hc1
      obtain ⟨Z, HZ⟩ : ∃ Z, Hid (Co.bts l (k + 1) = Z) := ⟨_, Lib.hid rfl⟩
      rw [HZ.out] at hc1
      clear hcc q0 q1 q2 q3 q4 q5 HTr hbA hbel HSU
      go_wp2_with fail
      refine hc1.mono ?_
      rintro e w3 ⟨rfl, hT3, hx3, _⟩
      have hb3 := hb0.trans (hx3.mono hwB)
      have HT3 : Hid (IsTw B B (Lib.strCells (Co.bts l (k + 1))) w3) := Lib.hid (by rw [HZ.out]; exact hT3)
      clear hc1 hT3 hx3 hb0 HZ e0 e1 e2 e3 e4 e5
      go_wp2
      go_roundw
      case rel => exact ⟨k + 1, by omega, by simp, HT3, hb3⟩
      case measure => simp [intOf]; omega
    · have hkn : k = n := by omega
      have hTE : IsTw B B (Lib.strCells Y) wr := by
        have := HTr.out
        rw [hkn, ← HL.out, HBA.out] at this
        exact this
      have hzE : Y.size ≤ 26410 := by
        have := HBS.out l.length (Nat.le_refl _)
        rw [HBA.out] at this
        have := HL.out
        omega
      have hzP : Y.size ≠ 0 := by
        have h1 := En.size_num_pos13 (l.length : Int)
        have h2 : (Co.bytes l).size = (En.num (l.length : Int)).size + (Tr.cat Co.enc l).size := by unfold Co.bytes; rw [ByteArray.size_append]
        rw [HY.out] at h2
        omega
      have hcs := tw_String B Y wr hTE hzP (by omega)
      clear hkn HTr hTE hzP hzE HH
      go_wp2_with fail
      refine hcs.mono ?_
      rintro e w4 ⟨rfl, hx4⟩
      have hb4 := hbel.trans (hx4.mono hwB)
      clear hcs hx4 hbel
      go_wp2
      go_ret2
      exact ⟨rfl, hb4⟩
set_option maxRecDepth 100000 in
set_option maxHeartbeats 800000 in
theorem implCoinsDigest_any (lo : Nat) (a : Option Addr) (n c : Nat) (l : List Co) (w : World) (h : CoL lo w a n l) (hcap : n ≤ c) (hn : n ≤ 1048576) (hs : ∀ x ∈ l, x.lock.size ≤ 1048576) :
    Calls Try.prog 34 #[.slice a n c] w fun e w' => e = .returned (.int .i64 (Co.dig l)) ∧ Below w.heap.size w w' := by
  have hc := implCoinsBytes_any lo a n c l w h hcap hn hs
  have HD : Hid (Co.dig l = if Co.lok l = true then Dg.of (Co.bytes l) else -1) := Lib.hid rfl
  rw [HD.out]
  clear HD
  cases hK : Co.lok l
  · rw [hK, if_neg (by decide)] at hc
    rw [if_neg (by decide)]
    clear h hs hK hcap
    go_enter Try.func34, Try.ntmps34
    go_wp2_with fail
    refine hc.mono ?_
    rintro e w1 ⟨rfl, hb⟩
    go_wp2
    go_ret
    exact ⟨rfl, hb⟩
  · have hg := (Co.good_iff l).1 hK
    have hz : (Co.bytes l).size ≤ 26410 := by
      have h1 := Co.bts_small (Co.good_mem hg) l.length (Nat.le_refl _)
      rw [Co.bts_all] at h1
      have := hg.len
      omega
    rw [hK, if_pos rfl] at hc
    rw [if_pos rfl]
    obtain ⟨Y, hY⟩ : ∃ Y, Co.bytes l = Y := ⟨_, rfl⟩
    rw [hY] at hc hz ⊢
    have hd := fun W => implDigest_any Y W (by omega)
    clear h hs hK hcap hg hY
    go_enter Try.func34, Try.ntmps34
    go_wp2_with fail
    refine hc.mono ?_
    rintro e w1 ⟨rfl, hb⟩
    clear hc
    go_wp2_with fail
    refine (hd _).mono ?_
    rintro e w2 ⟨rfl, hx⟩
    have hb2 := below_aftC hb hx
    go_wp2
    go_ret
    exact ⟨rfl, hb2⟩
end Go.Proofs.Ytohameoomlehlab
