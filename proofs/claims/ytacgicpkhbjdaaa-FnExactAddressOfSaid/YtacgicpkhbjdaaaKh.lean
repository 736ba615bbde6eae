/-
  Contracts of addresses: AddressOf, AddressRead, AddressMend; of the model.
-/
import Derived.Test.YtacgicpkhbjdaaaKi
import Derived.Laws.Concat
namespace Go.Proofs.Ytacgicpkhbjdaaa
open Go.RowKit

/-- The first eight cells behind the digits from place j + 1 on. -/
def Ka.l8 (kind n : Int) (j : Nat) : Array Value := (((Ka.lf kind n j).take 8).map (Value.int .i64)).toArray
theorem Ka.l8_step (kind n : Int) (j : Nat) (hj : j < 7) : (Ka.l8 kind n (j + 1)).setIfInBounds (j + 1) (.int .i64 (Ka.lq n (j + 1) % 31)) = Ka.l8 kind n j := by
  have hc : j = 0 ∨ j = 1 ∨ j = 2 ∨ j = 3 ∨ j = 4 ∨ j = 5 ∨ j = 6 := by omega
  rcases hc with rfl | rfl | rfl | rfl | rfl | rfl | rfl <;> rfl
theorem Ka.l8_cell (kind n : Int) (j : Nat) (hj : j < 7) : (Ka.l8 kind n (j + 1))[j + 1]? = some (.int .i64 0) := by
  have hc : j = 0 ∨ j = 1 ∨ j = 2 ∨ j = 3 ∨ j = 4 ∨ j = 5 ∨ j = 6 := by omega
  rcases hc with rfl | rfl | rfl | rfl | rfl | rfl | rfl <;> rfl
theorem Ka.l8_zero (kind n : Int) : Ka.l8 kind n 0 = ((Ka.lead kind n).map (Value.int .i64)).toArray := rfl
theorem Ka.of_tail (kind n A B a b L M : Int) (hA : Ka.sum (Ka.lead kind n) 8 = A) (hB : Ka.wsum (Ka.lead kind n) 8 = B) (ha : A % 31 = a) (hb : B % 31 = b) (hL : (9 * a + 30 * b) % 31 = L) (hM : (62 - a - L) % 31 = M) :
    Ka.of kind n = Ka.lead kind n ++ [M, L] := by
  unfold Ka.of
  rw [hA, hB]
  congr 1
  have e1 : (B - 10 * A) % 31 = M := by omega
  have e2 : (9 * A - B) % 31 = L := by omega
  rw [e1, e2]
theorem two_new9 (w : World) (x y : Value) (t : TypeId) : ∀ j u, [x, y][j]? = some u → (w.alloc (.cells #[x, y] t)).cell? ((⟨w.heap.size, 0, none⟩ : Addr).add j) = some u := by
  intro j u hj
  have hadr : (⟨w.heap.size, 0, none⟩ : Addr).add j = ⟨w.heap.size, j, none⟩ := by unfold Addr.add; split <;> simp_all
  rw [hadr]
  exact (World.cell?_alloc_mark w #[x, y] t (0, 0) j).trans (by simpa using hj)
set_option maxRecDepth 100000 in
set_option maxHeartbeats 3200000 in
theorem specAddressOf_any (kind n : Int) (w : World) : Calls Try.prog 13 #[.int .i64 kind, .int .i64 n] w fun e w' => e = .returned (.tuple #[.string (Ka.os kind n), .bool (Ka.ob kind n)]) ∧ Below w.heap.size w w' := by
  obtain ⟨i0, hi, hz0, hz1, hz2⟩ := info_parts info_int12
  have hcon1 := fun W => l6In_any kind 0 30 W
  have hcon2 := fun W => l6In_any n 0 4294967295 W
  obtain ⟨P, HP⟩ : ∃ P, Hid ((decide (0 ≤ kind) && decide (kind ≤ 30)) = P) := ⟨_, Lib.hid rfl⟩
  obtain ⟨Q, HQ⟩ : ∃ P, Hid ((decide (0 ≤ n) && decide (n ≤ 4294967295)) = P) := ⟨_, Lib.hid rfl⟩
  rw [HP.out] at hcon1
  rw [HQ.out] at hcon2
  have HO : Hid (Ka.ob kind n = (P && Q)) := Lib.hid (by
    rw [← HP.out, ← HQ.out, Bool.eq_iff_iff, Ka.ob_iff]
    simp only [Bool.and_eq_true, decide_eq_true_eq]
    omega)
  have HC1 := Lib.hid hcon1
  have HC2 := Lib.hid hcon2
  clear hcon1 hcon2
  cases hP : P
  · rw [hP] at HO HC1
    have hob : Ka.ob kind n = false := HO.out
    rw [Ka.os_no hob, hob]
    clear hob hP HP HQ HO
    go_enter Try.func13, Try.ntmps13
    go_wp2_with fail
    refine (HC1.out _).mono ?_
    rintro e1 w1 ⟨rfl, rfl⟩
    go_wp2
    go_ret2
    exact ⟨rfl, Below.refl _ _⟩
  cases hQ : Q
  · rw [hP, hQ] at HO
    rw [hP] at HC1
    rw [hQ] at HC2
    have hob : Ka.ob kind n = false := HO.out
    rw [Ka.os_no hob, hob]
    clear hob hP hQ HP HQ HO
    go_enter Try.func13, Try.ntmps13
    go_wp2_with fail
    refine (HC1.out _).mono ?_
    rintro e1 w1 ⟨rfl, rfl⟩
    go_wp2_with fail
    refine (HC2.out _).mono ?_
    rintro e1 w1 ⟨rfl, rfl⟩
    go_wp2
    go_ret2
    exact ⟨rfl, Below.refl _ _⟩
  rw [hP, hQ] at HO
  rw [hP] at HC1
  rw [hQ] at HC2
  have hob : Ka.ob kind n = true := HO.out
  obtain ⟨h0, h1, h2, h3⟩ := (Ka.ob_iff kind n).1 hob
  rw [Ka.os_yes hob, hob]
  have HB := Lib.hid (fun j hj => Ka.lq_bd h2 h3 j hj)
  have HIN := Lib.hid (Ka.lead_in (n := n) h0 h1)
  have HIN2 := Lib.hid (Ka.of_in (n := n) h0 h1)
  have HTAIL := Lib.hid (Ka.of_tail kind n)
  have hv0 : Bk w.heap.size 3 (Ka.l8 kind n 7) (w.alloc (.cells #[.int .i64 kind, .int .i64 0, .int .i64 0, .int .i64 0, .int .i64 0, .int .i64 0, .int .i64 0, .int .i64 0] 3 (0, 0))) := Bk.new w 3 _
  have hb0 : Below w.heap.size w (w.alloc (.cells #[.int .i64 kind, .int .i64 0, .int .i64 0, .int .i64 0, .int .i64 0, .int .i64 0, .int .i64 0, .int .i64 0] 3 (0, 0))) := (Below.refl _ _).alloc (Nat.le_refl _) _
  have HV0 := Lib.hid hv0
  have HB0 := Lib.hid hb0
  clear hob hP hQ HP HQ HO hv0 hb0 h0 h1 h2 h3
  go_enter Try.func13, Try.ntmps13
  go_wp2_with fail
  refine (HC1.out _).mono ?_
  rintro e1 w1 ⟨rfl, rfl⟩
  go_wp2_with fail
  refine (HC2.out _).mono ?_
  rintro e1 w1 ⟨rfl, rfl⟩
  clear HC1 HC2
  go_wp2
  go_loopw [1, 7] (fun v i wr => ∃ j : Nat, j ≤ 7 ∧ i = .int .i64 (j : Int) ∧ v = .int .i64 (Ka.lq n j) ∧ Bk w.heap.size 3 (Ka.l8 kind n j) wr ∧ Below w.heap.size w wr)
    (fun _ i _ => (intOf i).toNat)
  case atStart => exact ⟨7, by omega, rfl, rfl, HV0.out, HB0.out⟩
  case round =>
    obtain ⟨j, hj, rfl, rfl, hv, hbel⟩ := hrel
    by_cases hlt : 1 ≤ j
    · obtain ⟨i, rfl⟩ : ∃ i, j = i + 1 := ⟨j - 1, by omega⟩
      obtain ⟨q0, q1⟩ := HB.out (i + 1) hj
      have HQ := Lib.hid (Ka.lq_step n i (by omega))
      have c0 : wr.cell? ⟨w.heap.size, i + 1, none⟩ = some (.int .i64 0) := by rw [hv.cell]; exact Ka.l8_cell kind n i (by omega)
      have f0 := hv.fro (i + 1)
      have hv2 := hv.set (i + 1) (.int .i64 (Ka.lq n (i + 1) % 31))
      rw [Ka.l8_step kind n i (by omega)] at hv2
      have hb2 := hbel.setCell (p := ⟨w.heap.size, i + 1, none⟩) (Nat.le_refl _) (.int .i64 (Ka.lq n (i + 1) % 31))
      obtain ⟨q, HQQ⟩ : ∃ q, Hid (Ka.lq n (i + 1) = q) := ⟨_, Lib.hid rfl⟩
      rw [HQQ.out] at q0 q1 HQ hv2 hb2 ⊢
      obtain ⟨j, HJ⟩ : ∃ j, Hid (i + 1 = j) := ⟨_, Lib.hid rfl⟩
      rw [HJ.out] at c0 f0 hv2 hb2 hj hlt ⊢
      have HF := Lib.hid (And.intro hv2 hb2)
      clear hv hbel hv2 hb2
      go_wp2
      go_roundw
      case rel => exact ⟨i, by have := HJ.out; omega, by have := HJ.out; simp; omega, by rw [HQ.out], HF.out.1, HF.out.2⟩
      case measure => simp [intOf]; omega
    · obtain rfl : j = 0 := by omega
      rw [Ka.l8_zero] at hv
      have hcs : ∀ i, i < 8 → wr.cell? ⟨w.heap.size, 0 + i, none⟩ = some (.int .i64 (Ka.at_ (Ka.lead kind n) i)) := fun i hi8 => by
        rw [Nat.zero_add, hv.cell]
        exact ka_cell (by rw [Ka.lead_len]; exact hi8)
      have hcon := l9Sums_any w.heap.size 0 8 8 (Ka.lead kind n) wr hcs HIN.out (by omega)
      have hT := HTAIL.out
      have hown : wr.ownsRow w.heap.size 3 1 (.slice (some ⟨w.heap.size, 0, none⟩) 8 8) 8 ((Ka.lead kind n).map (Value.int .i64)) :=
        ⟨by rw [List.length_map, Ka.lead_len], .inr ⟨w.heap.size, 8, _, rfl, Nat.le_refl _, hv.held, Nat.le_refl _, by decide, by rw [List.size_toArray, List.length_map, Ka.lead_len], by rw [List.take_of_length_le (by rw [List.length_map, Ka.lead_len]; decide)]⟩⟩
      obtain ⟨A, HA⟩ : ∃ A, Hid (Ka.sum (Ka.lead kind n) 8 = A) := ⟨_, Lib.hid rfl⟩
      obtain ⟨B, HBB⟩ : ∃ B, Hid (Ka.wsum (Ka.lead kind n) 8 = B) := ⟨_, Lib.hid rfl⟩
      rw [HA.out, HBB.out] at hcon
      obtain ⟨a, Ha⟩ : ∃ a, Hid (A % 31 = a) := ⟨_, Lib.hid rfl⟩
      obtain ⟨b, Hb⟩ : ∃ b, Hid (B % 31 = b) := ⟨_, Lib.hid rfl⟩
      rw [Ha.out, Hb.out] at hcon
      have a0 : 0 ≤ a := by have := Ha.out; omega
      have a1 : a < 31 := by have := Ha.out; omega
      have b0 : 0 ≤ b := by have := Hb.out; omega
      have b1 : b < 31 := by have := Hb.out; omega
      obtain ⟨L, HL⟩ : ∃ L, Hid ((9 * a + 30 * b) % 31 = L) := ⟨_, Lib.hid rfl⟩
      obtain ⟨M, HM⟩ : ∃ M, Hid ((62 - a - L) % 31 = M) := ⟨_, Lib.hid rfl⟩
      have l0 : 0 ≤ L := by have := HL.out; omega
      have l1 : L < 31 := by have := HL.out; omega
      have HEQ := Lib.hid (hT A B a b L M HA.out HBB.out Ha.out Hb.out HL.out HM.out)
      have HCON := Lib.hid hcon
      have HOWN := Lib.hid hown
      have hsz := hv.lt
      have S2 := Lib.hid (two_new9 wr (.int .i64 M) (.int .i64 L) 3)
      clear hT hcon hown hv hcs HA HBB Ha Hb
      go_wp2_with fail
      refine HCON.out.mono ?_
      rintro e1 w1 ⟨rfl, rfl⟩
      clear HCON
      have e1 := HL.out
      have e2 := HM.out
      go_wp2_with (at_builtin; refine wpList_append_own _ rfl _ _ 44 rfl w.heap.size 3 i0 (.int .i64 0) 1 8 Try.underlying44 hi hz0 hz1 hz2 rfl (by decide) _ _ _ rfl (HOWN.out.alloc (.cells #[.int .i64 M, .int .i64 L] 3 (0, 0))) ⟨wr.heap.size, 0, none⟩ 2 2 [.int .i64 M, .int .i64 L] rfl rfl ?_ ?_ ?_ ?_ ?_ ?_)
      any_goals first | exact S2.out | (intro u hu; simp at hu; rcases hu with rfl | rfl <;> rfl) | (unfold maxLen; omega) | omega | (simp; omega)
      intro v' w5 hown5 hgrow _
      have hbel2 : Below w.heap.size w w5 := (hbel.alloc hbel.size (.cells #[.int .i64 M, .int .i64 L] 3)).grown hgrow (by simp; omega) (fun q hq => by cases hq; exact Nat.le_refl _)
      obtain ⟨g, cp, rfl⟩ : ∃ g cp, v' = .slice (some ⟨g, 0, none⟩) (8 + 2) cp := by
        rcases hown5.2 with ⟨_, h0⟩ | ⟨g, cap, cur, h, _⟩
        · omega
        · exact ⟨_, _, h⟩
      have hir : IR w5 (some ⟨g, 0, none⟩) 10 (Ka.of kind n) := by
        rw [HEQ.out]
        refine (IR.own (base := w.heap.size) (e := 3) (n := 10) (cap := cp) ?_).2
        rw [List.map_append]
        exact hown5
      have HT := Lib.hid (l9Text_any _ 10 cp _ w5 hir HIN2.out (by omega))
      clear hown5 hgrow hbel HOWN hir e1 e2
      go_wp2_with fail
      refine HT.out.mono ?_
      rintro e1 w6 ⟨rfl, hb6⟩
      have hbel3 := below_aft hbel2 hb6
      go_wp2
      go_ret2
      exact ⟨rfl, hbel3⟩
set_option maxRecDepth 100000 in
set_option maxHeartbeats 3200000 in
theorem specAddressRead_any (s : ByteArray) (w : World) (hs : s.size ≤ 4194304) : Calls Try.prog 16 #[.string s] w fun e w' => e = .returned (.tuple #[.int .i64 (Ka.rk s), .int .i64 (Ka.rn s), .bool (Ka.rb s)]) ∧ Below w.heap.size w w' := by
  have HV := Lib.hid (l9Values_any s w hs)
  cases hg : Ka.gd s
  · have hrb : Ka.rb s = false := by unfold Ka.rb; rw [hg]; rfl
    obtain ⟨e1, e2⟩ := Ka.r_no hrb
    rw [hrb, e1, e2]
    have HG := Lib.hid hg
    clear hg hrb e1 e2
    go_enter Try.func16, Try.ntmps16
    go_wp2_with fail
    refine HV.out.mono ?_
    rintro e1 w1 ⟨hv, hb1⟩
    obtain ⟨a, n, cp, rfl⟩ : ∃ a n cp, e1 = .returned (.tuple #[.slice a n cp, .bool false]) := by
      rcases hv with ⟨h, _⟩ | ⟨_, h⟩
      · rw [HG.out] at h; cases h
      · exact h
    clear hv
    go_wp2
    go_ret3
    exact ⟨rfl, hb1⟩
  · have hin := Ka.vals_in ((Ka.gd_iff s).1 hg).2
    have hrb : Ka.rb s = Ka.ok (Ka.vals s) := by unfold Ka.rb; rw [hg]; rfl
    have HG := Lib.hid hg
    have HIN := Lib.hid hin
    have HRY := Lib.hid (fun h => Ka.r_yes (s := s) h)
    have HRN := Lib.hid (fun h => Ka.r_no (s := s) h)
    have HRB := Lib.hid hrb
    have b1 := Ka.sum_bd hin 10
    have b2 := Ka.wsum_bd hin 10 (by omega)
    have b3 := Ka.num7_bd hin
    have HOK := Lib.hid (Ka.ok_iff (Ka.vals s))
    have HGD : Hid (Ka.Good (Ka.vals s) ↔ Ka.sum (Ka.vals s) 10 % 31 = 0 ∧ Ka.wsum (Ka.vals s) 10 % 31 = 0 ∧ Ka.num (Ka.vals s) 7 ≤ 4294967295) := Lib.hid ⟨fun g => ⟨g.a, g.b, g.n⟩, fun g => ⟨g.1, g.2.1, g.2.2⟩⟩
    clear hg hrb hin
    go_enter Try.func16, Try.ntmps16
    go_wp2_with fail
    refine HV.out.mono ?_
    rintro e1 w1 ⟨hv, hb1⟩
    obtain ⟨b, cp, he1, hge, hir⟩ : ∃ b cap, e1 = .returned (.tuple #[.slice (some ⟨b, 0, none⟩) 10 cap, .bool true]) ∧ w.heap.size ≤ b ∧ IR w1 (some ⟨b, 0, none⟩) 10 (Ka.vals s) := by
      rcases hv with ⟨_, h⟩ | ⟨h, _⟩
      · exact h
      · rw [HG.out] at h; cases h
    subst he1
    have hcs : ∀ i, i < 10 → w1.cell? ⟨b, 0 + i, none⟩ = some (.int .i64 (Ka.at_ (Ka.vals s) i)) := fun i hi => by
      obtain ⟨b', off', he, _, hc⟩ := hir.2 (by omega)
      cases he
      exact hc i hi
    have hcon1 := l9Sums_any b 0 10 cp (Ka.vals s) w1 hcs HIN.out (by omega)
    have hcon2 := l9Number_any b 0 10 cp (Ka.vals s) w1 hcs HIN.out (by omega)
    have hc0 : w1.cell? ⟨b, 0, none⟩ = some (.int .i64 (Ka.at_ (Ka.vals s) 0)) := hcs 0 (by omega)
    obtain ⟨A, HA⟩ : ∃ A, Hid (Ka.sum (Ka.vals s) 10 % 31 = A) := ⟨_, Lib.hid rfl⟩
    obtain ⟨B, HBB⟩ : ∃ B, Hid (Ka.wsum (Ka.vals s) 10 % 31 = B) := ⟨_, Lib.hid rfl⟩
    obtain ⟨n, HN⟩ : ∃ n, Hid (Ka.num (Ka.vals s) 7 = n) := ⟨_, Lib.hid rfl⟩
    obtain ⟨k, HK⟩ : ∃ n, Hid (Ka.at_ (Ka.vals s) 0 = n) := ⟨_, Lib.hid rfl⟩
    rw [HA.out, HBB.out] at hcon1
    rw [HN.out] at hcon2
    rw [HA.out, HBB.out, HN.out] at HGD
    rw [HN.out] at b3
    rw [HK.out] at hc0
    rw [HN.out, HK.out] at HRY
    have HC1 := Lib.hid hcon1
    have HC2 := Lib.hid hcon2
    clear hcon1 hcon2 hcs hir hv HA HBB HN HK b1 b2
    by_cases hA : A = 0
    · have qA : (A != 0) = false := by simp [hA]
      by_cases hB : B = 0
      · have qB : (B != 0) = false := by simp [hB]
        by_cases hn : n ≤ 4294967295
        · have qn : decide (4294967295 < n) = false := decide_eq_false (by omega)
          have hok : Ka.ok (Ka.vals s) = true := HOK.out.2 (HGD.out.2 ⟨hA, hB, hn⟩)
          have HR := Lib.hid (show Ka.rb s = true from by rw [HRB.out]; exact hok)
          have HR2 := Lib.hid (HRY.out HR.out)
          clear hA hB hn hok HRB HOK HGD HRN HRY
          go_wp2_with fail
          refine HC1.out.mono ?_
          rintro e2 w2 ⟨rfl, rfl⟩
          go_wp2_with fail
          refine HC2.out.mono ?_
          rintro e2 w2 ⟨rfl, rfl⟩
          go_wp2
          go_ret3
          exact ⟨by rw [HR.out, HR2.out.1, HR2.out.2]; rfl, hb1⟩
        · have qn : decide (4294967295 < n) = true := decide_eq_true (by omega)
          have hok : Ka.ok (Ka.vals s) = false := by rw [Bool.eq_false_iff]; exact fun h => hn (HGD.out.1 (HOK.out.1 h)).2.2
          have HR := Lib.hid (show Ka.rb s = false from by rw [HRB.out]; exact hok)
          have HR2 := Lib.hid (HRN.out HR.out)
          clear hA hB hn hok HRB HOK HGD HRN HRY
          go_wp2_with fail
          refine HC1.out.mono ?_
          rintro e2 w2 ⟨rfl, rfl⟩
          go_wp2_with fail
          refine HC2.out.mono ?_
          rintro e2 w2 ⟨rfl, rfl⟩
          go_wp2
          go_ret3
          exact ⟨by rw [HR.out, HR2.out.1, HR2.out.2]; rfl, hb1⟩
      · have qB : (B != 0) = true := by simpa using hB
        have hok : Ka.ok (Ka.vals s) = false := by rw [Bool.eq_false_iff]; exact fun h => hB (HGD.out.1 (HOK.out.1 h)).2.1
        have HR := Lib.hid (show Ka.rb s = false from by rw [HRB.out]; exact hok)
        have HR2 := Lib.hid (HRN.out HR.out)
        clear hA hB hok HRB HOK HGD HRN HRY
        go_wp2_with fail
        refine HC1.out.mono ?_
        rintro e2 w2 ⟨rfl, rfl⟩
        go_wp2_with fail
        refine HC2.out.mono ?_
        rintro e2 w2 ⟨rfl, rfl⟩
        go_wp2
        go_ret3
        exact ⟨by rw [HR.out, HR2.out.1, HR2.out.2]; rfl, hb1⟩
    · have qA : (A != 0) = true := by simpa using hA
      have hok : Ka.ok (Ka.vals s) = false := by rw [Bool.eq_false_iff]; exact fun h => hA (HGD.out.1 (HOK.out.1 h)).1
      have HR := Lib.hid (show Ka.rb s = false from by rw [HRB.out]; exact hok)
      have HR2 := Lib.hid (HRN.out HR.out)
      clear hA hok HRB HOK HGD HRN HRY
      go_wp2_with fail
      refine HC1.out.mono ?_
      rintro e2 w2 ⟨rfl, rfl⟩
      go_wp2_with fail
      refine HC2.out.mono ?_
      rintro e2 w2 ⟨rfl, rfl⟩
      go_wp2
      go_ret3
      exact ⟨by rw [HR.out, HR2.out.1, HR2.out.2]; rfl, hb1⟩

end Go.Proofs.Ytacgicpkhbjdaaa
