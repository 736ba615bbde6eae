/-
  Contracts of addresses: AddressOf, AddressRead, AddressMend; of the program.
-/
import Derived.Test.YtacgicpkhbjdaaaKd
namespace Go.Proofs.Ytacgicpkhbjdaaa
open Go.RowKit

/-- Is there an address of the kind and the number? -/
def Ka.ob (kind n : Int) : Bool := decide (0 ≤ kind ∧ kind < 31 ∧ 0 ≤ n ∧ n ≤ 4294967295)
theorem Ka.ob_iff (kind n : Int) : Ka.ob kind n = true ↔ 0 ≤ kind ∧ kind < 31 ∧ 0 ≤ n ∧ n ≤ 4294967295 := by unfold Ka.ob; simp
/-- The address of a kind and a number, or the empty string. -/
def Ka.os (kind n : Int) : ByteArray := if Ka.ob kind n = true then Ka.str (Ka.of kind n) else ⟨#[]⟩
theorem Ka.os_yes {kind n : Int} (h : Ka.ob kind n = true) : Ka.os kind n = Ka.str (Ka.of kind n) := if_pos h
theorem Ka.os_no {kind n : Int} (h : Ka.ob kind n = false) : Ka.os kind n = ⟨#[]⟩ := if_neg (by rw [h]; decide)
/-- The array behind the digits from place j + 1 on. -/
def Ka.lf (kind n : Int) : Nat → List Int

  | 0 => [kind, (n / 887503681 % 31), (n / 28629151 % 31), (n / 923521 % 31), (n / 29791 % 31), (n / 961 % 31), (n / 31 % 31), (n % 31), 0, 0]
  | 1 => [kind, 0, (n / 28629151 % 31), (n / 923521 % 31), (n / 29791 % 31), (n / 961 % 31), (n / 31 % 31), (n % 31), 0, 0]
  | 2 => [kind, 0, 0, (n / 923521 % 31), (n / 29791 % 31), (n / 961 % 31), (n / 31 % 31), (n % 31), 0, 0]
  | 3 => [kind, 0, 0, 0, (n / 29791 % 31), (n / 961 % 31), (n / 31 % 31), (n % 31), 0, 0]
  | 4 => [kind, 0, 0, 0, 0, (n / 961 % 31), (n / 31 % 31), (n % 31), 0, 0]
  | 5 => [kind, 0, 0, 0, 0, 0, (n / 31 % 31), (n % 31), 0, 0]
  | 6 => [kind, 0, 0, 0, 0, 0, 0, (n % 31), 0, 0]
  | _ => [kind, 0, 0, 0, 0, 0, 0, 0, 0, 0]
/-- What is left of the number then. -/
def Ka.lq (n : Int) : Nat → Int
  | 0 => n / 27512614111
  | 1 => n / 887503681
  | 2 => n / 28629151
  | 3 => n / 923521
  | 4 => n / 29791
  | 5 => n / 961
  | 6 => n / 31
  | _ => n
theorem Ka.lq_bd {n : Int} (h0 : 0 ≤ n) (h1 : n ≤ 4294967295) (j : Nat) (hj : j ≤ 7) : 0 ≤ Ka.lq n j ∧ Ka.lq n j ≤ 4294967295 := by
  have hc : j = 0 ∨ j = 1 ∨ j = 2 ∨ j = 3 ∨ j = 4 ∨ j = 5 ∨ j = 6 ∨ j = 7 := by omega
  rcases hc with rfl | rfl | rfl | rfl | rfl | rfl | rfl | rfl <;> simp only [Ka.lq] <;> constructor <;> omega
theorem Ka.lq_step (n : Int) (j : Nat) (hj : j < 7) : Ka.lq n (j + 1) / 31 = Ka.lq n j := by
  have hc : j = 0 ∨ j = 1 ∨ j = 2 ∨ j = 3 ∨ j = 4 ∨ j = 5 ∨ j = 6 := by omega
  rcases hc with rfl | rfl | rfl | rfl | rfl | rfl | rfl <;> simp only [Ka.lq] <;> omega
theorem Ka.lf_step (kind n : Int) (j : Nat) (hj : j < 7) : (((Ka.lf kind n (j + 1)).map (Value.int .i64)).toArray).setIfInBounds (j + 1) (.int .i64 (Ka.lq n (j + 1) % 31)) = ((Ka.lf kind n j).map (Value.int .i64)).toArray := by
  have hc : j = 0 ∨ j = 1 ∨ j = 2 ∨ j = 3 ∨ j = 4 ∨ j = 5 ∨ j = 6 := by omega
  rcases hc with rfl | rfl | rfl | rfl | rfl | rfl | rfl <;> rfl
theorem Ka.lf_cell (kind n : Int) (j : Nat) (hj : j < 7) : (((Ka.lf kind n (j + 1)).map (Value.int .i64)).toArray)[j + 1]? = some (.int .i64 0) := by
  have hc : j = 0 ∨ j = 1 ∨ j = 2 ∨ j = 3 ∨ j = 4 ∨ j = 5 ∨ j = 6 := by omega
  rcases hc with rfl | rfl | rfl | rfl | rfl | rfl | rfl <;> rfl
theorem Ka.lf_in {kind n : Int} (h0 : 0 ≤ kind) (h1 : kind < 31) : Ka.In [kind, (n / 887503681 % 31), (n / 28629151 % 31), (n / 923521 % 31), (n / 29791 % 31), (n / 961 % 31), (n / 31 % 31), (n % 31), 0, 0] := by
  intro x hx
  simp only [List.mem_cons, List.not_mem_nil, or_false] at hx
  rcases hx with rfl | rfl | rfl | rfl | rfl | rfl | rfl | rfl | rfl | rfl <;> omega
theorem Ka.of_eq (kind n : Int) : Ka.of kind n = [kind, (n / 887503681 % 31), (n / 28629151 % 31), (n / 923521 % 31), (n / 29791 % 31), (n / 961 % 31), (n / 31 % 31), (n % 31), ((Ka.wsum [kind, (n / 887503681 % 31), (n / 28629151 % 31), (n / 923521 % 31), (n / 29791 % 31), (n / 961 % 31), (n / 31 % 31), (n % 31), 0, 0] 8 - 10 * Ka.sum [kind, (n / 887503681 % 31), (n / 28629151 % 31), (n / 923521 % 31), (n / 29791 % 31), (n / 961 % 31), (n / 31 % 31), (n % 31), 0, 0] 8) % 31), ((9 * Ka.sum [kind, (n / 887503681 % 31), (n / 28629151 % 31), (n / 923521 % 31), (n / 29791 % 31), (n / 961 % 31), (n / 31 % 31), (n % 31), 0, 0] 8 - Ka.wsum [kind, (n / 887503681 % 31), (n / 28629151 % 31), (n / 923521 % 31), (n / 29791 % 31), (n / 961 % 31), (n / 31 % 31), (n % 31), 0, 0] 8) % 31)] := rfl
set_option maxRecDepth 100000 in
set_option maxHeartbeats 1600000 in
theorem implAddressOf_any (kind n : Int) (w : World) : Calls Try.prog 12 #[.int .i64 kind, .int .i64 n] w fun e w' => e = .returned (.tuple #[.string (Ka.os kind n), .bool (Ka.ob kind n)]) ∧ Below w.heap.size w w' := by
  cases hob : Ka.ob kind n
  · rw [Ka.os_no hob]
    by_cases h0 : kind < 0
    · clear hob
      go_enter Try.func12, Try.ntmps12
      go_wp2
      go_ret2
      exact ⟨rfl, Below.refl _ _⟩
    have g0 : decide (kind < 0) = false := by simpa using h0
    by_cases h1 : 31 ≤ kind
    · clear hob
      go_enter Try.func12, Try.ntmps12
      go_wp2
      go_ret2
      exact ⟨rfl, Below.refl _ _⟩
    have g1 : decide (31 ≤ kind) = false := by simpa using h1
    by_cases h2 : n < 0
    · clear hob
      go_enter Try.func12, Try.ntmps12
      go_wp2
      go_ret2
      exact ⟨rfl, Below.refl _ _⟩
    have g2 : decide (n < 0) = false := by simpa using h2
    have h3 : 4294967295 < n := by
      rcases Int.lt_or_le 4294967295 n with h | h
      · exact h
      · exact absurd ((Ka.ob_iff kind n).2 ⟨by omega, by omega, by omega, h⟩) (by rw [hob]; decide)
    clear hob
    go_enter Try.func12, Try.ntmps12
    go_wp2
    go_ret2
    exact ⟨rfl, Below.refl _ _⟩
  · rw [Ka.os_yes hob]
    obtain ⟨h0, h1, h2, h3⟩ := (Ka.ob_iff kind n).1 hob
    clear hob
    have HB := Lib.hid (fun j hj => Ka.lq_bd h2 h3 j hj)
    have HIN := Lib.hid (Ka.lf_in (n := n) h0 h1)
    have HOF := Lib.hid (Ka.of_eq kind n)
    have HK := Lib.hid (Ka.of_in (n := n) h0 h1)
    have g0 : decide (kind < 0) = false := decide_eq_false (by omega)
    have g1 : decide (31 ≤ kind) = false := decide_eq_false (by omega)
    have g2 : decide (n < 0) = false := decide_eq_false (by omega)
    have g3 : decide (4294967295 < n) = false := decide_eq_false (by omega)
    have hv0 : Bk w.heap.size 40 ((Ka.lf kind n 7).map (Value.int .i64)).toArray (w.alloc (.cells #[.int .i64 kind, .int .i64 0, .int .i64 0, .int .i64 0, .int .i64 0, .int .i64 0, .int .i64 0, .int .i64 0, .int .i64 0, .int .i64 0] 40 (0, 0))) := Bk.new w 40 _
    have hb0 : Below w.heap.size w (w.alloc (.cells #[.int .i64 kind, .int .i64 0, .int .i64 0, .int .i64 0, .int .i64 0, .int .i64 0, .int .i64 0, .int .i64 0, .int .i64 0, .int .i64 0] 40 (0, 0))) := (Below.refl _ _).alloc (Nat.le_refl _) _
    have HV0 := Lib.hid hv0
    have HB0 := Lib.hid hb0
    have HN7 : Hid (n = Ka.lq n 7) := Lib.hid rfl
    clear hv0 hb0 h0 h1 h2 h3
    go_enter Try.func12, Try.ntmps12
    go_wp2
    go_loopw [1, 7] (fun v i wr => ∃ j : Nat, j ≤ 7 ∧ i = .int .i64 (j : Int) ∧ v = .int .i64 (Ka.lq n j) ∧ Bk w.heap.size 40 ((Ka.lf kind n j).map (Value.int .i64)).toArray wr ∧ Below w.heap.size w wr)
      (fun _ i _ => (intOf i).toNat)
    case atStart => exact ⟨7, by omega, rfl, rfl, HV0.out, HB0.out⟩
    case round =>
      obtain ⟨j, hj, rfl, rfl, hv, hbel⟩ := hrel
      clear g0 g1 g2 g3
      by_cases hlt : 1 ≤ j
      · obtain ⟨i, rfl⟩ : ∃ i, j = i + 1 := ⟨j - 1, by omega⟩
        obtain ⟨q0, q1⟩ := HB.out (i + 1) hj
        have HQ := Lib.hid (Ka.lq_step n i (by omega))
        have c0 : wr.cell? ⟨w.heap.size, i + 1, none⟩ = some (.int .i64 0) := by rw [hv.cell]; exact Ka.lf_cell kind n i (by omega)
        have f0 := hv.fro (i + 1)
        have hv2 := hv.set (i + 1) (.int .i64 (Ka.lq n (i + 1) % 31))
        rw [Ka.lf_step kind n i (by omega)] at hv2
        have hb2 := hbel.setCell (p := ⟨w.heap.size, i + 1, none⟩) (Nat.le_refl _) (.int .i64 (Ka.lq n (i + 1) % 31))
        obtain ⟨q, HQQ⟩ : ∃ q, Hid (Ka.lq n (i + 1) = q) := ⟨_, Lib.hid rfl⟩
        rw [HQQ.out] at q0 q1 HQ hv2 hb2 ⊢
        obtain ⟨j, HJ⟩ : ∃ j, Hid (i + 1 = j) := ⟨_, Lib.hid rfl⟩
        rw [HJ.out] at c0 f0 hv2 hb2 hj hlt ⊢
        have HF := Lib.hid (And.intro hv2 hb2)
        clear hv hbel hv2 hb2
        go_wp2
        go_roundw
        case rel => exact ⟨i, by have := HJ.out; omega, by have := HJ.out; simp; omega, by rw [HQ.out], HF.out.1, HF.out.2⟩
        case measure => simp [intOf]; omega
      · obtain rfl : j = 0 := by omega
        obtain ⟨c0, c1, c2, c3, c4, c5, c6, c7, c8, c9⟩ := Bk.c10 (show Bk w.heap.size 40 #[.int .i64 kind, .int .i64 (n / 887503681 % 31), .int .i64 (n / 28629151 % 31), .int .i64 (n / 923521 % 31), .int .i64 (n / 29791 % 31), .int .i64 (n / 961 % 31), .int .i64 (n / 31 % 31), .int .i64 (n % 31), .int .i64 0, .int .i64 0] wr from hv)
        have hof := HOF.out
        have hin := HIN.out
        obtain ⟨y1, HY1⟩ : ∃ y, Hid ((n / 887503681 % 31) = y) := ⟨_, Lib.hid rfl⟩
        rw [HY1.out] at hof hin c1
        obtain ⟨y2, HY2⟩ : ∃ y, Hid ((n / 28629151 % 31) = y) := ⟨_, Lib.hid rfl⟩
        rw [HY2.out] at hof hin c2
        obtain ⟨y3, HY3⟩ : ∃ y, Hid ((n / 923521 % 31) = y) := ⟨_, Lib.hid rfl⟩
        rw [HY3.out] at hof hin c3
        obtain ⟨y4, HY4⟩ : ∃ y, Hid ((n / 29791 % 31) = y) := ⟨_, Lib.hid rfl⟩
        rw [HY4.out] at hof hin c4
        obtain ⟨y5, HY5⟩ : ∃ y, Hid ((n / 961 % 31) = y) := ⟨_, Lib.hid rfl⟩
        rw [HY5.out] at hof hin c5
        obtain ⟨y6, HY6⟩ : ∃ y, Hid ((n / 31 % 31) = y) := ⟨_, Lib.hid rfl⟩
        rw [HY6.out] at hof hin c6
        obtain ⟨y7, HY7⟩ : ∃ y, Hid ((n % 31) = y) := ⟨_, Lib.hid rfl⟩
        rw [HY7.out] at hof hin c7
        have hW := fun W => withChecks_any kind y1 y2 y3 y4 y5 y6 y7 0 0 W hin
        obtain ⟨z8, HZ8⟩ : ∃ y, Hid ((Ka.wsum [kind, y1, y2, y3, y4, y5, y6, y7, 0, 0] 8 - 10 * Ka.sum [kind, y1, y2, y3, y4, y5, y6, y7, 0, 0] 8) % 31 = y) := ⟨_, Lib.hid rfl⟩
        obtain ⟨z9, HZ9⟩ : ∃ y, Hid ((9 * Ka.sum [kind, y1, y2, y3, y4, y5, y6, y7, 0, 0] 8 - Ka.wsum [kind, y1, y2, y3, y4, y5, y6, y7, 0, 0] 8) % 31 = y) := ⟨_, Lib.hid rfl⟩
        rw [HZ8.out, HZ9.out] at hof
        rw [HZ8.out, HZ9.out] at hW
        have hin2 : Ka.In [kind, y1, y2, y3, y4, y5, y6, y7, z8, z9] := by rw [← hof]; exact HK.out
        have hT := fun W => kaText_any kind y1 y2 y3 y4 y5 y6 y7 z8 z9 W hin2
        rw [← hof] at hT
        have HWW := Lib.hid hW
        have HTT := Lib.hid hT
        clear hW hT hin hin2 hof hv
        go_wp2_with fail
        refine (HWW.out _).mono ?_
        rintro e1 w1 ⟨rfl, hb1⟩
        have hbel1 := below_aft hbel hb1
        clear hbel hb1 c0 c1 c2 c3 c4 c5 c6 c7 c8 c9
        go_wp2_with fail
        refine (HTT.out _).mono ?_
        rintro e2 w2 ⟨rfl, hb2⟩
        have hbel2 := below_aft hbel1 hb2
        go_wp2
        go_ret2
        exact ⟨rfl, hbel2⟩


/-- Is s an address? -/
def Ka.rb (s : ByteArray) : Bool := Ka.gd s && Ka.ok (Ka.vals s)
/-- The kind and the number of s, or zeros. -/
def Ka.rk (s : ByteArray) : Int := if Ka.rb s = true then Ka.at_ (Ka.vals s) 0 else 0
def Ka.rn (s : ByteArray) : Int := if Ka.rb s = true then Ka.num (Ka.vals s) 7 else 0
theorem Ka.r_no {s : ByteArray} (h : Ka.rb s = false) : Ka.rk s = 0 ∧ Ka.rn s = 0 := by
  unfold Ka.rk Ka.rn; rw [h]; exact ⟨rfl, rfl⟩
theorem Ka.r_yes {s : ByteArray} (h : Ka.rb s = true) : Ka.rk s = Ka.at_ (Ka.vals s) 0 ∧ Ka.rn s = Ka.num (Ka.vals s) 7 := by
  unfold Ka.rk Ka.rn; rw [h]; exact ⟨rfl, rfl⟩
set_option maxRecDepth 100000 in
set_option maxHeartbeats 3200000 in
theorem implAddressRead_any (s : ByteArray) (w : World) : Calls Try.prog 14 #[.string s] w fun e w' => e = .returned (.tuple #[.int .i64 (Ka.rk s), .int .i64 (Ka.rn s), .bool (Ka.rb s)]) ∧ Below w.heap.size w w' := by
  have HV := Lib.hid (addressValuesOf_any s)
  cases hg : Ka.gd s
  · have hrb : Ka.rb s = false := by unfold Ka.rb; rw [hg]; rfl
    obtain ⟨e1, e2⟩ := Ka.r_no hrb
    rw [hrb, e1, e2]
    have HG := Lib.hid hg
    clear hg hrb e1 e2
    go_enter Try.func14, Try.ntmps14
    go_wp2_with fail
    refine (HV.out _).mono ?_
    rintro e1 w1 ⟨hv, hb1⟩
    obtain rfl : e1 = .returned (.tuple #[(.agg #[.int .i64 0, .int .i64 0, .int .i64 0, .int .i64 0, .int .i64 0, .int .i64 0, .int .i64 0, .int .i64 0, .int .i64 0, .int .i64 0]), .bool false]) := by
      rcases hv with ⟨h, _⟩ | ⟨_, h⟩
      · rw [HG.out] at h; cases h
      · exact h
    clear hv
    have hbel := hb1.alloc hb1.size (.cells #[.int .i64 0, .int .i64 0, .int .i64 0, .int .i64 0, .int .i64 0, .int .i64 0, .int .i64 0, .int .i64 0, .int .i64 0, .int .i64 0] 40 (0, 0))
    go_wp2
    go_ret3
    exact ⟨rfl, hbel⟩
  · have hpre := ((Ka.gd_iff s).1 hg).2
    have hin := Ka.vals_in hpre
    have hl := Ka.vals_len s
    have hrb : Ka.rb s = Ka.ok (Ka.vals s) := by unfold Ka.rb; rw [hg]; rfl
    have HG := Lib.hid hg
    have hvv : ∀ W, Calls Try.prog 28 #[.string s] W fun e w' => e = .returned (.tuple #[(.agg #[.int .i64 (Ka.at_ (Ka.vals s) 0), .int .i64 (Ka.at_ (Ka.vals s) 1), .int .i64 (Ka.at_ (Ka.vals s) 2), .int .i64 (Ka.at_ (Ka.vals s) 3), .int .i64 (Ka.at_ (Ka.vals s) 4), .int .i64 (Ka.at_ (Ka.vals s) 5), .int .i64 (Ka.at_ (Ka.vals s) 6), .int .i64 (Ka.at_ (Ka.vals s) 7), .int .i64 (Ka.at_ (Ka.vals s) 8), .int .i64 (Ka.at_ (Ka.vals s) 9)]), .bool true]) ∧ Below W.heap.size W w' := fun W => (HV.out W).mono fun e w' ⟨hv, hb⟩ => ⟨(by
      rcases hv with ⟨_, h⟩ | ⟨h, _⟩
      · exact h
      · rw [HG.out] at h; cases h), hb⟩
    have HRY := Lib.hid (fun h => Ka.r_yes (s := s) h)
    have HRN := Lib.hid (fun h => Ka.r_no (s := s) h)
    rw [hrb] at HRY HRN ⊢
    obtain ⟨l, hLL⟩ : ∃ l, Ka.vals s = l := ⟨_, rfl⟩
    rw [hLL] at hin hl hvv HRY HRN ⊢
    clear hpre HV HG hg hLL hrb
    obtain ⟨x0, x1, x2, x3, x4, x5, x6, x7, x8, x9, rfl⟩ := Ka.ten hl
    simp only [Ka.at_, List.getD_cons_succ, List.getD_cons_zero] at hvv
    have hA := fun W => areAddress_any x0 x1 x2 x3 x4 x5 x6 x7 x8 x9 W hin
    have hNum := fun W => kaNumber_any x0 x1 x2 x3 x4 x5 x6 x7 x8 x9 W hin
    have HIN := Lib.hid hin
    clear hin hl
    have HVV := Lib.hid hvv
    cases hok : Ka.ok [x0, x1, x2, x3, x4, x5, x6, x7, x8, x9]
    · obtain ⟨e1, e2⟩ := HRN.out hok
      rw [e1, e2]
      rw [hok] at hA
      have HA := Lib.hid hA
      clear hA hNum hok HRN HRY e1 e2 hvv
      go_enter Try.func14, Try.ntmps14
      go_wp2_with fail
      refine (HVV.out _).mono ?_
      rintro e1 w1 ⟨rfl, hb1⟩
      have hbel := hb1.alloc hb1.size (.cells #[.int .i64 x0, .int .i64 x1, .int .i64 x2, .int .i64 x3, .int .i64 x4, .int .i64 x5, .int .i64 x6, .int .i64 x7, .int .i64 x8, .int .i64 x9] 40 (0, 0))
      go_wp2_with fail
      refine (HA.out _).mono ?_
      rintro e2 w2 ⟨rfl, hb2⟩
      have hbel2 := below_aft hbel hb2
      clear hb1 hb2 hbel
      go_wp2
      go_ret3
      exact ⟨rfl, hbel2⟩
    · obtain ⟨e1, e2⟩ := HRY.out hok
      rw [e1, e2]
      rw [hok] at hA
      have HA := Lib.hid hA
      obtain ⟨n, HNN⟩ : ∃ n, Hid (Ka.num [x0, x1, x2, x3, x4, x5, x6, x7, x8, x9] 7 = n) := ⟨_, Lib.hid rfl⟩
      rw [HNN.out] at hNum ⊢
      rw [show Ka.at_ [x0, x1, x2, x3, x4, x5, x6, x7, x8, x9] 0 = x0 from rfl]
      have HNum := Lib.hid hNum
      clear hA hNum hok HRN HRY e1 e2 hvv
      go_enter Try.func14, Try.ntmps14
      go_wp2_with fail
      refine (HVV.out _).mono ?_
      rintro e1 w1 ⟨rfl, hb1⟩
      have hbel := hb1.alloc hb1.size (.cells #[.int .i64 x0, .int .i64 x1, .int .i64 x2, .int .i64 x3, .int .i64 x4, .int .i64 x5, .int .i64 x6, .int .i64 x7, .int .i64 x8, .int .i64 x9] 40 (0, 0))
      have hv1 : Bk w1.heap.size 40 #[.int .i64 x0, .int .i64 x1, .int .i64 x2, .int .i64 x3, .int .i64 x4, .int .i64 x5, .int .i64 x6, .int .i64 x7, .int .i64 x8, .int .i64 x9] (w1.alloc (.cells #[.int .i64 x0, .int .i64 x1, .int .i64 x2, .int .i64 x3, .int .i64 x4, .int .i64 x5, .int .i64 x6, .int .i64 x7, .int .i64 x8, .int .i64 x9] 40 (0, 0))) := Bk.new _ _ _
      go_wp2_with fail
      refine (HA.out _).mono ?_
      rintro e2 w2 ⟨rfl, hb2⟩
      have hbel2 := below_aft hbel hb2
      have hv2 := hv1.below hb2
      clear hb1 hb2 hbel hv1
      have hu := Try.underlying40
      have hz : (Try.prog.info? 40).map (·.size) = some ([.int .i64 x0, .int .i64 x1, .int .i64 x2, .int .i64 x3, .int .i64 x4, .int .i64 x5, .int .i64 x6, .int .i64 x7, .int .i64 x8, .int .i64 x9] : List Value).length := by kernel_rfl
      have hS0 : w2.drew.cell? ⟨w1.heap.size, 0, none⟩ = some (.int .i64 x0) ∧ w2.drew.rangeAt w1.heap.size 0 [.int .i64 x0, .int .i64 x1, .int .i64 x2, .int .i64 x3, .int .i64 x4, .int .i64 x5, .int .i64 x6, .int .i64 x7, .int .i64 x8, .int .i64 x9] := ⟨hv2.drew.cell 0, Bk.range hv2.drew⟩
      go_wp2
      go_region_held3 (fun W => W.cell? ⟨w1.heap.size, 0, none⟩ = some (.int .i64 x0) ∧ W.rangeAt w1.heap.size 0 [.int .i64 x0, .int .i64 x1, .int .i64 x2, .int .i64 x3, .int .i64 x4, .int .i64 x5, .int .i64 x6, .int .i64 x7, .int .i64 x8, .int .i64 x9]) (first | with_reducible exact hS0 | with_reducible exact hS1)
        (first | (go_at_call 30; refine (HNum.out _).mono ?_; rintro e3 w3 ⟨rfl, hb3⟩; have hv3 := hv2.drew.below hb3; have hS1 : w3.cell? ⟨w1.heap.size, 0, none⟩ = some (.int .i64 x0) ∧ w3.rangeAt w1.heap.size 0 [.int .i64 x0, .int .i64 x1, .int .i64 x2, .int .i64 x3, .int .i64 x4, .int .i64 x5, .int .i64 x6, .int .i64 x7, .int .i64 x8, .int .i64 x9] := ⟨hv3.cell 0, Bk.range hv3⟩; have hbel3 := below_aft hbel2.drew hb3))
      all_goals go_wp2
      all_goals go_ret3
      all_goals exact ⟨rfl, hbel3⟩

end Go.Proofs.Ytacgicpkhbjdaaa
