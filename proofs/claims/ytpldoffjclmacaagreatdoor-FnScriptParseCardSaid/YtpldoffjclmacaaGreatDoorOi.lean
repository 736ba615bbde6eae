/-
  Contracts of scripts: l10Num; of the model.
-/
import Derived.Test.YtpldoffjclmacaaGreatDoorOh
namespace Go.Proofs.YtpldoffjclmacaaGreatDoor
open Go.RowKit

/-- The number of digits. -/
def Jo.nf (l : List Int) : Int := l.foldl (fun n c => n * 10 + (c - 48)) 0
theorem Jo.nf_snoc (l : List Int) (c : Int) : Jo.nf (l ++ [c]) = Jo.nf l * 10 + (c - 48) := by unfold Jo.nf; rw [List.foldl_append]; rfl
/-- May it be a number, by its length and its beginning? -/
def Jo.nh (p : List Int) : Bool := decide (p.length ≠ 0) && decide (p.length ≤ 4) && !(decide (1 < p.length) && (p.getD 0 0 == 48))
theorem Jo.num_no {p : List Int} (h : Jo.nh p = false) : Jo.num p = -1 := by
  unfold Jo.nh at h
  match p, h with
  | [], _ => rfl
  | [a], h => simp at h
  | [a, b], h => simp at h; subst h; simp only [Jo.num]; rw [if_neg (by simp)]
  | [a, b, c], h => simp at h; subst h; simp only [Jo.num]; rw [if_neg (by simp)]
  | [a, b, c, d], h => simp at h; subst h; simp only [Jo.num]; rw [if_neg (by simp)]
  | a :: b :: c :: d :: e :: r, _ => rfl
theorem Jo.num_bad {p : List Int} {c : Int} (hc : c ∈ p) (h : Jo.dg c = false) : Jo.num p = -1 := by
  match p, hc with
  | [a], hc => simp at hc; subst hc; simp only [Jo.num]; rw [if_neg (by rw [h]; simp)]
  | [a, b], hc => simp only [Jo.num]; simp at hc; rw [if_neg (by rintro ⟨_, h1, h2⟩; rcases hc with rfl | rfl <;> simp_all)]
  | [a, b, d], hc => simp only [Jo.num]; simp at hc; rw [if_neg (by rintro ⟨_, h1, h2, h3⟩; rcases hc with rfl | rfl | rfl <;> simp_all)]
  | [a, b, d, e], hc => simp only [Jo.num]; simp at hc; rw [if_neg (by rintro ⟨_, h1, h2, h3, h4⟩; rcases hc with rfl | rfl | rfl | rfl <;> simp_all)]
  | a :: b :: d :: e :: f :: r, _ => rfl
theorem Jo.num_ok {p : List Int} (h : Jo.nh p = true) (hd : ∀ c ∈ p, Jo.dg c = true) : Jo.num p = Jo.nf p := by
  unfold Jo.nh at h
  match p, h, hd with
  | [], h, _ => simp at h
  | [a], _, hd => simp only [Jo.num]; rw [if_pos (hd a (by simp))]; show _ = 0 * 10 + (a - 48); omega
  | [a, b], h, hd => simp at h; simp only [Jo.num]; rw [if_pos ⟨h, hd a (by simp), hd b (by simp)⟩]; show _ = (0 * 10 + (a - 48)) * 10 + (b - 48); omega
  | [a, b, c], h, hd => simp at h; simp only [Jo.num]; rw [if_pos ⟨h, hd a (by simp), hd b (by simp), hd c (by simp)⟩]; show _ = ((0 * 10 + (a - 48)) * 10 + (b - 48)) * 10 + (c - 48); omega
  | [a, b, c, d], h, hd => simp at h; simp only [Jo.num]; rw [if_pos ⟨h, hd a (by simp), hd b (by simp), hd c (by simp), hd d (by simp)⟩]; show _ = (((0 * 10 + (a - 48)) * 10 + (b - 48)) * 10 + (c - 48)) * 10 + (d - 48); omega
  | a :: b :: c :: d :: e :: r, h, _ => simp at h
set_option maxRecDepth 100000 in
set_option maxHeartbeats 1600000 in
theorem l10Num_any (s : ByteArray) (w : World) (hs : s.size ≤ 1000000) :
    Calls Tryz.prog 53 #[.string s] w fun e w' => e = .returned (.int .i64 (Jo.num (Jo.L s))) ∧ w = w' := by
  have hl := Jo.L_len s
  by_cases z0 : s.size = 0
  · have HN : Hid (Jo.num (Jo.L s) = -1) := Lib.hid (Jo.num_no (by unfold Jo.nh; rw [hl, z0]; rfl))
    have q0 : ((s.size : Int) == 0) = true := by simp [z0]
    clear hl
    go_enter Tryz.func53, Tryz.ntmps53
    go_wp2
    go_ret
    exact ⟨by rw [HN.out]; rfl, rfl⟩
  have q0 : ((s.size : Int) == 0) = false := by simpa using fun e : (s.size : Int) = 0 => z0 (by omega)
  by_cases z4 : 4 < s.size
  · have HN : Hid (Jo.num (Jo.L s) = -1) := Lib.hid (Jo.num_no (by unfold Jo.nh; rw [hl, decide_eq_false (show ¬ s.size ≤ 4 by omega), Bool.and_false]; rfl))
    have q4 : decide ((4 : Int) < (s.size : Int)) = true := decide_eq_true (by omega)
    clear hl
    go_enter Tryz.func53, Tryz.ntmps53
    go_wp2
    go_ret
    exact ⟨by rw [HN.out]; rfl, rfl⟩
  have q4 : decide ((4 : Int) < (s.size : Int)) = false := decide_eq_false (by omega)
  have h0 : (Jo.L s).getD 0 0 = En.byt s 0 := by
    rw [List.getD_eq_getElem?_getD, Jo.L_get s 0 (by omega)]; rfl
  have hx0 : ∀ h : 0 < s.size, ((s[0]'h).toNat : Int) = En.byt s 0 := fun h => En.byt_eq _ _ h
  by_cases z1 : 1 < s.size ∧ En.byt s 0 = 48
  · have HN : Hid (Jo.num (Jo.L s) = -1) := Lib.hid (Jo.num_no (by unfold Jo.nh; rw [h0, z1.2, hl, decide_eq_true z1.1]; simp))
    have q1 : decide ((1 : Int) < (s.size : Int)) = true := decide_eq_true (by omega)
    rw [z1.2] at hx0
    have hpos : 0 < s.size := by omega
    clear hl h0 z1
    go_enter Tryz.func53, Tryz.ntmps53
    go_wp2
    go_ret
    exact ⟨by rw [HN.out]; rfl, rfl⟩
  have HNH : Hid (Jo.nh (Jo.L s) = true) := Lib.hid (by
    unfold Jo.nh
    rw [hl, h0, decide_eq_true (show s.size ≠ 0 from z0), decide_eq_true (show s.size ≤ 4 by omega)]
    simp
    by_cases h : s.size ≤ 1
    · exact .inl h
    · exact .inr fun e => z1 ⟨by omega, e⟩)
  obtain ⟨g, q1, q2⟩ : ∃ g : Bool, decide ((1 : Int) < (s.size : Int)) = g ∧ (g = true → (En.byt s 0 == 48) = false) := by
    by_cases h : 1 < s.size
    · exact ⟨true, decide_eq_true (by omega), fun _ => by simpa using fun e => z1 ⟨h, e⟩⟩
    · exact ⟨false, decide_eq_false (by omega), fun h => by cases h⟩
  obtain ⟨x0, HX0⟩ : ∃ x, Hid (En.byt s 0 = x) := ⟨_, Lib.hid rfl⟩
  rw [HX0.out] at q2
  simp only [HX0.out] at hx0
  have HL := Lib.hid hl
  have hpos : 0 < s.size := by omega
  have hz4 : s.size ≤ 4 := by omega
  clear hl h0 z1 z4 HX0
  cases g
  all_goals
    try have q2' := q2 rfl
    clear q2
    go_enter Tryz.func53, Tryz.ntmps53
    go_wp2
    go_loop [3, 4] (fun v i => ∃ (k : Nat) (n : Int), k ≤ s.size ∧ i = .int .i64 (k : Int) ∧ v = .int .i64 n ∧ 0 ≤ n ∧ n < 10 ^ k ∧ Hid (n = Jo.nf ((Jo.L s).take k)) ∧ Hid (∀ c ∈ (Jo.L s).take k, Jo.dg c = true))
      (fun _ i => s.size - (intOf i).toNat)
    case atStart => exact ⟨0, 0, by omega, rfl, rfl, by omega, by decide, Lib.hid rfl, Lib.hid fun c hc => by cases hc⟩
    case round =>
      obtain ⟨k, n, hk, rfl, rfl, n0, n1, HNF, HDG⟩ := hrel
      by_cases hlt : k < s.size
      · have hb := En.byt_bd s k
        have hx : ∀ h : k < s.size, ((s[k]'h).toNat : Int) = En.byt s k := fun h => En.byt_eq _ _ h
        have HTK := Lib.hid (Jo.L_take hlt)
        have HMEM : Hid (En.byt s k ∈ Jo.L s) := Lib.hid (List.mem_of_getElem? (Jo.L_get s k hlt))
        have n2 : n < 10000 := by
          have : (10 : Int) ^ k ≤ 10 ^ 4 := by
            have hk4 : k ≤ 4 := by omega
            match k, hk4 with
            | 0, _ => decide
            | 1, _ => decide
            | 2, _ => decide
            | 3, _ => decide
            | 4, _ => decide
          simp at this
          omega
        obtain ⟨x, HX⟩ : ∃ x, Hid (En.byt s k = x) := ⟨_, Lib.hid rfl⟩
        rw [HX.out] at hb HTK HMEM
        simp only [HX.out] at hx
        obtain ⟨b0, b1⟩ := hb
        by_cases hlo : x < 48
        · have HN : Hid (Jo.num (Jo.L s) = -1) := Lib.hid (Jo.num_bad HMEM.out (by unfold Jo.dg; simp; omega))
          have ql : decide (x < 48) = true := decide_eq_true hlo
          go_wp2
          go_ret
          exact ⟨by rw [HN.out]; rfl, rfl⟩
        · have ql : decide (x < 48) = false := decide_eq_false hlo
          by_cases hhi : 57 < x
          · have HN : Hid (Jo.num (Jo.L s) = -1) := Lib.hid (Jo.num_bad HMEM.out (by unfold Jo.dg; simp; omega))
            have qh : decide (57 < x) = true := decide_eq_true hhi
            go_wp2
            go_ret
            exact ⟨by rw [HN.out]; rfl, rfl⟩
          · have qh : decide (57 < x) = false := decide_eq_false hhi
            have hw : IntKind.u8.wrap (x - 48) = x - 48 := IntWalk.u8_in _ (by omega)
            have HN2 : Hid (n * 10 + (x - 48) = Jo.nf ((Jo.L s).take (k + 1))) := Lib.hid (by rw [HTK.out, Jo.nf_snoc, ← HNF.out])
            have HD2 : Hid (∀ c ∈ (Jo.L s).take (k + 1), Jo.dg c = true) := Lib.hid (by
              rw [HTK.out]
              intro c hc
              rcases List.mem_append.1 hc with h | h
              · exact HDG.out c h
              · simp at h; subst h; unfold Jo.dg; simp; omega)
            have x48 : 0 ≤ x - 48 := by omega
            have x57 : x - 48 ≤ 9 := by omega
            clear HTK HMEM
            go_wp2
            go_round
            case rel => exact ⟨k + 1, n * 10 + (x - 48), by omega, by go_num, rfl, by omega, by rw [Int.pow_succ]; omega, HN2, HD2⟩
            case measure => simp [intOf]; omega
      · obtain rfl : k = s.size := by omega
        have HN : Hid (Jo.num (Jo.L s) = n) := Lib.hid (by
          have e : (Jo.L s).take s.size = Jo.L s := List.take_of_length_le (by rw [HL.out]; exact Nat.le_refl _)
          rw [e] at HNF HDG
          rw [Jo.num_ok HNH.out HDG.out, HNF.out])
        go_wp2
        go_ret
        exact ⟨by rw [HN.out]; rfl, rfl⟩
end Go.Proofs.YtpldoffjclmacaaGreatDoor
