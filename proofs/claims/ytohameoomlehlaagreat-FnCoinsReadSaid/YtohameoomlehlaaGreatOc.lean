/-
  Contracts of scripts: l10Field, ScriptOk; of the model.
-/
import Derived.Test.YtohameoomlehlaaGreatOb
import Derived.Test.YtohameoomlehlaaGreatPb
import Derived.Test.YtohameoomlehlaaGreatBa
import Derived.Laws.OwnMore
import Derived.OwnWalk
namespace Go.Proofs.YtohameoomlehlaaGreat
open Go.RowKit

theorem ownsRow_front {w : World} {base : Nat} {e : TypeId} {g n cap : Nat} {xs ys : List Value} (h : w.ownsRow base e 1 (.slice (some ⟨g, 0, none⟩) n cap) n (xs ++ ys)) : w.ownsRow base e 1 (.slice (some ⟨g, 0, none⟩) xs.length cap) xs.length xs := by
  have hl := h.1
  rcases h.2 with ⟨he, _⟩ | ⟨g', cap', cur, he, hg, hh, hn, hm, hs, ht⟩
  · cases he
  · cases he
    rw [List.length_append] at hl
    refine ⟨by simp, .inr ⟨g, cap, cur, rfl, hg, hh, by omega, hm, hs, ?_⟩⟩
    rw [Nat.mul_one] at ht ⊢
    have h2 := congrArg (List.take xs.length) ht
    rw [List.take_take, List.take_left' rfl, Nat.min_eq_left (by omega)] at h2
    exact h2
theorem info_bool : (Tryz.prog.info? 4).map (fun i => (i.zero, i.size, i.bytes)) = some (some (.bool false), 1, 1) := by kernel_rfl
theorem str_empty_iff (t : ByteArray) : t.toList.isEmpty = decide (t.size = 0) := by
  rw [Bool.eq_iff_iff, decide_eq_true_eq, List.isEmpty_iff, toList_nil_iff_emptyBytes]
  constructor
  · rintro rfl; rfl
  · exact Jo.size_zero
set_option maxRecDepth 100000 in
set_option maxHeartbeats 1600000 in
theorem l10Field_any (C A B : Int) (t : ByteArray) (w : World) :
    Calls Tryz.prog 102 #[.agg #[.int .i64 C, .int .i64 A, .int .i64 B, .string t]] w fun e w' => e = .returned (.bool (Jo.fld ⟨C, A, B, t⟩)) ∧ Below w.heap.size w w' := by
  have hE := str_empty_iff t
  by_cases r0 : 0 ≤ C
  case neg =>
    have q0 : decide (0 ≤ C) = false := decide_eq_false r0
    have HF : Hid (Jo.fld ⟨C, A, B, t⟩ = false) := Lib.hid (by unfold Jo.fld; simp [*])
    go_enter Tryz.func102, Tryz.ntmps102
    go_wp2_with (first | (go_at_call 59; refine (l6In_any _ _ _ _).mono ?_; rintro e w' ⟨rfl, rfl⟩))
    go_ret
    exact ⟨by rw [HF.out]; rfl, (Below.refl _ _).alloc (Nat.le_refl _) _⟩
  by_cases r1 : C ≤ 14
  case neg =>
    have q1 : decide (C ≤ 14) = false := decide_eq_false r1
    have HF : Hid (Jo.fld ⟨C, A, B, t⟩ = false) := Lib.hid (by unfold Jo.fld; simp [*])
    go_enter Tryz.func102, Tryz.ntmps102
    go_wp2_with (first | (go_at_call 59; refine (l6In_any _ _ _ _).mono ?_; rintro e w' ⟨rfl, rfl⟩))
    go_ret
    exact ⟨by rw [HF.out]; rfl, (Below.refl _ _).alloc (Nat.le_refl _) _⟩
  by_cases k0 : C = 0
  case pos =>
    subst k0
    clear r0 r1
    by_cases a0 : A = 0
    case neg =>
      have qa : (A == 0) = false := by simpa using a0
      have HF : Hid (Jo.fld ⟨0, A, B, t⟩ = false) := Lib.hid (by unfold Jo.fld; simp [*])
      go_enter Tryz.func102, Tryz.ntmps102
      go_wp2_with (first | (go_at_call 59; refine (l6In_any _ _ _ _).mono ?_; rintro e w' ⟨rfl, rfl⟩))
      go_ret
      exact ⟨by rw [HF.out]; rfl, (Below.refl _ _).alloc (Nat.le_refl _) _⟩
    by_cases b0 : B = 0
    case neg =>
      have qb : (B == 0) = false := by simpa using b0
      subst a0
      have HF : Hid (Jo.fld ⟨0, 0, B, t⟩ = false) := Lib.hid (by unfold Jo.fld; simp [*])
      go_enter Tryz.func102, Tryz.ntmps102
      go_wp2_with (first | (go_at_call 59; refine (l6In_any _ _ _ _).mono ?_; rintro e w' ⟨rfl, rfl⟩))
      go_ret
      exact ⟨by rw [HF.out]; rfl, (Below.refl _ _).alloc (Nat.le_refl _) _⟩
    subst a0
    subst b0
    have HF : Hid (Jo.fld ⟨0, 0, 0, t⟩ = decide ((t.size : Int) ≤ 80)) := Lib.hid (by
      unfold Jo.fld
      simp
      omega)
    clear hE
    go_enter Tryz.func102, Tryz.ntmps102
    go_wp2_with (first | (go_at_call 59; refine (l6In_any _ _ _ _).mono ?_; rintro e w' ⟨rfl, rfl⟩))
    go_ret
    exact ⟨by rw [HF.out]; rfl, (Below.refl _ _).alloc (Nat.le_refl _) _⟩
  have q0 : (C == 0) = false := by simpa using k0
  by_cases hz : t.size = 0
  case neg =>
    have hE2 : t.toList.isEmpty = false := by rw [hE]; exact decide_eq_false hz
    clear hE
    have HF : Hid (Jo.fld ⟨C, A, B, t⟩ = false) := Lib.hid (by unfold Jo.fld; simp [*])
    go_enter Tryz.func102, Tryz.ntmps102
    go_wp2_with (first | (go_at_call 59; refine (l6In_any _ _ _ _).mono ?_; rintro e w' ⟨rfl, rfl⟩))
    go_ret
    exact ⟨by rw [HF.out]; rfl, (Below.refl _ _).alloc (Nat.le_refl _) _⟩
  have ht := Jo.size_zero hz
  subst ht
  clear hE hz
  have hE : (⟨#[]⟩ : ByteArray).toList.isEmpty = true := by rw [str_empty_iff]; rfl
  by_cases k12 : C = 12
  case pos =>
    subst k12
    clear r0 r1 k0 q0
    by_cases a0 : 1 ≤ A
    case neg =>
      have qa : decide (1 ≤ A) = false := decide_eq_false a0
      have HF : Hid (Jo.fld ⟨12, A, B, ⟨#[]⟩⟩ = false) := Lib.hid (by unfold Jo.fld; simp [*])
      go_enter Tryz.func102, Tryz.ntmps102
      go_wp2_with (first | (go_at_call 59; refine (l6In_any _ _ _ _).mono ?_; rintro e w' ⟨rfl, rfl⟩))
      go_ret
      exact ⟨by rw [HF.out]; rfl, (Below.refl _ _).alloc (Nat.le_refl _) _⟩
    by_cases a1 : A ≤ B
    case neg =>
      have qa : decide (A ≤ B) = false := decide_eq_false a1
      have HF : Hid (Jo.fld ⟨12, A, B, ⟨#[]⟩⟩ = false) := Lib.hid (by unfold Jo.fld; simp [*])
      go_enter Tryz.func102, Tryz.ntmps102
      go_wp2_with (first | (go_at_call 59; refine (l6In_any _ _ _ _).mono ?_; rintro e w' ⟨rfl, rfl⟩))
      go_ret
      exact ⟨by rw [HF.out]; rfl, (Below.refl _ _).alloc (Nat.le_refl _) _⟩
    have qa0 : decide (1 ≤ A) = true := decide_eq_true a0
    have qa1 : decide (A ≤ B) = true := decide_eq_true a1
    by_cases b1 : B ≤ 5
    case neg =>
      have qb : decide (B ≤ 5) = false := decide_eq_false b1
      have HF : Hid (Jo.fld ⟨12, A, B, ⟨#[]⟩⟩ = false) := Lib.hid (by unfold Jo.fld; simp [*])
      go_enter Tryz.func102, Tryz.ntmps102
      go_wp2_with (first | (go_at_call 59; refine (l6In_any _ _ _ _).mono ?_; rintro e w' ⟨rfl, rfl⟩))
      go_ret
      exact ⟨by rw [HF.out]; rfl, (Below.refl _ _).alloc (Nat.le_refl _) _⟩
    have qb : decide (B ≤ 5) = true := decide_eq_true b1
    have HF : Hid (Jo.fld ⟨12, A, B, ⟨#[]⟩⟩ = true) := Lib.hid (by unfold Jo.fld; simp [*]; rfl)
    go_enter Tryz.func102, Tryz.ntmps102
    go_wp2_with (first | (go_at_call 59; refine (l6In_any _ _ _ _).mono ?_; rintro e w' ⟨rfl, rfl⟩))
    go_ret
    exact ⟨by rw [HF.out]; rfl, (Below.refl _ _).alloc (Nat.le_refl _) _⟩
  have q12 : (C == 12) = false := by simpa using k12
  by_cases b0 : B = 0
  case neg =>
    have qb : (B == 0) = false := by simpa using b0
    have qb2 : (B != 0) = true := by simpa using b0
    have HF : Hid (Jo.fld ⟨C, A, B, ⟨#[]⟩⟩ = false) := Lib.hid (by unfold Jo.fld; simp [*])
    go_enter Tryz.func102, Tryz.ntmps102
    go_wp2_with (first | (go_at_call 59; refine (l6In_any _ _ _ _).mono ?_; rintro e w' ⟨rfl, rfl⟩))
    go_ret
    exact ⟨by rw [HF.out]; rfl, (Below.refl _ _).alloc (Nat.le_refl _) _⟩
  subst b0
  by_cases k13 : C = 13
  case pos =>
    subst k13
    clear r0 r1 k0 q0 k12 q12
    by_cases a0 : 0 ≤ A
    case neg =>
      have qa : decide (0 ≤ A) = false := decide_eq_false a0
      have HF : Hid (Jo.fld ⟨13, A, 0, ⟨#[]⟩⟩ = false) := Lib.hid (by unfold Jo.fld; simp [*])
      go_enter Tryz.func102, Tryz.ntmps102
      go_wp2_with (first | (go_at_call 59; refine (l6In_any _ _ _ _).mono ?_; rintro e w' ⟨rfl, rfl⟩))
      go_ret
      exact ⟨by rw [HF.out]; rfl, (Below.refl _ _).alloc (Nat.le_refl _) _⟩
    by_cases a1 : A ≤ 9999
    case neg =>
      have qa : decide (A ≤ 9999) = false := decide_eq_false a1
      have HF : Hid (Jo.fld ⟨13, A, 0, ⟨#[]⟩⟩ = false) := Lib.hid (by unfold Jo.fld; simp [*])
      go_enter Tryz.func102, Tryz.ntmps102
      go_wp2_with (first | (go_at_call 59; refine (l6In_any _ _ _ _).mono ?_; rintro e w' ⟨rfl, rfl⟩))
      go_ret
      exact ⟨by rw [HF.out]; rfl, (Below.refl _ _).alloc (Nat.le_refl _) _⟩
    have qa0 : decide (0 ≤ A) = true := decide_eq_true a0
    have qa1 : decide (A ≤ 9999) = true := decide_eq_true a1
    have HF : Hid (Jo.fld ⟨13, A, 0, ⟨#[]⟩⟩ = true) := Lib.hid (by unfold Jo.fld; simp [*]; rfl)
    go_enter Tryz.func102, Tryz.ntmps102
    go_wp2_with (first | (go_at_call 59; refine (l6In_any _ _ _ _).mono ?_; rintro e w' ⟨rfl, rfl⟩))
    go_ret
    exact ⟨by rw [HF.out]; rfl, (Below.refl _ _).alloc (Nat.le_refl _) _⟩
  have q13 : (C == 13) = false := by simpa using k13
  by_cases k14 : C = 14
  case pos =>
    subst k14
    clear r0 r1 k0 q0 k12 q12 k13 q13
    by_cases a0 : 1 ≤ A
    case neg =>
      have qa : decide (1 ≤ A) = false := decide_eq_false a0
      have HF : Hid (Jo.fld ⟨14, A, 0, ⟨#[]⟩⟩ = false) := Lib.hid (by unfold Jo.fld; simp [*])
      go_enter Tryz.func102, Tryz.ntmps102
      go_wp2_with (first | (go_at_call 59; refine (l6In_any _ _ _ _).mono ?_; rintro e w' ⟨rfl, rfl⟩))
      go_ret
      exact ⟨by rw [HF.out]; rfl, (Below.refl _ _).alloc (Nat.le_refl _) _⟩
    by_cases a1 : A ≤ 99
    case neg =>
      have qa : decide (A ≤ 99) = false := decide_eq_false a1
      have HF : Hid (Jo.fld ⟨14, A, 0, ⟨#[]⟩⟩ = false) := Lib.hid (by unfold Jo.fld; simp [*])
      go_enter Tryz.func102, Tryz.ntmps102
      go_wp2_with (first | (go_at_call 59; refine (l6In_any _ _ _ _).mono ?_; rintro e w' ⟨rfl, rfl⟩))
      go_ret
      exact ⟨by rw [HF.out]; rfl, (Below.refl _ _).alloc (Nat.le_refl _) _⟩
    have qa0 : decide (1 ≤ A) = true := decide_eq_true a0
    have qa1 : decide (A ≤ 99) = true := decide_eq_true a1
    have HF : Hid (Jo.fld ⟨14, A, 0, ⟨#[]⟩⟩ = true) := Lib.hid (by unfold Jo.fld; simp [*]; rfl)
    go_enter Tryz.func102, Tryz.ntmps102
    go_wp2_with (first | (go_at_call 59; refine (l6In_any _ _ _ _).mono ?_; rintro e w' ⟨rfl, rfl⟩))
    go_ret
    exact ⟨by rw [HF.out]; rfl, (Below.refl _ _).alloc (Nat.le_refl _) _⟩
  have q14 : (C == 14) = false := by simpa using k14
  by_cases a0 : A = 0
  case neg =>
    have qa : (A == 0) = false := by simpa using a0
    have HF : Hid (Jo.fld ⟨C, A, 0, ⟨#[]⟩⟩ = false) := Lib.hid (by unfold Jo.fld; simp [*])
    go_enter Tryz.func102, Tryz.ntmps102
    go_wp2_with (first | (go_at_call 59; refine (l6In_any _ _ _ _).mono ?_; rintro e w' ⟨rfl, rfl⟩))
    go_ret
    exact ⟨by rw [HF.out]; rfl, (Below.refl _ _).alloc (Nat.le_refl _) _⟩
  subst a0
  have HF : Hid (Jo.fld ⟨C, 0, 0, ⟨#[]⟩⟩ = true) := Lib.hid (by unfold Jo.fld; simp [*]; rfl)
  go_enter Tryz.func102, Tryz.ntmps102
  go_wp2_with (first | (go_at_call 59; refine (l6In_any _ _ _ _).mono ?_; rintro e w' ⟨rfl, rfl⟩))
  go_ret
  exact ⟨by rw [HF.out]; rfl, (Below.refl _ _).alloc (Nat.le_refl _) _⟩
theorem Jo.nest_len {st : List Bool} {l : List Jo} (h : Jo.nest [] l = some st) : st.length ≤ 4 := by
  have : ∀ (s0 : List Bool) (m : List Jo), s0.length ≤ 4 → ∀ s, Jo.nest s0 m = some s → s.length ≤ 4 := by
    intro s0 m
    induction m generalizing s0 with
    | nil => intro h0 s hs; cases hs; exact h0
    | cons x m ih =>
      intro h0 s hs
      simp only [Jo.nest] at hs
      split at hs
      · cases hs
      · rename_i s1 h1
        exact ih s1 (Jo.step_len h1 h0) s hs
  exact this [] l (by simp) st h
set_option maxRecDepth 100000 in
set_option maxHeartbeats 1600000 in
theorem specScriptOk_any (a : Option Addr) (len cap : Nat) (l : List Jo) (w : World) (h : OL w a len l) (hm : len ≤ 9223372036854775807) :
    Calls Tryz.prog 101 #[.slice a len cap] w fun e w' => e = .returned (.bool (Jo.ok l)) ∧ Below w.heap.size w w' := by
  have hl := h.1
  by_cases h40 : 40 < len
  · have HN : Hid (Jo.ok l = false) := Lib.hid (by rw [Bool.eq_false_iff]; exact fun g => by have := ((Jo.ok_iff l).1 g).1; omega)
    have hi : (40 : Int) < len := by omega
    clear h
    go_enter Tryz.func101, Tryz.ntmps101
    go_wp2
    go_ret
    exact ⟨by rw [HN.out]; rfl, Below.refl _ _⟩
  obtain ⟨i0, hi, hz0, hz1, hz2⟩ := info_parts info_bool
  have HLEN := Lib.hid hl
  have h40' : ¬ (40 : Int) < len := by omega
  clear hl
  go_enter Tryz.func101, Tryz.ntmps101
  go_wp2
  go_loopw [3, 4] (fun v i wr => ∃ (k : Nat) (st : List Bool), k ≤ len ∧ i = .int .i64 (k : Int) ∧ Hid (Jo.nest [] (l.take k) = some st) ∧ Hid (∀ j, j < k → Jo.fld (Jo.at_ l j) = true) ∧ Hid (wr.ownsRow w.heap.size 4 1 v st.length (st.reverse.map Value.bool)) ∧ Below w.heap.size w wr)
    (fun _ i _ => len - (intOf i).toNat)
  case atStart => exact ⟨0, [], by omega, rfl, Lib.hid rfl, Lib.hid fun j hj => absurd hj (by omega), Lib.hid (World.ownsRow_made _ _ _ (Nat.le_refl _) (by decide) rfl), (Below.refl _ _).alloc (Nat.le_refl _) _⟩
  case round =>
    obtain ⟨k, st, hk, rfl, HST, HFL, HOWN, hbel⟩ := hrel
    clear h40'
    have hst4 : st.length ≤ 4 := Jo.nest_len HST.out
    obtain ⟨n, hn⟩ : ∃ n, st.length = n := ⟨_, rfl⟩
    rw [hn] at hst4
    have HN := Lib.hid hn
    have hown := HOWN.out
    rw [hn] at hown
    have hbs := hbel.size
    clear HOWN
    by_cases hlt : k < len
    · obtain ⟨b, off, rfl, hb, hc⟩ := (h.below hbel).2 (by omega)
      have hOf : ∀ W, Below w.heap.size w W → W.cell? ⟨b, off + k * 4, none⟩ = some (.int .i64 (Jo.at_ l k).c) ∧ W.cell? ⟨b, off + k * 4 + 1, none⟩ = some (.int .i64 (Jo.at_ l k).a) ∧ W.cell? ⟨b, off + k * 4 + 2, none⟩ = some (.int .i64 (Jo.at_ l k).b) ∧ W.cell? ⟨b, off + k * 4 + 3, none⟩ = some (.string (Jo.at_ l k).t) := fun W hW => by
        obtain ⟨b', off', he, _, hc⟩ := (h.below hW).2 (show 0 < len by omega)
        cases he
        exact hc k hlt
      have HTK : Hid (l.take (k + 1) = l.take k ++ [Jo.at_ l k]) := Lib.hid (by
        rw [List.take_succ_eq_append_getElem (by rw [HLEN.out]; exact hlt)]
        congr 2
        have := Jo.at_get (l := l) (j := k) (by rw [HLEN.out]; exact hlt)
        rw [List.getElem?_eq_getElem (by rw [HLEN.out]; exact hlt)] at this
        exact Option.some.inj this)
      have HNEST : Hid (Jo.nest [] (l.take (k + 1)) = Jo.step st (Jo.at_ l k).c) := Lib.hid (by rw [HTK.out, Jo.nest_snoc, HST.out])
      have HBADF : Hid (Jo.fld (Jo.at_ l k) = false → Jo.ok l = false) := Lib.hid fun hf => by
        rw [Bool.eq_false_iff]
        intro g
        have := ((Jo.ok_iff l).1 g).2.1 (Jo.at_ l k) (List.mem_of_getElem? (Jo.at_get (by rw [HLEN.out]; exact hlt)))
        rw [hf] at this; cases this
      have HBADN : Hid (Jo.step st (Jo.at_ l k).c = none → Jo.ok l = false) := Lib.hid fun hs => by
        rw [Bool.eq_false_iff]
        intro g
        have h1 := ((Jo.ok_iff l).1 g).2.2
        rw [← List.take_append_drop (k + 1) l, Jo.nest_none (by rw [HNEST.out, hs])] at h1
        cases h1
      have HFS : Hid (Jo.fld (Jo.at_ l k) = true → ∀ j, j < k + 1 → Jo.fld (Jo.at_ l j) = true) := Lib.hid fun hf j hj => by
        by_cases hjk : j = k
        · rw [hjk]; exact hf
        · exact HFL.out j (by omega)
      obtain ⟨x, hx⟩ : ∃ x, Hid (Jo.at_ l k = x) := ⟨_, Lib.hid rfl⟩
      rw [hx.out] at HNEST HBADF HBADN HFS
      rw [hx.out] at hOf
      obtain ⟨C, A, B, t⟩ := x
      simp only at hOf
      rw [show (⟨C, A, B, t⟩ : Jo).c = C from rfl] at HNEST HBADN
      obtain ⟨c0, c1, c2, c3⟩ := hOf wr hbel
      have hcon := fun W => l10Field_any C A B t W
      obtain ⟨f, HFF⟩ : ∃ f, Hid (Jo.fld ⟨C, A, B, t⟩ = f) := ⟨_, Lib.hid rfl⟩
      rw [HFF.out] at HBADF HFS
      simp only [HFF.out] at hcon
      have HC := Lib.hid hcon
      clear hc hx hcon h HFF
      go_wp2_with fail
      refine (HC.out _).mono ?_
      rintro e w1 ⟨rfl, hb1⟩
      have hbel1 := below_aft9 hbel hb1
      have hown1 := hown.kept (row := none) ⟨hb1.os, hb1.tape, hb1.output, hb1.size, fun q hq _ => hb1.block q hq⟩ (Classical.em _)
      obtain ⟨d0, d1, d2, d3⟩ := hOf w1 hbel1
      have hbs1 := hbel1.size
      obtain ⟨va, vc, rfl⟩ : ∃ va vc, u3 = .slice va n vc := by
        rcases hown.2 with ⟨h1, h2⟩ | ⟨g, cap', cur, h1, _⟩
        · exact ⟨none, 0, by rw [h1, h2]⟩
        · exact ⟨_, _, h1⟩
      clear hown hb1 hbel c0 c1 c2 c3 hOf hbs HC
      cases f
      · have HB := Lib.hid (HBADF.out rfl)
        clear HBADF HBADN HFS HNEST
        go_wp2
        go_ret
        exact ⟨by rw [HB.out]; rfl, hbel1⟩
      have HFK := Lib.hid (HFS.out rfl)
      clear HBADF HFS
      by_cases k6 : C = 6
      · subst k6
        by_cases n4 : n < 4
        · have HS2 : Hid (Jo.nest [] (l.take (k + 1)) = some (true :: st)) := Lib.hid (by
            rw [HNEST.out]; unfold Jo.step; rw [if_pos rfl, if_pos (by rw [HN.out]; exact n4)])
          have S1 := Lib.hid (one_new w1 (.bool true) 4)
          clear HNEST HBADN
          go_wp2_with (at_builtin; refine wpList_append_own _ rfl _ _ 122 rfl w.heap.size 4 i0 (.bool false) 1 1 Tryz.underlying122 hi hz0 hz1 hz2 rfl (by decide) _ _ _ rfl (hown1.alloc (.cells #[.bool true] 4 (0, 0))) ⟨w1.heap.size, 0, none⟩ 1 1 [.bool true] rfl rfl ?_ ?_ ?_ ?_ ?_ ?_)
          any_goals first | exact S1.out | (intro u hu; simp at hu; subst hu; rfl) | (unfold maxLen; omega) | omega | (simp; omega)
          intro v' w5 hown5 hgrow _
          have hown6 : Hid (w5.ownsRow w.heap.size 4 1 v' (true :: st).length ((true :: st).reverse.map Value.bool)) := Lib.hid (by
            rw [List.length_cons, HN.out, List.reverse_cons, List.map_append, List.map_reverse]
            exact hown5)
          have hbel2 : Below w.heap.size w w5 := (hbel1.alloc hbs1 (.cells #[.bool true] 4)).grown hgrow (by simp; omega) (fun q hq => (hown1.lt _ hq).1)
          obtain ⟨g5, cp5, rfl⟩ : ∃ g cp, v' = .slice (some ⟨g, 0, none⟩) (n + 1) cp := by
            rcases hown5.2 with ⟨_, h0⟩ | ⟨g, cap', cur, h1, _⟩
            · omega
            · exact ⟨_, _, h1⟩
          have hq : ¬ (4 : Int) < (n : Int) + 1 := by omega
          clear hown1 hown5 hgrow hbel1
          go_wp2
          go_roundw
          case rel => exact ⟨k + 1, true :: st, by omega, by simp, HS2, HFK, hown6, hbel2⟩
          case measure => simp [intOf]; omega
        · have HB := Lib.hid (HBADN.out (by unfold Jo.step; rw [if_pos rfl, if_neg (by rw [HN.out]; exact n4)]))
          have S1 := Lib.hid (one_new w1 (.bool true) 4)
          clear HNEST HBADN
          go_wp2_with (at_builtin; refine wpList_append_own _ rfl _ _ 122 rfl w.heap.size 4 i0 (.bool false) 1 1 Tryz.underlying122 hi hz0 hz1 hz2 rfl (by decide) _ _ _ rfl (hown1.alloc (.cells #[.bool true] 4 (0, 0))) ⟨w1.heap.size, 0, none⟩ 1 1 [.bool true] rfl rfl ?_ ?_ ?_ ?_ ?_ ?_)
          any_goals first | exact S1.out | (intro u hu; simp at hu; subst hu; rfl) | (unfold maxLen; omega) | omega | (simp; omega)
          intro v' w5 hown5 hgrow _
          have hbel2 : Below w.heap.size w w5 := (hbel1.alloc hbs1 (.cells #[.bool true] 4)).grown hgrow (by simp; omega) (fun q hq => (hown1.lt _ hq).1)
          obtain ⟨g5, cp5, rfl⟩ : ∃ g cp, v' = .slice (some ⟨g, 0, none⟩) (n + 1) cp := by
            rcases hown5.2 with ⟨_, h0⟩ | ⟨g, cap', cur, h1, _⟩
            · omega
            · exact ⟨_, _, h1⟩
          have hq : (4 : Int) < (n : Int) + 1 := by omega
          clear hown1 hown5 hgrow hbel1
          go_wp2
          go_ret
          exact ⟨by rw [HB.out]; rfl, hbel2⟩
      have q6 : (C == 6) = false := by simpa using k6
      by_cases k7 : C = 7
      · subst k7
        cases st with
        | nil =>
          obtain rfl : n = 0 := HN.out.symm
          have HB := Lib.hid (HBADN.out rfl)
          clear HNEST HBADN
          go_wp2
          go_ret
          exact ⟨by rw [HB.out]; rfl, hbel1⟩
        | cons o r =>
          obtain ⟨m, hmr⟩ : ∃ m, r.length = m := ⟨_, rfl⟩
          obtain rfl : n = m + 1 := by rw [← HN.out, List.length_cons, hmr]
          have HMR := Lib.hid hmr
          rw [List.reverse_cons, List.map_append] at hown1
          obtain ⟨g, rfl, hcap⟩ : ∃ g, va = some ⟨g, 0, none⟩ ∧ m + 1 ≤ vc := by
            rcases hown1.2 with ⟨h1, h2⟩ | ⟨g, cap', cur, h1, _, _, hn2, _⟩
            · omega
            · cases h1; exact ⟨g, rfl, hn2⟩
          have co : w1.cell? ⟨g, m, none⟩ = some (.bool o) := by
            have h1 := hown1.cells (g := g) rfl m (.bool o) (by rw [List.getElem?_append_right (by simp [hmr]), List.length_map, List.length_reverse, hmr, Nat.sub_self]; rfl)
            have hadr : (⟨g, 0, none⟩ : Addr).add m = ⟨g, m, none⟩ := by unfold Addr.add; split <;> simp_all
            rwa [hadr] at h1
          cases o
          · have HB := Lib.hid (HBADN.out rfl)
            clear HNEST HBADN hown1 hmr
            go_wp2
            go_ret
            exact ⟨by rw [HB.out]; rfl, hbel1⟩
          · have HS2 : Hid (Jo.nest [] (l.take (k + 1)) = some (false :: r)) := Lib.hid (by rw [HNEST.out]; rfl)
            have hown2 := ownsRow_front hown1
            rw [List.length_map, List.length_reverse, hmr] at hown2
            have S1 := Lib.hid (one_new w1 (.bool false) 4)
            clear HNEST HBADN hown1 hmr
            go_wp2_with (at_builtin; refine wpList_append_own _ rfl _ _ 122 rfl w.heap.size 4 i0 (.bool false) 1 1 Tryz.underlying122 hi hz0 hz1 hz2 rfl (by decide) _ _ _ rfl (hown2.alloc (.cells #[.bool false] 4 (0, 0))) ⟨w1.heap.size, 0, none⟩ 1 1 [.bool false] rfl rfl ?_ ?_ ?_ ?_ ?_ ?_)
            any_goals first | exact S1.out | (intro u hu; simp at hu; subst hu; rfl) | (unfold maxLen; omega) | omega | (simp; omega)
            intro v' w5 hown5 hgrow _
            have hown6 : Hid (w5.ownsRow w.heap.size 4 1 v' (false :: r).length ((false :: r).reverse.map Value.bool)) := Lib.hid (by
              rw [List.length_cons, HMR.out, List.reverse_cons, List.map_append, List.map_reverse]
              exact hown5)
            have hbel2 : Below w.heap.size w w5 := (hbel1.alloc hbs1 (.cells #[.bool false] 4)).grown hgrow (by simp; omega) (fun q hq => (hown2.lt _ hq).1)
            obtain ⟨g5, cp5, rfl⟩ : ∃ g cp, v' = .slice (some ⟨g, 0, none⟩) (m + 1) cp := by
              rcases hown5.2 with ⟨_, h0⟩ | ⟨g, cap', cur, h1, _⟩
              · omega
              · exact ⟨_, _, h1⟩
            have hq : ¬ (4 : Int) < (m : Int) + 1 := by omega
            clear hown2 hown5 hgrow hbel1
            go_wp2
            go_roundw
            case rel => exact ⟨k + 1, false :: r, by omega, by simp, HS2, HFK, hown6, hbel2⟩
            case measure => simp [intOf]; omega
      have q7 : (C == 7) = false := by simpa using k7
      by_cases k8 : C = 8
      · subst k8
        cases st with
        | nil =>
          obtain rfl : n = 0 := HN.out.symm
          have HB := Lib.hid (HBADN.out rfl)
          clear HNEST HBADN
          go_wp2
          go_ret
          exact ⟨by rw [HB.out]; rfl, hbel1⟩
        | cons o r =>
          obtain ⟨m, hmr⟩ : ∃ m, r.length = m := ⟨_, rfl⟩
          obtain rfl : n = m + 1 := by rw [← HN.out, List.length_cons, hmr]
          have HMR := Lib.hid hmr
          rw [List.reverse_cons, List.map_append] at hown1
          obtain ⟨g, rfl, hcap⟩ : ∃ g, va = some ⟨g, 0, none⟩ ∧ m + 1 ≤ vc := by
            rcases hown1.2 with ⟨h1, h2⟩ | ⟨g, cap', cur, h1, _, _, hn2, _⟩
            · omega
            · cases h1; exact ⟨g, rfl, hn2⟩
          have HS2 : Hid (Jo.nest [] (l.take (k + 1)) = some r) := Lib.hid (by rw [HNEST.out]; rfl)
          have hown2 := ownsRow_front hown1
          rw [List.length_map, List.length_reverse] at hown2
          have hown6 := Lib.hid hown2
          have hq : ¬ (4 : Int) < (m : Int) := by omega
          clear HNEST HBADN hown1 hown2 hmr
          go_wp2
          go_roundw
          case rel => exact ⟨k + 1, r, by omega, by simp, HS2, HFK, Lib.hid (by have := hown6.out; rw [HMR.out] at this ⊢; exact this), hbel1⟩
          case measure => simp [intOf]; omega
      have q8 : (C == 8) = false := by simpa using k8
      have HS2 : Hid (Jo.nest [] (l.take (k + 1)) = some st) := Lib.hid (by rw [HNEST.out]; unfold Jo.step; rw [if_neg k6, if_neg k7, if_neg k8])
      have hq : ¬ (4 : Int) < (n : Int) := by omega
      have hown6 := Lib.hid hown1
      clear HNEST HBADN hown1 k6 k7 k8
      go_wp2
      go_roundw
      case rel => exact ⟨k + 1, st, by omega, by simp, HS2, HFK, Lib.hid (by rw [HN.out]; exact hown6.out), hbel1⟩
      case measure => simp [intOf]; omega
    · have hk2 : k = len := by omega
      obtain ⟨va, vc, rfl⟩ : ∃ va vc, u3 = .slice va n vc := by
        rcases hown.2 with ⟨h1, h2⟩ | ⟨g, cap', cur, h1, _⟩
        · exact ⟨none, 0, by rw [h1, h2]⟩
        · exact ⟨_, _, h1⟩
      have HOK : Hid (Jo.ok l = decide (n = 0)) := Lib.hid (by
        have e := HST.out
        rw [List.take_of_length_le (by rw [HLEN.out]; omega)] at e
        rw [Bool.eq_iff_iff, Jo.ok_iff, decide_eq_true_eq, e, HLEN.out]
        constructor
        · rintro ⟨_, _, h3⟩
          have := Option.some.inj h3
          rw [← HN.out, this]; rfl
        · intro h0
          refine ⟨by omega, fun x hx => ?_, ?_⟩
          · obtain ⟨j, hj, rfl⟩ := List.getElem_of_mem hx
            rw [HLEN.out] at hj
            have := HFL.out j (by omega)
            have h5 := Jo.at_get (l := l) (j := j) (by rw [HLEN.out]; exact hj)
            rw [List.getElem?_eq_getElem (by rw [HLEN.out]; exact hj)] at h5
            rw [Option.some.inj h5]; exact this
          · have := HN.out
            rw [h0] at this
            rw [List.eq_nil_of_length_eq_zero this])
      clear hown hk2
      by_cases h0 : n = 0
      · subst h0
        go_wp2
        go_ret
        exact ⟨by rw [HOK.out]; rfl, hbel⟩
      · have hq : ((n : Int) == 0) = false := by simpa using fun e : (n : Int) = 0 => h0 (by omega)
        have HE : Hid (decide (n = 0) = false) := Lib.hid (decide_eq_false h0)
        go_wp2
        go_ret
        exact ⟨by rw [HOK.out, HE.out]; rfl, hbel⟩
end Go.Proofs.YtohameoomlehlaaGreat
