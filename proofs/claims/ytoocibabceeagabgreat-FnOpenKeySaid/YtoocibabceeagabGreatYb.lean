/-
  Contracts of scripts: isValid, areConditionsWhole, ScriptOk; of the program.
-/
import Derived.Test.YtoocibabceeagabGreatOc
namespace Go.Proofs.YtoocibabceeagabGreat
open Go.RowKit

theorem eq_opY (c a b c' a' b' : Int) (t t' : ByteArray) (w : World) : (Op.equalIn 10000 77 (.agg #[.int .i64 c, .int .i64 a, .int .i64 b, .string t]) (.agg #[.int .i64 c', .int .i64 a', .int .i64 b', .string t'])).run Tryz.prog w = .ok (c == c' && (a == a' && (b == b' && t.toList == t'.toList))) w := by
  have u3 := Tryz.underlying3
  have a3 := Tryz.isAgg3
  have z3 := Tryz.sizeOf3
  have u9 := Tryz.underlying9
  have a9 := Tryz.isAgg9
  have z9 := Tryz.sizeOf9
  have hS : Tryz.prog.underlying 77 = some (.struct (Tryz.prog.fieldsOf 77)) := by kernel_rfl
  rw [show (10000 : Nat) = 9999 + 1 from rfl, run_equalIn_agg w 9999 77 _ _ hS (by kernel_rfl)]
  simp only [Program.fieldsOf, Tryz.underlying77]
  go_simp
  by_cases h1 : c = c' <;> by_cases h2 : a = a' <;> by_cases h3 : b = b' <;> cases h4 : (t.toList == t'.toList) <;> simp_all
theorem noGuard_opY : Tryz.prog.eqGuardType Tryz.prog.depth 77 = false := by kernel_rfl
/-- Two operations, told in one bool. -/
def Jo.eqv (c a b c' a' b' : Int) (t t' : ByteArray) : Bool := decide (c = c' ∧ a = a' ∧ b = b' ∧ t = t')
theorem eq_opZ (c a b c' a' b' : Int) (t t' : ByteArray) (w : World) : (Op.equalIn 10000 77 (.agg #[.int .i64 c, .int .i64 a, .int .i64 b, .string t]) (.agg #[.int .i64 c', .int .i64 a', .int .i64 b', .string t'])).run Tryz.prog w = .ok (Jo.eqv c a b c' a' b' t t') w := by
  rw [eq_opY]
  congr 1
  unfold Jo.eqv
  rw [Bool.eq_iff_iff]
  simp only [Bool.and_eq_true, beq_iff_eq, decide_eq_true_eq, ByteArray.toList_eq]
  constructor
  · rintro ⟨h1, h2, h3, h4⟩
    exact ⟨h1, h2, h3, ByteArray.ext (Array.toList_inj.1 h4)⟩
  · rintro ⟨h1, h2, h3, h4⟩
    exact ⟨h1, h2, h3, by rw [h4]⟩
set_option maxRecDepth 100000 in
set_option maxHeartbeats 1600000 in
theorem isValid_any (C A B : Int) (t : ByteArray) (w : World) :
    Calls Tryz.prog 135 #[.agg #[.int .i64 C, .int .i64 A, .int .i64 B, .string t]] w fun e w' => e = .returned (.bool (Jo.fld ⟨C, A, B, t⟩)) ∧ Below w.heap.size w w' := by
  have hE := str_empty_iff t
  have hg := noGuard_opY
  by_cases k0 : C = 0
  · subst k0
    have hq1 := fun W => eq_opZ 0 A B 0 0 0 t t W
    have HV : Hid (Jo.fld ⟨0, A, B, t⟩ = (decide ((t.size : Int) ≤ 80) && Jo.eqv 0 A B 0 0 0 t t)) := Lib.hid (by
      unfold Jo.fld Jo.eqv
      rw [Bool.eq_iff_iff]
      simp
      omega)
    obtain ⟨E, HE⟩ : ∃ E, Hid (Jo.eqv 0 A B 0 0 0 t t = E) := ⟨_, Lib.hid rfl⟩
    rw [HE.out] at HV
    simp only [HE.out] at hq1
    clear HE
    by_cases hs : (t.size : Int) ≤ 80
    · have h80 : decide ((t.size : Int) ≤ 80) = true := decide_eq_true hs
      have HF : Hid (Jo.fld ⟨0, A, B, t⟩ = E) := Lib.hid (by rw [HV.out, h80]; rfl)
      clear HV
      cases E
      · go_enter Tryz.func135, Tryz.ntmps135
        go_wp2
        go_ret
        exact ⟨by rw [HF.out]; rfl, (Below.refl _ _).alloc (Nat.le_refl _) _⟩
      · go_enter Tryz.func135, Tryz.ntmps135
        go_wp2
        go_ret
        exact ⟨by rw [HF.out]; rfl, (Below.refl _ _).alloc (Nat.le_refl _) _⟩
    · have h80 : decide ((t.size : Int) ≤ 80) = false := decide_eq_false hs
      have HF : Hid (Jo.fld ⟨0, A, B, t⟩ = false) := Lib.hid (by rw [HV.out, h80]; rfl)
      clear HV hq1
      go_enter Tryz.func135, Tryz.ntmps135
      go_wp2
      go_ret
      exact ⟨by rw [HF.out]; rfl, (Below.refl _ _).alloc (Nat.le_refl _) _⟩
  have q0 : (C == 0) = false := by simpa using k0
  by_cases k12 : C = 12
  · subst k12
    have HV : Hid (Jo.fld ⟨12, A, B, t⟩ = (decide (1 ≤ A) && (decide (A ≤ B) && (decide (B ≤ 5) && t.toList.isEmpty)))) := Lib.hid (by
      rw [hE]
      unfold Jo.fld
      rw [Bool.eq_iff_iff]
      by_cases hz : t = ByteArray.empty <;> simp [hz] <;> omega)
    by_cases a0 : 1 ≤ A
    case neg =>
      have qa : decide (1 ≤ A) = false := decide_eq_false a0
      have HF : Hid (Jo.fld ⟨12, A, B, t⟩ = false) := Lib.hid (by rw [HV.out, qa]; rfl)
      clear HV
      go_enter Tryz.func135, Tryz.ntmps135
      go_wp2
      go_ret
      exact ⟨by rw [HF.out]; rfl, (Below.refl _ _).alloc (Nat.le_refl _) _⟩
    have qa0 : decide (1 ≤ A) = true := decide_eq_true a0
    by_cases a1 : A ≤ B
    case neg =>
      have qa : decide (A ≤ B) = false := decide_eq_false a1
      have HF : Hid (Jo.fld ⟨12, A, B, t⟩ = false) := Lib.hid (by rw [HV.out, qa, qa0]; rfl)
      clear HV
      go_enter Tryz.func135, Tryz.ntmps135
      go_wp2
      go_ret
      exact ⟨by rw [HF.out]; rfl, (Below.refl _ _).alloc (Nat.le_refl _) _⟩
    have qa1 : decide (A ≤ B) = true := decide_eq_true a1
    by_cases b1 : B ≤ 5
    case neg =>
      have qb : decide (B ≤ 5) = false := decide_eq_false b1
      have HF : Hid (Jo.fld ⟨12, A, B, t⟩ = false) := Lib.hid (by rw [HV.out, qa0, qa1, qb]; rfl)
      clear HV
      go_enter Tryz.func135, Tryz.ntmps135
      go_wp2
      go_ret
      exact ⟨by rw [HF.out]; rfl, (Below.refl _ _).alloc (Nat.le_refl _) _⟩
    have qb : decide (B ≤ 5) = true := decide_eq_true b1
    obtain ⟨E, HE⟩ : ∃ E, Hid (t.toList.isEmpty = E) := ⟨_, Lib.hid rfl⟩
    have hEE := HE.out
    have HF : Hid (Jo.fld ⟨12, A, B, t⟩ = E) := Lib.hid (by rw [HV.out, qa0, qa1, qb, HE.out]; rfl)
    clear HV hE HE
    cases E
    · go_enter Tryz.func135, Tryz.ntmps135
      go_wp2
      go_ret
      exact ⟨by rw [HF.out]; rfl, (Below.refl _ _).alloc (Nat.le_refl _) _⟩
    · go_enter Tryz.func135, Tryz.ntmps135
      go_wp2
      go_ret
      exact ⟨by rw [HF.out]; rfl, (Below.refl _ _).alloc (Nat.le_refl _) _⟩
  have q12 : (C == 12) = false := by simpa using k12
  by_cases k13 : C = 13
  · subst k13
    have hq1 := fun W => eq_opZ 13 A B 13 A 0 t ⟨#[]⟩ W
    have HV : Hid (Jo.fld ⟨13, A, B, t⟩ = (decide (0 ≤ A) && (decide (A ≤ 9999) && Jo.eqv 13 A B 13 A 0 t ⟨#[]⟩))) := Lib.hid (by
      unfold Jo.fld Jo.eqv
      rw [Bool.eq_iff_iff]
      simp
      constructor
      · rintro ⟨h1, h2, h3⟩; exact ⟨by omega, by omega, by omega, Jo.size_zero (by rw [h1]; rfl)⟩
      · rintro ⟨h1, h2, h3, h4⟩; exact ⟨by rw [h4]; rfl, by omega, by omega⟩)
    obtain ⟨E, HE⟩ : ∃ E, Hid (Jo.eqv 13 A B 13 A 0 t ⟨#[]⟩ = E) := ⟨_, Lib.hid rfl⟩
    rw [HE.out] at HV
    simp only [HE.out] at hq1
    clear HE hE
    by_cases a0 : 0 ≤ A
    case neg =>
      have qa : decide (0 ≤ A) = false := decide_eq_false a0
      have HF : Hid (Jo.fld ⟨13, A, B, t⟩ = false) := Lib.hid (by rw [HV.out, qa]; rfl)
      clear HV hq1
      go_enter Tryz.func135, Tryz.ntmps135
      go_wp2
      go_ret
      exact ⟨by rw [HF.out]; rfl, (Below.refl _ _).alloc (Nat.le_refl _) _⟩
    have qa0 : decide (0 ≤ A) = true := decide_eq_true a0
    by_cases a1 : A ≤ 9999
    case neg =>
      have qa : decide (A ≤ 9999) = false := decide_eq_false a1
      have HF : Hid (Jo.fld ⟨13, A, B, t⟩ = false) := Lib.hid (by rw [HV.out, qa, qa0]; rfl)
      clear HV hq1
      go_enter Tryz.func135, Tryz.ntmps135
      go_wp2
      go_ret
      exact ⟨by rw [HF.out]; rfl, (Below.refl _ _).alloc (Nat.le_refl _) _⟩
    have qa1 : decide (A ≤ 9999) = true := decide_eq_true a1
    have HF : Hid (Jo.fld ⟨13, A, B, t⟩ = E) := Lib.hid (by rw [HV.out, qa0, qa1]; rfl)
    clear HV
    cases E
    · go_enter Tryz.func135, Tryz.ntmps135
      go_wp2
      go_ret
      exact ⟨by rw [HF.out]; rfl, (Below.refl _ _).alloc (Nat.le_refl _) _⟩
    · go_enter Tryz.func135, Tryz.ntmps135
      go_wp2
      go_ret
      exact ⟨by rw [HF.out]; rfl, (Below.refl _ _).alloc (Nat.le_refl _) _⟩
  have q13 : (C == 13) = false := by simpa using k13
  by_cases k14 : C = 14
  · subst k14
    have hq1 := fun W => eq_opZ 14 A B 14 A 0 t ⟨#[]⟩ W
    have HV : Hid (Jo.fld ⟨14, A, B, t⟩ = (decide (1 ≤ A) && (decide (A ≤ 99) && Jo.eqv 14 A B 14 A 0 t ⟨#[]⟩))) := Lib.hid (by
      unfold Jo.fld Jo.eqv
      rw [Bool.eq_iff_iff]
      simp
      constructor
      · rintro ⟨h1, h2, h3⟩; exact ⟨by omega, by omega, by omega, Jo.size_zero (by rw [h1]; rfl)⟩
      · rintro ⟨h1, h2, h3, h4⟩; exact ⟨by rw [h4]; rfl, by omega, by omega⟩)
    obtain ⟨E, HE⟩ : ∃ E, Hid (Jo.eqv 14 A B 14 A 0 t ⟨#[]⟩ = E) := ⟨_, Lib.hid rfl⟩
    rw [HE.out] at HV
    simp only [HE.out] at hq1
    clear HE hE
    by_cases a0 : 1 ≤ A
    case neg =>
      have qa : decide (1 ≤ A) = false := decide_eq_false a0
      have HF : Hid (Jo.fld ⟨14, A, B, t⟩ = false) := Lib.hid (by rw [HV.out, qa]; rfl)
      clear HV hq1
      go_enter Tryz.func135, Tryz.ntmps135
      go_wp2
      go_ret
      exact ⟨by rw [HF.out]; rfl, (Below.refl _ _).alloc (Nat.le_refl _) _⟩
    have qa0 : decide (1 ≤ A) = true := decide_eq_true a0
    by_cases a1 : A ≤ 99
    case neg =>
      have qa : decide (A ≤ 99) = false := decide_eq_false a1
      have HF : Hid (Jo.fld ⟨14, A, B, t⟩ = false) := Lib.hid (by rw [HV.out, qa, qa0]; rfl)
      clear HV hq1
      go_enter Tryz.func135, Tryz.ntmps135
      go_wp2
      go_ret
      exact ⟨by rw [HF.out]; rfl, (Below.refl _ _).alloc (Nat.le_refl _) _⟩
    have qa1 : decide (A ≤ 99) = true := decide_eq_true a1
    have HF : Hid (Jo.fld ⟨14, A, B, t⟩ = E) := Lib.hid (by rw [HV.out, qa0, qa1]; rfl)
    clear HV
    cases E
    · go_enter Tryz.func135, Tryz.ntmps135
      go_wp2
      go_ret
      exact ⟨by rw [HF.out]; rfl, (Below.refl _ _).alloc (Nat.le_refl _) _⟩
    · go_enter Tryz.func135, Tryz.ntmps135
      go_wp2
      go_ret
      exact ⟨by rw [HF.out]; rfl, (Below.refl _ _).alloc (Nat.le_refl _) _⟩
  have q14 : (C == 14) = false := by simpa using k14
  have hq1 := fun W => eq_opZ C A B C 0 0 t ⟨#[]⟩ W
  have HV : Hid (Jo.fld ⟨C, A, B, t⟩ = (decide (0 < C) && (decide (C < 12) && Jo.eqv C A B C 0 0 t ⟨#[]⟩))) := Lib.hid (by
    unfold Jo.fld Jo.eqv
    rw [Bool.eq_iff_iff]
    simp [k0, k12, k13, k14]
    constructor
    · rintro ⟨⟨h1, h2⟩, h3, h4, h5⟩; exact ⟨by omega, by omega, by omega, by omega, Jo.size_zero (by rw [h3]; rfl)⟩
    · rintro ⟨h1, h2, h3, h4, h5⟩; exact ⟨⟨by omega, by omega⟩, by rw [h5]; rfl, by omega, by omega⟩)
  obtain ⟨E, HE⟩ : ∃ E, Hid (Jo.eqv C A B C 0 0 t ⟨#[]⟩ = E) := ⟨_, Lib.hid rfl⟩
  rw [HE.out] at HV
  simp only [HE.out] at hq1
  clear HE hE
  by_cases a0 : 0 < C
  case neg =>
    have qa : decide (0 < C) = false := decide_eq_false a0
    have HF : Hid (Jo.fld ⟨C, A, B, t⟩ = false) := Lib.hid (by rw [HV.out, qa]; rfl)
    clear HV hq1
    go_enter Tryz.func135, Tryz.ntmps135
    go_wp2
    go_ret
    exact ⟨by rw [HF.out]; rfl, (Below.refl _ _).alloc (Nat.le_refl _) _⟩
  have qa0 : decide (0 < C) = true := decide_eq_true a0
  by_cases a1 : C < 12
  case neg =>
    have qa : decide (C < 12) = false := decide_eq_false a1
    have HF : Hid (Jo.fld ⟨C, A, B, t⟩ = false) := Lib.hid (by rw [HV.out, qa, qa0]; rfl)
    clear HV hq1
    go_enter Tryz.func135, Tryz.ntmps135
    go_wp2
    go_ret
    exact ⟨by rw [HF.out]; rfl, (Below.refl _ _).alloc (Nat.le_refl _) _⟩
  have qa1 : decide (C < 12) = true := decide_eq_true a1
  have HF : Hid (Jo.fld ⟨C, A, B, t⟩ = E) := Lib.hid (by rw [HV.out, qa0, qa1]; rfl)
  clear HV
  cases E
  · go_enter Tryz.func135, Tryz.ntmps135
    go_wp2
    go_ret
    exact ⟨by rw [HF.out]; rfl, (Below.refl _ _).alloc (Nat.le_refl _) _⟩
  · go_enter Tryz.func135, Tryz.ntmps135
    go_wp2
    go_ret
    exact ⟨by rw [HF.out]; rfl, (Below.refl _ _).alloc (Nat.le_refl _) _⟩
/-- The block B holds four bools. -/
def EB (B : Nat) (es : List Bool) (w : World) : Prop := es.length = 4 ∧ w.heap[B]? = some (.cells (es.map Value.bool).toArray 180 (0, 0))
theorem EB.below {B : Nat} {es : List Bool} {w w' : World} (h : EB B es w) (hb : Below w.heap.size w w') : EB B es w' := ⟨h.1, (hb.block B (lt_of_block h.2)).trans h.2⟩
theorem EB.alloc {B : Nat} {es : List Bool} {w : World} (h : EB B es w) (o : Obj) : EB B es (w.alloc o) := ⟨h.1, by rw [Below.heap_alloc w o B (lt_of_block h.2)]; exact h.2⟩
theorem EB.cell {B : Nat} {es : List Bool} {w : World} (h : EB B es w) (i : Nat) (b : Bool) (hi : es[i]? = some b) : w.cell? ⟨B, i, none⟩ = some (.bool b) := by
  simp [World.cell?, h.2, hi]
theorem EB.fro {B : Nat} {es : List Bool} {w : World} (h : EB B es w) (i : Nat) : w.frozen? ⟨B, i, none⟩ = false := by simp [World.frozen?, h.2]
theorem EB.set {B : Nat} {es : List Bool} {w : World} (h : EB B es w) (i : Nat) (b : Bool) : EB B (es.set i b) (w.setCell ⟨B, i, none⟩ (.bool b)) := by
  refine ⟨by rw [List.length_set]; exact h.1, ?_⟩
  rw [block_setCell h.2 i (.bool b)]
  congr 2
  apply Array.toList_inj.1
  simp [List.map_set]
set_option maxRecDepth 100000 in
set_option maxHeartbeats 1600000 in
theorem areConditionsWhole_any (a : Option Addr) (len cap : Nat) (l : List Jo) (w : World) (h : OL w a len l) (hm : len ≤ 40) :
    Calls Tryz.prog 136 #[.slice a len cap] w fun e w' => e = .returned (.bool (Jo.nest [] l == some [])) ∧ Below w.heap.size w w' := by
  have hl := h.1
  have HLEN := Lib.hid hl
  clear hl
  have hE0 : EB w.heap.size [false, false, false, false] (w.alloc (.cells #[.bool false, .bool false, .bool false, .bool false] 180 (0, 0))) := ⟨rfl, heap_alloc_new w _⟩
  go_enter Tryz.func136, Tryz.ntmps136
  go_wp2
  go_loopw [4, 9] (fun d i wr => ∃ (k : Nat) (st es : List Bool), k ≤ len ∧ i = .int .i64 (k : Int) ∧ d = .int .i64 (st.length : Int) ∧ Hid (Jo.nest [] (l.take k) = some st) ∧ Hid (es.take st.length = st.reverse.map (!·)) ∧ Hid (EB w.heap.size es wr) ∧ Below w.heap.size w wr)
    (fun _ i _ => len - (intOf i).toNat)
  case atStart => exact ⟨0, [], _, by omega, rfl, rfl, Lib.hid rfl, Lib.hid rfl, Lib.hid hE0, (Below.refl _ _).alloc (Nat.le_refl _) _⟩
  case round =>
    obtain ⟨k, st, es, hk, rfl, rfl, HST, HES, HEB, hbel⟩ := hrel
    have hst4 : st.length ≤ 4 := Jo.nest_len HST.out
    obtain ⟨n, hn⟩ : ∃ n, st.length = n := ⟨_, rfl⟩
    rw [hn] at hst4 HES
    rw [hn]
    have HN := Lib.hid hn
    have hbs := hbel.size
    clear hn
    by_cases hlt : k < len
    · obtain ⟨b, off, rfl, hb, hc⟩ := (h.below hbel).2 (by omega)
      obtain ⟨c0, c1, c2, c3⟩ := hc k hlt
      have HTK : Hid (l.take (k + 1) = l.take k ++ [Jo.at_ l k]) := Lib.hid (by
        rw [List.take_succ_eq_append_getElem (by rw [HLEN.out]; exact hlt)]
        congr 2
        have := Jo.at_get (l := l) (j := k) (by rw [HLEN.out]; exact hlt)
        rw [List.getElem?_eq_getElem (by rw [HLEN.out]; exact hlt)] at this
        exact Option.some.inj this)
      have HNEST : Hid (Jo.nest [] (l.take (k + 1)) = Jo.step st (Jo.at_ l k).c) := Lib.hid (by rw [HTK.out, Jo.nest_snoc, HST.out])
      have HBADN : Hid (Jo.step st (Jo.at_ l k).c = none → (Jo.nest [] l == some []) = false) := Lib.hid fun hs => by
        rw [Bool.eq_false_iff]
        intro g
        have h1 : Jo.nest [] l = some [] := by simpa using g
        rw [← List.take_append_drop (k + 1) l, Jo.nest_none (by rw [HNEST.out, hs])] at h1
        cases h1
      obtain ⟨x, hx⟩ : ∃ x, Hid (Jo.at_ l k = x) := ⟨_, Lib.hid rfl⟩
      rw [hx.out] at HNEST HBADN c0 c1 c2 c3
      obtain ⟨C, A, B, t⟩ := x
      simp only at c0 c1 c2 c3
      rw [show (⟨C, A, B, t⟩ : Jo).c = C from rfl] at HNEST HBADN
      have hbel1 := hbel.alloc hbs (.cells #[.int .i64 C, .int .i64 A, .int .i64 B, .string t] 77 (0, 0))
      have heb := HEB.out.alloc (.cells #[.int .i64 C, .int .i64 A, .int .i64 B, .string t] 77 (0, 0))
      have hv : Bk wr.heap.size 77 #[.int .i64 C, .int .i64 A, .int .i64 B, .string t] (wr.alloc (.cells #[.int .i64 C, .int .i64 A, .int .i64 B, .string t] 77 (0, 0))) := Bk.new _ _ _
      have hfz := fun i => heb.fro i
      have HEL := Lib.hid heb.1
      clear hc hx h HTK HEB
      by_cases k6 : C = 6
      · subst k6
        by_cases n4 : n = 4
        · have HB := Lib.hid (HBADN.out (by unfold Jo.step; rw [if_pos rfl, if_neg (by rw [HN.out]; omega)]))
          subst n4
          clear HNEST HBADN heb hfz
          go_wp2
          go_ret
          exact ⟨by rw [HB.out]; rfl, hbel1⟩
        · have q4 : ((n : Int) == 4) = false := by simpa using fun e : (n : Int) = 4 => n4 (by omega)
          have hn4 : n < 4 := by omega
          have HS2 : Hid (Jo.nest [] (l.take (k + 1)) = some (true :: st)) := Lib.hid (by
            rw [HNEST.out]; unfold Jo.step; rw [if_pos rfl, if_pos (by rw [HN.out]; exact hn4)])
          have f0 := hfz n
          have s0 : ∃ u, (wr.alloc (.cells #[.int .i64 6, .int .i64 A, .int .i64 B, .string t] 77 (0, 0))).cell? ⟨w.heap.size, n, none⟩ = some u := ⟨_, heb.cell n (es[n]'(by rw [HEL.out]; exact hn4)) (List.getElem?_eq_getElem _)⟩
          obtain ⟨u, hu⟩ := s0
          have HEB2 := Lib.hid (heb.set n false)
          have hbel2 := Lib.hid (hbel1.setCell (p := ⟨w.heap.size, n, none⟩) (Nat.le_refl _) (.bool false))
          have HES2 : Hid ((es.set n false).take (n + 1) = (true :: st).reverse.map (!·)) := Lib.hid (by
            rw [List.reverse_cons, List.map_append, ← HES.out, List.take_succ_eq_append_getElem (by rw [List.length_set, HEL.out]; exact hn4), List.take_set_of_le (Nat.le_refl _)]
            simp)
          clear HNEST HBADN heb hfz hbel1
          go_wp2
          go_roundw
          case rel => exact ⟨k + 1, true :: st, es.set n false, by omega, by simp, by rw [List.length_cons, HN.out]; rfl, HS2, Lib.hid (by rw [List.length_cons, HN.out]; exact HES2.out), HEB2, hbel2.out⟩
          case measure => simp [intOf]; omega
      have q6 : (C == 6) = false := by simpa using k6
      by_cases k7 : C = 7
      · subst k7
        cases st with
        | nil =>
          obtain rfl : n = 0 := HN.out.symm
          have HB := Lib.hid (HBADN.out rfl)
          clear HNEST HBADN heb hfz
          go_wp2
          go_ret
          exact ⟨by rw [HB.out]; rfl, hbel1⟩
        | cons o r =>
          obtain ⟨m, hmr⟩ : ∃ m, r.length = m := ⟨_, rfl⟩
          obtain rfl : n = m + 1 := by rw [← HN.out, List.length_cons, hmr]
          have HMR := Lib.hid hmr
          have heo : es[m]? = some (!o) := by
            have h1 := congrArg (fun z : List Bool => z[m]?) HES.out
            simp only [List.reverse_cons, List.map_append] at h1
            rw [List.getElem?_append_right (by simp [hmr])] at h1
            simpa [hmr] using h1
          have co := heb.cell m (!o) heo
          have hw1 : IntKind.i64.wrap (((m + 1 : Nat) : Int) - 1) = (m : Int) := by rw [IntWalk.i64_in _ (by omega)]; omega
          have q0 : (((m + 1 : Nat) : Int) == 0) = false := by simpa using fun e : ((m + 1 : Nat) : Int) = 0 => by omega
          have f0 := hfz m
          cases o
          · have HB := Lib.hid (HBADN.out rfl)
            clear HNEST HBADN heb hfz hmr
            go_wp2
            go_ret
            exact ⟨by rw [HB.out]; rfl, hbel1⟩
          · have HS2 : Hid (Jo.nest [] (l.take (k + 1)) = some (false :: r)) := Lib.hid (by rw [HNEST.out]; rfl)
            have HEB2 := Lib.hid (heb.set m true)
            have hbel2 := Lib.hid (hbel1.setCell (p := ⟨w.heap.size, m, none⟩) (Nat.le_refl _) (.bool true))
            have HES2 : Hid ((es.set m true).take (m + 1) = (false :: r).reverse.map (!·)) := Lib.hid (by
              have h1 := HES.out
              rw [List.reverse_cons, List.map_append] at h1 ⊢
              have h2 := congrArg (List.take m) h1
              rw [List.take_take, Nat.min_eq_left (by omega), List.take_left' (by simp [HMR.out])] at h2
              rw [← h2, List.take_succ_eq_append_getElem (by rw [List.length_set, HEL.out]; omega), List.take_set_of_le (Nat.le_refl _)]
              simp)
            clear HNEST HBADN heb hfz hbel1 hmr
            go_wp2
            go_roundw
            case rel => exact ⟨k + 1, false :: r, es.set m true, by omega, by simp, by rw [List.length_cons, HMR.out]; rfl, HS2, Lib.hid (by rw [List.length_cons, HMR.out]; exact HES2.out), HEB2, hbel2.out⟩
            case measure => simp [intOf]; omega
      have q7 : (C == 7) = false := by simpa using k7
      by_cases k8 : C = 8
      · subst k8
        cases st with
        | nil =>
          obtain rfl : n = 0 := HN.out.symm
          have HB := Lib.hid (HBADN.out rfl)
          clear HNEST HBADN heb hfz
          go_wp2
          go_ret
          exact ⟨by rw [HB.out]; rfl, hbel1⟩
        | cons o r =>
          obtain ⟨m, hmr⟩ : ∃ m, r.length = m := ⟨_, rfl⟩
          obtain rfl : n = m + 1 := by rw [← HN.out, List.length_cons, hmr]
          have HMR := Lib.hid hmr
          have hw1 : IntKind.i64.wrap (((m + 1 : Nat) : Int) - 1) = (m : Int) := by rw [IntWalk.i64_in _ (by omega)]; omega
          have q0 : (((m + 1 : Nat) : Int) == 0) = false := by simpa using fun e : ((m + 1 : Nat) : Int) = 0 => by omega
          have HS2 : Hid (Jo.nest [] (l.take (k + 1)) = some r) := Lib.hid (by rw [HNEST.out]; rfl)
          have HEB2 := Lib.hid heb
          have HES2 : Hid (es.take m = r.reverse.map (!·)) := Lib.hid (by
            have h1 := HES.out
            rw [List.reverse_cons, List.map_append] at h1
            have h2 := congrArg (List.take m) h1
            rw [List.take_take, Nat.min_eq_left (by omega), List.take_left' (by simp [HMR.out])] at h2
            exact h2)
          clear HNEST HBADN heb hfz hmr
          go_wp2
          go_roundw
          case rel => exact ⟨k + 1, r, es, by omega, by simp, by rw [HMR.out], HS2, Lib.hid (by rw [HMR.out]; exact HES2.out), HEB2, hbel1⟩
          case measure => simp [intOf]; omega
      have q8 : (C == 8) = false := by simpa using k8
      have HS2 : Hid (Jo.nest [] (l.take (k + 1)) = some st) := Lib.hid (by rw [HNEST.out]; unfold Jo.step; rw [if_neg k6, if_neg k7, if_neg k8])
      have HEB2 := Lib.hid heb
      clear HNEST HBADN heb hfz k6 k7 k8
      go_wp2
      go_roundw
      case rel => exact ⟨k + 1, st, es, by omega, by simp, by rw [HN.out], HS2, Lib.hid (by rw [HN.out]; exact HES.out), HEB2, hbel1⟩
      case measure => simp [intOf]; omega
    · obtain rfl : k = len := by omega
      have HOK : Hid ((Jo.nest [] l == some []) = decide (n = 0)) := Lib.hid (by
        have e := HST.out
        rw [List.take_of_length_le (by rw [HLEN.out]; exact Nat.le_refl _)] at e
        rw [e, ← HN.out]
        cases st <;> simp)
      clear h
      by_cases h0 : n = 0
      · subst h0
        go_wp2
        go_ret
        exact ⟨by rw [HOK.out]; rfl, hbel⟩
      · have hq : ((n : Int) == 0) = false := by simpa using fun e : (n : Int) = 0 => h0 (by omega)
        have HE : Hid (decide (n = 0) = false) := Lib.hid (decide_eq_false h0)
        go_wp2
        go_ret
        exact ⟨by rw [HOK.out, HE.out]; rfl, hbel⟩
set_option maxRecDepth 100000 in
set_option maxHeartbeats 1600000 in
theorem implScriptOk_any (a : Option Addr) (len cap : Nat) (l : List Jo) (w : World) (h : OL w a len l) (hm : len ≤ 9223372036854775807) :
    Calls Tryz.prog 95 #[.slice a len cap] w fun e w' => e = .returned (.bool (Jo.ok l)) ∧ Below w.heap.size w w' := by
  have hl := h.1
  by_cases h40 : 40 < len
  · have HN : Hid (Jo.ok l = false) := Lib.hid (by rw [Bool.eq_false_iff]; exact fun g => by have := ((Jo.ok_iff l).1 g).1; omega)
    have hi : (40 : Int) < len := by omega
    clear h
    go_enter Tryz.func95, Tryz.ntmps95
    go_wp2
    go_ret
    exact ⟨by rw [HN.out]; rfl, Below.refl _ _⟩
  have HLEN := Lib.hid hl
  have h40' : ¬ (40 : Int) < len := by omega
  clear hl
  go_enter Tryz.func95, Tryz.ntmps95
  go_wp2
  go_loopw [10] (fun i wr => ∃ k : Nat, k ≤ len ∧ i = .int .i64 (k : Int) ∧ Hid (∀ j, j < k → Jo.fld (Jo.at_ l j) = true) ∧ Below w.heap.size w wr)
    (fun i _ => len - (intOf i).toNat)
  case atStart => exact ⟨0, by omega, rfl, Lib.hid fun j hj => absurd hj (by omega), Below.refl _ _⟩
  case round =>
    obtain ⟨k, hk, rfl, HFL, hbel⟩ := hrel
    clear h40'
    have hbs := hbel.size
    by_cases hlt : k < len
    · obtain ⟨b, off, rfl, hb, hc⟩ := (h.below hbel).2 (by omega)
      obtain ⟨c0, c1, c2, c3⟩ := hc k hlt
      have HBADF : Hid (Jo.fld (Jo.at_ l k) = false → Jo.ok l = false) := Lib.hid fun hf => by
        rw [Bool.eq_false_iff]
        intro g
        have := ((Jo.ok_iff l).1 g).2.1 (Jo.at_ l k) (List.mem_of_getElem? (Jo.at_get (by rw [HLEN.out]; exact hlt)))
        rw [hf] at this; cases this
      have HFS : Hid (Jo.fld (Jo.at_ l k) = true → ∀ j, j < k + 1 → Jo.fld (Jo.at_ l j) = true) := Lib.hid fun hf j hj => by
        by_cases hjk : j = k
        · rw [hjk]; exact hf
        · exact HFL.out j (by omega)
      obtain ⟨x, hx⟩ : ∃ x, Hid (Jo.at_ l k = x) := ⟨_, Lib.hid rfl⟩
      rw [hx.out] at HBADF HFS c0 c1 c2 c3
      obtain ⟨C, A, B, t⟩ := x
      simp only at c0 c1 c2 c3
      have hcon := fun W => isValid_any C A B t W
      obtain ⟨f, HFF⟩ : ∃ f, Hid (Jo.fld ⟨C, A, B, t⟩ = f) := ⟨_, Lib.hid rfl⟩
      rw [HFF.out] at HBADF HFS
      simp only [HFF.out] at hcon
      have HC := Lib.hid hcon
      have hbel1 := hbel.alloc hbs (.cells #[.int .i64 C, .int .i64 A, .int .i64 B, .string t] 77 (0, 0))
      clear hc hx hcon h HFF
      go_wp2_with fail
      refine (HC.out _).mono ?_
      rintro e w1 ⟨rfl, hb1⟩
      have hbel2 := below_aft9 hbel1 hb1
      clear c0 c1 c2 c3 HC
      cases f
      · have HB := Lib.hid (HBADF.out rfl)
        clear HBADF HFS
        go_wp2
        go_ret
        exact ⟨by rw [HB.out]; rfl, hbel2⟩
      · have HFK := Lib.hid (HFS.out rfl)
        clear HBADF HFS
        go_wp2
        go_roundw
        case rel => exact ⟨k + 1, by omega, by simp, HFK, hbel2⟩
        case measure => simp [intOf]; omega
    · obtain rfl : k = len := by omega
      have HOK : Hid (Jo.ok l = (Jo.nest [] l == some [])) := Lib.hid (by
        unfold Jo.ok
        have h1 : l.all Jo.fld = true := by
          rw [List.all_eq_true]
          intro x hx
          obtain ⟨j, hj, rfl⟩ := List.getElem_of_mem hx
          have h5 := Jo.at_get (l := l) (j := j) hj
          rw [List.getElem?_eq_getElem hj] at h5
          rw [Option.some.inj h5]
          exact HFL.out j (by rw [← HLEN.out]; exact hj)
        have h2 : decide (l.length ≤ 40) = true := decide_eq_true (by rw [HLEN.out]; omega)
        rw [h1, h2]; rfl)
      have hcon := areConditionsWhole_any a k cap l wr (h.below hbel) (by omega)
      rw [← HOK.out] at hcon
      obtain ⟨r, HR⟩ : ∃ r, Hid (Jo.ok l = r) := ⟨_, Lib.hid rfl⟩
      rw [HR.out] at hcon
      clear h HOK
      go_wp2_with fail
      refine hcon.mono ?_
      rintro e w1 ⟨rfl, hb1⟩
      have hbel2 := below_aft9 hbel hb1
      go_wp2
      go_ret
      exact ⟨by rw [HR.out]; rfl, hbel2⟩
end Go.Proofs.YtoocibabceeagabGreat
