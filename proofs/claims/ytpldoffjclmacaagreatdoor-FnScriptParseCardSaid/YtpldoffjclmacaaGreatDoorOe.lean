/-
  Contracts of scripts: ScriptText, ScriptBytes; of the model.
-/
import Derived.Test.YtpldoffjclmacaaGreatDoorOd
import Derived.Test.YtpldoffjclmacaaGreatDoorPc
namespace Go.Proofs.YtpldoffjclmacaaGreatDoor
open Go.RowKit

/-- What ScriptText hands back. -/
def Jo.tx (l : List Jo) : ByteArray := if Jo.ok l = true then strOfNums (Jo.text l) else ⟨#[]⟩
/-- The text of the first k operations. -/
def Jo.pre (l : List Jo) (k : Nat) : List Int := Jo.join 32 ((l.take k).map Jo.word)
theorem Jo.join_snoc (m : Int) (ps : List (List Int)) (q : List Int) (h : ps ≠ []) : Jo.join m (ps ++ [q]) = Jo.join m ps ++ m :: q := by
  induction ps with
  | nil => exact absurd rfl h
  | cons p ps ih =>
    cases ps with
    | nil => rfl
    | cons r s =>
      show p ++ m :: Jo.join m (r :: s ++ [q]) = (p ++ m :: Jo.join m (r :: s)) ++ m :: q
      rw [ih (by simp)]
      simp
theorem Jo.take_snoc {l : List Jo} {k : Nat} (h : k < l.length) : l.take (k + 1) = l.take k ++ [Jo.at_ l k] := by
  rw [List.take_succ_eq_append_getElem h]
  congr 2
  have := Jo.at_get h
  rw [List.getElem?_eq_getElem h] at this
  exact Option.some.inj this
theorem Jo.pre_one {l : List Jo} (h : 0 < l.length) : Jo.pre l 1 = Jo.word (Jo.at_ l 0) := by
  unfold Jo.pre
  rw [Jo.take_snoc h]
  rfl
theorem Jo.pre_succ {l : List Jo} {k : Nat} (h : k < l.length) (h0 : 0 < k) : Jo.pre l (k + 1) = Jo.pre l k ++ 32 :: Jo.word (Jo.at_ l k) := by
  unfold Jo.pre
  rw [Jo.take_snoc h, List.map_append]
  refine Jo.join_snoc 32 _ _ (fun e => ?_)
  have := congrArg List.length e
  rw [List.length_map, List.length_take, List.length_nil] at this
  omega
theorem Jo.fld_at {l : List Jo} {k : Nat} (h : Jo.ok l = true) (hk : k < l.length) : Jo.fld (Jo.at_ l k) = true := ((Jo.ok_iff l).1 h).2.1 _ (List.mem_of_getElem? (Jo.at_get hk))
theorem Jo.pre_len {l : List Jo} (h : Jo.ok l = true) (k : Nat) : (Jo.pre l k).length ≤ 6480 := by
  obtain ⟨h1, h2, _⟩ := (Jo.ok_iff l).1 h
  have := Jo.join_len 32 161 ((l.take k).map Jo.word) (fun p hp => by
    obtain ⟨x, hx, rfl⟩ := List.mem_map.1 hp
    exact (Jo.word_plain (h2 x (List.mem_of_mem_take hx))).2.2.1)
  rw [List.length_map, List.length_take] at this
  unfold Jo.pre
  have e : (161 + 1) * min k l.length ≤ 162 * 40 := Nat.mul_le_mul_left 162 (by omega)
  omega
set_option maxRecDepth 100000 in
set_option maxHeartbeats 1600000 in
theorem specScriptText_any (a : Option Addr) (len cap : Nat) (l : List Jo) (w : World) (h : OL w a len l) (hm : len ≤ 9223372036854775807) :
    Calls Tryz.prog 8 #[.slice a len cap] w fun e w' => e = .returned (.tuple #[.string (Jo.tx l), .bool (Jo.ok l)]) ∧ Below w.heap.size w w' := by
  have hcon := specScriptOk_any a len cap l w h hm
  cases hok : Jo.ok l
  · have HT : Hid (Jo.tx l = ⟨#[]⟩) := Lib.hid (if_neg (by rw [hok]; decide))
    rw [hok] at hcon
    rw [HT.out]
    clear h hok HT
    go_enter Tryz.func8, Tryz.ntmps8
    go_wp2_with fail
    refine hcon.mono ?_
    rintro e1 w1 ⟨rfl, hb1⟩
    go_wp2
    go_ret2
    exact ⟨rfl, hb1⟩
  · have HT : Hid (Jo.tx l = strOfNums (Jo.pre l len)) := Lib.hid (by
      unfold Jo.tx Jo.pre
      rw [if_pos hok, List.take_of_length_le (by rw [h.1]; exact Nat.le_refl _)]
      rfl)
    have HL := Lib.hid h.1
    have HOK := Lib.hid hok
    have HP := Lib.hid (Jo.pre_len hok)
    rw [hok] at hcon
    rw [HT.out]
    clear hok
    go_enter Tryz.func8, Tryz.ntmps8
    go_wp2_with fail
    refine hcon.mono ?_
    rintro e1 w1 ⟨rfl, hb1⟩
    have HB1 := Lib.hid hb1
    clear hcon hb1
    go_wp2
    go_loopw [4, 5] (fun o i wr => ∃ k : Nat, k ≤ len ∧ i = .int .i64 (k : Int) ∧ o = .string (strOfNums (Jo.pre l k)) ∧ Below w.heap.size w wr)
      (fun _ i _ => len - (intOf i).toNat)
    case atStart => exact ⟨0, by omega, rfl, rfl, HB1.out⟩
    case round =>
      obtain ⟨k, hk, rfl, rfl, hbel⟩ := hrel
      by_cases hlt : k < len
      · obtain ⟨b, off, rfl, hb, hc⟩ := (h.below hbel).2 (by omega)
        obtain ⟨c0, c1, c2, c3⟩ := hc k hlt
        have hf := Jo.fld_at HOK.out (show k < l.length by rw [HL.out]; exact hlt)
        have hlw := (Jo.word_plain hf).2.2.1
        have hlp := HP.out k
        have HONE : Hid (k = 0 → Jo.pre l (k + 1) = Jo.word (Jo.at_ l k)) := Lib.hid fun e => by subst e; exact Jo.pre_one (by rw [HL.out]; exact hlt)
        have HSUC : Hid (0 < k → Jo.pre l (k + 1) = Jo.pre l k ++ 32 :: Jo.word (Jo.at_ l k)) := Lib.hid fun e => Jo.pre_succ (by rw [HL.out]; exact hlt) e
        obtain ⟨x, hx⟩ : ∃ x, Hid (Jo.at_ l k = x) := ⟨_, Lib.hid rfl⟩
        rw [hx.out] at c0 c1 c2 c3 hf hlw HONE HSUC
        obtain ⟨C, A, B, t⟩ := x
        simp only at c0 c1 c2 c3
        have hcw := fun W => l10Word_any C A B t W hf
        obtain ⟨W0, HW⟩ : ∃ W0, Hid (Jo.word ⟨C, A, B, t⟩ = W0) := ⟨_, Lib.hid rfl⟩
        rw [HW.out] at hlw HONE HSUC
        simp only [HW.out] at hcw
        clear hc hx h hb hf HW
        by_cases h0 : k = 0
        · subst h0
          have HE := Lib.hid (HONE.out rfl)
          have hz : Hid (strOfNums (Jo.pre l 0) = ⟨#[]⟩) := Lib.hid rfl
          rw [hz.out]
          have hadd : ∀ W, (Op.stringOp .add (⟨#[]⟩ : ByteArray) (strOfNums W0)).run Tryz.prog W = .ok (.string (strOfNums W0)) W := fun W => by
            have h := str_add W [] W0 (by simp; omega)
            exact h
          simp only [Nat.zero_mul, Nat.add_zero] at c0 c1 c2 c3
          clear HONE HSUC hlp
          go_wp2_with fail
          refine (hcw _).mono ?_
          rintro e2 w2 ⟨rfl, hb2⟩
          have hbel2 := below_aft9 hbel hb2
          go_wp2
          go_roundw
          case rel => exact ⟨1, by omega, by simp, by rw [HE.out], hbel2⟩
          case measure => simp [intOf]; omega
        · have HE := Lib.hid (HSUC.out (by omega))
          have hpos : (0 : Int) < (k : Int) := by omega
          obtain ⟨P, HPP⟩ : ∃ P, Hid (Jo.pre l k = P) := ⟨_, Lib.hid rfl⟩
          rw [HPP.out] at HE hlp ⊢
          have hadd1 := fun W => str_add1 W P 32 ⟨#[32]⟩ rfl (by omega)
          have hadd2 : ∀ W, (Op.stringOp .add (strOfNums (P ++ [32])) (strOfNums W0)).run Tryz.prog W = .ok (.string (strOfNums (P ++ 32 :: W0))) W := fun W => by
            have h := str_add W (P ++ [32]) W0 (by simp; omega)
            simpa using h
          clear HONE HSUC h0
          go_wp2_with fail
          refine (hcw _).mono ?_
          rintro e2 w2 ⟨rfl, hb2⟩
          have hbel2 := below_aft9 hbel hb2
          go_wp2
          go_roundw
          case rel => exact ⟨k + 1, by omega, by simp, by rw [HE.out], hbel2⟩
          case measure => simp [intOf]; omega
      · obtain rfl : k = len := by omega
        clear h
        go_wp2
        go_ret2
        exact ⟨rfl, hbel⟩
end Go.Proofs.YtpldoffjclmacaaGreatDoor
