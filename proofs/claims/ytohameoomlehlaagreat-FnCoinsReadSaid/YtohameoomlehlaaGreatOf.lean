import Derived.Test.YtohameoomlehlaaGreatOc
import Derived.Test.YtohameoomlehlaaGreatHi
import Derived.Deep.RegionWith
import Derived.Test.YtohameoomlehlaaGreatPc
/-
  Contracts of scripts: l6Dec, l10Names, l10Word, ScriptText; of the model.
-/
namespace Go.Proofs.YtohameoomlehlaaGreat
open Go.RowKit

/-- The ways through a statement meet again. -/
theorem wp_meet9 {P : Program} {c : Code} {Q : Exit → Act → World → Prop} {a : Act} {w : World} (F : World → Prop) (A : Act)
    (h1 : c.wp P (fun e a' w' => match e with | .normal => a' = A ∧ F w' | _ => False) a w) (h2 : ∀ w', F w' → Q .normal A w') : c.wp P Q a w :=
  Code.wp_mono (fun e a' w' h => by
    cases e <;> first | exact (h : False).elim | (obtain ⟨ha, hF⟩ := h; subst ha; exact h2 w' hF)) h1
theorem Jo.dec_step {n : Int} (h0 : 10 ≤ n) (h1 : n ≤ 9999) : Jo.dec n = Jo.dec (n / 10) ++ [48 + n % 10] := by
  unfold Jo.dec
  by_cases a : n < 100
  · rw [if_neg (by omega), if_pos a, if_pos (by omega)]
    rfl
  · by_cases b : n < 1000
    · rw [if_neg (by omega), if_neg a, if_pos b, if_neg (by omega), if_pos (by omega)]
      simp only [List.cons_append, List.nil_append, List.cons.injEq, and_true]
      omega
    · rw [if_neg (by omega), if_neg a, if_neg b, if_neg (by omega), if_neg (by omega), if_pos (by omega)]
      simp only [List.cons_append, List.nil_append, List.cons.injEq, and_true]
      omega
theorem conv_cell1 (W : World) (B : Nat) (y : Int) (h : W.cell? ⟨B, 0, none⟩ = some (.int .u8 y)) :
    (convert 22 9 (.slice (some ⟨B, 0, none⟩) 1 1)).run Tryz.prog W = .ok (.string (strOfNums [y])) W :=
  run_convert_bytes_arg (P := Tryz.prog) _ 22 5 (by kernel_rfl) (by kernel_rfl) B 0 1 1 [y] rfl (fun i hi => by
    obtain rfl : i = 0 := by simpa using hi
    exact h) 9 (by kernel_rfl)
theorem Jo.word_c0 (x : Jo) (h : x.c = 0) : Jo.word x = 120 :: Hx.of x.t x.t.size := by unfold Jo.word; rw [if_pos h]
theorem Jo.word_c12 (x : Jo) (h : x.c = 12) : Jo.word x = Jo.name 12 ++ 58 :: (Jo.dec x.a ++ 58 :: Jo.dec x.b) := by unfold Jo.word; rw [if_neg (by omega), if_pos h]
theorem Jo.word_c1 (x : Jo) (h : x.c = 13 ∨ x.c = 14) : Jo.word x = Jo.name x.c.toNat ++ 58 :: Jo.dec x.a := by unfold Jo.word; rw [if_neg (by omega), if_neg (by omega), if_pos h]
theorem Jo.word_cn (x : Jo) (h0 : x.c ≠ 0) (h1 : x.c ≠ 12) (h2 : x.c ≠ 13) (h3 : x.c ≠ 14) : Jo.word x = Jo.name x.c.toNat := by unfold Jo.word; rw [if_neg h0, if_neg h1, if_neg (by omega)]
theorem str_add (W : World) (a b : List Int) (h : a.length + b.length ≤ 1000000) : (Op.stringOp .add (strOfNums a) (strOfNums b)).run Tryz.prog W = .ok (.string (strOfNums (a ++ b))) W := by
  rw [Jo.str_append]
  exact run_string_add_sum (P := Tryz.prog) W _ _ (by rw [strOfNums_size, strOfNums_size]; omega)
theorem str_add1 (W : World) (a : List Int) (c : Int) (s : ByteArray) (hs : s = strOfNums [c]) (h : a.length ≤ 1000000) : (Op.stringOp .add (strOfNums a) s).run Tryz.prog W = .ok (.string (strOfNums (a ++ [c]))) W := by
  rw [hs, Jo.str_append]
  exact run_string_add_sum (P := Tryz.prog) W _ _ (by rw [strOfNums_size, strOfNums_size]; simp; omega)
end Go.Proofs.YtohameoomlehlaaGreat

/-
  Contracts of scripts: ScriptText, ScriptBytes; of the model.
-/
namespace Go.Proofs.YtohameoomlehlaaGreat
open Go.RowKit

/-- What ScriptText hands back. -/
def Jo.tx (l : List Jo) : ByteArray := if Jo.ok l = true then strOfNums (Jo.text l) else ⟨#[]⟩
/-- The text of the first k operations. -/
def Jo.pre (l : List Jo) (k : Nat) : List Int := Jo.join 32 ((l.take k).map Jo.word)
theorem Jo.join_snoc (m : Int) (ps : List (List Int)) (q : List Int) (h : ps ≠ []) : Jo.join m (ps ++ [q]) = Jo.join m ps ++ m :: q := by
  induction ps with
  | nil => exact absurd rfl h
  | cons p ps ih =>
    cases ps with
    | nil => rfl
    | cons r s =>
      show p ++ m :: Jo.join m (r :: s ++ [q]) = (p ++ m :: Jo.join m (r :: s)) ++ m :: q
      rw [ih (by simp)]
      simp
theorem Jo.take_snoc {l : List Jo} {k : Nat} (h : k < l.length) : l.take (k + 1) = l.take k ++ [Jo.at_ l k] := by
  rw [List.take_succ_eq_append_getElem h]
  congr 2
  have := Jo.at_get h
  rw [List.getElem?_eq_getElem h] at this
  exact Option.some.inj this
theorem Jo.pre_one {l : List Jo} (h : 0 < l.length) : Jo.pre l 1 = Jo.word (Jo.at_ l 0) := by
  unfold Jo.pre
  rw [Jo.take_snoc h]
  rfl
theorem Jo.pre_succ {l : List Jo} {k : Nat} (h : k < l.length) (h0 : 0 < k) : Jo.pre l (k + 1) = Jo.pre l k ++ 32 :: Jo.word (Jo.at_ l k) := by
  unfold Jo.pre
  rw [Jo.take_snoc h, List.map_append]
  refine Jo.join_snoc 32 _ _ (fun e => ?_)
  have := congrArg List.length e
  rw [List.length_map, List.length_take, List.length_nil] at this
  omega
theorem Jo.fld_at {l : List Jo} {k : Nat} (h : Jo.ok l = true) (hk : k < l.length) : Jo.fld (Jo.at_ l k) = true := ((Jo.ok_iff l).1 h).2.1 _ (List.mem_of_getElem? (Jo.at_get hk))
theorem Jo.pre_len {l : List Jo} (h : Jo.ok l = true) (k : Nat) : (Jo.pre l k).length ≤ 6480 := by
  obtain ⟨h1, h2, _⟩ := (Jo.ok_iff l).1 h
  have := Jo.join_len 32 161 ((l.take k).map Jo.word) (fun p hp => by
    obtain ⟨x, hx, rfl⟩ := List.mem_map.1 hp
    exact (Jo.word_plain (h2 x (List.mem_of_mem_take hx))).2.2.1)
  rw [List.length_map, List.length_take] at this
  unfold Jo.pre
  have e : (161 + 1) * min k l.length ≤ 162 * 40 := Nat.mul_le_mul_left 162 (by omega)
  omega
end Go.Proofs.YtohameoomlehlaaGreat

/-
  Contracts of scripts: ScriptBytes; of the model.
-/
namespace Go.Proofs.YtohameoomlehlaaGreat
open Go.RowKit

/-- What ScriptBytes hands back. -/
def Jo.bs (l : List Jo) : ByteArray := if Jo.ok l = true then Jo.bytes l else ⟨#[]⟩
theorem Jo.tail_c0 (x : Jo) (h : x.c = 0) : Jo.tail x = En.text x.t := by unfold Jo.tail; rw [if_pos h]
theorem Jo.tail_c12 (x : Jo) (h : x.c = 12) : Jo.tail x = En.num x.a ++ En.num x.b := by unfold Jo.tail; rw [if_neg (by omega), if_pos h]
theorem Jo.tail_c1 (x : Jo) (h : x.c = 13 ∨ x.c = 14) : Jo.tail x = En.num x.a := by unfold Jo.tail; rw [if_neg (by omega), if_neg (by omega), if_pos h]
theorem Jo.tail_cn (x : Jo) (h0 : x.c ≠ 0) (h1 : x.c ≠ 12) (h2 : x.c ≠ 13) (h3 : x.c ≠ 14) : Jo.tail x = ⟨#[]⟩ := by unfold Jo.tail; rw [if_neg h0, if_neg h1, if_neg (by omega)]
theorem Jo.tail_size {x : Jo} (h : Jo.fld x = true) : (Jo.tail x).size ≤ 90 := by
  have hn : ∀ n, (En.num n).size ≤ 5 := fun n => by have := En.size_num n; omega
  rcases Jo.kinds h with ⟨e, ht⟩ | ⟨e, _⟩ | ⟨e, _⟩ | ⟨e, _⟩ | ⟨j, e, _, _⟩
  · rw [Jo.tail_c0 x (by rw [e])]
    unfold En.text
    rw [ByteArray.size_append]
    have := hn x.t.size
    omega
  · rw [Jo.tail_c12 x (by rw [e]), ByteArray.size_append]
    have := hn x.a
    have := hn x.b
    omega
  · rw [Jo.tail_c1 x (by rw [e]; exact .inl rfl)]
    have := hn x.a
    omega
  · rw [Jo.tail_c1 x (by rw [e]; exact .inr rfl)]
    have := hn x.a
    omega
  · rw [Jo.tail_cn x (by rw [e]; simp only; omega) (by rw [e]; simp only; omega) (by rw [e]; simp only; omega) (by rw [e]; simp only; omega)]
    decide
theorem Jo.bytes_size {l : List Jo} (h : ∀ x ∈ l, Jo.fld x = true) : (Jo.bytes l).size ≤ 100 * l.length := by
  induction l with
  | nil => decide
  | cons x l ih =>
    have h1 := Jo.tail_size (h x (List.mem_cons_self ..))
    have h2 := ih (fun y hy => h y (List.mem_cons_of_mem _ hy))
    show (Jo.enc x ++ Jo.bytes l).size ≤ _
    unfold Jo.enc
    rw [ByteArray.size_append, ByteArray.size_append, strOfNums_size, List.length_cons, List.length_cons, List.length_nil]
    omega
theorem ba_add (W : World) (a b : ByteArray) (h : a.size + b.size ≤ 1000000) : (Op.stringOp .add a b).run Tryz.prog W = .ok (.string (a ++ b)) W :=
  run_string_add_sum (P := Tryz.prog) W _ _ (by omega)
set_option maxRecDepth 100000 in
set_option maxHeartbeats 3200000 in
theorem specScriptBytes_any (a : Option Addr) (len cap : Nat) (l : List Jo) (w : World) (h : OL w a len l) (hm : len ≤ 9223372036854775807) :
    Calls Tryz.prog 99 #[.slice a len cap] w fun e w' => e = .returned (.tuple #[.string (Jo.bs l), .bool (Jo.ok l)]) ∧ Below w.heap.size w w' := by
  have hcon := specScriptOk_any a len cap l w h hm
  cases hok : Jo.ok l
  · have HT : Hid (Jo.bs l = ⟨#[]⟩) := Lib.hid (if_neg (by rw [hok]; decide))
    rw [hok] at hcon
    rw [HT.out]
    clear h hok HT
    go_enter Tryz.func99, Tryz.ntmps99
    go_wp2_with fail
    refine hcon.mono ?_
    rintro e1 w1 ⟨rfl, hb1⟩
    go_wp2
    go_ret2
    exact ⟨rfl, hb1⟩
  · have HT : Hid (Jo.bs l = Jo.bytes (l.take len)) := Lib.hid (by
      unfold Jo.bs
      rw [if_pos hok, List.take_of_length_le (by rw [h.1]; exact Nat.le_refl _)])
    have HL := Lib.hid h.1
    have HOK := Lib.hid hok
    have HP : Hid (∀ k, (Jo.bytes (l.take k)).size ≤ 4000) := Lib.hid fun k => by
      obtain ⟨h1, h2, _⟩ := (Jo.ok_iff l).1 hok
      have := Jo.bytes_size (l := l.take k) (fun x hx => h2 x (List.mem_of_mem_take hx))
      rw [List.length_take] at this
      omega
    rw [hok] at hcon
    rw [HT.out]
    clear hok
    go_enter Tryz.func99, Tryz.ntmps99
    go_wp2_with fail
    refine hcon.mono ?_
    rintro e1 w1 ⟨rfl, hb1⟩
    have HB1 := Lib.hid hb1
    clear hcon hb1
    go_wp2
    go_loopw [4, 5] (fun o i wr => ∃ k : Nat, k ≤ len ∧ i = .int .i64 (k : Int) ∧ o = .string (Jo.bytes (l.take k)) ∧ Below w.heap.size w wr)
      (fun _ i _ => len - (intOf i).toNat)
    case atStart => exact ⟨0, by omega, rfl, rfl, HB1.out⟩
    case round =>
      obtain ⟨k, hk, rfl, rfl, hbel⟩ := hrel
      by_cases hlt : k < len
      · obtain ⟨b, off, rfl, hb, hc⟩ := (h.below hbel).2 (by omega)
        obtain ⟨c0, c1, c2, c3⟩ := hc k hlt
        have hf := Jo.fld_at HOK.out (show k < l.length by rw [HL.out]; exact hlt)
        have hts := Jo.tail_size hf
        have hlp := HP.out k
        have HSUC : Hid (Jo.bytes (l.take (k + 1)) = Jo.bytes (l.take k) ++ Jo.enc (Jo.at_ l k)) := Lib.hid (by rw [Jo.take_snoc (by rw [HL.out]; exact hlt), Jo.bytes_snoc])
        have hkind := Jo.kinds hf
        obtain ⟨x, hx⟩ : ∃ x, Hid (Jo.at_ l k = x) := ⟨_, Lib.hid rfl⟩
        rw [hx.out] at c0 c1 c2 c3 hf hts HSUC hkind
        obtain ⟨C, A, B, t⟩ := x
        simp only at c0 c1 c2 c3
        have hcc : 0 ≤ C ∧ C ≤ 14 := by
          unfold Jo.fld at hf
          simp only [Bool.and_eq_true, decide_eq_true_eq] at hf
          exact hf.1
        obtain ⟨q, rfl⟩ := Int.eq_ofNat_of_zero_le hcc.1
        have hq14 : q ≤ 14 := by omega
        have hw6 : IntKind.u8.wrap (q : Int) = (q : Int) := IntWalk.u8_in _ (by omega)
        have hbs := hbel.size
        have hv0 : Bk wr.heap.size 114 #[.int .i64 (q : Int), .int .i64 A, .int .i64 B, .string t] ((wr.alloc (.cells #[.int .i64 (q : Int), .int .i64 A, .int .i64 B, .string t] 114 (0, 0))).alloc (.cells #[.int .u8 (q : Int)] 5)) := (Bk.new wr 114 _).alloc _
        have hbel0 : Below w.heap.size w ((wr.alloc (.cells #[.int .i64 (q : Int), .int .i64 A, .int .i64 B, .string t] 114 (0, 0))).alloc (.cells #[.int .u8 (q : Int)] 5)) := (hbel.alloc hbs _).alloc (by simp; omega) _
        have cv1 := conv_cell1 ((wr.alloc (.cells #[.int .i64 (q : Int), .int .i64 A, .int .i64 B, .string t] 114 (0, 0))).alloc (.cells #[.int .u8 (q : Int)] 5)) (wr.heap.size + 1) (q : Int) (by
          have := World.cell?_alloc_mark (wr.alloc (.cells #[.int .i64 (q : Int), .int .i64 A, .int .i64 B, .string t] 114 (0, 0))) #[.int .u8 (q : Int)] 5 (0, 0) 0
          rw [World.size_alloc] at this
          exact this.trans rfl)
        obtain ⟨O, HO⟩ : ∃ O, Hid (Jo.bytes (l.take k) = O) := ⟨_, Lib.hid rfl⟩
        rw [HO.out] at HSUC hlp ⊢
        have hadd1 := fun W => ba_add W O (strOfNums [(q : Int)]) (by rw [strOfNums_size]; simp; omega)
        obtain ⟨O1, HO1⟩ : ∃ O1, Hid (O ++ strOfNums [(q : Int)] = O1) := ⟨_, Lib.hid rfl⟩
        have hz1 : O1.size ≤ 4001 := by rw [← HO1.out, ByteArray.size_append, strOfNums_size]; simp; omega
        simp only [HO1.out] at hadd1
        have HNX : Hid (Jo.bytes (l.take (k + 1)) = O1 ++ Jo.tail ⟨(q : Int), A, B, t⟩) := Lib.hid (by
          rw [HSUC.out, ← HO1.out, bytes_assoc]; rfl)
        clear hc hx h hb hf hcc HSUC HO1 HO
        by_cases k0 : q = 0
        · have q0 : ((q : Int) == 0) = true := by simp [k0]
          have hT := Jo.tail_c0 ⟨(q : Int), A, B, t⟩ (by simp [k0])
          rw [hT] at HNX hts
          simp only at HNX hts
          have htz : t.size ≤ 90 := by
            have : (En.text t).size = (En.num t.size).size + t.size := by unfold En.text; rw [ByteArray.size_append]
            omega
          have hcon := fun W => l1Text_any t W (by omega)
          obtain ⟨X, HX⟩ : ∃ X, Hid (En.text t = X) := ⟨_, Lib.hid rfl⟩
          rw [HX.out] at HNX hts
          simp only [HX.out] at hcon
          have hadd2 := fun W => ba_add W O1 X (by omega)
          obtain ⟨R, HR⟩ : ∃ R, Hid (O1 ++ X = R) := ⟨_, Lib.hid rfl⟩
          simp only [HR.out] at hadd2
          rw [HR.out] at HNX
          clear k0 hT hkind HX HR
          go_wp2_with fail
          refine (hcon _).mono ?_
          rintro e2 w2 ⟨rfl, hb2⟩
          have hbel2 := below_aft9 hbel0 hb2
          go_wp2
          go_roundw
          case rel => exact ⟨k + 1, by omega, by simp, by rw [HNX.out], hbel2⟩
          case measure => simp [intOf]; omega
        have q0 : ((q : Int) == 0) = false := by simpa using k0
        by_cases k12 : q = 12
        · have q12 : ((q : Int) == 12) = true := by simp [k12]
          obtain ⟨hA0, hAB, hB5⟩ : 1 ≤ A ∧ A ≤ B ∧ B ≤ 5 := by
            rcases hkind with ⟨e, _⟩ | ⟨e, h1, h2, h3⟩ | ⟨e, _⟩ | ⟨e, _⟩ | ⟨j, e, _, _⟩
            · have := congrArg Jo.c e; simp at this; omega
            · exact ⟨h1, h2, h3⟩
            · have := congrArg Jo.c e; simp at this; omega
            · have := congrArg Jo.c e; simp at this; omega
            · have := congrArg Jo.c e; simp at this; omega
          have hT := Jo.tail_c12 ⟨(q : Int), A, B, t⟩ (by simp [k12])
          rw [hT] at HNX hts
          simp only at HNX hts
          rw [ByteArray.size_append] at hts
          have hconA := fun W => l1Num_any A W (by omega) (by omega)
          have hconB := fun W => l1Num_any B W (by omega) (by omega)
          obtain ⟨XA, HXA⟩ : ∃ X, Hid (En.num A = X) := ⟨_, Lib.hid rfl⟩
          obtain ⟨XB, HXB⟩ : ∃ X, Hid (En.num B = X) := ⟨_, Lib.hid rfl⟩
          rw [HXA.out, HXB.out] at HNX hts
          simp only [HXA.out] at hconA
          simp only [HXB.out] at hconB
          have hadd2 := fun W => ba_add W O1 XA (by omega)
          obtain ⟨R, HR⟩ : ∃ R, Hid (O1 ++ XA = R) := ⟨_, Lib.hid rfl⟩
          simp only [HR.out] at hadd2
          have hzr : R.size ≤ 5000 := by rw [← HR.out, ByteArray.size_append]; omega
          have hadd3 := fun W => ba_add W R XB (by omega)
          obtain ⟨R2, HR2⟩ : ∃ Y, Hid (R ++ XB = Y) := ⟨_, Lib.hid rfl⟩
          simp only [HR2.out] at hadd3
          rw [← bytes_assoc, HR.out, HR2.out] at HNX
          have hS0 : ((wr.alloc (.cells #[.int .i64 (q : Int), .int .i64 A, .int .i64 B, .string t] 114 (0, 0))).alloc (.cells #[.int .u8 (q : Int)] 5)).drew.cell? ⟨wr.heap.size, 1, none⟩ = some (.int .i64 A) ∧ ((wr.alloc (.cells #[.int .i64 (q : Int), .int .i64 A, .int .i64 B, .string t] 114 (0, 0))).alloc (.cells #[.int .u8 (q : Int)] 5)).drew.cell? ⟨wr.heap.size, 2, none⟩ = some (.int .i64 B) := ⟨hv0.drew.cell 1, hv0.drew.cell 2⟩
          clear k12 hT hkind k0 HXA HXB HR HR2
          go_wp2
          apply wp_meet9 (fun w' => Below w.heap.size w w')
          case h1 =>
            go_region_held3 (fun W => W.cell? ⟨wr.heap.size, 1, none⟩ = some (.int .i64 A) ∧ W.cell? ⟨wr.heap.size, 2, none⟩ = some (.int .i64 B)) (first | with_reducible exact hS0 | with_reducible exact hSA | with_reducible exact hSB)
              (first
                | (go_at_call_of 64 (Value.int .i64 A); refine (hconA _).mono ?_; rintro e wA ⟨rfl, hbA⟩; have hvA : Bk wr.heap.size 114 #[.int .i64 (q : Int), .int .i64 A, .int .i64 B, .string t] wA := (by first | exact hvB.below hbA | exact hv0.drew.below hbA); have hblA : Below w.heap.size w wA := (by first | exact below_aft9 hblB hbA | exact below_aft9 hbel0.drew hbA); have hSA : wA.cell? ⟨wr.heap.size, 1, none⟩ = some (.int .i64 A) ∧ wA.cell? ⟨wr.heap.size, 2, none⟩ = some (.int .i64 B) := ⟨hvA.cell 1, hvA.cell 2⟩)
                | (go_at_call_of 64 (Value.int .i64 B); refine (hconB _).mono ?_; rintro e wB ⟨rfl, hbB⟩; have hvB : Bk wr.heap.size 114 #[.int .i64 (q : Int), .int .i64 A, .int .i64 B, .string t] wB := (by first | exact hvA.below hbB | exact hv0.drew.below hbB); have hblB : Below w.heap.size w wB := (by first | exact below_aft9 hblA hbB | exact below_aft9 hbel0.drew hbB); have hSB : wB.cell? ⟨wr.heap.size, 1, none⟩ = some (.int .i64 A) ∧ wB.cell? ⟨wr.heap.size, 2, none⟩ = some (.int .i64 B) := ⟨hvB.cell 1, hvB.cell 2⟩))
            all_goals (refine ⟨rfl, ?_⟩; first | with_reducible exact hblB | with_reducible exact hblA)
          case h2 =>
            intro w2 hbel2
            go_wp2
            go_roundw
            case rel => exact ⟨k + 1, by omega, by simp, by rw [HNX.out], hbel2⟩
            case measure => simp [intOf]; omega
        have q12 : ((q : Int) == 12) = false := by simpa using fun e : (q : Int) = 12 => k12 (by omega)
        by_cases k1 : q = 13 ∨ q = 14
        · obtain ⟨hA0, hA1⟩ : 0 ≤ A ∧ A ≤ 9999 := by
            rcases hkind with ⟨e, _⟩ | ⟨e, h1, h2, h3⟩ | ⟨e, h1, h2⟩ | ⟨e, h1, h2⟩ | ⟨j, e, _, _⟩
            · have := congrArg Jo.c e; simp at this; omega
            · have := congrArg Jo.c e; simp at this; omega
            · have g1 : 0 ≤ A := h1
              have g2 : A ≤ 9999 := h2
              omega
            · have g1 : 1 ≤ A := h1
              have g2 : A ≤ 99 := h2
              omega
            · have := congrArg Jo.c e; simp at this; omega
          have hT := Jo.tail_c1 ⟨(q : Int), A, B, t⟩ (by simp only; omega)
          rw [hT] at HNX hts
          simp only at HNX hts
          have hconA := fun W => l1Num_any A W (by omega) (by omega)
          obtain ⟨XA, HXA⟩ : ∃ X, Hid (En.num A = X) := ⟨_, Lib.hid rfl⟩
          rw [HXA.out] at HNX hts
          simp only [HXA.out] at hconA
          have hadd2 := fun W => ba_add W O1 XA (by omega)
          obtain ⟨R, HR⟩ : ∃ R, Hid (O1 ++ XA = R) := ⟨_, Lib.hid rfl⟩
          simp only [HR.out] at hadd2
          rw [HR.out] at HNX
          have hqq : ∃ o : Bool, ((q : Int) == 13) = o ∧ (o = false → ((q : Int) == 14) = true) := by
            rcases k1 with h | h
            · exact ⟨true, by simp [h], fun h => by cases h⟩
            · exact ⟨false, by simp [h], fun _ => by simp [h]⟩
          obtain ⟨o, q13, q14⟩ := hqq
          clear k1 hT hkind k0 k12 HXA HR
          cases o
          · have q14' := q14 rfl
            clear q14
            go_wp2_with fail
            refine (hconA _).mono ?_
            rintro e w2 ⟨rfl, hb2⟩
            have hbel2 := below_aft9 hbel0 hb2
            go_wp2
            go_roundw
            case rel => exact ⟨k + 1, by omega, by simp, by rw [HNX.out], hbel2⟩
            case measure => simp [intOf]; omega
          · clear q14
            go_wp2_with fail
            refine (hconA _).mono ?_
            rintro e w2 ⟨rfl, hb2⟩
            have hbel2 := below_aft9 hbel0 hb2
            go_wp2
            go_roundw
            case rel => exact ⟨k + 1, by omega, by simp, by rw [HNX.out], hbel2⟩
            case measure => simp [intOf]; omega
        have q13 : ((q : Int) == 13) = false := by simpa using fun e : (q : Int) = 13 => k1 (by omega)
        have q14 : ((q : Int) == 14) = false := by simpa using fun e : (q : Int) = 14 => k1 (by omega)
        have hT := Jo.tail_cn ⟨(q : Int), A, B, t⟩ (by simp only; omega) (by simp only; omega) (by simp only; omega) (by simp only; omega)
        rw [hT, bytes_nil] at HNX
        clear k1 hkind k0 k12 hT
        go_wp2
        go_roundw
        case rel => exact ⟨k + 1, by omega, by simp, by rw [HNX.out], hbel0⟩
        case measure => simp [intOf]; omega
      · obtain rfl : k = len := by omega
        clear h
        go_wp2
        go_ret2
        exact ⟨rfl, hbel⟩
end Go.Proofs.YtohameoomlehlaaGreat
