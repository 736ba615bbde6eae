/-
  Contracts of scripts: numbers, ScriptBytes; of the program.
-/
import Derived.Test.YtpldoffjclmacaaYb
import Derived.Test.YtpldoffjclmacaaOf
import Derived.Test.YtpldoffjclmacaaBe
import Derived.Handy
import Derived.LoopN
namespace Go.Proofs.Ytpldoffjclmacaa
open Go.RowKit

theorem En.bytes_bdY (n : Int) (h0 : 0 ≤ n) (h1 : n ≤ 4294967295) : ∀ x ∈ En.bytes n, 0 ≤ x ∧ x < 256 := by
  unfold En.bytes
  split
  · intro x hx; simp at hx; omega
  · split
    · intro x hx; simp at hx; omega
    · intro x hx; simp at hx; omega
theorem bd_lt {B b : Nat} {bs : List Value} {w : World} (h : IsBd B b bs w) : b < w.heap.size := by
  rcases h with h | h
  · exact h.lt
  · exact h.lt
theorem En.cells_numY (n : Int) (h0 : 0 ≤ n) (h1 : n ≤ 4294967295) : (En.bytes n).map (Value.int .u8) = Lib.strCells (En.num n) := by
  unfold Lib.strCells En.num
  rw [strOfNums_data, List.map_map]
  refine List.map_congr_left fun x hx => ?_
  have hb := En.bytes_bdY n h0 h1 x hx
  simp only [Function.comp_apply]
  rw [En.u8 hb.1 hb.2]
theorem En.cells_appendY (s t : ByteArray) : Lib.strCells (s ++ t) = Lib.strCells s ++ Lib.strCells t := by
  unfold Lib.strCells
  rw [ByteArray.data_append, Array.toList_append, List.map_append]
theorem new_cellsY (w : World) (vs : List Value) (t : TypeId) (B : Nat) (hB : B = w.heap.size) : ∀ j u, vs[j]? = some u → (w.alloc (.cells vs.toArray t)).cell? ((⟨B, 0, none⟩ : Addr).add j) = some u := by
  subst hB
  intro j u hj
  have hadr : (⟨w.heap.size, 0, none⟩ : Addr).add j = ⟨w.heap.size, j, none⟩ := by unfold Addr.add; split <;> simp_all
  rw [hadr]
  exact (World.cell?_alloc_mark w vs.toArray t (0, 0) j).trans (by simpa using hj)
theorem En.bytes_lenY (n : Int) : (En.bytes n).length ≤ 5 := by
  unfold En.bytes
  split
  · simp
  · split
    · simp
    · simp
theorem strCells_one (q : Int) (h0 : 0 ≤ q) (h1 : q < 256) : Lib.strCells (strOfNums [q]) = [.int .u8 q] := by
  unfold Lib.strCells
  rw [strOfNums_data]
  simp only [List.map_cons, List.map_nil]
  rw [En.u8 h0 h1]
/-- What numbers hands back for a code. -/
def NumsR (D : Nat) (w : World) (c : Int) (e : Ending) (w' : World) : Prop :=
  (∃ g, e = .returned (.slice (some ⟨g, 0, none⟩) 2 2) ∧ c = 12 ∧ w'.cell? ⟨g, 0, none⟩ = some (.pointer (some ⟨D, 1, none⟩)) ∧ w'.cell? ⟨g, 1, none⟩ = some (.pointer (some ⟨D, 2, none⟩)) ∧ g < w'.heap.size ∧ w.heap.size ≤ g ∧ Below w.heap.size w w' ∧ w'.heap[g]? = some (.cells #[.pointer (some ⟨D, 1, none⟩), .pointer (some ⟨D, 2, none⟩)] 56 (0, 0))) ∨
  (∃ g, e = .returned (.slice (some ⟨g, 0, none⟩) 1 1) ∧ (c = 13 ∨ c = 14) ∧ w'.cell? ⟨g, 0, none⟩ = some (.pointer (some ⟨D, 1, none⟩)) ∧ g < w'.heap.size ∧ w.heap.size ≤ g ∧ Below w.heap.size w w' ∧ w'.heap[g]? = some (.cells #[.pointer (some ⟨D, 1, none⟩)] 56 (0, 0))) ∨
  (e = .returned (.slice none 0 0) ∧ c ≠ 12 ∧ c ≠ 13 ∧ c ≠ 14 ∧ w' = w)
set_option maxRecDepth 100000 in
set_option maxHeartbeats 3200000 in
theorem numbers_any (D : Nat) (c : Int) (w : World) (hc : w.cell? ⟨D, 0, none⟩ = some (.int .i64 c)) :
    Calls Try.prog 28 #[.pointer (some ⟨D, 0, none⟩)] w (NumsR D w c) := by
  by_cases h12 : c = 12
  · subst h12
    have hcd : w.drew.cell? ⟨D, 0, none⟩ = some (.int .i64 12) := hc
    go_enter Try.func28, Try.ntmps28
    go_wp2
    go_region
    go_wp2
    go_ret
    exact .inl ⟨w.heap.size, rfl, rfl, (World.cell?_alloc_mark w #[.pointer (some ⟨D, 1, none⟩), .pointer (some ⟨D, 2, none⟩)] 56 (0, 0) 0).trans rfl, (World.cell?_alloc_mark w #[.pointer (some ⟨D, 1, none⟩), .pointer (some ⟨D, 2, none⟩)] 56 (0, 0) 1).trans rfl, by simp [World.drew], Nat.le_refl _, ((Below.refl _ _).drew).alloc (Nat.le_refl _) _, heap_alloc_new w.drew _⟩
  have q12 : (c == 12) = false := by simpa using h12
  by_cases h13 : c = 13
  · subst h13
    go_enter Try.func28, Try.ntmps28
    go_wp2
    go_ret
    exact .inr (.inl ⟨w.heap.size, rfl, .inl rfl, by simp, by simp, Nat.le_refl _, (Below.refl _ _).alloc (Nat.le_refl _) _, heap_alloc_new w _⟩)
  have q13 : (c == 13) = false := by simpa using h13
  by_cases h14 : c = 14
  · subst h14
    go_enter Try.func28, Try.ntmps28
    go_wp2
    go_ret
    exact .inr (.inl ⟨w.heap.size, rfl, .inr rfl, by simp, by simp, Nat.le_refl _, (Below.refl _ _).alloc (Nat.le_refl _) _, heap_alloc_new w _⟩)
  have q14 : (c == 14) = false := by simpa using h14
  go_enter Try.func28, Try.ntmps28
  go_wp2
  go_ret
  exact .inr (.inr ⟨rfl, h12, h13, h14, rfl⟩)
theorem numbers_none (D : Nat) (c : Int) (w : World) (hc : w.cell? ⟨D, 0, none⟩ = some (.int .i64 c)) (h12 : c ≠ 12) (h13 : c ≠ 13) (h14 : c ≠ 14) :
    Calls Try.prog 28 #[.pointer (some ⟨D, 0, none⟩)] w fun e w' => e = .returned (.slice none 0 0) ∧ w' = w :=
  (numbers_any D c w hc).mono fun e w' h => by
    rcases h with ⟨g, _, h, _⟩ | ⟨g, _, h, _⟩ | ⟨he, _, _, _, hw⟩
    · exact absurd h h12
    · rcases h with h | h
      · exact absurd h h13
      · exact absurd h h14
    · exact ⟨he, hw⟩
theorem numbers_one (D : Nat) (c : Int) (w : World) (hc : w.cell? ⟨D, 0, none⟩ = some (.int .i64 c)) (h1 : c = 13 ∨ c = 14) :
    Calls Try.prog 28 #[.pointer (some ⟨D, 0, none⟩)] w fun e w' => ∃ g, e = .returned (.slice (some ⟨g, 0, none⟩) 1 1) ∧ Bk g 56 #[.pointer (some ⟨D, 1, none⟩)] w' ∧ w.heap.size ≤ g ∧ Below w.heap.size w w' :=
  (numbers_any D c w hc).mono fun e w' h => by
    rcases h with ⟨g, _, h, _⟩ | ⟨g, he, _, _, _, hl, hb, hh⟩ | ⟨he, _, h13, h14, hw⟩
    · omega
    · exact ⟨g, he, ⟨hh⟩, hl, hb⟩
    · omega
theorem numbers_two (D : Nat) (w : World) (hc : w.cell? ⟨D, 0, none⟩ = some (.int .i64 12)) :
    Calls Try.prog 28 #[.pointer (some ⟨D, 0, none⟩)] w fun e w' => ∃ g, e = .returned (.slice (some ⟨g, 0, none⟩) 2 2) ∧ Bk g 56 #[.pointer (some ⟨D, 1, none⟩), .pointer (some ⟨D, 2, none⟩)] w' ∧ w.heap.size ≤ g ∧ Below w.heap.size w w' :=
  (numbers_any D 12 w hc).mono fun e w' h => by
    rcases h with ⟨g, he, _, _, _, _, hl, hb, hh⟩ | ⟨g, _, h, _⟩ | ⟨he, h12, _⟩
    · exact ⟨g, he, ⟨hh⟩, hl, hb⟩
    · omega
    · exact absurd rfl h12
theorem Bk.keep {D : Nat} {t : TypeId} {cs : Array Value} {w w' : World} {b : Nat} (h : Bk D t cs w) (hk : BdKeep b w w') (hb : D ≠ b) (ht : t ≠ 5) : Bk D t cs w' := ⟨hk D cs t (0, 0) hb ht h.held⟩
/-- A number's bytes are written behind the others. -/
theorem write_num (B : Nat) (O : ByteArray) (x : Int) (w1 : World) (h : IsBd B B (Lib.strCells O) w1) (hB : B < w1.heap.size) (hO : O.size ≤ 100000) (h0 : 0 ≤ x) (h4 : x ≤ 4294967295) :
    Calls Try.prog 25 #[.pointer (some ⟨B, 0, none⟩), .slice (some ⟨w1.heap.size, 0, none⟩) (En.bytes x).length (En.bytes x).length] (w1.alloc (.cells ((En.bytes x).map (Value.int .u8)).toArray 5)) fun e w' =>
      e = .returned (.tuple #[.int .i64 (En.bytes x).length, .nilIface]) ∧ IsBd B B (Lib.strCells (O ++ En.num x)) w' ∧ Below B (w1.alloc (.cells ((En.bytes x).map (Value.int .u8)).toArray 5)) w' ∧ BdKeep B (w1.alloc (.cells ((En.bytes x).map (Value.int .u8)).toArray 5)) w' := by
  have hl := En.bytes_lenY x
  refine (be_Write B B (Lib.strCells O) ⟨w1.heap.size, 0, none⟩ _ _ ((En.bytes x).map (Value.int .u8)) _ (bd_below h ((Below.refl _ _).alloc (Nat.le_refl _) _)) (by rw [Lib.strCells_length]; omega) (by omega) (by simp) (new_cellsY w1 _ _ _ rfl) (by intro u hu; simp at hu; obtain ⟨x, _, rfl⟩ := hu; rfl) (by simp; omega) (by simp; omega)).mono ?_
  rintro e w' ⟨he, hb, hbel, hk⟩
  refine ⟨he, .inr ?_, hbel, hk⟩
  rw [En.cells_appendY, ← En.cells_numY x h0 h4]
  exact hb
set_option maxRecDepth 100000 in
set_option maxHeartbeats 3200000 in
theorem implScriptBytes_any (a : Option Addr) (len cap : Nat) (l : List Jo) (w : World) (h : OL w a len l) (hm : len ≤ 9223372036854775807) :
    Calls Try.prog 9 #[.slice a len cap] w fun e w' => e = .returned (.tuple #[.string (Jo.bs l), .bool (Jo.ok l)]) ∧ Below w.heap.size w w' := by
  have hcon := implScriptOk_any a len cap l w h hm
  cases hok : Jo.ok l
  · have HT : Hid (Jo.bs l = ⟨#[]⟩) := Lib.hid (if_neg (by rw [hok]; decide))
    rw [hok] at hcon
    rw [HT.out]
    clear h hok HT
    go_enter Try.func9, Try.ntmps9
    go_wp2_with fail
    refine hcon.mono ?_
    rintro e1 w1 ⟨rfl, hb1⟩
    go_wp2
    go_ret2
    exact ⟨rfl, hb1⟩
  · have HT : Hid (Jo.bs l = Jo.bytes (l.take len)) := Lib.hid (by
      unfold Jo.bs
      rw [if_pos hok, List.take_of_length_le (by rw [h.1]; exact Nat.le_refl _)])
    have HL := Lib.hid h.1
    have HOK := Lib.hid hok
    have HP : Hid (∀ k, (Jo.bytes (l.take k)).size ≤ 4000) := Lib.hid fun k => by
      obtain ⟨h1, h2, _⟩ := (Jo.ok_iff l).1 hok
      have := Jo.bytes_size (l := l.take k) (fun x hx => h2 x (List.mem_of_mem_take hx))
      rw [List.length_take] at this
      omega
    rw [hok] at hcon
    rw [HT.out]
    clear hok
    go_enter Try.func9, Try.ntmps9
    go_wp2_with fail
    refine hcon.mono ?_
    rintro e1 w1 ⟨rfl, hb1⟩
    have HB0 : Hid (IsBd w1.heap.size w1.heap.size (Lib.strCells (Jo.bytes (l.take 0))) (w1.alloc (.cells #[.pointer none, .slice none 0 0] 44))) := Lib.hid (Lib.fresh_isBuilder _ _ _)
    have h1 := h.below hb1
    have hb1s := hb1.size
    have HBW := Lib.hid hb1
    clear hcon h hb1
    go_wp2
    go_loopw [14] (fun i wr => ∃ k : Nat, k ≤ len ∧ i = .int .i64 (k : Int) ∧ Hid (IsBd w1.heap.size w1.heap.size (Lib.strCells (Jo.bytes (l.take k))) wr) ∧ Below w1.heap.size w1 wr)
      (fun i _ => len - (intOf i).toNat)
    case atStart => exact ⟨0, by omega, rfl, HB0, (Below.refl _ _).alloc (Nat.le_refl _) _⟩
    case round =>
      obtain ⟨k, hk, rfl, HBD, hbel⟩ := hrel
      by_cases hlt : k < len
      · obtain ⟨b, off, rfl, hb, hc⟩ := (h1.below hbel).2 (by omega)
        obtain ⟨c0, c1, c2, c3⟩ := hc k hlt
        have hf := Jo.fld_at HOK.out (show k < l.length by rw [HL.out]; exact hlt)
        have hts := Jo.tail_size hf
        have hlp := HP.out k
        have HSUC : Hid (Jo.bytes (l.take (k + 1)) = Jo.bytes (l.take k) ++ Jo.enc (Jo.at_ l k)) := Lib.hid (by rw [Jo.take_snoc (by rw [HL.out]; exact hlt), Jo.bytes_snoc])
        have hkind := Jo.kinds hf
        obtain ⟨x, hx⟩ : ∃ x, Hid (Jo.at_ l k = x) := ⟨_, Lib.hid rfl⟩
        rw [hx.out] at c0 c1 c2 c3 hf hts HSUC hkind
        obtain ⟨C, A, B, t⟩ := x
        simp only at c0 c1 c2 c3
        have hcc : 0 ≤ C ∧ C ≤ 14 := by
          unfold Jo.fld at hf
          simp only [Bool.and_eq_true, decide_eq_true_eq] at hf
          exact hf.1
        obtain ⟨q, rfl⟩ := Int.eq_ofNat_of_zero_le hcc.1
        have hq14 : q ≤ 14 := by omega
        have hw6 : IntKind.u8.wrap (q : Int) = (q : Int) := IntWalk.u8_in _ (by omega)
        have hbs := hbel.size
        have hv0 : Bk wr.heap.size 46 #[.int .i64 (q : Int), .int .i64 A, .int .i64 B, .string t] (wr.alloc (.cells #[.int .i64 (q : Int), .int .i64 A, .int .i64 B, .string t] 46 (0, 0))) := Bk.new wr 46 _
        have hbel0 : Below w1.heap.size w1 (wr.alloc (.cells #[.int .i64 (q : Int), .int .i64 A, .int .i64 B, .string t] 46 (0, 0))) := hbel.alloc hbs _
        have hbd0 := bd_below HBD.out ((Below.refl _ _).alloc (Nat.le_refl _) (.cells #[.int .i64 (q : Int), .int .i64 A, .int .i64 B, .string t] 46 (0, 0)))
        have hDb : wr.heap.size ≠ w1.heap.size := by have := bd_lt HBD.out; omega
        obtain ⟨O, HO⟩ : ∃ O, Hid (Jo.bytes (l.take k) = O) := ⟨_, Lib.hid rfl⟩
        rw [HO.out] at HSUC hlp hbd0
        obtain ⟨O1, HO1⟩ : ∃ O1, Hid (O ++ strOfNums [(q : Int)] = O1) := ⟨_, Lib.hid rfl⟩
        have hz1 : O1.size ≤ 4001 := by rw [← HO1.out, ByteArray.size_append, strOfNums_size]; simp; omega
        have HNX : Hid (Jo.bytes (l.take (k + 1)) = O1 ++ Jo.tail ⟨(q : Int), A, B, t⟩) := Lib.hid (by
          rw [HSUC.out, ← HO1.out, bytes_assoc]; rfl)
        clear hc hx h1 hb hf hcc HSUC HO HBD hbel hb1s
        go_wp2_with fail
        refine (be_WriteByte w1.heap.size w1.heap.size _ (q : Int) _ hbd0 (by rw [Lib.strCells_length]; omega) hbel0.size).mono ?_
        rintro e wa ⟨rfl, hbdA', hbA, hkA⟩
        have hbdA : IsBd w1.heap.size w1.heap.size (Lib.strCells O1) wa := .inr (by
          rw [← HO1.out, En.cells_appendY, strCells_one _ (by omega) (by omega)]; exact hbdA')
        have hbelA := hbel0.trans hbA
        have hvA := hv0.keep hkA hDb (by decide)
        have hltA : w1.heap.size < wa.heap.size := bd_lt hbdA
        obtain ⟨d0, d1, d2, d3⟩ := Bk.c4 hvA
        clear hbd0 hbA hkA hbdA' HO1 hbel0 hv0
        by_cases k0 : q = 0
        · have q0 : ((q : Int) == 0) = true := by simp [k0]
          have hT := Jo.tail_c0 ⟨(q : Int), A, B, t⟩ (by simp [k0])
          rw [hT] at HNX hts
          simp only at HNX hts
          have htz : t.size ≤ 90 := by
            have : (En.text t).size = (En.num t.size).size + t.size := by unfold En.text; rw [ByteArray.size_append]
            omega
          have hnt := En.size_num (t.size : Int)
          go_wp2_with fail
          refine (numBytes_any (t.size : Int) _ (by omega) (by omega)).mono ?_
          rintro e wq ⟨rfl, rfl⟩
          have hwn := write_num w1.heap.size O1 (t.size : Int) wa hbdA hltA (by omega) (by omega) (by omega)
          have hblq := hbelA.alloc hbelA.size (.cells ((En.bytes (t.size : Int)).map (Value.int .u8)).toArray 5)
          have hvAq := hvA.alloc (.cells ((En.bytes (t.size : Int)).map (Value.int .u8)).toArray 5)
          go_wp2_with fail
          refine hwn.mono ?_
          rintro e wB ⟨rfl, hbdB, hbe, hke⟩
          have hbelB := hblq.trans hbe
          have hltB : w1.heap.size < wB.heap.size := bd_lt hbdB
          have hvB := hvAq.keep hke hDb (by decide)
          clear hwn hblq hbe hke hbdA hbelA hltA hvA hvAq
          obtain ⟨e0, e1, e2, e3⟩ := Bk.c4 hvB
          obtain ⟨X, HX⟩ : ∃ X, Hid (O1 ++ En.num t.size = X) := ⟨_, Lib.hid rfl⟩
          rw [HX.out] at hbdB
          have hxz : X.size ≤ 4010 := by rw [← HX.out, ByteArray.size_append]; omega
          have HNX2 : Hid (Jo.bytes (l.take (k + 1)) = X ++ t) := Lib.hid (by
            rw [HNX.out, ← HX.out, bytes_assoc]; rfl)
          clear HX HNX hT hnt hts
          go_wp2_with fail
          refine (be_WriteString w1.heap.size w1.heap.size _ t _ hbdB (by rw [Lib.strCells_length]; omega) (by omega) hbelB.size).mono ?_
          rintro e wc ⟨rfl, hbdC', hbC, hkC⟩
          have hbdC : IsBd w1.heap.size w1.heap.size (Lib.strCells (X ++ t)) wc := .inr (by rw [En.cells_appendY]; exact hbdC')
          have hbelC := hbelB.trans hbC
          have hvC := hvB.keep hkC hDb (by decide)
          obtain ⟨f0, f1, f2, f3⟩ := Bk.c4 hvC
          clear hbdC' hbC hkC hvB hbelB hbdB e0 e1 e2 e3
          go_wp2_with fail
          refine (numbers_none wr.heap.size (q : Int) _ f0 (by omega) (by omega) (by omega)).mono ?_
          rintro e wn ⟨rfl, rfl⟩
          go_wp2
          refine wp_loop_rounds 1 ?_
          rw [rounds_succ]
          go_wp2
          go_roundw
          case rel => exact ⟨k + 1, by omega, by simp, Lib.hid (by rw [HNX2.out]; exact hbdC), hbelC⟩
          case measure => simp [intOf]; omega
        have q0 : ((q : Int) == 0) = false := by simpa using k0
        by_cases k12 : q = 12
        · obtain ⟨hA0, hAB, hB5⟩ : 1 ≤ A ∧ A ≤ B ∧ B ≤ 5 := by
            rcases hkind with ⟨e, _⟩ | ⟨e, h1, h2, h3⟩ | ⟨e, _⟩ | ⟨e, _⟩ | ⟨j, e, _, _⟩
            · have := congrArg Jo.c e; simp at this; omega
            · exact ⟨h1, h2, h3⟩
            · have := congrArg Jo.c e; simp at this; omega
            · have := congrArg Jo.c e; simp at this; omega
            · have := congrArg Jo.c e; simp at this; omega
          have hT := Jo.tail_c12 ⟨(q : Int), A, B, t⟩ (by simp [k12])
          rw [hT] at HNX hts
          simp only at HNX hts
          rw [ByteArray.size_append] at hts
          have dq : wa.cell? ⟨wr.heap.size, 0, none⟩ = some (.int .i64 12) := by rw [d0, k12]; rfl
          clear hT hkind
          go_wp2_with fail
          refine (numbers_two wr.heap.size _ dq).mono ?_
          rintro e wm ⟨g, rfl, hgN, hgl, hbm⟩
          have hvM := hvA.below hbm
          have hbdM := bd_below hbdA hbm
          have hbelM := hbelA.trans (hbm.mono hbelA.size)
          have hltM : w1.heap.size < wm.heap.size := bd_lt hbdM
          have hgb : g ≠ w1.heap.size := by omega
          obtain ⟨g0, g1⟩ := Bk.c2 hgN
          obtain ⟨e0, e1, e2, e3⟩ := Bk.c4 hvM
          clear hbm hvA hbdA hbelA hltA d0 d1 d2 d3 dq
          go_wp2
          refine wp_loop_rounds 3 ?_
          rw [rounds_succ]
          go_wp2_with fail
          refine (numBytes_any A _ (by omega) (by omega)).mono ?_
          rintro e wq ⟨rfl, rfl⟩
          have hwn := write_num w1.heap.size O1 A wm hbdM hltM (by omega) (by omega) (by omega)
          have hblq := hbelM.alloc hbelM.size (.cells ((En.bytes A).map (Value.int .u8)).toArray 5)
          have hvMq := hvM.alloc (.cells ((En.bytes A).map (Value.int .u8)).toArray 5)
          have hgNq := hgN.alloc (.cells ((En.bytes A).map (Value.int .u8)).toArray 5)
          go_wp2_with fail
          refine hwn.mono ?_
          rintro e wP ⟨rfl, hbdP, hbe, hke⟩
          have hbelP := hblq.trans hbe
          have hltP : w1.heap.size < wP.heap.size := bd_lt hbdP
          have hvP := hvMq.keep hke hDb (by decide)
          have hgP := hgNq.keep hke hgb (by decide)
          clear hwn hblq hbe hke hbdM hbelM hltM hvM hvMq hgN hgNq
          obtain ⟨X, HX⟩ : ∃ X, Hid (O1 ++ En.num A = X) := ⟨_, Lib.hid rfl⟩
          rw [HX.out] at hbdP
          have hxz : X.size ≤ 4100 := by rw [← HX.out, ByteArray.size_append]; omega
          have HNX2 : Hid (Jo.bytes (l.take (k + 1)) = X ++ En.num B) := Lib.hid (by
            rw [HNX.out, ← HX.out, bytes_assoc])
          obtain ⟨i0, i1⟩ := Bk.c2 hgP
          obtain ⟨j0, j1, j2, j3⟩ := Bk.c4 hvP
          clear HX HNX g0 g1 e0 e1 e2 e3
          go_wp2
          rw [rounds_succ]
          go_wp2_with fail
          refine (numBytes_any B _ (by omega) (by omega)).mono ?_
          rintro e wq ⟨rfl, rfl⟩
          have hwn := write_num w1.heap.size X B wP hbdP hltP (by omega) (by omega) (by omega)
          have hblq := hbelP.alloc hbelP.size (.cells ((En.bytes B).map (Value.int .u8)).toArray 5)
          have hvPq := hvP.alloc (.cells ((En.bytes B).map (Value.int .u8)).toArray 5)
          have hgPq := hgP.alloc (.cells ((En.bytes B).map (Value.int .u8)).toArray 5)
          go_wp2_with fail
          refine hwn.mono ?_
          rintro e wQ ⟨rfl, hbdQ, hbe, hke⟩
          have hbelQ := hblq.trans hbe
          have hltQ : w1.heap.size < wQ.heap.size := bd_lt hbdQ
          have hvQ := hvPq.keep hke hDb (by decide)
          have hgQ := hgPq.keep hke hgb (by decide)
          clear hwn hblq hbe hke hbdP hbelP hltP hvP hvPq hgP hgPq
          clear i0 i1 j0 j1 j2 j3
          go_wp2
          rw [rounds_succ]
          go_wp2
          go_roundw
          case rel => exact ⟨k + 1, by omega, by simp, Lib.hid (by rw [HNX2.out]; exact hbdQ), hbelQ⟩
          case measure => simp [intOf]; omega
        by_cases k1 : q = 13 ∨ q = 14
        · obtain ⟨hA0, hA1⟩ : 0 ≤ A ∧ A ≤ 9999 := by
            rcases hkind with ⟨e, _⟩ | ⟨e, h1, h2, h3⟩ | ⟨e, h1, h2⟩ | ⟨e, h1, h2⟩ | ⟨j, e, _, _⟩
            · have := congrArg Jo.c e; simp at this; omega
            · have := congrArg Jo.c e; simp at this; omega
            · have g1 : 0 ≤ A := h1
              have g2 : A ≤ 9999 := h2
              omega
            · have g1 : 1 ≤ A := h1
              have g2 : A ≤ 99 := h2
              omega
            · have := congrArg Jo.c e; simp at this; omega
          have hT := Jo.tail_c1 ⟨(q : Int), A, B, t⟩ (by simp only; omega)
          rw [hT] at HNX hts
          simp only at HNX hts
          clear hT hkind
          go_wp2_with fail
          refine (numbers_one wr.heap.size (q : Int) _ d0 (by omega)).mono ?_
          rintro e wm ⟨g, rfl, hgN, hgl, hbm⟩
          have hvM := hvA.below hbm
          have hbdM := bd_below hbdA hbm
          have hbelM := hbelA.trans (hbm.mono hbelA.size)
          have hltM : w1.heap.size < wm.heap.size := bd_lt hbdM
          have hgb : g ≠ w1.heap.size := by omega
          have g0 : wm.cell? ⟨g, 0, none⟩ = some (.pointer (some ⟨wr.heap.size, 1, none⟩)) := hgN.cell 0
          obtain ⟨e0, e1, e2, e3⟩ := Bk.c4 hvM
          clear hbm hvA hbdA hbelA hltA d0 d1 d2 d3
          go_wp2
          refine wp_loop_rounds 2 ?_
          rw [rounds_succ]
          go_wp2_with fail
          refine (numBytes_any A _ (by omega) (by omega)).mono ?_
          rintro e wq ⟨rfl, rfl⟩
          have hwn := write_num w1.heap.size O1 A wm hbdM hltM (by omega) (by omega) (by omega)
          have hblq := hbelM.alloc hbelM.size (.cells ((En.bytes A).map (Value.int .u8)).toArray 5)
          have hvMq := hvM.alloc (.cells ((En.bytes A).map (Value.int .u8)).toArray 5)
          have hgNq := hgN.alloc (.cells ((En.bytes A).map (Value.int .u8)).toArray 5)
          go_wp2_with fail
          refine hwn.mono ?_
          rintro e wP ⟨rfl, hbdP, hbe, hke⟩
          have hbelP := hblq.trans hbe
          have hltP : w1.heap.size < wP.heap.size := bd_lt hbdP
          have hvP := hvMq.keep hke hDb (by decide)
          have hgP := hgNq.keep hke hgb (by decide)
          clear hwn hblq hbe hke hbdM hbelM hltM hvM hvMq hgN hgNq
          clear g0 e0 e1 e2 e3
          go_wp2
          rw [rounds_succ]
          go_wp2
          go_roundw
          case rel => exact ⟨k + 1, by omega, by simp, Lib.hid (by rw [HNX.out]; exact hbdP), hbelP⟩
          case measure => simp [intOf]; omega
        have hT := Jo.tail_cn ⟨(q : Int), A, B, t⟩ (by simp only; omega) (by simp only; omega) (by simp only; omega) (by simp only; omega)
        rw [hT, bytes_nil] at HNX
        clear hT hkind
        go_wp2_with fail
        refine (numbers_none wr.heap.size (q : Int) _ d0 (by omega) (by omega) (by omega)).mono ?_
        rintro e wn ⟨rfl, rfl⟩
        go_wp2
        refine wp_loop_rounds 1 ?_
        rw [rounds_succ]
        go_wp2
        go_roundw
        case rel => exact ⟨k + 1, by omega, by simp, Lib.hid (by rw [HNX.out]; exact hbdA), hbelA⟩
        case measure => simp [intOf]; omega
      · obtain rfl : k = len := by omega
        have hbd := HBD.out
        clear h1
        go_wp2_with fail
        refine (Try.Builder_String_any w1.heap.size w1.heap.size (Jo.bytes (l.take k)).data.toList _ hbd hbel.size).mono ?_
        rintro e w3 ⟨rfl, hb3⟩
        have hbel3 := hbel.trans hb3
        rw [En.mk_self]
        go_wp2
        go_ret2
        exact ⟨rfl, HBW.out.trans (hbel3.mono hb1s)⟩
end Go.Proofs.Ytpldoffjclmacaa
