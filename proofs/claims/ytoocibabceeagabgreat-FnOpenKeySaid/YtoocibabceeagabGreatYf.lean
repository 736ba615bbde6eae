import Derived.Test.YtoocibabceeagabGreatHi
import Derived.Test.YtoocibabceeagabGreatYb
import Derived.Test.YtoocibabceeagabGreatOf
import Derived.Handy
import Derived.LoopN
import Derived.Test.YtoocibabceeagabGreatTx
/-
  Contracts of strings.Builder's writers at this translation (go1.27's text): blocks of other types stay as they are.
-/
namespace Go.Proofs.YtoocibabceeagabGreat
open Go.RowKit

/-- Blocks of another type than a byte's stay. -/
def BdKeep (b : Nat) (w w' : World) : Prop := ∀ D cs t fr, D ≠ b → t ≠ 5 → w.heap[D]? = some (.cells cs t fr) → w'.heap[D]? = some (.cells cs t fr)
theorem own_other {w : World} {B n : Nat} {v : Value} {bs : List Value} {D : Nat} {cs : Array Value} {t : TypeId} {fr : Nat × Nat} (hown : w.ownsRow B 5 1 v n bs) (ht : t ≠ 5) (hD : w.heap[D]? = some (.cells cs t fr)) : v.ownBlock ≠ some D := by
  intro e
  rcases hown.2 with ⟨he, _⟩ | ⟨g, cap, cur, he, _, hh, _⟩
  · rw [he] at e; simp [Value.ownBlock] at e
  · rw [he] at e
    have hg : g = D := by simpa [Value.ownBlock] using e
    subst hg
    rw [hD] at hh
    cases hh
    exact ht rfl
set_option maxRecDepth 100000 in
set_option maxHeartbeats 1000000 in
theorem be_WriteByte (B b : Nat) (bs : List Value) (c : Int) (w : World) (h : IsBd B b bs w) (hlen : bs.length ≤ 100000000) (hBw : B ≤ w.heap.size) :
    Calls Tryz.prog 96 #[.pointer (some ⟨b, 0, none⟩), .int .u8 c] w fun e w' => e = .returned .nilIface ∧ UsedBd B b (bs ++ [.int .u8 c]) w' ∧ Below B w w' ∧ BdKeep b w w' := by
  obtain ⟨i0, hi, hz0, hz1, hz2⟩ := info_parts bd_byte
  go_enter Tryz.func96, Tryz.ntmps96
  go_wp2_with fail
  refine (bd_copyCheck B b bs _ h).mono ?_
  rintro e w1 ⟨rfl, ⟨hB, v, hbk, hown, hne⟩, hb1, hg1⟩
  have c1 : w1.cell? ⟨b, 1, none⟩ = some v := by rw [Lib.cell_of_heap hbk]; rfl
  clear h
  go_wp2_with (at_builtin; refine wpList_append_own _ rfl _ _ 22 rfl B 5 i0 (.int .u8 0) 1 1 Tryz.underlying22 hi hz0 hz1 hz2 rfl (by decide) _ _ _ rfl (hown.alloc _) ⟨w1.heap.size, 0, none⟩ 1 1 [.int .u8 c] rfl rfl ?c1 ?c2 ?c3 ?c4 ?c5 ?_)
  case c1 =>
    intro j u hj
    match j, hj with
    | 0, hj => simp at hj; subst hj; simp [Addr.add]
  case c2 => intro u hu; simp at hu; subst hu; rfl
  case c3 => unfold maxLen; omega
  case c4 => omega
  case c5 => have := hb1.size; simp; omega
  intro v' w2 hown' hgrow _
  have hlt := Lib.BuilderAt.lt ⟨hB, v, hbk, hown, hne⟩
  have hb2 : w2.heap[b]? = some (.cells #[.pointer (some ⟨b, 0, none⟩), v] 124 (0, 0)) := by
    rw [hgrow.block b (by simp; omega) (fun e => hne e.symm), Below.heap_alloc w1 _ b hlt]
    exact hbk
  have d1 : w2.cell? ⟨b, 1, none⟩ = some v := by rw [Lib.cell_of_heap hb2]; rfl
  have f1 : w2.frozen? ⟨b, 1, none⟩ = false := Lib.frozen_of_heap hb2 1
  have hfin := Lib.BuilderAt.put (T := 124) (e := 5) hB hb2 (bs' := bs ++ [.int .u8 c]) (v' := v') (by simpa using hown') (by decide)
  have hkp : BdKeep b w (w2.setCell ⟨b, 1, none⟩ v') := fun D cs t fr hDb ht hD => by
    have h1 : w1.heap[D]? = some (.cells cs t fr) := (hg1.block D (lt_of_block hD) (by simpa using hDb)).trans hD
    have h3 : some D ≠ v.ownBlock := fun e => own_other hown ht h1 e.symm
    exact (Below.heap_setCell _ _ _ _ hDb).trans ((hgrow.block D (by simp; have := lt_of_block h1; omega) h3).trans ((Below.heap_alloc w1 _ D (lt_of_block h1)).trans h1))
  have hbel := ((hb1.alloc (by have := hb1.size; omega) (.cells #[.int .u8 c] 5)).grown hgrow (by have := hb1.size; simp; omega) (fun k hk => (hown.lt k hk).1)).setCell (p := ⟨b, 1, none⟩) hB v'
  obtain ⟨g, cap, rfl⟩ : ∃ g cap, v' = .slice (some ⟨g, 0, none⟩) (bs.length + 1) cap := by
    rcases hown'.2 with ⟨_, h0⟩ | ⟨g, cap, cur, hv, _⟩
    · omega
    · exact ⟨g, cap, hv⟩
  clear hown hown' hgrow hb1 hbk c1
  go_wp2
  go_ret
  exact ⟨rfl, hfin, hbel, hkp⟩
set_option maxRecDepth 100000 in
set_option maxHeartbeats 1000000 in
theorem be_WriteString (B b : Nat) (bs : List Value) (s : ByteArray) (w : World) (h : IsBd B b bs w) (hlen : bs.length ≤ 100000000) (hs : s.size ≤ 100000000) (hBw : B ≤ w.heap.size) :
    Calls Tryz.prog 99 #[.pointer (some ⟨b, 0, none⟩), .string s] w fun e w' => e = .returned (.tuple #[.int .i64 s.size, .nilIface]) ∧ UsedBd B b (bs ++ Lib.strCells s) w' ∧ Below B w w' ∧ BdKeep b w w' := by
  obtain ⟨i0, hi, hz0, hz1, hz2⟩ := info_parts bd_byte
  go_enter Tryz.func99, Tryz.ntmps99
  go_wp2_with fail
  refine (bd_copyCheck B b bs _ h).mono ?_
  rintro e w1 ⟨rfl, ⟨hB, v, hbk, hown, hne⟩, hb1, hg1⟩
  have c1 : w1.cell? ⟨b, 1, none⟩ = some v := by rw [Lib.cell_of_heap hbk]; rfl
  clear h
  go_wp2_with (at_builtin; refine Lib.wpList_append_own_string _ rfl _ _ 22 9 rfl B 5 i0 Tryz.underlying22 Tryz.underlying9 hi hz0 hz1 hz2 _ _ _ rfl hown s rfl ?c3 ?c4 ?c5 ?_)
  case c3 => unfold maxLen; omega
  case c4 => omega
  case c5 => have := hb1.size; omega
  intro v' w2 hown' hgrow _
  have hlt := Lib.BuilderAt.lt ⟨hB, v, hbk, hown, hne⟩
  have hb2 : w2.heap[b]? = some (.cells #[.pointer (some ⟨b, 0, none⟩), v] 124 (0, 0)) := by
    rw [hgrow.block b hlt (fun e => hne e.symm)]
    exact hbk
  have d1 : w2.cell? ⟨b, 1, none⟩ = some v := by rw [Lib.cell_of_heap hb2]; rfl
  have f1 : w2.frozen? ⟨b, 1, none⟩ = false := Lib.frozen_of_heap hb2 1
  have hfin := Lib.BuilderAt.put (T := 124) (e := 5) hB hb2 (bs' := bs ++ Lib.strCells s) (v' := v') (by simpa [Lib.strCells_length] using hown') (by decide)
  have hkp : BdKeep b w (w2.setCell ⟨b, 1, none⟩ v') := fun D cs t fr hDb ht hD => by
    have h1 : w1.heap[D]? = some (.cells cs t fr) := (hg1.block D (lt_of_block hD) (by simpa using hDb)).trans hD
    have h3 : some D ≠ v.ownBlock := fun e => own_other hown ht h1 e.symm
    exact (Below.heap_setCell _ _ _ _ hDb).trans ((hgrow.block D (lt_of_block h1) h3).trans (h1))
  have hbel := (hb1.grown hgrow (by have := hb1.size; omega) (fun k hk => (hown.lt k hk).1)).setCell (p := ⟨b, 1, none⟩) hB v'
  obtain ⟨ao, n', cap, rfl⟩ : ∃ ao n' cap, v' = .slice ao n' cap := by
    rcases hown'.2 with ⟨hv, _⟩ | ⟨g, cap, cur, hv, _⟩
    · exact ⟨_, _, _, hv⟩
    · exact ⟨_, _, _, hv⟩
  clear hown hown' hgrow hb1 hbk c1
  go_wp2
  go_ret2
  exact ⟨rfl, hfin, hbel, hkp⟩
set_option maxRecDepth 100000 in
set_option maxHeartbeats 1000000 in
theorem be_Write (B b : Nat) (bs : List Value) (ad : Addr) (m c : Nat) (news : List Value) (w : World) (h : IsBd B b bs w) (hlen : bs.length ≤ 100000000) (hm : m ≤ 100000000) (hl : news.length = m)
    (hnews : ∀ j u, news[j]? = some u → w.cell? (ad.add j) = some u) (h1 : ∀ u ∈ news, u.oneCell' = true) (hadb : ad.block ≠ b) (hBw : B ≤ w.heap.size) :
    Calls Tryz.prog 97 #[.pointer (some ⟨b, 0, none⟩), .slice (some ad) m c] w fun e w' => e = .returned (.tuple #[.int .i64 m, .nilIface]) ∧ UsedBd B b (bs ++ news) w' ∧ Below B w w' ∧ BdKeep b w w' := by
  obtain ⟨i0, hi, hz0, hz1, hz2⟩ := info_parts bd_byte
  have HN := Lib.hid hnews
  clear hnews
  go_enter Tryz.func97, Tryz.ntmps97
  go_wp2_with fail
  refine (bd_copyCheck B b bs _ h).mono ?_
  rintro e w1 ⟨rfl, ⟨hB, v, hbk, hown, hne⟩, hb1, hg1⟩
  have HW : Hid (∀ j u, news[j]? = some u → w1.cell? (ad.add j) = some u) := Lib.hid fun j u hj => hg1.cell (HN.out j u hj) (by
    have : (ad.add j).block = ad.block := by unfold Addr.add; split <;> rfl
    rw [this]
    simpa using hadb)
  have c1 : w1.cell? ⟨b, 1, none⟩ = some v := by rw [Lib.cell_of_heap hbk]; rfl
  clear h
  go_wp2_with (at_builtin; refine wpList_append_own _ rfl _ _ 22 rfl B 5 i0 (.int .u8 0) 1 1 Tryz.underlying22 hi hz0 hz1 hz2 rfl (by decide) _ _ _ rfl hown ad m c news rfl (by omega) HW.out h1 ?c3 ?c4 ?c5 ?_)
  case c3 => unfold maxLen; omega
  case c4 => omega
  case c5 => have := hb1.size; omega
  intro v' w2 hown' hgrow _
  have hlt := Lib.BuilderAt.lt ⟨hB, v, hbk, hown, hne⟩
  have hb2 : w2.heap[b]? = some (.cells #[.pointer (some ⟨b, 0, none⟩), v] 124 (0, 0)) := by
    rw [hgrow.block b hlt (fun e => hne e.symm)]
    exact hbk
  have d1 : w2.cell? ⟨b, 1, none⟩ = some v := by rw [Lib.cell_of_heap hb2]; rfl
  have f1 : w2.frozen? ⟨b, 1, none⟩ = false := Lib.frozen_of_heap hb2 1
  have hfin := Lib.BuilderAt.put (T := 124) (e := 5) hB hb2 (bs' := bs ++ news) (v' := v') (by simpa [hl] using hown') (by decide)
  have hkp : BdKeep b w (w2.setCell ⟨b, 1, none⟩ v') := fun D cs t fr hDb ht hD => by
    have h1 : w1.heap[D]? = some (.cells cs t fr) := (hg1.block D (lt_of_block hD) (by simpa using hDb)).trans hD
    have h3 : some D ≠ v.ownBlock := fun e => own_other hown ht h1 e.symm
    exact (Below.heap_setCell _ _ _ _ hDb).trans ((hgrow.block D (lt_of_block h1) h3).trans (h1))
  have hbel := (hb1.grown hgrow (by have := hb1.size; omega) (fun k hk => (hown.lt k hk).1)).setCell (p := ⟨b, 1, none⟩) hB v'
  obtain ⟨ao, n', cap, rfl⟩ : ∃ ao n' cap, v' = .slice ao n' cap := by
    rcases hown'.2 with ⟨hv, _⟩ | ⟨g, cap, cur, hv, _⟩
    · exact ⟨_, _, _, hv⟩
    · exact ⟨_, _, _, hv⟩
  clear hown hown' hgrow hb1 hbk c1
  go_wp2
  go_ret2
  exact ⟨rfl, hfin, hbel, hkp⟩
end Go.Proofs.YtoocibabceeagabGreat

/-
  Contracts of scripts: numbers, ScriptBytes; of the program.
-/
namespace Go.Proofs.YtoocibabceeagabGreat
open Go.RowKit

theorem En.bytes_bdY (n : Int) (h0 : 0 ≤ n) (h1 : n ≤ 4294967295) : ∀ x ∈ En.bytes n, 0 ≤ x ∧ x < 256 := by
  unfold En.bytes
  split
  · intro x hx; simp at hx; omega
  · split
    · intro x hx; simp at hx; omega
    · intro x hx; simp at hx; omega
theorem bd_lt {B b : Nat} {bs : List Value} {w : World} (h : IsBd B b bs w) : b < w.heap.size := by
  rcases h with h | h
  · exact h.lt
  · exact h.lt
theorem En.cells_numY (n : Int) (h0 : 0 ≤ n) (h1 : n ≤ 4294967295) : (En.bytes n).map (Value.int .u8) = Lib.strCells (En.num n) := by
  unfold Lib.strCells En.num
  rw [strOfNums_data, List.map_map]
  refine List.map_congr_left fun x hx => ?_
  have hb := En.bytes_bdY n h0 h1 x hx
  simp only [Function.comp_apply]
  rw [En.u8 hb.1 hb.2]
theorem En.cells_appendY (s t : ByteArray) : Lib.strCells (s ++ t) = Lib.strCells s ++ Lib.strCells t := by
  unfold Lib.strCells
  rw [ByteArray.data_append, Array.toList_append, List.map_append]
theorem new_cellsY (w : World) (vs : List Value) (t : TypeId) (B : Nat) (hB : B = w.heap.size) : ∀ j u, vs[j]? = some u → (w.alloc (.cells vs.toArray t)).cell? ((⟨B, 0, none⟩ : Addr).add j) = some u := by
  subst hB
  intro j u hj
  have hadr : (⟨w.heap.size, 0, none⟩ : Addr).add j = ⟨w.heap.size, j, none⟩ := by unfold Addr.add; split <;> simp_all
  rw [hadr]
  exact (World.cell?_alloc_mark w vs.toArray t (0, 0) j).trans (by simpa using hj)
theorem En.bytes_lenY (n : Int) : (En.bytes n).length ≤ 5 := by
  unfold En.bytes
  split
  · simp
  · split
    · simp
    · simp
theorem strCells_one (q : Int) (h0 : 0 ≤ q) (h1 : q < 256) : Lib.strCells (strOfNums [q]) = [.int .u8 q] := by
  unfold Lib.strCells
  rw [strOfNums_data]
  simp only [List.map_cons, List.map_nil]
  rw [En.u8 h0 h1]
/-- What numbers hands back for a code. -/
def NumsR (D : Nat) (w : World) (c : Int) (e : Ending) (w' : World) : Prop :=
  (∃ g, e = .returned (.slice (some ⟨g, 0, none⟩) 2 2) ∧ c = 12 ∧ w'.cell? ⟨g, 0, none⟩ = some (.pointer (some ⟨D, 1, none⟩)) ∧ w'.cell? ⟨g, 1, none⟩ = some (.pointer (some ⟨D, 2, none⟩)) ∧ g < w'.heap.size ∧ w.heap.size ≤ g ∧ Below w.heap.size w w' ∧ w'.heap[g]? = some (.cells #[.pointer (some ⟨D, 1, none⟩), .pointer (some ⟨D, 2, none⟩)] 134 (0, 0))) ∨
  (∃ g, e = .returned (.slice (some ⟨g, 0, none⟩) 1 1) ∧ (c = 13 ∨ c = 14) ∧ w'.cell? ⟨g, 0, none⟩ = some (.pointer (some ⟨D, 1, none⟩)) ∧ g < w'.heap.size ∧ w.heap.size ≤ g ∧ Below w.heap.size w w' ∧ w'.heap[g]? = some (.cells #[.pointer (some ⟨D, 1, none⟩)] 134 (0, 0))) ∨
  (e = .returned (.slice none 0 0) ∧ c ≠ 12 ∧ c ≠ 13 ∧ c ≠ 14 ∧ w' = w)
set_option maxRecDepth 100000 in
set_option maxHeartbeats 3200000 in
theorem numbers_any (D : Nat) (c : Int) (w : World) (hc : w.cell? ⟨D, 0, none⟩ = some (.int .i64 c)) :
    Calls Tryz.prog 100 #[.pointer (some ⟨D, 0, none⟩)] w (NumsR D w c) := by
  by_cases h12 : c = 12
  · subst h12
    have hcd : w.drew.cell? ⟨D, 0, none⟩ = some (.int .i64 12) := hc
    go_enter Tryz.func100, Tryz.ntmps100
    go_wp2
    go_region
    go_wp2
    go_ret
    exact .inl ⟨w.heap.size, rfl, rfl, (World.cell?_alloc_mark w #[.pointer (some ⟨D, 1, none⟩), .pointer (some ⟨D, 2, none⟩)] 134 (0, 0) 0).trans rfl, (World.cell?_alloc_mark w #[.pointer (some ⟨D, 1, none⟩), .pointer (some ⟨D, 2, none⟩)] 134 (0, 0) 1).trans rfl, by simp [World.drew], Nat.le_refl _, ((Below.refl _ _).drew).alloc (Nat.le_refl _) _, heap_alloc_new w.drew _⟩
  have q12 : (c == 12) = false := by simpa using h12
  by_cases h13 : c = 13
  · subst h13
    go_enter Tryz.func100, Tryz.ntmps100
    go_wp2
    go_ret
    exact .inr (.inl ⟨w.heap.size, rfl, .inl rfl, by simp, by simp, Nat.le_refl _, (Below.refl _ _).alloc (Nat.le_refl _) _, heap_alloc_new w _⟩)
  have q13 : (c == 13) = false := by simpa using h13
  by_cases h14 : c = 14
  · subst h14
    go_enter Tryz.func100, Tryz.ntmps100
    go_wp2
    go_ret
    exact .inr (.inl ⟨w.heap.size, rfl, .inr rfl, by simp, by simp, Nat.le_refl _, (Below.refl _ _).alloc (Nat.le_refl _) _, heap_alloc_new w _⟩)
  have q14 : (c == 14) = false := by simpa using h14
  go_enter Tryz.func100, Tryz.ntmps100
  go_wp2
  go_ret
  exact .inr (.inr ⟨rfl, h12, h13, h14, rfl⟩)
theorem numbers_none (D : Nat) (c : Int) (w : World) (hc : w.cell? ⟨D, 0, none⟩ = some (.int .i64 c)) (h12 : c ≠ 12) (h13 : c ≠ 13) (h14 : c ≠ 14) :
    Calls Tryz.prog 100 #[.pointer (some ⟨D, 0, none⟩)] w fun e w' => e = .returned (.slice none 0 0) ∧ w' = w :=
  (numbers_any D c w hc).mono fun e w' h => by
    rcases h with ⟨g, _, h, _⟩ | ⟨g, _, h, _⟩ | ⟨he, _, _, _, hw⟩
    · exact absurd h h12
    · rcases h with h | h
      · exact absurd h h13
      · exact absurd h h14
    · exact ⟨he, hw⟩
theorem numbers_one (D : Nat) (c : Int) (w : World) (hc : w.cell? ⟨D, 0, none⟩ = some (.int .i64 c)) (h1 : c = 13 ∨ c = 14) :
    Calls Tryz.prog 100 #[.pointer (some ⟨D, 0, none⟩)] w fun e w' => ∃ g, e = .returned (.slice (some ⟨g, 0, none⟩) 1 1) ∧ Bk g 134 #[.pointer (some ⟨D, 1, none⟩)] w' ∧ w.heap.size ≤ g ∧ Below w.heap.size w w' :=
  (numbers_any D c w hc).mono fun e w' h => by
    rcases h with ⟨g, _, h, _⟩ | ⟨g, he, _, _, _, hl, hb, hh⟩ | ⟨he, _, h13, h14, hw⟩
    · omega
    · exact ⟨g, he, ⟨hh⟩, hl, hb⟩
    · omega
theorem numbers_two (D : Nat) (w : World) (hc : w.cell? ⟨D, 0, none⟩ = some (.int .i64 12)) :
    Calls Tryz.prog 100 #[.pointer (some ⟨D, 0, none⟩)] w fun e w' => ∃ g, e = .returned (.slice (some ⟨g, 0, none⟩) 2 2) ∧ Bk g 134 #[.pointer (some ⟨D, 1, none⟩), .pointer (some ⟨D, 2, none⟩)] w' ∧ w.heap.size ≤ g ∧ Below w.heap.size w w' :=
  (numbers_any D 12 w hc).mono fun e w' h => by
    rcases h with ⟨g, he, _, _, _, _, hl, hb, hh⟩ | ⟨g, _, h, _⟩ | ⟨he, h12, _⟩
    · exact ⟨g, he, ⟨hh⟩, hl, hb⟩
    · omega
    · exact absurd rfl h12
theorem Bk.keep {D : Nat} {t : TypeId} {cs : Array Value} {w w' : World} {b : Nat} (h : Bk D t cs w) (hk : BdKeep b w w') (hb : D ≠ b) (ht : t ≠ 5) : Bk D t cs w' := ⟨hk D cs t (0, 0) hb ht h.held⟩
/-- A number's bytes are written behind the others. -/
theorem write_num (B : Nat) (O : ByteArray) (x : Int) (w1 : World) (h : IsBd B B (Lib.strCells O) w1) (hB : B < w1.heap.size) (hO : O.size ≤ 100000) (h0 : 0 ≤ x) (h4 : x ≤ 4294967295) :
    Calls Tryz.prog 97 #[.pointer (some ⟨B, 0, none⟩), .slice (some ⟨w1.heap.size, 0, none⟩) (En.bytes x).length (En.bytes x).length] (w1.alloc (.cells ((En.bytes x).map (Value.int .u8)).toArray 5)) fun e w' =>
      e = .returned (.tuple #[.int .i64 (En.bytes x).length, .nilIface]) ∧ IsBd B B (Lib.strCells (O ++ En.num x)) w' ∧ Below B (w1.alloc (.cells ((En.bytes x).map (Value.int .u8)).toArray 5)) w' ∧ BdKeep B (w1.alloc (.cells ((En.bytes x).map (Value.int .u8)).toArray 5)) w' := by
  have hl := En.bytes_lenY x
  refine (be_Write B B (Lib.strCells O) ⟨w1.heap.size, 0, none⟩ _ _ ((En.bytes x).map (Value.int .u8)) _ (bd_below h ((Below.refl _ _).alloc (Nat.le_refl _) _)) (by rw [Lib.strCells_length]; omega) (by omega) (by simp) (new_cellsY w1 _ _ _ rfl) (by intro u hu; simp at hu; obtain ⟨x, _, rfl⟩ := hu; rfl) (by simp; omega) (by simp; omega)).mono ?_
  rintro e w' ⟨he, hb, hbel, hk⟩
  refine ⟨he, .inr ?_, hbel, hk⟩
  rw [En.cells_appendY, ← En.cells_numY x h0 h4]
  exact hb
set_option maxRecDepth 100000 in
set_option maxHeartbeats 3200000 in
theorem implScriptBytes_any (a : Option Addr) (len cap : Nat) (l : List Jo) (w : World) (h : OL w a len l) (hm : len ≤ 9223372036854775807) :
    Calls Tryz.prog 59 #[.slice a len cap] w fun e w' => e = .returned (.tuple #[.string (Jo.bs l), .bool (Jo.ok l)]) ∧ Below w.heap.size w w' := by
  have hcon := implScriptOk_any a len cap l w h hm
  cases hok : Jo.ok l
  · have HT : Hid (Jo.bs l = ⟨#[]⟩) := Lib.hid (if_neg (by rw [hok]; decide))
    rw [hok] at hcon
    rw [HT.out]
    clear h hok HT
    go_enter Tryz.func59, Tryz.ntmps59
    go_wp2_with fail
    refine hcon.mono ?_
    rintro e1 w1 ⟨rfl, hb1⟩
    go_wp2
    go_ret2
    exact ⟨rfl, hb1⟩
  · have HT : Hid (Jo.bs l = Jo.bytes (l.take len)) := Lib.hid (by
      unfold Jo.bs
      rw [if_pos hok, List.take_of_length_le (by rw [h.1]; exact Nat.le_refl _)])
    have HL := Lib.hid h.1
    have HOK := Lib.hid hok
    have HP : Hid (∀ k, (Jo.bytes (l.take k)).size ≤ 4000) := Lib.hid fun k => by
      obtain ⟨h1, h2, _⟩ := (Jo.ok_iff l).1 hok
      have := Jo.bytes_size (l := l.take k) (fun x hx => h2 x (List.mem_of_mem_take hx))
      rw [List.length_take] at this
      omega
    rw [hok] at hcon
    rw [HT.out]
    clear hok
    go_enter Tryz.func59, Tryz.ntmps59
    go_wp2_with fail
    refine hcon.mono ?_
    rintro e1 w1 ⟨rfl, hb1⟩
    have HB0 : Hid (IsBd w1.heap.size w1.heap.size (Lib.strCells (Jo.bytes (l.take 0))) (w1.alloc (.cells #[.pointer none, .slice none 0 0] 124))) := Lib.hid (Lib.fresh_isBuilder _ _ _)
    have h1 := h.below hb1
    have hb1s := hb1.size
    have HBW := Lib.hid hb1
    clear hcon h hb1
    go_wp2
    go_loopw [14] (fun i wr => ∃ k : Nat, k ≤ len ∧ i = .int .i64 (k : Int) ∧ Hid (IsBd w1.heap.size w1.heap.size (Lib.strCells (Jo.bytes (l.take k))) wr) ∧ Below w1.heap.size w1 wr)
      (fun i _ => len - (intOf i).toNat)
    case atStart => exact ⟨0, by omega, rfl, HB0, (Below.refl _ _).alloc (Nat.le_refl _) _⟩
    case round =>
      obtain ⟨k, hk, rfl, HBD, hbel⟩ := hrel
      by_cases hlt : k < len
      · obtain ⟨b, off, rfl, hb, hc⟩ := (h1.below hbel).2 (by omega)
        obtain ⟨c0, c1, c2, c3⟩ := hc k hlt
        have hf := Jo.fld_at HOK.out (show k < l.length by rw [HL.out]; exact hlt)
        have hts := Jo.tail_size hf
        have hlp := HP.out k
        have HSUC : Hid (Jo.bytes (l.take (k + 1)) = Jo.bytes (l.take k) ++ Jo.enc (Jo.at_ l k)) := Lib.hid (by rw [Jo.take_snoc (by rw [HL.out]; exact hlt), Jo.bytes_snoc])
        have hkind := Jo.kinds hf
        obtain ⟨x, hx⟩ : ∃ x, Hid (Jo.at_ l k = x) := ⟨_, Lib.hid rfl⟩
        rw [hx.out] at c0 c1 c2 c3 hf hts HSUC hkind
        obtain ⟨C, A, B, t⟩ := x
        simp only at c0 c1 c2 c3
        have hcc : 0 ≤ C ∧ C ≤ 14 := by
          unfold Jo.fld at hf
          simp only [Bool.and_eq_true, decide_eq_true_eq] at hf
          exact hf.1
        obtain ⟨q, rfl⟩ := Int.eq_ofNat_of_zero_le hcc.1
        have hq14 : q ≤ 14 := by omega
        have hw6 : IntKind.u8.wrap (q : Int) = (q : Int) := IntWalk.u8_in _ (by omega)
        have hbs := hbel.size
        have hv0 : Bk wr.heap.size 77 #[.int .i64 (q : Int), .int .i64 A, .int .i64 B, .string t] (wr.alloc (.cells #[.int .i64 (q : Int), .int .i64 A, .int .i64 B, .string t] 77 (0, 0))) := Bk.new wr 77 _
        have hbel0 : Below w1.heap.size w1 (wr.alloc (.cells #[.int .i64 (q : Int), .int .i64 A, .int .i64 B, .string t] 77 (0, 0))) := hbel.alloc hbs _
        have hbd0 := bd_below HBD.out ((Below.refl _ _).alloc (Nat.le_refl _) (.cells #[.int .i64 (q : Int), .int .i64 A, .int .i64 B, .string t] 77 (0, 0)))
        have hDb : wr.heap.size ≠ w1.heap.size := by have := bd_lt HBD.out; omega
        obtain ⟨O, HO⟩ : ∃ O, Hid (Jo.bytes (l.take k) = O) := ⟨_, Lib.hid rfl⟩
        rw [HO.out] at HSUC hlp hbd0
        obtain ⟨O1, HO1⟩ : ∃ O1, Hid (O ++ strOfNums [(q : Int)] = O1) := ⟨_, Lib.hid rfl⟩
        have hz1 : O1.size ≤ 4001 := by rw [← HO1.out, ByteArray.size_append, strOfNums_size]; simp; omega
        have HNX : Hid (Jo.bytes (l.take (k + 1)) = O1 ++ Jo.tail ⟨(q : Int), A, B, t⟩) := Lib.hid (by
          rw [HSUC.out, ← HO1.out, bytes_assoc]; rfl)
        clear hc hx h1 hb hf hcc HSUC HO HBD hbel hb1s
        go_wp2_with fail
        refine (be_WriteByte w1.heap.size w1.heap.size _ (q : Int) _ hbd0 (by rw [Lib.strCells_length]; omega) hbel0.size).mono ?_
        rintro e wa ⟨rfl, hbdA', hbA, hkA⟩
        have hbdA : IsBd w1.heap.size w1.heap.size (Lib.strCells O1) wa := .inr (by
          rw [← HO1.out, En.cells_appendY, strCells_one _ (by omega) (by omega)]; exact hbdA')
        have hbelA := hbel0.trans hbA
        have hvA := hv0.keep hkA hDb (by decide)
        have hltA : w1.heap.size < wa.heap.size := bd_lt hbdA
        obtain ⟨d0, d1, d2, d3⟩ := Bk.c4 hvA
        clear hbd0 hbA hkA hbdA' HO1 hbel0 hv0
        by_cases k0 : q = 0
        · have q0 : ((q : Int) == 0) = true := by simp [k0]
          have hT := Jo.tail_c0 ⟨(q : Int), A, B, t⟩ (by simp [k0])
          rw [hT] at HNX hts
          simp only at HNX hts
          have htz : t.size ≤ 90 := by
            have : (En.text t).size = (En.num t.size).size + t.size := by unfold En.text; rw [ByteArray.size_append]
            omega
          have hnt := En.size_num (t.size : Int)
          go_wp2_with fail
          refine (numBytes_any (t.size : Int) _ (by omega) (by omega)).mono ?_
          rintro e wq ⟨rfl, rfl⟩
          have hwn := write_num w1.heap.size O1 (t.size : Int) wa hbdA hltA (by omega) (by omega) (by omega)
          have hblq := hbelA.alloc hbelA.size (.cells ((En.bytes (t.size : Int)).map (Value.int .u8)).toArray 5)
          have hvAq := hvA.alloc (.cells ((En.bytes (t.size : Int)).map (Value.int .u8)).toArray 5)
          go_wp2_with fail
          refine hwn.mono ?_
          rintro e wB ⟨rfl, hbdB, hbe, hke⟩
          have hbelB := hblq.trans hbe
          have hltB : w1.heap.size < wB.heap.size := bd_lt hbdB
          have hvB := hvAq.keep hke hDb (by decide)
          clear hwn hblq hbe hke hbdA hbelA hltA hvA hvAq
          obtain ⟨e0, e1, e2, e3⟩ := Bk.c4 hvB
          obtain ⟨X, HX⟩ : ∃ X, Hid (O1 ++ En.num t.size = X) := ⟨_, Lib.hid rfl⟩
          rw [HX.out] at hbdB
          have hxz : X.size ≤ 4010 := by rw [← HX.out, ByteArray.size_append]; omega
          have HNX2 : Hid (Jo.bytes (l.take (k + 1)) = X ++ t) := Lib.hid (by
            rw [HNX.out, ← HX.out, bytes_assoc]; rfl)
          clear HX HNX hT hnt hts
          go_wp2_with fail
          refine (be_WriteString w1.heap.size w1.heap.size _ t _ hbdB (by rw [Lib.strCells_length]; omega) (by omega) hbelB.size).mono ?_
          rintro e wc ⟨rfl, hbdC', hbC, hkC⟩
          have hbdC : IsBd w1.heap.size w1.heap.size (Lib.strCells (X ++ t)) wc := .inr (by rw [En.cells_appendY]; exact hbdC')
          have hbelC := hbelB.trans hbC
          have hvC := hvB.keep hkC hDb (by decide)
          obtain ⟨f0, f1, f2, f3⟩ := Bk.c4 hvC
          clear hbdC' hbC hkC hvB hbelB hbdB e0 e1 e2 e3
          go_wp2_with fail
          refine (numbers_none wr.heap.size (q : Int) _ f0 (by omega) (by omega) (by omega)).mono ?_
          rintro e wn ⟨rfl, rfl⟩
          go_wp2
          refine wp_loop_rounds 1 ?_
          rw [rounds_succ]
          go_wp2
          go_roundw
          case rel => exact ⟨k + 1, by omega, by simp, Lib.hid (by rw [HNX2.out]; exact hbdC), hbelC⟩
          case measure => simp [intOf]; omega
        have q0 : ((q : Int) == 0) = false := by simpa using k0
        by_cases k12 : q = 12
        · obtain ⟨hA0, hAB, hB5⟩ : 1 ≤ A ∧ A ≤ B ∧ B ≤ 5 := by
            rcases hkind with ⟨e, _⟩ | ⟨e, h1, h2, h3⟩ | ⟨e, _⟩ | ⟨e, _⟩ | ⟨j, e, _, _⟩
            · have := congrArg Jo.c e; simp at this; omega
            · exact ⟨h1, h2, h3⟩
            · have := congrArg Jo.c e; simp at this; omega
            · have := congrArg Jo.c e; simp at this; omega
            · have := congrArg Jo.c e; simp at this; omega
          have hT := Jo.tail_c12 ⟨(q : Int), A, B, t⟩ (by simp [k12])
          rw [hT] at HNX hts
          simp only at HNX hts
          rw [ByteArray.size_append] at hts
          have dq : wa.cell? ⟨wr.heap.size, 0, none⟩ = some (.int .i64 12) := by rw [d0, k12]; rfl
          clear hT hkind
          go_wp2_with fail
          refine (numbers_two wr.heap.size _ dq).mono ?_
          rintro e wm ⟨g, rfl, hgN, hgl, hbm⟩
          have hvM := hvA.below hbm
          have hbdM := bd_below hbdA hbm
          have hbelM := hbelA.trans (hbm.mono hbelA.size)
          have hltM : w1.heap.size < wm.heap.size := bd_lt hbdM
          have hgb : g ≠ w1.heap.size := by omega
          obtain ⟨g0, g1⟩ := Bk.c2 hgN
          obtain ⟨e0, e1, e2, e3⟩ := Bk.c4 hvM
          clear hbm hvA hbdA hbelA hltA d0 d1 d2 d3 dq
          go_wp2
          refine wp_loop_rounds 3 ?_
          rw [rounds_succ]
          go_wp2_with fail
          refine (numBytes_any A _ (by omega) (by omega)).mono ?_
          rintro e wq ⟨rfl, rfl⟩
          have hwn := write_num w1.heap.size O1 A wm hbdM hltM (by omega) (by omega) (by omega)
          have hblq := hbelM.alloc hbelM.size (.cells ((En.bytes A).map (Value.int .u8)).toArray 5)
          have hvMq := hvM.alloc (.cells ((En.bytes A).map (Value.int .u8)).toArray 5)
          have hgNq := hgN.alloc (.cells ((En.bytes A).map (Value.int .u8)).toArray 5)
          go_wp2_with fail
          refine hwn.mono ?_
          rintro e wP ⟨rfl, hbdP, hbe, hke⟩
          have hbelP := hblq.trans hbe
          have hltP : w1.heap.size < wP.heap.size := bd_lt hbdP
          have hvP := hvMq.keep hke hDb (by decide)
          have hgP := hgNq.keep hke hgb (by decide)
          clear hwn hblq hbe hke hbdM hbelM hltM hvM hvMq hgN hgNq
          obtain ⟨X, HX⟩ : ∃ X, Hid (O1 ++ En.num A = X) := ⟨_, Lib.hid rfl⟩
          rw [HX.out] at hbdP
          have hxz : X.size ≤ 4100 := by rw [← HX.out, ByteArray.size_append]; omega
          have HNX2 : Hid (Jo.bytes (l.take (k + 1)) = X ++ En.num B) := Lib.hid (by
            rw [HNX.out, ← HX.out, bytes_assoc])
          obtain ⟨i0, i1⟩ := Bk.c2 hgP
          obtain ⟨j0, j1, j2, j3⟩ := Bk.c4 hvP
          clear HX HNX g0 g1 e0 e1 e2 e3
          go_wp2
          rw [rounds_succ]
          go_wp2_with fail
          refine (numBytes_any B _ (by omega) (by omega)).mono ?_
          rintro e wq ⟨rfl, rfl⟩
          have hwn := write_num w1.heap.size X B wP hbdP hltP (by omega) (by omega) (by omega)
          have hblq := hbelP.alloc hbelP.size (.cells ((En.bytes B).map (Value.int .u8)).toArray 5)
          have hvPq := hvP.alloc (.cells ((En.bytes B).map (Value.int .u8)).toArray 5)
          have hgPq := hgP.alloc (.cells ((En.bytes B).map (Value.int .u8)).toArray 5)
          go_wp2_with fail
          refine hwn.mono ?_
          rintro e wQ ⟨rfl, hbdQ, hbe, hke⟩
          have hbelQ := hblq.trans hbe
          have hltQ : w1.heap.size < wQ.heap.size := bd_lt hbdQ
          have hvQ := hvPq.keep hke hDb (by decide)
          have hgQ := hgPq.keep hke hgb (by decide)
          clear hwn hblq hbe hke hbdP hbelP hltP hvP hvPq hgP hgPq
          clear i0 i1 j0 j1 j2 j3
          go_wp2
          rw [rounds_succ]
          go_wp2
          go_roundw
          case rel => exact ⟨k + 1, by omega, by simp, Lib.hid (by rw [HNX2.out]; exact hbdQ), hbelQ⟩
          case measure => simp [intOf]; omega
        by_cases k1 : q = 13 ∨ q = 14
        · obtain ⟨hA0, hA1⟩ : 0 ≤ A ∧ A ≤ 9999 := by
            rcases hkind with ⟨e, _⟩ | ⟨e, h1, h2, h3⟩ | ⟨e, h1, h2⟩ | ⟨e, h1, h2⟩ | ⟨j, e, _, _⟩
            · have := congrArg Jo.c e; simp at this; omega
            · have := congrArg Jo.c e; simp at this; omega
            · have g1 : 0 ≤ A := h1
              have g2 : A ≤ 9999 := h2
              omega
            · have g1 : 1 ≤ A := h1
              have g2 : A ≤ 99 := h2
              omega
            · have := congrArg Jo.c e; simp at this; omega
          have hT := Jo.tail_c1 ⟨(q : Int), A, B, t⟩ (by simp only; omega)
          rw [hT] at HNX hts
          simp only at HNX hts
          clear hT hkind
          go_wp2_with fail
          refine (numbers_one wr.heap.size (q : Int) _ d0 (by omega)).mono ?_
          rintro e wm ⟨g, rfl, hgN, hgl, hbm⟩
          have hvM := hvA.below hbm
          have hbdM := bd_below hbdA hbm
          have hbelM := hbelA.trans (hbm.mono hbelA.size)
          have hltM : w1.heap.size < wm.heap.size := bd_lt hbdM
          have hgb : g ≠ w1.heap.size := by omega
          have g0 : wm.cell? ⟨g, 0, none⟩ = some (.pointer (some ⟨wr.heap.size, 1, none⟩)) := hgN.cell 0
          obtain ⟨e0, e1, e2, e3⟩ := Bk.c4 hvM
          clear hbm hvA hbdA hbelA hltA d0 d1 d2 d3
          go_wp2
          refine wp_loop_rounds 2 ?_
          rw [rounds_succ]
          go_wp2_with fail
          refine (numBytes_any A _ (by omega) (by omega)).mono ?_
          rintro e wq ⟨rfl, rfl⟩
          have hwn := write_num w1.heap.size O1 A wm hbdM hltM (by omega) (by omega) (by omega)
          have hblq := hbelM.alloc hbelM.size (.cells ((En.bytes A).map (Value.int .u8)).toArray 5)
          have hvMq := hvM.alloc (.cells ((En.bytes A).map (Value.int .u8)).toArray 5)
          have hgNq := hgN.alloc (.cells ((En.bytes A).map (Value.int .u8)).toArray 5)
          go_wp2_with fail
          refine hwn.mono ?_
          rintro e wP ⟨rfl, hbdP, hbe, hke⟩
          have hbelP := hblq.trans hbe
          have hltP : w1.heap.size < wP.heap.size := bd_lt hbdP
          have hvP := hvMq.keep hke hDb (by decide)
          have hgP := hgNq.keep hke hgb (by decide)
          clear hwn hblq hbe hke hbdM hbelM hltM hvM hvMq hgN hgNq
          clear g0 e0 e1 e2 e3
          go_wp2
          rw [rounds_succ]
          go_wp2
          go_roundw
          case rel => exact ⟨k + 1, by omega, by simp, Lib.hid (by rw [HNX.out]; exact hbdP), hbelP⟩
          case measure => simp [intOf]; omega
        have hT := Jo.tail_cn ⟨(q : Int), A, B, t⟩ (by simp only; omega) (by simp only; omega) (by simp only; omega) (by simp only; omega)
        rw [hT, bytes_nil] at HNX
        clear hT hkind
        go_wp2_with fail
        refine (numbers_none wr.heap.size (q : Int) _ d0 (by omega) (by omega) (by omega)).mono ?_
        rintro e wn ⟨rfl, rfl⟩
        go_wp2
        refine wp_loop_rounds 1 ?_
        rw [rounds_succ]
        go_wp2
        go_roundw
        case rel => exact ⟨k + 1, by omega, by simp, Lib.hid (by rw [HNX.out]; exact hbdA), hbelA⟩
        case measure => simp [intOf]; omega
      · obtain rfl : k = len := by omega
        have hbd := HBD.out
        clear h1
        go_wp2_with fail
        refine (Tryz.Builder_String_any w1.heap.size w1.heap.size (Jo.bytes (l.take k)).data.toList _ hbd hbel.size).mono ?_
        rintro e w3 ⟨rfl, hb3⟩
        have hbel3 := hbel.trans hb3
        rw [En.mk_self]
        go_wp2
        go_ret2
        exact ⟨rfl, HBW.out.trans (hbel3.mono hb1s)⟩
end Go.Proofs.YtoocibabceeagabGreat

/-
  Contracts of scripts: ScriptRead; of the model.
-/
namespace Go.Proofs.YtoocibabceeagabGreat
open Go.RowKit

theorem Bk.gbY {D : Nat} {t : TypeId} {cs : Array Value} {w w' : World} (h : Bk D t cs w) {row : Option Nat} (hg : w.grownBy w' row) (hne : some D ≠ row) : Bk D t cs w' := ⟨(hg.block D h.lt hne).trans h.held⟩
theorem own_set {W : World} {base : Nat} {e : TypeId} {k n : Nat} {v : Value} {xs : List Value} (h : W.ownsRow base e k v n xs) (X i : Nat) (u : Value) (hne : v.ownBlock ≠ some X) : (W.setCell ⟨X, i, none⟩ u).ownsRow base e k v n xs :=
  h.kept (row := some X) ⟨rfl, rfl, rfl, by simp [World.setCell], fun j _ hr => Below.heap_setCell _ _ _ _ (fun e => hr (by simp [e]))⟩ (.inr hne)
theorem own_type {w : World} {B n k : Nat} {v : Value} {bs : List Value} {D : Nat} {cs : Array Value} {t e : TypeId} {fr : Nat × Nat} (hown : w.ownsRow B e k v n bs) (ht : t ≠ e) (hD : w.heap[D]? = some (.cells cs t fr)) : v.ownBlock ≠ some D := by
  intro h
  rcases hown.2 with ⟨he, _⟩ | ⟨g, cap, cur, he, _, hh, _⟩
  · rw [he] at h; simp [Value.ownBlock] at h
  · rw [he] at h
    have hg : g = D := by simpa [Value.ownBlock] using h
    subst hg
    rw [hD] at hh
    cases hh
    exact ht rfl
theorem four_new (W : World) (a b c d : Value) (t : TypeId) (B : Nat) (hB : B = W.heap.size) : ∀ j u, [a, b, c, d][j]? = some u → (W.alloc (.cells #[a, b, c, d] t (0, 0))).cell? ((⟨B, 0, none⟩ : Addr).add j) = some u := by
  subst hB
  intro j u hj
  have hadr : (⟨W.heap.size, 0, none⟩ : Addr).add j = ⟨W.heap.size, j, none⟩ := by unfold Addr.add; split <;> simp_all
  rw [hadr]
  exact (World.cell?_alloc_mark W #[a, b, c, d] t (0, 0) j).trans (by simpa using hj)
/-- What ScriptRead hands back. -/
def JoRd (s : ByteArray) (w : World) (e : Ending) (w' : World) : Prop :=
  (Jo.read s = none ∧ e = .returned (.tuple #[.slice none 0 0, .bool false]) ∧ Below w.heap.size w w') ∨
  (∃ l a cap, Jo.read s = some l ∧ e = .returned (.tuple #[.slice a l.length cap, .bool true]) ∧ w'.ownsRow w.heap.size 77 4 (.slice a l.length cap) l.length (Jo.cells l) ∧ Below w.heap.size w w')
/-- How far a reading has come. -/
def RdI (s : ByteArray) (acc : List Jo) (r : ByteArray) (b : Bool) : Prop :=
  (b = false → Jo.all s = (match Jo.all r with | none => none | some l => some (acc ++ l)) ∧ acc.length + r.size ≤ s.size) ∧ (b = true → Jo.all s = none) ∧ acc.length ≤ s.size
theorem RdI.start (s : ByteArray) : RdI s [] s false := by
  refine ⟨fun _ => ⟨?_, by simp⟩, fun h => (by cases h), by simp⟩
  cases Jo.all s <;> rfl
/-- One operation more. -/
theorem RdI.step {s r r2 : ByteArray} {acc : List Jo} {x : Jo} {b : Bool} (h : RdI s acc r false) (hr : 0 < r.size) (h0 : b = false → Jo.one r = some (x, r2)) (h1 : b = true → Jo.one r = none) : RdI s (acc ++ [x]) r2 b := by
  obtain ⟨ha, hl⟩ := h.1 rfl
  refine ⟨fun hb => ⟨?_, ?_⟩, fun hb => ?_, by rw [List.length_append]; simp; omega⟩
  · rw [ha, Jo.all_some hr (h0 hb)]
    cases Jo.all r2 with
    | none => rfl
    | some l => simp
  · have := Jo.one_size hr (h0 hb)
    rw [List.length_append]; simp; omega
  · rw [ha, Jo.all_none hr (h1 hb)]
theorem RdI.bad {s r : ByteArray} {acc : List Jo} (h : RdI s acc r true) : Jo.read s = none := by
  have := h.2.1 rfl
  unfold Jo.all at this
  unfold Jo.read
  rw [this]
theorem RdI.done {s r : ByteArray} {acc : List Jo} (h : RdI s acc r false) (hr : r.size = 0) : Jo.read s = if Jo.ok acc = true then some acc else none := by
  have := (h.1 rfl).1
  rw [Jo.all_nil hr] at this
  simp only [List.append_nil] at this
  unfold Jo.all at this
  unfold Jo.read
  rw [this]
theorem Jo.one_push {r t r2 : ByteArray} (hc : En.byt r 0 = 0) (h : En.decT (En.rest r 1) = some (t, r2)) : Jo.one r = some (⟨0, 0, 0, t⟩, r2) := by
  unfold Jo.one Jo.oneR
  rw [if_pos hc, h]
theorem Jo.one_push_no {r : ByteArray} (hc : En.byt r 0 = 0) (h : En.decT (En.rest r 1) = none) : Jo.one r = none := by
  unfold Jo.one Jo.oneR
  rw [if_pos hc, h]
theorem Jo.one_many {r r2 r3 : ByteArray} {a b : Int} (hc : En.byt r 0 = 12) (h : En.dec (En.rest r 1) = some (a, r2)) (h2 : En.dec r2 = some (b, r3)) : Jo.one r = some (⟨12, a, b, ⟨#[]⟩⟩, r3) := by
  unfold Jo.one Jo.oneR
  rw [if_neg (by omega), if_pos hc, h]
  simp only
  rw [h2]
theorem Jo.one_many_no {r : ByteArray} (hc : En.byt r 0 = 12) (h : En.dec (En.rest r 1) = none ∨ ∃ a r2, En.dec (En.rest r 1) = some (a, r2) ∧ En.dec r2 = none) : Jo.one r = none := by
  unfold Jo.one Jo.oneR
  rw [if_neg (by omega), if_pos hc]
  rcases h with h | ⟨a, r2, h, h2⟩
  · rw [h]
  · rw [h]; simp only; rw [h2]
theorem Jo.one_num {r r2 : ByteArray} {a : Int} (hc : En.byt r 0 = 13 ∨ En.byt r 0 = 14) (h : En.dec (En.rest r 1) = some (a, r2)) : Jo.one r = some (⟨En.byt r 0, a, 0, ⟨#[]⟩⟩, r2) := by
  unfold Jo.one Jo.oneR
  rw [if_neg (by omega), if_neg (by omega), if_pos hc, h]
theorem Jo.one_num_no {r : ByteArray} (hc : En.byt r 0 = 13 ∨ En.byt r 0 = 14) (h : En.dec (En.rest r 1) = none) : Jo.one r = none := by
  unfold Jo.one Jo.oneR
  rw [if_neg (by omega), if_neg (by omega), if_pos hc, h]
theorem Jo.one_bare {r : ByteArray} (h0 : En.byt r 0 ≠ 0) (h1 : En.byt r 0 ≠ 12) (h2 : En.byt r 0 ≠ 13) (h3 : En.byt r 0 ≠ 14) : Jo.one r = some (⟨En.byt r 0, 0, 0, ⟨#[]⟩⟩, En.rest r 1) := by
  unfold Jo.one Jo.oneR
  rw [if_neg h0, if_neg h1, if_neg (by omega)]
/-- What is left in the reader. -/
def Jo.left (B : Nat) (w : World) : Nat := match w.cell? ⟨B, 0, none⟩, w.cell? ⟨B, 1, none⟩ with
  | some (.string r), some (.bool b) => if b then 0 else r.size + 1
  | _, _ => 0
theorem Jo.left_eq {B : Nat} {w : World} {r : ByteArray} {b : Bool} (h : w.heap[B]? = some (.cells #[.string r, .bool b] 171 (0, 0))) : Jo.left B w = if b then 0 else r.size + 1 := by
  unfold Jo.left
  rw [rs_str h, rs_bad h]
set_option maxHeartbeats 400000 in
theorem le_bad (B : Nat) (s : ByteArray) (n : Int) (w : World)
    (hb : w.heap[B]? = some (.cells #[.string s, .bool true] 171 (0, 0))) :
    Calls Tryz.prog 154 #[.pointer (some ⟨B, 0, none⟩), .int .i64 n] w fun e w' => e = .returned (.int .i64 0) ∧ Rs B w w' s true := by
  have hT := Rs.setB hb true
  have h0 := rs_str hb
  have h1 := rs_bad hb
  have h3 := rs_f1 hb
  clear hb
  go_enter Tryz.func154, Tryz.ntmps154
  go_wp2
  go_ret
  exact ⟨rfl, hT⟩
set_option maxHeartbeats 800000 in
theorem num_bad (B : Nat) (s : ByteArray) (w : World)
    (hb : w.heap[B]? = some (.cells #[.string s, .bool true] 171 (0, 0))) :
    Calls Tryz.prog 156 #[.pointer (some ⟨B, 0, none⟩)] w fun e w' => e = .returned (.int .i64 0) ∧ Rs B w w' s true := by
  go_enter Tryz.func156, Tryz.ntmps156
  go_wp2_with (go_at_call 154; refine (le_bad B s 1 _ hb).mono ?_; rintro e w1 ⟨rfl, hT⟩; have c1 := rs_bad hT.held)
  go_ret
  exact ⟨rfl, hT⟩
/-- A number, from a good reader or a bad one. -/
theorem num_gen (B : Nat) (s : ByteArray) (b : Bool) (w : World)
    (hb : w.heap[B]? = some (.cells #[.string s, .bool b] 171 (0, 0))) :
    Calls Tryz.prog 156 #[.pointer (some ⟨B, 0, none⟩)] w fun e w' => ∃ v r2 b2, e = .returned (.int .i64 v) ∧ Rs B w w' r2 b2 ∧ Hid ((b2 = true → b = true ∨ En.dec s = none) ∧ (b2 = false → b = false ∧ En.dec s = some (v, r2))) := by
  cases b with
  | true =>
    refine (num_bad B s w hb).mono ?_
    rintro e w' ⟨he, hT⟩
    exact ⟨0, s, true, he, hT, Lib.hid ⟨fun _ => .inl rfl, fun h => by cases h⟩⟩
  | false =>
    refine (num_any B s w hb).mono ?_
    rintro e w' ⟨he, hT⟩
    cases hd : En.dec s with
    | none =>
      rw [RsDec.none_ hd] at hT
      obtain ⟨r, hT⟩ := hT
      exact ⟨_, r, true, he, hT, Lib.hid ⟨fun _ => .inr rfl, fun h => by cases h⟩⟩
    | some x =>
      rw [RsDec.some_ hd] at hT
      rw [En.decN_some hd] at he
      exact ⟨x.1, x.2, false, he, hT, Lib.hid ⟨(fun h => by cases h), fun _ => ⟨rfl, rfl⟩⟩⟩
theorem text_gen (B : Nat) (s : ByteArray) (w : World)
    (hb : w.heap[B]? = some (.cells #[.string s, .bool false] 171 (0, 0))) :
    Calls Tryz.prog 155 #[.pointer (some ⟨B, 0, none⟩)] w fun e w' => ∃ t r2 b2, e = .returned (.string t) ∧ Rs B w w' r2 b2 ∧ Hid ((b2 = true → En.decT s = none) ∧ (b2 = false → En.decT s = some (t, r2))) := by
  refine (text_any B s w hb).mono ?_
  rintro e w' ⟨he, hT⟩
  cases hd : En.decT s with
  | none =>
    rw [hd] at hT
    obtain ⟨r, hT⟩ := hT
    exact ⟨_, r, true, he, hT, Lib.hid ⟨fun _ => rfl, fun h => by cases h⟩⟩
  | some x =>
    rw [hd] at hT
    rw [En.decTS_some hd] at he
    exact ⟨x.1, x.2, false, he, hT, Lib.hid ⟨(fun h => by cases h), fun _ => rfl⟩⟩
theorem le_one (B : Nat) (s : ByteArray) (w : World) (h : 0 < s.size)
    (hb : w.heap[B]? = some (.cells #[.string s, .bool false] 171 (0, 0))) :
    Calls Tryz.prog 154 #[.pointer (some ⟨B, 0, none⟩), .int .i64 1] w fun e w' => e = .returned (.int .i64 (En.byt s 0)) ∧ Rs B w w' (En.rest s 1) false := by
  have := le_ok B s 1 w (by omega) (by omega) (by omega) hb
  rw [show En.lev s 0 (Int.toNat 1) = En.byt s 0 from En.lev_one s 0] at this
  exact this
set_option maxRecDepth 100000 in
set_option maxHeartbeats 3200000 in
theorem specScriptRead_any (s : ByteArray) (w : World) (hs : s.size ≤ 1048576) : Calls Tryz.prog 116 #[.string s] w (JoRd s w) := by
  obtain ⟨i0, hi, hz0, hz1, hz2⟩ := info_parts info_op
  have hR0 : Hid (((w.alloc (.cells #[.string s, .bool false] 171 (0, 0))).alloc (.cells #[] 77 (0, 0))).heap[w.heap.size]? = some (.cells #[.string s, .bool false] 171 (0, 0))) := Lib.hid (by
    rw [Below.heap_alloc _ _ _ (by simp)]; exact heap_alloc_new w _)
  go_enter Tryz.func116, Tryz.ntmps116
  go_wp2
  go_loopw [5] (fun v wr => ∃ (acc : List Jo) (r : ByteArray) (b : Bool), Hid (wr.ownsRow w.heap.size 77 4 v acc.length (Jo.cells acc)) ∧ Hid (wr.heap[w.heap.size]? = some (.cells #[.string r, .bool b] 171 (0, 0))) ∧ Hid (RdI s acc r b) ∧ Below w.heap.size w wr)
    (fun _ wr => Jo.left w.heap.size wr)
  case atStart => exact ⟨[], s, false, Lib.hid ⟨rfl, .inr ⟨w.heap.size + 1, 0, #[], rfl, by omega, (by have := heap_alloc_new (w.alloc (.cells #[.string s, .bool false] 171 (0, 0))) (.cells #[] 77 (0, 0)); simpa using this), Nat.le_refl _, by decide, rfl, rfl⟩⟩, hR0, Lib.hid (RdI.start s), ((Below.refl _ _).alloc (Nat.le_refl _) _).alloc (by simp) _⟩
  case round =>
    obtain ⟨acc, r, b, HOWN, HR, HI, hbel⟩ := hrel
    have c0 := rs_str HR.out
    have c1 := rs_bad HR.out
    have hE := str_empty_iff r
    have HLEFT := Lib.hid (Jo.left_eq HR.out)
    have hacc := HI.out.2.2
    obtain ⟨n, HN⟩ : ∃ n, Hid (acc.length = n) := ⟨_, Lib.hid rfl⟩
    rw [HN.out] at hacc HOWN
    obtain ⟨va, vc, rfl⟩ : ∃ va vc, u5 = .slice va n vc := by
      rcases HOWN.out.2 with ⟨h1, h2⟩ | ⟨g, cap', cur, h1, _⟩
      · exact ⟨none, 0, by rw [h1, h2]⟩
      · exact ⟨_, _, h1⟩
    cases b
    case true =>
      have HB := Lib.hid HI.out.bad
      have hne : r.toList.isEmpty = true ∨ r.toList.isEmpty = false := by cases r.toList.isEmpty <;> simp
      clear hE HI HOWN
      rcases hne with hne | hne
      all_goals
        go_wp2
        go_ret2
        exact .inl ⟨HB.out, rfl, hbel⟩
    by_cases h0 : r.size = 0
    · have hne : r.toList.isEmpty = true := by rw [hE]; exact decide_eq_true h0
      have HD := Lib.hid (HI.out.done h0)
      have hol := OL.own HOWN.out
      have hcon := specScriptOk_any va n vc acc wr hol.2 (by omega)
      clear hE HI hol
      obtain ⟨f, HF⟩ : ∃ f, Hid (Jo.ok acc = f) := ⟨_, Lib.hid rfl⟩
      rw [HF.out] at hcon HD
      go_wp2_with fail
      refine hcon.mono ?_
      rintro e w1 ⟨rfl, hb1⟩
      have hbel1 := below_aft9 hbel hb1
      have HO1 : Hid (w1.ownsRow w.heap.size 77 4 (.slice va n vc) n (Jo.cells acc)) := Lib.hid (HOWN.out.kept (row := none) ⟨hb1.os, hb1.tape, hb1.output, hb1.size, fun q hq _ => hb1.block q hq⟩ (Classical.em _))
      clear hcon HOWN hb1 hbel c0 c1
      cases f
      · go_wp2
        go_ret2
        exact .inl ⟨by rw [HD.out]; rfl, rfl, hbel1⟩
      · go_wp2
        go_ret2
        exact .inr ⟨acc, va, vc, by rw [HD.out]; rfl, by rw [HN.out]; rfl, by rw [HN.out]; exact HO1.out, hbel1⟩
    · have hne : r.toList.isEmpty = false := by rw [hE]; exact decide_eq_false h0
      have hpos : 0 < r.size := by omega
      have hbd := En.byt_bd r 0
      have hRlt := lt_of_block HR.out
      have hbs := hbel.size
      have hcon := le_one w.heap.size r wr hpos HR.out
      have HONE := fun x r2 b (h0 : b = false → Jo.one r = some (x, r2)) (h1 : b = true → Jo.one r = none) => HI.out.step hpos h0 h1
      have HST := Lib.hid HONE
      have HP := Lib.hid hpos
      obtain ⟨c, HC⟩ : ∃ c, Hid (En.byt r 0 = c) := ⟨_, Lib.hid rfl⟩
      rw [HC.out] at hbd hcon
      clear hE HI h0 HONE
      go_wp2_with fail
      refine hcon.mono ?_
      rintro e w1 ⟨rfl, hT1⟩
      have hne1 : (.slice va n vc : Value).ownBlock ≠ some w.heap.size := own_type HOWN.out (by decide) HR.out
      have HO1 := Lib.hid ((HOWN.out.kept (row := some w.heap.size) hT1.kept (.inr hne1)).alloc (.cells #[.int .i64 c, .int .i64 0, .int .i64 0, .string ⟨#[]⟩] 77 (0, 0)))
      have hgl : ∀ g, (.slice va n vc : Value).ownBlock = some g → g < w1.heap.size := fun g hg => by
        have h1 := (HOWN.out.lt g hg).2
        have h2 := hT1.kept.size
        omega
      have hneX : (.slice va n vc : Value).ownBlock ≠ some w1.heap.size := fun h => by have := hgl _ h; omega
      have hbel1 := (Below.grown hbel hT1.kept hbs (fun j hj => by cases hj; exact Nat.le_refl _))
      have hge := hbel1.size
      have hvX := Bk.new w1 77 #[.int .i64 c, .int .i64 0, .int .i64 0, .string ⟨#[]⟩]
      have hbelX := hbel1.alloc hbel1.size (.cells #[.int .i64 c, .int .i64 0, .int .i64 0, .string ⟨#[]⟩] 77 (0, 0))
      have HR1 : Hid ((w1.alloc (.cells #[.int .i64 c, .int .i64 0, .int .i64 0, .string ⟨#[]⟩] 77 (0, 0))).heap[w.heap.size]? = some (.cells #[.string (En.rest r 1), .bool false] 171 (0, 0))) := Lib.hid (by
        rw [Below.heap_alloc _ _ _ (lt_of_block hT1.held)]; exact hT1.held)
      have hXR : w1.heap.size ≠ w.heap.size := by have := lt_of_block hT1.held; omega
      have HLE : Hid (∀ wz r2 b2, wz.heap[w.heap.size]? = some (.cells #[.string r2, .bool b2] 171 (0, 0)) → (b2 = false → r2.size < r.size) → Jo.left w.heap.size wz < Jo.left w.heap.size wr) := Lib.hid fun wz r2 b2 hz h => by
        rw [HLEFT.out, Jo.left_eq hz]
        cases b2
        · have := h rfl; simp; omega
        · simp
      clear hcon HOWN hne1 hT1 hbel1 hbel HLEFT hgl c0 c1 HR
      by_cases k0 : c = 0
      · subst k0
        go_wp2_with fail
        refine (text_gen w.heap.size (En.rest r 1) _ HR1.out).mono ?_
        rintro e w2 ⟨tt, r2, b2, rfl, hT2, HQ⟩
        have hvX2 := hvX.gbY hT2.kept (by simpa using hXR)
        have HO2 := Lib.hid (own_set (HO1.out.kept (row := some w.heap.size) hT2.kept (.inr (own_type HO1.out (by decide) HR1.out))) w1.heap.size 3 (.string tt) hneX)
        have hbel2 := (Below.grown hbelX hT2.kept hbelX.size (fun j hj => by cases hj; exact Nat.le_refl _))
        have hbel3 := hbel2.setCell (p := ⟨w1.heap.size, 3, none⟩) (show w.heap.size ≤ w1.heap.size by omega) (.string tt)
        have HR3 : Hid ((w2.setCell ⟨w1.heap.size, 3, none⟩ (.string tt)).heap[w.heap.size]? = some (.cells #[.string r2, .bool b2] 171 (0, 0))) := Lib.hid ((Below.heap_setCell _ _ _ _ (fun h => hXR h.symm)).trans hT2.held)
        have f3 : w2.frozen? ⟨w1.heap.size, 3, none⟩ = false := hvX2.f4.2.2.2
        have x3 : w2.cell? ⟨w1.heap.size, 3, none⟩ = some (.string ⟨#[]⟩) := hvX2.cell 3
        have hvX3 : Bk w1.heap.size 77 #[.int .i64 0, .int .i64 0, .int .i64 0, .string tt] _ := hvX2.set 3 (.string tt)
        obtain ⟨y0, y1, y2, y3⟩ := Bk.c4 hvX3
        clear hvX hvX2 HO1 hbelX hT2 hbel2 HR1
        have S1 := Lib.hid (four_new (w2.setCell ⟨w1.heap.size, 3, none⟩ (.string tt)) (.int .i64 0) (.int .i64 0) (.int .i64 0) (.string tt) 77 (w2.heap.size) (by simp))
        have hsz := hbel3.size
        go_wp2_with (at_builtin; refine wpList_append_own _ rfl _ _ 79 rfl w.heap.size 77 i0 (.agg #[.int .i64 0, .int .i64 0, .int .i64 0, .string ⟨#[]⟩]) 4 40 Tryz.underlying79 hi hz0 hz1 hz2 rfl (by decide) _ _ _ rfl (HO2.out.alloc (.cells #[.int .i64 0, .int .i64 0, .int .i64 0, .string tt] 77 (0, 0))) ⟨w2.heap.size, 0, none⟩ 1 1 [.int .i64 0, .int .i64 0, .int .i64 0, .string tt] rfl rfl ?_ ?_ ?_ ?_ ?_ ?_)
        any_goals first | exact S1.out | (intro u hu; simp at hu; rcases hu with rfl | rfl | rfl | rfl <;> rfl) | (unfold maxLen; omega) | omega | exact Nat.le_trans hsz (by simp) | (simp; omega)
        intro v' w5 hown5 hgrow _
        have hneR : some w.heap.size ≠ (.slice va n vc : Value).ownBlock := fun h => own_type HO2.out (by decide) HR3.out h.symm
        have HR5 : Hid (w5.heap[w.heap.size]? = some (.cells #[.string r2, .bool b2] 171 (0, 0))) := Lib.hid (by
          rw [hgrow.block _ (by simp; have := lt_of_block HR3.out; simp at this; omega) hneR, Below.heap_alloc _ _ _ (lt_of_block HR3.out)]
          exact HR3.out)
        have HI5 := Lib.hid (HST.out ⟨0, 0, 0, tt⟩ r2 b2 (fun hb => Jo.one_push HC.out (HQ.out.2 hb)) (fun hb => Jo.one_push_no HC.out (HQ.out.1 hb)))
        have hown6 : Hid (w5.ownsRow w.heap.size 77 4 v' (acc ++ [(⟨0, 0, 0, tt⟩ : Jo)]).length (Jo.cells (acc ++ [(⟨0, 0, 0, tt⟩ : Jo)]))) := Lib.hid (by
          rw [List.length_append, HN.out, Jo.cells_append]
          exact hown5)
        have hbel5 : Below w.heap.size w w5 := (hbel3.alloc hsz (.cells #[.int .i64 0, .int .i64 0, .int .i64 0, .string tt] 77 (0, 0))).grown hgrow (Nat.le_trans hsz (by simp)) (fun q hq => (HO2.out.lt _ hq).1)
        have HM5 := Lib.hid (HLE.out w5 r2 b2 HR5.out (fun hb => Jo.one_size HP.out ((fun hb => Jo.one_push HC.out (HQ.out.2 hb)) hb)))
        clear hown5 hgrow hneR
        go_wp2
        go_roundw
        case rel => exact ⟨_, _, _, hown6, HR5, HI5, hbel5⟩
        case measure => exact HM5.out
      have q0 : (c == 0) = false := by simpa using k0
      by_cases k12 : c = 12
      · subst k12
        go_wp2_with fail
        refine (num_gen w.heap.size (En.rest r 1) false _ HR1.out).mono ?_
        rintro e w2 ⟨A, r2, b2, rfl, hT2, HQ⟩
        have hvX2 := hvX.gbY hT2.kept (by simpa using hXR)
        have HO2 := Lib.hid (own_set (HO1.out.kept (row := some w.heap.size) hT2.kept (.inr (own_type HO1.out (by decide) HR1.out))) w1.heap.size 1 (.int .i64 A) hneX)
        have hbel2 := (Below.grown hbelX hT2.kept hbelX.size (fun j hj => by cases hj; exact Nat.le_refl _))
        have hbel3 := hbel2.setCell (p := ⟨w1.heap.size, 1, none⟩) (show w.heap.size ≤ w1.heap.size by omega) (.int .i64 A)
        have HR3 : Hid ((w2.setCell ⟨w1.heap.size, 1, none⟩ (.int .i64 A)).heap[w.heap.size]? = some (.cells #[.string r2, .bool b2] 171 (0, 0))) := Lib.hid ((Below.heap_setCell _ _ _ _ (fun h => hXR h.symm)).trans hT2.held)
        have f3 : w2.frozen? ⟨w1.heap.size, 1, none⟩ = false := hvX2.f4.2.1
        have x3 : w2.cell? ⟨w1.heap.size, 1, none⟩ = some (.int .i64 0) := hvX2.cell 1
        have hvX3 : Bk w1.heap.size 77 #[.int .i64 12, .int .i64 A, .int .i64 0, .string ⟨#[]⟩] _ := hvX2.set 1 (.int .i64 A)
        clear hvX hvX2 HO1 hbelX hT2 hbel2 HR1
        go_wp2_with fail
        refine (num_gen w.heap.size r2 b2 _ HR3.out).mono ?_
        rintro e w4 ⟨B, r4, b4, rfl, hT4, HQ4⟩
        have hvX4 := hvX3.gbY hT4.kept (by simpa using hXR)
        have HO4 := Lib.hid (own_set (HO2.out.kept (row := some w.heap.size) hT4.kept (.inr (own_type HO2.out (by decide) HR3.out))) w1.heap.size 2 (.int .i64 B) hneX)
        have hbel4 := (Below.grown hbel3 hT4.kept hbel3.size (fun j hj => by cases hj; exact Nat.le_refl _))
        have hbel6 := hbel4.setCell (p := ⟨w1.heap.size, 2, none⟩) (show w.heap.size ≤ w1.heap.size by omega) (.int .i64 B)
        have HR6 : Hid ((w4.setCell ⟨w1.heap.size, 2, none⟩ (.int .i64 B)).heap[w.heap.size]? = some (.cells #[.string r4, .bool b4] 171 (0, 0))) := Lib.hid ((Below.heap_setCell _ _ _ _ (fun h => hXR h.symm)).trans hT4.held)
        have f4 : w4.frozen? ⟨w1.heap.size, 2, none⟩ = false := hvX4.f4.2.2.1
        have x4 : w4.cell? ⟨w1.heap.size, 2, none⟩ = some (.int .i64 0) := hvX4.cell 2
        have hvX6 : Bk w1.heap.size 77 #[.int .i64 12, .int .i64 A, .int .i64 B, .string ⟨#[]⟩] _ := hvX4.set 2 (.int .i64 B)
        obtain ⟨y0, y1, y2, y3⟩ := Bk.c4 hvX6
        have HONEY : Hid (b4 = false → Jo.one r = some (⟨12, A, B, ⟨#[]⟩⟩, r4)) := Lib.hid fun hb => by
          obtain ⟨h1, h2⟩ := HQ4.out.2 hb
          exact Jo.one_many HC.out (HQ.out.2 h1).2 h2
        have HONEN : Hid (b4 = true → Jo.one r = none) := Lib.hid fun hb => by
          refine Jo.one_many_no HC.out ?_
          cases b2 with
          | true =>
            rcases HQ.out.1 rfl with h | h
            · cases h
            · exact .inl h
          | false =>
            rcases HQ4.out.1 hb with h | h
            · cases h
            · exact .inr ⟨_, _, (HQ.out.2 rfl).2, h⟩
        clear hvX3 hvX4 HO2 hbel3 hT4 hbel4 HR3 f3 x3
        have S1 := Lib.hid (four_new (w4.setCell ⟨w1.heap.size, 2, none⟩ (.int .i64 B)) (.int .i64 12) (.int .i64 A) (.int .i64 B) (.string ⟨#[]⟩) 77 (w4.heap.size) (by simp))
        have hsz := hbel6.size
        go_wp2_with (at_builtin; refine wpList_append_own _ rfl _ _ 79 rfl w.heap.size 77 i0 (.agg #[.int .i64 0, .int .i64 0, .int .i64 0, .string ⟨#[]⟩]) 4 40 Tryz.underlying79 hi hz0 hz1 hz2 rfl (by decide) _ _ _ rfl (HO4.out.alloc (.cells #[.int .i64 12, .int .i64 A, .int .i64 B, .string ⟨#[]⟩] 77 (0, 0))) ⟨w4.heap.size, 0, none⟩ 1 1 [.int .i64 12, .int .i64 A, .int .i64 B, .string ⟨#[]⟩] rfl rfl ?_ ?_ ?_ ?_ ?_ ?_)
        any_goals first | exact S1.out | (intro u hu; simp at hu; rcases hu with rfl | rfl | rfl | rfl <;> rfl) | (unfold maxLen; omega) | omega | exact Nat.le_trans hsz (by simp) | (simp; omega)
        intro v' w5 hown5 hgrow _
        have hneR : some w.heap.size ≠ (.slice va n vc : Value).ownBlock := fun h => own_type HO4.out (by decide) HR6.out h.symm
        have HR5 : Hid (w5.heap[w.heap.size]? = some (.cells #[.string r4, .bool b4] 171 (0, 0))) := Lib.hid (by
          rw [hgrow.block _ (by simp; have := lt_of_block HR6.out; simp at this; omega) hneR, Below.heap_alloc _ _ _ (lt_of_block HR6.out)]
          exact HR6.out)
        have HI5 := Lib.hid (HST.out ⟨12, A, B, ⟨#[]⟩⟩ r4 b4 (fun hb => HONEY.out hb) (fun hb => HONEN.out hb))
        have hown6 : Hid (w5.ownsRow w.heap.size 77 4 v' (acc ++ [(⟨12, A, B, ⟨#[]⟩⟩ : Jo)]).length (Jo.cells (acc ++ [(⟨12, A, B, ⟨#[]⟩⟩ : Jo)]))) := Lib.hid (by
          rw [List.length_append, HN.out, Jo.cells_append]
          exact hown5)
        have hbel5 : Below w.heap.size w w5 := (hbel6.alloc hsz (.cells #[.int .i64 12, .int .i64 A, .int .i64 B, .string ⟨#[]⟩] 77 (0, 0))).grown hgrow (Nat.le_trans hsz (by simp)) (fun q hq => (HO4.out.lt _ hq).1)
        have HM5 := Lib.hid (HLE.out w5 r4 b4 HR5.out (fun hb => Jo.one_size HP.out ((fun hb => HONEY.out hb) hb)))
        clear hown5 hgrow hneR
        go_wp2
        go_roundw
        case rel => exact ⟨_, _, _, hown6, HR5, HI5, hbel5⟩
        case measure => exact HM5.out
      have q12 : (c == 12) = false := by simpa using k12
      by_cases k13 : c = 13
      · subst k13
        go_wp2_with fail
        refine (num_gen w.heap.size (En.rest r 1) false _ HR1.out).mono ?_
        rintro e w2 ⟨A, r2, b2, rfl, hT2, HQ⟩
        have hvX2 := hvX.gbY hT2.kept (by simpa using hXR)
        have HO2 := Lib.hid (own_set (HO1.out.kept (row := some w.heap.size) hT2.kept (.inr (own_type HO1.out (by decide) HR1.out))) w1.heap.size 1 (.int .i64 A) hneX)
        have hbel2 := (Below.grown hbelX hT2.kept hbelX.size (fun j hj => by cases hj; exact Nat.le_refl _))
        have hbel3 := hbel2.setCell (p := ⟨w1.heap.size, 1, none⟩) (show w.heap.size ≤ w1.heap.size by omega) (.int .i64 A)
        have HR3 : Hid ((w2.setCell ⟨w1.heap.size, 1, none⟩ (.int .i64 A)).heap[w.heap.size]? = some (.cells #[.string r2, .bool b2] 171 (0, 0))) := Lib.hid ((Below.heap_setCell _ _ _ _ (fun h => hXR h.symm)).trans hT2.held)
        have f3 : w2.frozen? ⟨w1.heap.size, 1, none⟩ = false := hvX2.f4.2.1
        have x3 : w2.cell? ⟨w1.heap.size, 1, none⟩ = some (.int .i64 0) := hvX2.cell 1
        have hvX3 : Bk w1.heap.size 77 #[.int .i64 13, .int .i64 A, .int .i64 0, .string ⟨#[]⟩] _ := hvX2.set 1 (.int .i64 A)
        obtain ⟨y0, y1, y2, y3⟩ := Bk.c4 hvX3
        have HONEY : Hid (b2 = false → Jo.one r = some (⟨13, A, 0, ⟨#[]⟩⟩, r2)) := Lib.hid fun hb => by
          have := Jo.one_num (.inl HC.out) (HQ.out.2 hb).2
          rw [HC.out] at this; exact this
        have HONEN : Hid (b2 = true → Jo.one r = none) := Lib.hid fun hb => by
          rcases HQ.out.1 hb with h | h
          · cases h
          · exact Jo.one_num_no (.inl HC.out) h
        clear hvX hvX2 HO1 hbelX hT2 hbel2 HR1
        have S1 := Lib.hid (four_new (w2.setCell ⟨w1.heap.size, 1, none⟩ (.int .i64 A)) (.int .i64 13) (.int .i64 A) (.int .i64 0) (.string ⟨#[]⟩) 77 (w2.heap.size) (by simp))
        have hsz := hbel3.size
        go_wp2_with (at_builtin; refine wpList_append_own _ rfl _ _ 79 rfl w.heap.size 77 i0 (.agg #[.int .i64 0, .int .i64 0, .int .i64 0, .string ⟨#[]⟩]) 4 40 Tryz.underlying79 hi hz0 hz1 hz2 rfl (by decide) _ _ _ rfl (HO2.out.alloc (.cells #[.int .i64 13, .int .i64 A, .int .i64 0, .string ⟨#[]⟩] 77 (0, 0))) ⟨w2.heap.size, 0, none⟩ 1 1 [.int .i64 13, .int .i64 A, .int .i64 0, .string ⟨#[]⟩] rfl rfl ?_ ?_ ?_ ?_ ?_ ?_)
        any_goals first | exact S1.out | (intro u hu; simp at hu; rcases hu with rfl | rfl | rfl | rfl <;> rfl) | (unfold maxLen; omega) | omega | exact Nat.le_trans hsz (by simp) | (simp; omega)
        intro v' w5 hown5 hgrow _
        have hneR : some w.heap.size ≠ (.slice va n vc : Value).ownBlock := fun h => own_type HO2.out (by decide) HR3.out h.symm
        have HR5 : Hid (w5.heap[w.heap.size]? = some (.cells #[.string r2, .bool b2] 171 (0, 0))) := Lib.hid (by
          rw [hgrow.block _ (by simp; have := lt_of_block HR3.out; simp at this; omega) hneR, Below.heap_alloc _ _ _ (lt_of_block HR3.out)]
          exact HR3.out)
        have HI5 := Lib.hid (HST.out ⟨13, A, 0, ⟨#[]⟩⟩ r2 b2 (fun hb => HONEY.out hb) (fun hb => HONEN.out hb))
        have hown6 : Hid (w5.ownsRow w.heap.size 77 4 v' (acc ++ [(⟨13, A, 0, ⟨#[]⟩⟩ : Jo)]).length (Jo.cells (acc ++ [(⟨13, A, 0, ⟨#[]⟩⟩ : Jo)]))) := Lib.hid (by
          rw [List.length_append, HN.out, Jo.cells_append]
          exact hown5)
        have hbel5 : Below w.heap.size w w5 := (hbel3.alloc hsz (.cells #[.int .i64 13, .int .i64 A, .int .i64 0, .string ⟨#[]⟩] 77 (0, 0))).grown hgrow (Nat.le_trans hsz (by simp)) (fun q hq => (HO2.out.lt _ hq).1)
        have HM5 := Lib.hid (HLE.out w5 r2 b2 HR5.out (fun hb => Jo.one_size HP.out ((fun hb => HONEY.out hb) hb)))
        clear hown5 hgrow hneR
        go_wp2
        go_roundw
        case rel => exact ⟨_, _, _, hown6, HR5, HI5, hbel5⟩
        case measure => exact HM5.out
      have q13 : (c == 13) = false := by simpa using k13
      by_cases k14 : c = 14
      · subst k14
        go_wp2_with fail
        refine (num_gen w.heap.size (En.rest r 1) false _ HR1.out).mono ?_
        rintro e w2 ⟨A, r2, b2, rfl, hT2, HQ⟩
        have hvX2 := hvX.gbY hT2.kept (by simpa using hXR)
        have HO2 := Lib.hid (own_set (HO1.out.kept (row := some w.heap.size) hT2.kept (.inr (own_type HO1.out (by decide) HR1.out))) w1.heap.size 1 (.int .i64 A) hneX)
        have hbel2 := (Below.grown hbelX hT2.kept hbelX.size (fun j hj => by cases hj; exact Nat.le_refl _))
        have hbel3 := hbel2.setCell (p := ⟨w1.heap.size, 1, none⟩) (show w.heap.size ≤ w1.heap.size by omega) (.int .i64 A)
        have HR3 : Hid ((w2.setCell ⟨w1.heap.size, 1, none⟩ (.int .i64 A)).heap[w.heap.size]? = some (.cells #[.string r2, .bool b2] 171 (0, 0))) := Lib.hid ((Below.heap_setCell _ _ _ _ (fun h => hXR h.symm)).trans hT2.held)
        have f3 : w2.frozen? ⟨w1.heap.size, 1, none⟩ = false := hvX2.f4.2.1
        have x3 : w2.cell? ⟨w1.heap.size, 1, none⟩ = some (.int .i64 0) := hvX2.cell 1
        have hvX3 : Bk w1.heap.size 77 #[.int .i64 14, .int .i64 A, .int .i64 0, .string ⟨#[]⟩] _ := hvX2.set 1 (.int .i64 A)
        obtain ⟨y0, y1, y2, y3⟩ := Bk.c4 hvX3
        have HONEY : Hid (b2 = false → Jo.one r = some (⟨14, A, 0, ⟨#[]⟩⟩, r2)) := Lib.hid fun hb => by
          have := Jo.one_num (.inr HC.out) (HQ.out.2 hb).2
          rw [HC.out] at this; exact this
        have HONEN : Hid (b2 = true → Jo.one r = none) := Lib.hid fun hb => by
          rcases HQ.out.1 hb with h | h
          · cases h
          · exact Jo.one_num_no (.inr HC.out) h
        clear hvX hvX2 HO1 hbelX hT2 hbel2 HR1
        have S1 := Lib.hid (four_new (w2.setCell ⟨w1.heap.size, 1, none⟩ (.int .i64 A)) (.int .i64 14) (.int .i64 A) (.int .i64 0) (.string ⟨#[]⟩) 77 (w2.heap.size) (by simp))
        have hsz := hbel3.size
        go_wp2_with (at_builtin; refine wpList_append_own _ rfl _ _ 79 rfl w.heap.size 77 i0 (.agg #[.int .i64 0, .int .i64 0, .int .i64 0, .string ⟨#[]⟩]) 4 40 Tryz.underlying79 hi hz0 hz1 hz2 rfl (by decide) _ _ _ rfl (HO2.out.alloc (.cells #[.int .i64 14, .int .i64 A, .int .i64 0, .string ⟨#[]⟩] 77 (0, 0))) ⟨w2.heap.size, 0, none⟩ 1 1 [.int .i64 14, .int .i64 A, .int .i64 0, .string ⟨#[]⟩] rfl rfl ?_ ?_ ?_ ?_ ?_ ?_)
        any_goals first | exact S1.out | (intro u hu; simp at hu; rcases hu with rfl | rfl | rfl | rfl <;> rfl) | (unfold maxLen; omega) | omega | exact Nat.le_trans hsz (by simp) | (simp; omega)
        intro v' w5 hown5 hgrow _
        have hneR : some w.heap.size ≠ (.slice va n vc : Value).ownBlock := fun h => own_type HO2.out (by decide) HR3.out h.symm
        have HR5 : Hid (w5.heap[w.heap.size]? = some (.cells #[.string r2, .bool b2] 171 (0, 0))) := Lib.hid (by
          rw [hgrow.block _ (by simp; have := lt_of_block HR3.out; simp at this; omega) hneR, Below.heap_alloc _ _ _ (lt_of_block HR3.out)]
          exact HR3.out)
        have HI5 := Lib.hid (HST.out ⟨14, A, 0, ⟨#[]⟩⟩ r2 b2 (fun hb => HONEY.out hb) (fun hb => HONEN.out hb))
        have hown6 : Hid (w5.ownsRow w.heap.size 77 4 v' (acc ++ [(⟨14, A, 0, ⟨#[]⟩⟩ : Jo)]).length (Jo.cells (acc ++ [(⟨14, A, 0, ⟨#[]⟩⟩ : Jo)]))) := Lib.hid (by
          rw [List.length_append, HN.out, Jo.cells_append]
          exact hown5)
        have hbel5 : Below w.heap.size w w5 := (hbel3.alloc hsz (.cells #[.int .i64 14, .int .i64 A, .int .i64 0, .string ⟨#[]⟩] 77 (0, 0))).grown hgrow (Nat.le_trans hsz (by simp)) (fun q hq => (HO2.out.lt _ hq).1)
        have HM5 := Lib.hid (HLE.out w5 r2 b2 HR5.out (fun hb => Jo.one_size HP.out ((fun hb => HONEY.out hb) hb)))
        clear hown5 hgrow hneR
        go_wp2
        go_roundw
        case rel => exact ⟨_, _, _, hown6, HR5, HI5, hbel5⟩
        case measure => exact HM5.out
      have q14 : (c == 14) = false := by simpa using k14
      obtain ⟨y0, y1, y2, y3⟩ := Bk.c4 hvX
      have HONEY : Hid (Jo.one r = some (⟨c, 0, 0, ⟨#[]⟩⟩, En.rest r 1)) := Lib.hid (by
        have := Jo.one_bare (r := r) (by rw [HC.out]; exact k0) (by rw [HC.out]; exact k12) (by rw [HC.out]; exact k13) (by rw [HC.out]; exact k14)
        rw [HC.out] at this; exact this)
      clear hvX k0 k12 k13 k14
      have S1 := Lib.hid (four_new (w1.alloc (.cells #[.int .i64 c, .int .i64 0, .int .i64 0, .string ⟨#[]⟩] 77 (0, 0))) (.int .i64 c) (.int .i64 0) (.int .i64 0) (.string ⟨#[]⟩) 77 (w1.heap.size + 1) (by simp))
      have hsz := hbelX.size
      go_wp2_with (at_builtin; refine wpList_append_own _ rfl _ _ 79 rfl w.heap.size 77 i0 (.agg #[.int .i64 0, .int .i64 0, .int .i64 0, .string ⟨#[]⟩]) 4 40 Tryz.underlying79 hi hz0 hz1 hz2 rfl (by decide) _ _ _ rfl (HO1.out.alloc (.cells #[.int .i64 c, .int .i64 0, .int .i64 0, .string ⟨#[]⟩] 77 (0, 0))) ⟨w1.heap.size + 1, 0, none⟩ 1 1 [.int .i64 c, .int .i64 0, .int .i64 0, .string ⟨#[]⟩] rfl rfl ?_ ?_ ?_ ?_ ?_ ?_)
      any_goals first | exact S1.out | (intro u hu; simp at hu; rcases hu with rfl | rfl | rfl | rfl <;> rfl) | (unfold maxLen; omega) | omega | exact Nat.le_trans hsz (by simp) | (simp; omega)
      intro v' w5 hown5 hgrow _
      have hneR : some w.heap.size ≠ (.slice va n vc : Value).ownBlock := fun h => own_type HO1.out (by decide) HR1.out h.symm
      have HR5 : Hid (w5.heap[w.heap.size]? = some (.cells #[.string (En.rest r 1), .bool false] 171 (0, 0))) := Lib.hid (by
        rw [hgrow.block _ (by simp; have := lt_of_block HR1.out; simp at this; omega) hneR, Below.heap_alloc _ _ _ (lt_of_block HR1.out)]
        exact HR1.out)
      have HI5 := Lib.hid (HST.out ⟨c, 0, 0, ⟨#[]⟩⟩ (En.rest r 1) false (fun _ => HONEY.out) (fun hb => by cases hb))
      have hown6 : Hid (w5.ownsRow w.heap.size 77 4 v' (acc ++ [(⟨c, 0, 0, ⟨#[]⟩⟩ : Jo)]).length (Jo.cells (acc ++ [(⟨c, 0, 0, ⟨#[]⟩⟩ : Jo)]))) := Lib.hid (by
        rw [List.length_append, HN.out, Jo.cells_append]
        exact hown5)
      have hbel5 : Below w.heap.size w w5 := (hbelX.alloc hsz (.cells #[.int .i64 c, .int .i64 0, .int .i64 0, .string ⟨#[]⟩] 77 (0, 0))).grown hgrow (Nat.le_trans hsz (by simp)) (fun q hq => (HO1.out.lt _ hq).1)
      have HM5 := Lib.hid (HLE.out w5 (En.rest r 1) false HR5.out (fun hb => Jo.one_size HP.out ((fun _ => HONEY.out) hb)))
      clear hown5 hgrow hneR
      go_wp2
      go_roundw
      case rel => exact ⟨_, _, _, hown6, HR5, HI5, hbel5⟩
      case measure => exact HM5.out
end Go.Proofs.YtoocibabceeagabGreat

/-
  Contracts of scripts: takeOp, ScriptRead; of the program.
-/
namespace Go.Proofs.YtoocibabceeagabGreat
open Go.RowKit

theorem results_cell_tmp3Y {P : Program} {fn : Func} {p u : Tmp} {ty : TypeId} (h : fn.results = #[.cell p ty, .tmp u]) (tmps : Array Value) (w : World) (g : Nat) (t : TypeId) (cs : Array Value) (fr : Nat × Nat) (d : TypeDesc)
    (hp : tmps.getD p undef = .pointer (some ⟨g, 0, none⟩)) (hg : w.heap[g]? = some (.cells cs t fr))
    (hu : P.underlying ty = some d) (hd : (match d with | .struct _ | .array _ _ => true | _ => false) = true) (hi : (P.info? ty).map (·.size) = some cs.size) :
    (results fn tmps).run P w = .ok (.tuple #[.agg cs, tmps.getD u undef]) w := by
  rw [results_cell_tmp h]
  have hp' : tmps[p]?.getD undef = .pointer (some ⟨g, 0, none⟩) := by simpa using hp
  simp [Result.andThen, hp', asAddr, run_loadVar_row w g t ty cs fr d hg hu hd hi]
theorem gb_setY {w w' : World} {row : Option Nat} (h : w.grownBy w' row) (D i : Nat) (v : Value) (hD : w.heap.size ≤ D) : w.grownBy (w'.setCell ⟨D, i, none⟩ v) row :=
  ⟨h.os, h.tape, h.output, by simpa [World.setCell] using h.size, fun k hk hne => (Below.heap_setCell _ _ _ _ (show k ≠ D by omega)).trans (h.block k hk hne)⟩
theorem gb_set4Y {w w' : World} {row : Option Nat} (h : w.grownBy w' row) (D : Nat) (hD : w.heap.size ≤ D) (a b c d : Value) : w.grownBy ((((w'.setCell ⟨D, 0, none⟩ a).setCell ⟨D, 1, none⟩ b).setCell ⟨D, 2, none⟩ c).setCell ⟨D, 3, none⟩ d) row :=
  gb_setY (gb_setY (gb_setY (gb_setY h D 0 a hD) D 1 b hD) D 2 c hD) D 3 d hD
theorem gb_allocY {w w' : World} {row : Option Nat} (h : w.grownBy w' row) (o : Obj) : w.grownBy (w'.alloc o) row := grownBy_trans' h (World.grownBy_alloc w' o row)
theorem gb_belowY {w w' w2 : World} {row : Option Nat} (h : w.grownBy w' row) (hb : Below w'.heap.size w' w2) : w.grownBy w2 row :=
  grownBy_trans' h ⟨hb.os, hb.tape, hb.output, hb.size, fun k hk _ => hb.block k hk⟩
/-- What takeOp hands back. -/
def TkOp (B : Nat) (s : ByteArray) (w : World) (e : Ending) (w' : World) : Prop :=
  (Jo.one s = none ∧ (∃ c a b t r, e = .returned (.tuple #[.agg #[.int .i64 c, .int .i64 a, .int .i64 b, .string t], .bool false]) ∧ Bk B 9 #[.string r] w') ∧ w.grownBy w' (some B)) ∨
  (∃ c a b t r, Jo.one s = some (⟨c, a, b, t⟩, r) ∧ e = .returned (.tuple #[.agg #[.int .i64 c, .int .i64 a, .int .i64 b, .string t], .bool true]) ∧ Bk B 9 #[.string r] w' ∧ w.grownBy w' (some B))
theorem takeNum_gen (B : Nat) (s : ByteArray) (w : World) (hb : Bk B 9 #[.string s] w) :
    Calls Tryz.prog 141 #[takerAt B] w fun e w' => ∃ v ok r, e = .returned (.tuple #[.int .i64 v, .bool ok]) ∧ Bk B 9 #[.string r] w' ∧ w.grownBy w' (some B) ∧ Hid ((ok = true → En.dec s = some (v, r)) ∧ (ok = false → En.dec s = none)) := by
  refine (takeNum_any B s w hb.held).mono ?_
  rintro e w' ⟨he, r, hT, _, hr⟩
  cases hd : En.dec s with
  | none =>
    rw [En.decV_none hd] at he
    exact ⟨_, _, r, he, ⟨hT.held⟩, hT.kept, Lib.hid ⟨(fun h => by cases h), fun _ => rfl⟩⟩
  | some x =>
    obtain ⟨n, r0⟩ := x
    obtain rfl := hr _ hd
    rw [En.decV_some hd] at he
    exact ⟨_, _, _, he, ⟨hT.held⟩, hT.kept, Lib.hid ⟨fun _ => rfl, fun h => by cases h⟩⟩
theorem takeText_gen (B : Nat) (s : ByteArray) (w : World) (hb : Bk B 9 #[.string s] w) :
    Calls Tryz.prog 140 #[takerAt B] w fun e w' => ∃ v ok r, e = .returned (.tuple #[.string v, .bool ok]) ∧ Bk B 9 #[.string r] w' ∧ w.grownBy w' (some B) ∧ Hid ((ok = true → En.decT s = some (v, r)) ∧ (ok = false → En.decT s = none)) := by
  refine (takeText_any B s w hb.held).mono ?_
  rintro e w' ⟨he, r, hT, _, hr⟩
  cases hd : En.decT s with
  | none =>
    rw [En.decTV_none hd] at he
    exact ⟨_, _, r, he, ⟨hT.held⟩, hT.kept, Lib.hid ⟨(fun h => by cases h), fun _ => rfl⟩⟩
  | some x =>
    obtain ⟨n, r0⟩ := x
    obtain rfl := hr _ hd
    rw [En.decTV_some hd] at he
    exact ⟨_, _, _, he, ⟨hT.held⟩, hT.kept, Lib.hid ⟨fun _ => rfl, fun h => by cases h⟩⟩
set_option maxRecDepth 100000 in
set_option maxHeartbeats 3200000 in
theorem takeOp_any (B : Nat) (s : ByteArray) (w : World) (hpos : 0 < s.size) (hb : Bk B 9 #[.string s] w) : Calls Tryz.prog 103 #[takerAt B] w (TkOp B s w) := by
  have hBlt := hb.lt
  have h1 : 1 ≤ (s.size : Int) := by omega
  have hBR : B ≠ w.heap.size := by omega
  have vR0 := Bk.new w 77 #[.int .i64 0, .int .i64 0, .int .i64 0, .string ⟨#[]⟩]
  have vB0 := hb.alloc (.cells #[.int .i64 0, .int .i64 0, .int .i64 0, .string ⟨#[]⟩] 77 (0, 0))
  have gW0 := World.grownBy_alloc w (.cells #[.int .i64 0, .int .i64 0, .int .i64 0, .string ⟨#[]⟩] 77 (0, 0)) (some B)
  have hfs : 0 < (En.front s 1).size := by rw [En.size_front s 1 h1]; decide
  have hix := En.front_zero s
  have hbd := En.byt_bd s 0
  have hcon := fun W hb => take_yes B s 1 W (by omega) h1 hb
  have HP := Lib.hid hpos
  obtain ⟨c, HC⟩ : ∃ c, Hid (En.byt s 0 = c) := ⟨_, Lib.hid rfl⟩
  rw [HC.out] at hbd
  simp only [HC.out] at hix
  obtain ⟨F, HF⟩ : ∃ F, Hid (En.front s 1 = F) := ⟨_, Lib.hid rfl⟩
  simp only [HF.out] at hix hcon hfs
  have hw6 : IntKind.i64.wrap c = c := IntWalk.i64_in _ (by omega)
  clear hb hpos h1
  go_enter Tryz.func103, Tryz.ntmps103
  go_wp2_with fail
  refine (hcon _ vB0.held).mono ?_
  rintro e w1 ⟨rfl, hT1⟩
  have vR1 := (vR0.gbY hT1.kept (by simpa using fun h : w.heap.size = B => hBR h.symm)).alloc (.cells #[.int .i64 c, .int .i64 0, .int .i64 0, .string ⟨#[]⟩] 77 (0, 0))
  have gW1 := gb_allocY (grownBy_trans' gW0 hT1.kept) (.cells #[.int .i64 c, .int .i64 0, .int .i64 0, .string ⟨#[]⟩] 77 (0, 0))
  have vB1 : Bk B 9 #[.string (En.rest s 1)] _ := Bk.alloc ⟨hT1.held⟩ (.cells #[.int .i64 c, .int .i64 0, .int .i64 0, .string ⟨#[]⟩] 77 (0, 0))
  have vX1 := Bk.new w1 77 #[.int .i64 c, .int .i64 0, .int .i64 0, .string ⟨#[]⟩]
  have hsz1 : w.heap.size < w1.heap.size := by have := hT1.kept.size; simp at this; omega
  have hBX : B ≠ w1.heap.size := by omega
  have hRX : w.heap.size ≠ w1.heap.size := by omega
  clear hcon vR0 gW0 vB0 hT1
  have hneXB : some w1.heap.size ≠ some B := by simpa using fun h : w1.heap.size = B => hBX h.symm
  have hneRB : some w.heap.size ≠ some B := by simpa using fun h : w.heap.size = B => hBR h.symm
  by_cases k0 : c = 0
  · subst k0
    go_wp2_with fail
    refine (takeText_gen B (En.rest s 1) _ vB1).mono ?_
    rintro e w2 ⟨tt, ok, r2, rfl, vB2, hg2, HQ⟩
    have vX2 := vX1.gbY hg2 hneXB
    obtain ⟨f0, f1, f2, f3⟩ := vX2.f4
    have x3 : w2.cell? ⟨w1.heap.size, 3, none⟩ = some (.string ⟨#[]⟩) := vX2.cell 3
    have vX3 : Bk w1.heap.size 77 #[.int .i64 0, .int .i64 0, .int .i64 0, .string tt] _ := vX2.set 3 (.string tt)
    have vR3 := (vR1.gbY hg2 hneRB).oset w1.heap.size 3 (.string tt) hRX
    have vB3 := vB2.oset w1.heap.size 3 (.string tt) hBX
    have gW3 := gb_setY (grownBy_trans' gW1 hg2) w1.heap.size 3 (.string tt) (by omega)
    obtain ⟨y0, y1, y2, y3⟩ := Bk.c4 vX3
    have HFIN : Hid (∀ w9 : World, Bk B 9 #[.string r2] w9 → w.grownBy w9 (some B) → TkOp B s w (.returned (.tuple #[.agg #[.int .i64 0, .int .i64 0, .int .i64 0, .string tt], .bool ok])) w9) := Lib.hid fun w9 hB9 hg9 => by
      cases ok with
      | false => exact .inl ⟨Jo.one_push_no HC.out (HQ.out.2 rfl), ⟨_, _, _, _, _, rfl, hB9⟩, hg9⟩
      | true => exact .inr ⟨_, _, _, _, _, Jo.one_push HC.out (HQ.out.1 rfl), rfl, hB9, hg9⟩
    clear vR1 gW1 vB1 vX1 hg2 vX2 vB2 vX3
    obtain ⟨r0, r1, r2, r3⟩ := Bk.c4 vR3
    obtain ⟨z0, z1, z2, z3⟩ := vR3.f4
    have vR9 := Bk.store4 vR3 (.int .i64 0) (.int .i64 0) (.int .i64 0) (.string tt)
    have gW9 := gb_set4Y gW3 w.heap.size (Nat.le_refl _) (.int .i64 0) (.int .i64 0) (.int .i64 0) (.string tt)
    have vB9 := Bk.other4 vB3 w.heap.size hBR (.int .i64 0) (.int .i64 0) (.int .i64 0) (.string tt)
    clear vR3 gW3 vB3
    go_wp2
    refine bodyPost_ret (results_cell_tmp3Y (P := Tryz.prog) rfl _ _ w.heap.size 77 _ (0, 0) _ rfl vR9.held Tryz.underlying77 rfl (by kernel_rfl)) rfl ?_
    exact HFIN.out _ vB9 gW9
  have q0 : (c == 0) = false := by simpa using k0
  by_cases k12 : c = 12
  · subst k12
    obtain ⟨d0, d1, d2, d3⟩ := Bk.c4 vX1
    go_wp2_with fail
    refine (numbers_two w1.heap.size _ d0).mono ?_
    rintro e w2 ⟨g, rfl, vG2, hgl, hbm⟩
    have vX2 := vX1.below hbm
    have vR2 := vR1.below hbm
    have vB2 := vB1.below hbm
    have gW2 := gb_belowY gW1 hbm
    have hgl' : w1.heap.size < g := by simp at hgl; omega
    have hGB : some g ≠ some B := by simp; omega
    have hGX : g ≠ w1.heap.size := by omega
    obtain ⟨g0, g1⟩ := Bk.c2 vG2
    clear vX1 vR1 vB1 gW1 hbm d0 d1 d2 d3
    go_wp2
    refine wp_loop_rounds 3 ?_
    rw [rounds_succ]
    go_wp2_with fail
    refine (takeNum_gen B (En.rest s 1) _ vB2).mono ?_
    rintro e w3 ⟨A, ok, r3, rfl, vB3, hg3, HQ⟩
    have vX3 := vX2.gbY hg3 hneXB
    obtain ⟨f0, f1, f2, f3⟩ := vX3.f4
    have x1 : w3.cell? ⟨w1.heap.size, 1, none⟩ = some (.int .i64 0) := vX3.cell 1
    have vX4 : Bk w1.heap.size 77 #[.int .i64 12, .int .i64 A, .int .i64 0, .string ⟨#[]⟩] _ := vX3.set 1 (.int .i64 A)
    have vR4 := (vR2.gbY hg3 hneRB).oset w1.heap.size 1 (.int .i64 A) hRX
    have vB4 := vB3.oset w1.heap.size 1 (.int .i64 A) hBX
    have vG4 := (vG2.gbY hg3 hGB).oset w1.heap.size 1 (.int .i64 A) hGX
    have gW4 := gb_setY (grownBy_trans' gW2 hg3) w1.heap.size 1 (.int .i64 A) (by omega)
    clear vX2 vR2 vB2 gW2 vG2 hg3 vX3 vB3 g0 g1
    cases ok
    · have HNO := Lib.hid (Jo.one_many_no HC.out (.inl (HQ.out.2 rfl)))
      clear HQ vX4 vG4
      obtain ⟨r0, r1, r2, r3⟩ := Bk.c4 vR4
      obtain ⟨z0, z1, z2, z3⟩ := vR4.f4
      have vR9 := Bk.store4 vR4 (.int .i64 0) (.int .i64 0) (.int .i64 0) (.string ⟨#[]⟩)
      have gW9 := gb_set4Y gW4 w.heap.size (Nat.le_refl _) (.int .i64 0) (.int .i64 0) (.int .i64 0) (.string ⟨#[]⟩)
      have vB9 := Bk.other4 vB4 w.heap.size hBR (.int .i64 0) (.int .i64 0) (.int .i64 0) (.string ⟨#[]⟩)
      clear vR4 gW4 vB4
      go_wp2
      refine bodyPost_ret (results_cell_tmp3Y (P := Tryz.prog) rfl _ _ w.heap.size 77 _ (0, 0) _ rfl vR9.held Tryz.underlying77 rfl (by kernel_rfl)) rfl ?_
      exact .inl ⟨HNO.out, ⟨_, _, _, _, _, rfl, vB9⟩, gW9⟩
    obtain ⟨g0, g1⟩ := Bk.c2 vG4
    have HQ1 := Lib.hid (HQ.out.1 rfl)
    clear HQ
    go_wp2
    clear f0 f1 f2 f3 x1
    rw [rounds_succ]
    go_wp2_with fail
    refine (takeNum_gen B r3 _ vB4).mono ?_
    rintro e w5 ⟨B2, ok, r5, rfl, vB5, hg5, HQ⟩
    have vX5 := vX4.gbY hg5 hneXB
    obtain ⟨f0, f1, f2, f3⟩ := vX5.f4
    have x1 : w5.cell? ⟨w1.heap.size, 2, none⟩ = some (.int .i64 0) := vX5.cell 2
    have vX6 : Bk w1.heap.size 77 #[.int .i64 12, .int .i64 A, .int .i64 B2, .string ⟨#[]⟩] _ := vX5.set 2 (.int .i64 B2)
    have vR6 := (vR4.gbY hg5 hneRB).oset w1.heap.size 2 (.int .i64 B2) hRX
    have vB6 := vB5.oset w1.heap.size 2 (.int .i64 B2) hBX
    have gW6 := gb_setY (grownBy_trans' gW4 hg5) w1.heap.size 2 (.int .i64 B2) (by omega)
    clear vX4 vR4 vB4 gW4 vG4 hg5 vX5 vB5 g0 g1
    cases ok
    · have HNO := Lib.hid (Jo.one_many_no HC.out (.inr ⟨_, _, HQ1.out, HQ.out.2 rfl⟩))
      clear HQ vX6
      obtain ⟨r0, r1, r2, r3⟩ := Bk.c4 vR6
      obtain ⟨z0, z1, z2, z3⟩ := vR6.f4
      have vR9 := Bk.store4 vR6 (.int .i64 0) (.int .i64 0) (.int .i64 0) (.string ⟨#[]⟩)
      have gW9 := gb_set4Y gW6 w.heap.size (Nat.le_refl _) (.int .i64 0) (.int .i64 0) (.int .i64 0) (.string ⟨#[]⟩)
      have vB9 := Bk.other4 vB6 w.heap.size hBR (.int .i64 0) (.int .i64 0) (.int .i64 0) (.string ⟨#[]⟩)
      clear vR6 gW6 vB6
      go_wp2
      refine bodyPost_ret (results_cell_tmp3Y (P := Tryz.prog) rfl _ _ w.heap.size 77 _ (0, 0) _ rfl vR9.held Tryz.underlying77 rfl (by kernel_rfl)) rfl ?_
      exact .inl ⟨HNO.out, ⟨_, _, _, _, _, rfl, vB9⟩, gW9⟩
    have HYES := Lib.hid (Jo.one_many HC.out HQ1.out (HQ.out.1 rfl))
    obtain ⟨y0, y1, y2, y3⟩ := Bk.c4 vX6
    clear HQ vX6
    go_wp2
    clear f0 f1 f2 f3 x1
    rw [rounds_succ]
    obtain ⟨r0, r1, r2, r3⟩ := Bk.c4 vR6
    obtain ⟨z0, z1, z2, z3⟩ := vR6.f4
    have vR9 := Bk.store4 vR6 (.int .i64 12) (.int .i64 A) (.int .i64 B2) (.string ⟨#[]⟩)
    have gW9 := gb_set4Y gW6 w.heap.size (Nat.le_refl _) (.int .i64 12) (.int .i64 A) (.int .i64 B2) (.string ⟨#[]⟩)
    have vB9 := Bk.other4 vB6 w.heap.size hBR (.int .i64 12) (.int .i64 A) (.int .i64 B2) (.string ⟨#[]⟩)
    clear vR6 gW6 vB6
    go_wp2
    refine bodyPost_ret (results_cell_tmp3Y (P := Tryz.prog) rfl _ _ w.heap.size 77 _ (0, 0) _ rfl vR9.held Tryz.underlying77 rfl (by kernel_rfl)) rfl ?_
    exact .inr ⟨_, _, _, _, _, HYES.out, rfl, vB9, gW9⟩
  have q12 : (c == 12) = false := by simpa using k12
  by_cases k13 : c = 13
  · subst k13
    obtain ⟨d0, d1, d2, d3⟩ := Bk.c4 vX1
    go_wp2_with fail
    refine (numbers_one w1.heap.size 13 _ d0 (by omega)).mono ?_
    rintro e w2 ⟨g, rfl, vG2, hgl, hbm⟩
    have vX2 := vX1.below hbm
    have vR2 := vR1.below hbm
    have vB2 := vB1.below hbm
    have gW2 := gb_belowY gW1 hbm
    have hgl' : w1.heap.size < g := by simp at hgl; omega
    have g0 : w2.cell? ⟨g, 0, none⟩ = some (.pointer (some ⟨w1.heap.size, 1, none⟩)) := vG2.cell 0
    clear vX1 vR1 vB1 gW1 hbm d0 d1 d2 d3
    go_wp2
    refine wp_loop_rounds 2 ?_
    rw [rounds_succ]
    go_wp2_with fail
    refine (takeNum_gen B (En.rest s 1) _ vB2).mono ?_
    rintro e w3 ⟨A, ok, r3, rfl, vB3, hg3, HQ⟩
    have vX3 := vX2.gbY hg3 hneXB
    obtain ⟨f0, f1, f2, f3⟩ := vX3.f4
    have x1 : w3.cell? ⟨w1.heap.size, 1, none⟩ = some (.int .i64 0) := vX3.cell 1
    have vX4 : Bk w1.heap.size 77 #[.int .i64 13, .int .i64 A, .int .i64 0, .string ⟨#[]⟩] _ := vX3.set 1 (.int .i64 A)
    have vR4 := (vR2.gbY hg3 hneRB).oset w1.heap.size 1 (.int .i64 A) hRX
    have vB4 := vB3.oset w1.heap.size 1 (.int .i64 A) hBX
    have gW4 := gb_setY (grownBy_trans' gW2 hg3) w1.heap.size 1 (.int .i64 A) (by omega)
    clear vX2 vR2 vB2 gW2 vG2 hg3 vX3 vB3 g0
    cases ok
    · have HNO := Lib.hid (Jo.one_num_no (.inl HC.out) (HQ.out.2 rfl))
      clear HQ vX4
      obtain ⟨r0, r1, r2, r3⟩ := Bk.c4 vR4
      obtain ⟨z0, z1, z2, z3⟩ := vR4.f4
      have vR9 := Bk.store4 vR4 (.int .i64 0) (.int .i64 0) (.int .i64 0) (.string ⟨#[]⟩)
      have gW9 := gb_set4Y gW4 w.heap.size (Nat.le_refl _) (.int .i64 0) (.int .i64 0) (.int .i64 0) (.string ⟨#[]⟩)
      have vB9 := Bk.other4 vB4 w.heap.size hBR (.int .i64 0) (.int .i64 0) (.int .i64 0) (.string ⟨#[]⟩)
      clear vR4 gW4 vB4
      go_wp2
      refine bodyPost_ret (results_cell_tmp3Y (P := Tryz.prog) rfl _ _ w.heap.size 77 _ (0, 0) _ rfl vR9.held Tryz.underlying77 rfl (by kernel_rfl)) rfl ?_
      exact .inl ⟨HNO.out, ⟨_, _, _, _, _, rfl, vB9⟩, gW9⟩
    have HYES : Hid (Jo.one s = some (⟨13, A, 0, ⟨#[]⟩⟩, r3)) := Lib.hid (by
      have := Jo.one_num (.inl HC.out) (HQ.out.1 rfl)
      rw [HC.out] at this; exact this)
    obtain ⟨y0, y1, y2, y3⟩ := Bk.c4 vX4
    clear HQ vX4
    go_wp2
    clear f0 f1 f2 f3 x1
    rw [rounds_succ]
    obtain ⟨r0, r1, r2, r3⟩ := Bk.c4 vR4
    obtain ⟨z0, z1, z2, z3⟩ := vR4.f4
    have vR9 := Bk.store4 vR4 (.int .i64 13) (.int .i64 A) (.int .i64 0) (.string ⟨#[]⟩)
    have gW9 := gb_set4Y gW4 w.heap.size (Nat.le_refl _) (.int .i64 13) (.int .i64 A) (.int .i64 0) (.string ⟨#[]⟩)
    have vB9 := Bk.other4 vB4 w.heap.size hBR (.int .i64 13) (.int .i64 A) (.int .i64 0) (.string ⟨#[]⟩)
    clear vR4 gW4 vB4
    go_wp2
    refine bodyPost_ret (results_cell_tmp3Y (P := Tryz.prog) rfl _ _ w.heap.size 77 _ (0, 0) _ rfl vR9.held Tryz.underlying77 rfl (by kernel_rfl)) rfl ?_
    exact .inr ⟨_, _, _, _, _, HYES.out, rfl, vB9, gW9⟩
  have q13 : (c == 13) = false := by simpa using k13
  by_cases k14 : c = 14
  · subst k14
    obtain ⟨d0, d1, d2, d3⟩ := Bk.c4 vX1
    go_wp2_with fail
    refine (numbers_one w1.heap.size 14 _ d0 (by omega)).mono ?_
    rintro e w2 ⟨g, rfl, vG2, hgl, hbm⟩
    have vX2 := vX1.below hbm
    have vR2 := vR1.below hbm
    have vB2 := vB1.below hbm
    have gW2 := gb_belowY gW1 hbm
    have hgl' : w1.heap.size < g := by simp at hgl; omega
    have g0 : w2.cell? ⟨g, 0, none⟩ = some (.pointer (some ⟨w1.heap.size, 1, none⟩)) := vG2.cell 0
    clear vX1 vR1 vB1 gW1 hbm d0 d1 d2 d3
    go_wp2
    refine wp_loop_rounds 2 ?_
    rw [rounds_succ]
    go_wp2_with fail
    refine (takeNum_gen B (En.rest s 1) _ vB2).mono ?_
    rintro e w3 ⟨A, ok, r3, rfl, vB3, hg3, HQ⟩
    have vX3 := vX2.gbY hg3 hneXB
    obtain ⟨f0, f1, f2, f3⟩ := vX3.f4
    have x1 : w3.cell? ⟨w1.heap.size, 1, none⟩ = some (.int .i64 0) := vX3.cell 1
    have vX4 : Bk w1.heap.size 77 #[.int .i64 14, .int .i64 A, .int .i64 0, .string ⟨#[]⟩] _ := vX3.set 1 (.int .i64 A)
    have vR4 := (vR2.gbY hg3 hneRB).oset w1.heap.size 1 (.int .i64 A) hRX
    have vB4 := vB3.oset w1.heap.size 1 (.int .i64 A) hBX
    have gW4 := gb_setY (grownBy_trans' gW2 hg3) w1.heap.size 1 (.int .i64 A) (by omega)
    clear vX2 vR2 vB2 gW2 vG2 hg3 vX3 vB3 g0
    cases ok
    · have HNO := Lib.hid (Jo.one_num_no (.inr HC.out) (HQ.out.2 rfl))
      clear HQ vX4
      obtain ⟨r0, r1, r2, r3⟩ := Bk.c4 vR4
      obtain ⟨z0, z1, z2, z3⟩ := vR4.f4
      have vR9 := Bk.store4 vR4 (.int .i64 0) (.int .i64 0) (.int .i64 0) (.string ⟨#[]⟩)
      have gW9 := gb_set4Y gW4 w.heap.size (Nat.le_refl _) (.int .i64 0) (.int .i64 0) (.int .i64 0) (.string ⟨#[]⟩)
      have vB9 := Bk.other4 vB4 w.heap.size hBR (.int .i64 0) (.int .i64 0) (.int .i64 0) (.string ⟨#[]⟩)
      clear vR4 gW4 vB4
      go_wp2
      refine bodyPost_ret (results_cell_tmp3Y (P := Tryz.prog) rfl _ _ w.heap.size 77 _ (0, 0) _ rfl vR9.held Tryz.underlying77 rfl (by kernel_rfl)) rfl ?_
      exact .inl ⟨HNO.out, ⟨_, _, _, _, _, rfl, vB9⟩, gW9⟩
    have HYES : Hid (Jo.one s = some (⟨14, A, 0, ⟨#[]⟩⟩, r3)) := Lib.hid (by
      have := Jo.one_num (.inr HC.out) (HQ.out.1 rfl)
      rw [HC.out] at this; exact this)
    obtain ⟨y0, y1, y2, y3⟩ := Bk.c4 vX4
    clear HQ vX4
    go_wp2
    clear f0 f1 f2 f3 x1
    rw [rounds_succ]
    obtain ⟨r0, r1, r2, r3⟩ := Bk.c4 vR4
    obtain ⟨z0, z1, z2, z3⟩ := vR4.f4
    have vR9 := Bk.store4 vR4 (.int .i64 14) (.int .i64 A) (.int .i64 0) (.string ⟨#[]⟩)
    have gW9 := gb_set4Y gW4 w.heap.size (Nat.le_refl _) (.int .i64 14) (.int .i64 A) (.int .i64 0) (.string ⟨#[]⟩)
    have vB9 := Bk.other4 vB4 w.heap.size hBR (.int .i64 14) (.int .i64 A) (.int .i64 0) (.string ⟨#[]⟩)
    clear vR4 gW4 vB4
    go_wp2
    refine bodyPost_ret (results_cell_tmp3Y (P := Tryz.prog) rfl _ _ w.heap.size 77 _ (0, 0) _ rfl vR9.held Tryz.underlying77 rfl (by kernel_rfl)) rfl ?_
    exact .inr ⟨_, _, _, _, _, HYES.out, rfl, vB9, gW9⟩
  have q14 : (c == 14) = false := by simpa using k14
  obtain ⟨d0, d1, d2, d3⟩ := Bk.c4 vX1
  have HYES : Hid (Jo.one s = some (⟨c, 0, 0, ⟨#[]⟩⟩, En.rest s 1)) := Lib.hid (by
    have := Jo.one_bare (r := s) (by rw [HC.out]; exact k0) (by rw [HC.out]; exact k12) (by rw [HC.out]; exact k13) (by rw [HC.out]; exact k14)
    rw [HC.out] at this; exact this)
  go_wp2_with fail
  refine (numbers_none w1.heap.size c _ d0 k12 k13 k14).mono ?_
  rintro e wn ⟨rfl, hwn⟩
  rw [← hwn] at vR1 gW1 vB1 d0 d1 d2 d3
  clear k0 k12 k13 k14 vX1 hwn
  go_wp2
  refine wp_loop_rounds 1 ?_
  rw [rounds_succ]
  obtain ⟨r0, r1, r2, r3⟩ := Bk.c4 vR1
  obtain ⟨z0, z1, z2, z3⟩ := vR1.f4
  have vR9 := Bk.store4 vR1 (.int .i64 c) (.int .i64 0) (.int .i64 0) (.string ⟨#[]⟩)
  have gW9 := gb_set4Y gW1 w.heap.size (Nat.le_refl _) (.int .i64 c) (.int .i64 0) (.int .i64 0) (.string ⟨#[]⟩)
  have vB9 := Bk.other4 vB1 w.heap.size hBR (.int .i64 c) (.int .i64 0) (.int .i64 0) (.string ⟨#[]⟩)
  clear vR1 gW1 vB1
  go_wp2
  refine bodyPost_ret (results_cell_tmp3Y (P := Tryz.prog) rfl _ _ w.heap.size 77 _ (0, 0) _ rfl vR9.held Tryz.underlying77 rfl (by kernel_rfl)) rfl ?_
  exact .inr ⟨_, _, _, _, _, HYES.out, rfl, vB9, gW9⟩
/-- What is left with the taker. -/
def Jo.leftT (B : Nat) (w : World) : Nat := match w.cell? ⟨B, 0, none⟩ with
  | some (.string r) => r.size
  | _ => 0
theorem Jo.leftT_eq {B : Nat} {w : World} {r : ByteArray} (h : Bk B 9 #[.string r] w) : Jo.leftT B w = r.size := by
  unfold Jo.leftT
  rw [show w.cell? ⟨B, 0, none⟩ = some (.string r) from h.cell 0]
theorem RdI.long {s r : ByteArray} {acc : List Jo} (h : RdI s acc r false) (hn : acc.length = 40) (hr : 0 < r.size) : Jo.read s = none := by
  have h1 := (h.1 rfl).1
  unfold Jo.all at h1
  unfold Jo.read
  rw [h1]
  cases hx : Jo.rd r.size r with
  | none => rfl
  | some l =>
    simp only
    rw [if_neg]
    intro hok
    have hl := ((Jo.ok_iff _).1 hok).1
    rw [List.length_append, hn] at hl
    have hl0 : l = [] := by
      cases l with
      | nil => rfl
      | cons a l => rw [List.length_cons] at hl; omega
    subst hl0
    have := Jo.bytes_rd _ _ _ hx
    rw [← this] at hr
    exact absurd hr (by decide)
theorem RdI.none_ {s r : ByteArray} {acc : List Jo} (h : RdI s acc r false) (hr : 0 < r.size) (h1 : Jo.one r = none) : Jo.read s = none := by
  have h2 := (h.1 rfl).1
  rw [Jo.all_none hr h1] at h2
  unfold Jo.all at h2
  unfold Jo.read
  rw [h2]
set_option maxRecDepth 100000 in
set_option maxHeartbeats 3200000 in
theorem implScriptRead_any (s : ByteArray) (w : World) (hs : s.size ≤ 1048576) : Calls Tryz.prog 61 #[.string s] w (JoRd s w) := by
  obtain ⟨i0, hi, hz0, hz1, hz2⟩ := info_parts info_op
  go_enter Tryz.func61, Tryz.ntmps61
  go_wp2_with fail
  refine (bytesOf_any s _).mono ?_
  rintro e w0 ⟨rfl, rfl⟩
  go_wp2
  go_loopw [6] (fun v wr => ∃ (acc : List Jo) (r : ByteArray), Hid (wr.ownsRow w.heap.size 77 4 v acc.length (Jo.cells acc)) ∧ Hid (Bk w.heap.size 9 #[.string r] wr) ∧ Hid (RdI s acc r false) ∧ Below w.heap.size w wr)
    (fun _ wr => Jo.leftT w.heap.size wr)
  case atStart => exact ⟨[], s, Lib.hid ⟨rfl, .inl ⟨rfl, rfl⟩⟩, Lib.hid (Bk.new _ _ _), Lib.hid (RdI.start s), (Below.refl _ _).alloc (Nat.le_refl _) _⟩
  case round =>
    obtain ⟨acc, r, HOWN, HR, HI, hbel⟩ := hrel
    have hE := str_empty_iff r
    have HLEFT := Lib.hid (Jo.leftT_eq HR.out)
    have hacc := HI.out.2.2
    obtain ⟨n, HN⟩ : ∃ n, Hid (acc.length = n) := ⟨_, Lib.hid rfl⟩
    rw [HN.out] at hacc HOWN
    obtain ⟨va, vc, rfl⟩ : ∃ va vc, u6 = .slice va n vc := by
      rcases HOWN.out.2 with ⟨h1, h2⟩ | ⟨g, cap', cur, h1, _⟩
      · exact ⟨none, 0, by rw [h1, h2]⟩
      · exact ⟨_, _, h1⟩
    go_wp2_with fail
    refine (rest_any w.heap.size r _ HR.out.held).mono ?_
    rintro e wx ⟨rfl, rfl⟩
    by_cases h0 : r.size = 0
    · have hne : r.toList.isEmpty = true := by rw [hE]; exact decide_eq_true h0
      have HD := Lib.hid (HI.out.done h0)
      have hol := OL.own HOWN.out
      have hcon := implScriptOk_any va n vc acc _ hol.2 (by omega)
      clear hE HI hol
      obtain ⟨f, HF⟩ : ∃ f, Hid (Jo.ok acc = f) := ⟨_, Lib.hid rfl⟩
      rw [HF.out] at hcon HD
      go_wp2_with fail
      refine hcon.mono ?_
      rintro e w1 ⟨rfl, hb1⟩
      have hbel1 := below_aft9 hbel hb1
      have HO1 : Hid (w1.ownsRow w.heap.size 77 4 (.slice va n vc) n (Jo.cells acc)) := Lib.hid (HOWN.out.kept (row := none) ⟨hb1.os, hb1.tape, hb1.output, hb1.size, fun q hq _ => hb1.block q hq⟩ (Classical.em _))
      clear hcon HOWN hb1 hbel
      cases f
      · go_wp2
        go_ret2
        exact .inl ⟨by rw [HD.out]; rfl, rfl, hbel1⟩
      · go_wp2
        go_ret2
        exact .inr ⟨acc, va, vc, by rw [HD.out]; rfl, by rw [HN.out]; rfl, by rw [HN.out]; exact HO1.out, hbel1⟩
    · have hne : r.toList.isEmpty = false := by rw [hE]; exact decide_eq_false h0
      have hpos : 0 < r.size := by omega
      have HP := Lib.hid hpos
      have hbs := hbel.size
      have hRlt := HR.out.lt
      have HNONE := Lib.hid (fun h => HI.out.none_ hpos h)
      have HLONG := Lib.hid (fun h => HI.out.long h hpos)
      have HST := Lib.hid (fun x r2 h => HI.out.step (x := x) (r2 := r2) (b := false) hpos (fun _ => h) (fun h => by cases h))
      clear hE h0
      go_wp2_with fail
      refine (takeOp_any w.heap.size r _ hpos HR.out).mono ?_
      rintro e w1 (⟨hno, ⟨c, a, b, t, r2, rfl, vB1⟩, hg1⟩ | ⟨c, a, b, t, r2, hyes, rfl, vB1, hg1⟩)
      · have HB := Lib.hid (HNONE.out hno)
        have hbel1 := ((Below.grown hbel hg1 hbs (fun j hj => by cases hj; exact Nat.le_refl _))).alloc (by have := hg1.size; omega) (.cells #[.int .i64 c, .int .i64 a, .int .i64 b, .string t] 77 (0, 0))
        clear HNONE HLONG HST hno HI HOWN
        go_wp2
        go_ret2
        exact .inl ⟨HB.out, rfl, hbel1⟩
      have hbel0 := Below.grown hbel hg1 hbs (fun j hj => by cases hj; exact Nat.le_refl _)
      have hbs1 := hbel0.size
      have hbel1 := hbel0.alloc hbs1 (.cells #[.int .i64 c, .int .i64 a, .int .i64 b, .string t] 77 (0, 0))
      by_cases hn : n = 40
      · have HB := Lib.hid (HLONG.out (HN.out.trans hn))
        subst hn
        clear HNONE HLONG HST hyes HI HOWN
        go_wp2
        go_ret2
        exact .inl ⟨HB.out, rfl, hbel1⟩
      have hn40 : ((n : Int) == 40) = false := by simpa using fun e : (n : Int) = 40 => hn (by omega)
      have hneR : (.slice va n vc : Value).ownBlock ≠ some w.heap.size := own_type HOWN.out (by decide) HR.out.held
      have HO1 := Lib.hid ((HOWN.out.kept (row := some w.heap.size) hg1 (.inr hneR)).alloc (.cells #[.int .i64 c, .int .i64 a, .int .i64 b, .string t] 77 (0, 0)))
      have vX1 := Bk.new w1 77 #[.int .i64 c, .int .i64 a, .int .i64 b, .string t]
      obtain ⟨y0, y1, y2, y3⟩ := Bk.c4 vX1
      have vB2 := Lib.hid (vB1.alloc (.cells #[.int .i64 c, .int .i64 a, .int .i64 b, .string t] 77 (0, 0)))
      have HYES := Lib.hid hyes
      have S1 := Lib.hid (four_new (w1.alloc (.cells #[.int .i64 c, .int .i64 a, .int .i64 b, .string t] 77 (0, 0))) (.int .i64 c) (.int .i64 a) (.int .i64 b) (.string t) 77 (w1.heap.size + 1) (by simp))
      have hsz := hbel1.size
      clear HNONE HLONG hyes HI HOWN hneR vX1 vB1 hg1
      go_wp2_with (at_builtin; refine wpList_append_own _ rfl _ _ 79 rfl w.heap.size 77 i0 (.agg #[.int .i64 0, .int .i64 0, .int .i64 0, .string ⟨#[]⟩]) 4 40 Tryz.underlying79 hi hz0 hz1 hz2 rfl (by decide) _ _ _ rfl (HO1.out.alloc (.cells #[.int .i64 c, .int .i64 a, .int .i64 b, .string t] 77 (0, 0))) ⟨w1.heap.size + 1, 0, none⟩ 1 1 [.int .i64 c, .int .i64 a, .int .i64 b, .string t] rfl rfl ?_ ?_ ?_ ?_ ?_ ?_)
      any_goals first | exact S1.out | (intro u hu; simp at hu; rcases hu with rfl | rfl | rfl | rfl <;> rfl) | (unfold maxLen; omega) | omega | exact Nat.le_trans hsz (by simp) | (simp; omega)
      intro v' w5 hown5 hgrow _
      have hneR : some w.heap.size ≠ (.slice va n vc : Value).ownBlock := fun h => own_type HO1.out (by decide) vB2.out.held h.symm
      have vB5 : Hid (Bk w.heap.size 9 #[.string r2] w5) := Lib.hid ((vB2.out.alloc _).gbY hgrow hneR)
      have HI5 := Lib.hid (HST.out _ _ HYES.out)
      have hown6 : Hid (w5.ownsRow w.heap.size 77 4 v' (acc ++ [(⟨c, a, b, t⟩ : Jo)]).length (Jo.cells (acc ++ [(⟨c, a, b, t⟩ : Jo)]))) := Lib.hid (by
        rw [List.length_append, HN.out, Jo.cells_append]
        exact hown5)
      have hbel5 : Below w.heap.size w w5 := (hbel1.alloc hsz (.cells #[.int .i64 c, .int .i64 a, .int .i64 b, .string t] 77 (0, 0))).grown hgrow (Nat.le_trans hsz (by simp)) (fun q hq => (HO1.out.lt _ hq).1)
      have HM5 := Lib.hid (show Jo.leftT w.heap.size w5 < _ by rw [Jo.leftT_eq vB5.out]; exact Nat.lt_of_lt_of_eq (Jo.one_size HP.out HYES.out) HLEFT.out.symm)
      clear hown5 hgrow hneR
      go_wp2
      go_roundw
      case rel => exact ⟨_, _, hown6, vB5, HI5, hbel5⟩
      case measure => exact HM5.out
end Go.Proofs.YtoocibabceeagabGreat
