/-
  Contracts of strings.Builder's writers at this translation (go1.27's text): blocks of other types stay as they are.
-/
import Derived.Test.YtpldoffjclmacaaBd
namespace Go.Proofs.Ytpldoffjclmacaa
open Go.RowKit

/-- Blocks of another type than a byte's stay. -/
def BdKeep (b : Nat) (w w' : World) : Prop := ∀ D cs t fr, D ≠ b → t ≠ 5 → w.heap[D]? = some (.cells cs t fr) → w'.heap[D]? = some (.cells cs t fr)
theorem own_other {w : World} {B n : Nat} {v : Value} {bs : List Value} {D : Nat} {cs : Array Value} {t : TypeId} {fr : Nat × Nat} (hown : w.ownsRow B 5 1 v n bs) (ht : t ≠ 5) (hD : w.heap[D]? = some (.cells cs t fr)) : v.ownBlock ≠ some D := by
  intro e
  rcases hown.2 with ⟨he, _⟩ | ⟨g, cap, cur, he, _, hh, _⟩
  · rw [he] at e; simp [Value.ownBlock] at e
  · rw [he] at e
    have hg : g = D := by simpa [Value.ownBlock] using e
    subst hg
    rw [hD] at hh
    cases hh
    exact ht rfl
set_option maxRecDepth 100000 in
set_option maxHeartbeats 1000000 in
theorem be_WriteByte (B b : Nat) (bs : List Value) (c : Int) (w : World) (h : IsBd B b bs w) (hlen : bs.length ≤ 100000000) (hBw : B ≤ w.heap.size) :
    Calls Try.prog 24 #[.pointer (some ⟨b, 0, none⟩), .int .u8 c] w fun e w' => e = .returned .nilIface ∧ UsedBd B b (bs ++ [.int .u8 c]) w' ∧ Below B w w' ∧ BdKeep b w w' := by
  obtain ⟨i0, hi, hz0, hz1, hz2⟩ := info_parts bd_byte
  go_enter Try.func24, Try.ntmps24
  go_wp2_with fail
  refine (bd_copyCheck B b bs _ h).mono ?_
  rintro e w1 ⟨rfl, ⟨hB, v, hbk, hown, hne⟩, hb1, hg1⟩
  have c1 : w1.cell? ⟨b, 1, none⟩ = some v := by rw [Lib.cell_of_heap hbk]; rfl
  clear h
  go_wp2_with (at_builtin; refine wpList_append_own _ rfl _ _ 22 rfl B 5 i0 (.int .u8 0) 1 1 Try.underlying22 hi hz0 hz1 hz2 rfl (by decide) _ _ _ rfl (hown.alloc _) ⟨w1.heap.size, 0, none⟩ 1 1 [.int .u8 c] rfl rfl ?c1 ?c2 ?c3 ?c4 ?c5 ?_)
  case c1 =>
    intro j u hj
    match j, hj with
    | 0, hj => simp at hj; subst hj; simp [Addr.add]
  case c2 => intro u hu; simp at hu; subst hu; rfl
  case c3 => unfold maxLen; omega
  case c4 => omega
  case c5 => have := hb1.size; simp; omega
  intro v' w2 hown' hgrow _
  have hlt := Lib.BuilderAt.lt ⟨hB, v, hbk, hown, hne⟩
  have hb2 : w2.heap[b]? = some (.cells #[.pointer (some ⟨b, 0, none⟩), v] 44 (0, 0)) := by
    rw [hgrow.block b (by simp; omega) (fun e => hne e.symm), Below.heap_alloc w1 _ b hlt]
    exact hbk
  have d1 : w2.cell? ⟨b, 1, none⟩ = some v := by rw [Lib.cell_of_heap hb2]; rfl
  have f1 : w2.frozen? ⟨b, 1, none⟩ = false := Lib.frozen_of_heap hb2 1
  have hfin := Lib.BuilderAt.put (T := 44) (e := 5) hB hb2 (bs' := bs ++ [.int .u8 c]) (v' := v') (by simpa using hown') (by decide)
  have hkp : BdKeep b w (w2.setCell ⟨b, 1, none⟩ v') := fun D cs t fr hDb ht hD => by
    have h1 : w1.heap[D]? = some (.cells cs t fr) := (hg1.block D (lt_of_block hD) (by simpa using hDb)).trans hD
    have h3 : some D ≠ v.ownBlock := fun e => own_other hown ht h1 e.symm
    exact (Below.heap_setCell _ _ _ _ hDb).trans ((hgrow.block D (by simp; have := lt_of_block h1; omega) h3).trans ((Below.heap_alloc w1 _ D (lt_of_block h1)).trans h1))
  have hbel := ((hb1.alloc (by have := hb1.size; omega) (.cells #[.int .u8 c] 5)).grown hgrow (by have := hb1.size; simp; omega) (fun k hk => (hown.lt k hk).1)).setCell (p := ⟨b, 1, none⟩) hB v'
  obtain ⟨g, cap, rfl⟩ : ∃ g cap, v' = .slice (some ⟨g, 0, none⟩) (bs.length + 1) cap := by
    rcases hown'.2 with ⟨_, h0⟩ | ⟨g, cap, cur, hv, _⟩
    · omega
    · exact ⟨g, cap, hv⟩
  clear hown hown' hgrow hb1 hbk c1
  go_wp2
  go_ret
  exact ⟨rfl, hfin, hbel, hkp⟩
set_option maxRecDepth 100000 in
set_option maxHeartbeats 1000000 in
theorem be_WriteString (B b : Nat) (bs : List Value) (s : ByteArray) (w : World) (h : IsBd B b bs w) (hlen : bs.length ≤ 100000000) (hs : s.size ≤ 100000000) (hBw : B ≤ w.heap.size) :
    Calls Try.prog 27 #[.pointer (some ⟨b, 0, none⟩), .string s] w fun e w' => e = .returned (.tuple #[.int .i64 s.size, .nilIface]) ∧ UsedBd B b (bs ++ Lib.strCells s) w' ∧ Below B w w' ∧ BdKeep b w w' := by
  obtain ⟨i0, hi, hz0, hz1, hz2⟩ := info_parts bd_byte
  go_enter Try.func27, Try.ntmps27
  go_wp2_with fail
  refine (bd_copyCheck B b bs _ h).mono ?_
  rintro e w1 ⟨rfl, ⟨hB, v, hbk, hown, hne⟩, hb1, hg1⟩
  have c1 : w1.cell? ⟨b, 1, none⟩ = some v := by rw [Lib.cell_of_heap hbk]; rfl
  clear h
  go_wp2_with (at_builtin; refine Lib.wpList_append_own_string _ rfl _ _ 22 9 rfl B 5 i0 Try.underlying22 Try.underlying9 hi hz0 hz1 hz2 _ _ _ rfl hown s rfl ?c3 ?c4 ?c5 ?_)
  case c3 => unfold maxLen; omega
  case c4 => omega
  case c5 => have := hb1.size; omega
  intro v' w2 hown' hgrow _
  have hlt := Lib.BuilderAt.lt ⟨hB, v, hbk, hown, hne⟩
  have hb2 : w2.heap[b]? = some (.cells #[.pointer (some ⟨b, 0, none⟩), v] 44 (0, 0)) := by
    rw [hgrow.block b hlt (fun e => hne e.symm)]
    exact hbk
  have d1 : w2.cell? ⟨b, 1, none⟩ = some v := by rw [Lib.cell_of_heap hb2]; rfl
  have f1 : w2.frozen? ⟨b, 1, none⟩ = false := Lib.frozen_of_heap hb2 1
  have hfin := Lib.BuilderAt.put (T := 44) (e := 5) hB hb2 (bs' := bs ++ Lib.strCells s) (v' := v') (by simpa [Lib.strCells_length] using hown') (by decide)
  have hkp : BdKeep b w (w2.setCell ⟨b, 1, none⟩ v') := fun D cs t fr hDb ht hD => by
    have h1 : w1.heap[D]? = some (.cells cs t fr) := (hg1.block D (lt_of_block hD) (by simpa using hDb)).trans hD
    have h3 : some D ≠ v.ownBlock := fun e => own_other hown ht h1 e.symm
    exact (Below.heap_setCell _ _ _ _ hDb).trans ((hgrow.block D (lt_of_block h1) h3).trans (h1))
  have hbel := (hb1.grown hgrow (by have := hb1.size; omega) (fun k hk => (hown.lt k hk).1)).setCell (p := ⟨b, 1, none⟩) hB v'
  obtain ⟨ao, n', cap, rfl⟩ : ∃ ao n' cap, v' = .slice ao n' cap := by
    rcases hown'.2 with ⟨hv, _⟩ | ⟨g, cap, cur, hv, _⟩
    · exact ⟨_, _, _, hv⟩
    · exact ⟨_, _, _, hv⟩
  clear hown hown' hgrow hb1 hbk c1
  go_wp2
  go_ret2
  exact ⟨rfl, hfin, hbel, hkp⟩
set_option maxRecDepth 100000 in
set_option maxHeartbeats 1000000 in
theorem be_Write (B b : Nat) (bs : List Value) (ad : Addr) (m c : Nat) (news : List Value) (w : World) (h : IsBd B b bs w) (hlen : bs.length ≤ 100000000) (hm : m ≤ 100000000) (hl : news.length = m)
    (hnews : ∀ j u, news[j]? = some u → w.cell? (ad.add j) = some u) (h1 : ∀ u ∈ news, u.oneCell' = true) (hadb : ad.block ≠ b) (hBw : B ≤ w.heap.size) :
    Calls Try.prog 25 #[.pointer (some ⟨b, 0, none⟩), .slice (some ad) m c] w fun e w' => e = .returned (.tuple #[.int .i64 m, .nilIface]) ∧ UsedBd B b (bs ++ news) w' ∧ Below B w w' ∧ BdKeep b w w' := by
  obtain ⟨i0, hi, hz0, hz1, hz2⟩ := info_parts bd_byte
  have HN := Lib.hid hnews
  clear hnews
  go_enter Try.func25, Try.ntmps25
  go_wp2_with fail
  refine (bd_copyCheck B b bs _ h).mono ?_
  rintro e w1 ⟨rfl, ⟨hB, v, hbk, hown, hne⟩, hb1, hg1⟩
  have HW : Hid (∀ j u, news[j]? = some u → w1.cell? (ad.add j) = some u) := Lib.hid fun j u hj => hg1.cell (HN.out j u hj) (by
    have : (ad.add j).block = ad.block := by unfold Addr.add; split <;> rfl
    rw [this]
    simpa using hadb)
  have c1 : w1.cell? ⟨b, 1, none⟩ = some v := by rw [Lib.cell_of_heap hbk]; rfl
  clear h
  go_wp2_with (at_builtin; refine wpList_append_own _ rfl _ _ 22 rfl B 5 i0 (.int .u8 0) 1 1 Try.underlying22 hi hz0 hz1 hz2 rfl (by decide) _ _ _ rfl hown ad m c news rfl (by omega) HW.out h1 ?c3 ?c4 ?c5 ?_)
  case c3 => unfold maxLen; omega
  case c4 => omega
  case c5 => have := hb1.size; omega
  intro v' w2 hown' hgrow _
  have hlt := Lib.BuilderAt.lt ⟨hB, v, hbk, hown, hne⟩
  have hb2 : w2.heap[b]? = some (.cells #[.pointer (some ⟨b, 0, none⟩), v] 44 (0, 0)) := by
    rw [hgrow.block b hlt (fun e => hne e.symm)]
    exact hbk
  have d1 : w2.cell? ⟨b, 1, none⟩ = some v := by rw [Lib.cell_of_heap hb2]; rfl
  have f1 : w2.frozen? ⟨b, 1, none⟩ = false := Lib.frozen_of_heap hb2 1
  have hfin := Lib.BuilderAt.put (T := 44) (e := 5) hB hb2 (bs' := bs ++ news) (v' := v') (by simpa [hl] using hown') (by decide)
  have hkp : BdKeep b w (w2.setCell ⟨b, 1, none⟩ v') := fun D cs t fr hDb ht hD => by
    have h1 : w1.heap[D]? = some (.cells cs t fr) := (hg1.block D (lt_of_block hD) (by simpa using hDb)).trans hD
    have h3 : some D ≠ v.ownBlock := fun e => own_other hown ht h1 e.symm
    exact (Below.heap_setCell _ _ _ _ hDb).trans ((hgrow.block D (lt_of_block h1) h3).trans (h1))
  have hbel := (hb1.grown hgrow (by have := hb1.size; omega) (fun k hk => (hown.lt k hk).1)).setCell (p := ⟨b, 1, none⟩) hB v'
  obtain ⟨ao, n', cap, rfl⟩ : ∃ ao n' cap, v' = .slice ao n' cap := by
    rcases hown'.2 with ⟨hv, _⟩ | ⟨g, cap, cur, hv, _⟩
    · exact ⟨_, _, _, hv⟩
    · exact ⟨_, _, _, hv⟩
  clear hown hown' hgrow hb1 hbk c1
  go_wp2
  go_ret2
  exact ⟨rfl, hfin, hbel, hkp⟩
end Go.Proofs.Ytpldoffjclmacaa
