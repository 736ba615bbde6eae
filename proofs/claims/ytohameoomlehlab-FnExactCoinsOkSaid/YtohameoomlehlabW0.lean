/-
  Contracts of the program's writer: a builder that lies in a struct; blocks of other types stay as they are.
-/
import Derived.Test.YtohameoomlehlabChecked
import Derived.Test.YtohameoomlehlabTs
import Derived.Test.YtohameoomlehlabDg
import Derived.Test.YtohameoomlehlabBk
import Derived.WalkKit
import Derived.WalkSpells
import Derived.Below
import Derived.OwnWalk
import Derived.Lib.Hide
import Derived.Lib.Builder
import Derived.Lib.AppendStr
import Derived.Lib.UnsafeStr
import Derived.Laws.Externs
namespace Go.Proofs.Ytohameoomlehlab
open Go.RowKit

theorem tw_size : (Try.prog.info? 70).map (·.size) = some 2 := by kernel_rfl
theorem tw_lies : liesAt Try.prog Try.prog.depth 72 (2 / Try.prog.cellsOf 72) 0 70 1 = true := by kernel_rfl
theorem tw_byte : (Try.prog.info? 5).map (fun i => (i.zero, i.size, i.bytes)) = some (some (.int .u8 0), 1, 1) := by kernel_rfl
/-- Blocks of another type than a byte's stay. -/
def TwKeep (b : Nat) (w w' : World) : Prop := ∀ D cs t fr, D ≠ b → t ≠ 5 → w.heap[D]? = some (.cells cs t fr) → w'.heap[D]? = some (.cells cs t fr)
theorem tw_other {w : World} {B n : Nat} {v : Value} {bs : List Value} {D : Nat} {cs : Array Value} {t : TypeId} {fr : Nat × Nat} (hown : w.ownsRow B 5 1 v n bs) (ht : t ≠ 5) (hD : w.heap[D]? = some (.cells cs t fr)) : v.ownBlock ≠ some D := by
  intro e
  rcases hown.2 with ⟨he, _⟩ | ⟨g, cap, cur, he, _, hh, _⟩
  · rw [he] at e; simp [Value.ownBlock] at e
  · rw [he] at e
    have hg : g = D := by simpa [Value.ownBlock] using e
    subst hg
    rw [hD] at hh
    cases hh
    exact ht rfl
theorem TwKeep.refl (b : Nat) (w : World) : TwKeep b w w := fun _ _ _ _ _ _ h => h
theorem TwKeep.trans {b : Nat} {w a c : World} (h : TwKeep b w a) (k : TwKeep b a c) : TwKeep b w c := fun D cs t fr h1 h2 h3 => k D cs t fr h1 h2 (h D cs t fr h1 h2 h3)
theorem TwKeep.of_below {b : Nat} {w a : World} (h : Below w.heap.size w a) : TwKeep b w a := fun D _ _ _ _ _ h3 => (h.block D (lt_of_block h3)).trans h3
theorem Bk.keepT {D : Nat} {t : TypeId} {cs : Array Value} {w w' : World} {b : Nat} (h : Bk D t cs w) (hk : TwKeep b w w') (hb : D ≠ b) (ht : t ≠ 5) : Bk D t cs w' := ⟨hk D cs t (0, 0) hb ht h.held⟩
abbrev IsTw (B b : Nat) (bs : List Value) (w : World) : Prop := Lib.IsBuilder 72 5 B b bs w
abbrev UsedTw (B b : Nat) (bs : List Value) (w : World) : Prop := Lib.BuilderAt 72 5 B b (.pointer (some ⟨b, 0, none⟩)) bs w

theorem tw_at_below {B b : Nat} {p : Value} {bs : List Value} {w w' : World} (h : Lib.BuilderAt 72 5 B b p bs w) (hb : Below w.heap.size w w') : Lib.BuilderAt 72 5 B b p bs w' := by
  have hlt := h.lt
  obtain ⟨hB, v, hbk, hown, hne⟩ := h
  refine ⟨hB, v, (hb.block b hlt).trans hbk, hown.kept (row := none) ⟨hb.os, hb.tape, hb.output, hb.size, fun k hk _ => hb.block k hk⟩ ?_, hne⟩
  cases hv : v.ownBlock with
  | none => exact .inl rfl
  | some k => exact .inr (by simp)
/-- A builder stays while only new blocks come. -/
theorem tw_below {B b : Nat} {bs : List Value} {w w' : World} (h : IsTw B b bs w) (hb : Below w.heap.size w w') : IsTw B b bs w' := by
  rcases h with h | h
  · exact .inl (tw_at_below h hb)
  · exact .inr (tw_at_below h hb)
set_option maxRecDepth 100000 in
set_option maxHeartbeats 1000000 in
theorem tw_copyCheck (B b : Nat) (bs : List Value) (w : World) (h : IsTw B b bs w) :
    Calls Try.prog 93 #[.pointer (some ⟨b, 0, none⟩)] w fun e w' => e = .returned (.tuple #[]) ∧ UsedTw B b bs w' ∧ Below B w w' ∧ w.grownBy w' (some b) := by
  obtain ⟨j, hj, hjs⟩ := Option.map_eq_some_iff.1 tw_size
  rcases h with h | h
  · have h0 := h.cell0
    have hsh := h.shape
    have hfz := h.frozen0
    have hU := h.used (.pointer (some ⟨b, 0, none⟩))
    have hBl := (Below.refl B w).setCell (p := ⟨b, 0, none⟩) h.1 (.pointer (some ⟨b, 0, none⟩))
    have hgr : w.grownBy (w.setCell ⟨b, 0, none⟩ (.pointer (some ⟨b, 0, none⟩))) (some b) := ⟨rfl, rfl, rfl, by simp [World.setCell], fun j _ hr => Below.heap_setCell _ _ _ _ (fun e => hr (by simp [e]))⟩
    clear h
    go_enter Try.func93, Try.ntmps93
    go_wp2
    rw [Lib.run_to_unsafe w ⟨b, 0, none⟩ Try.underlying67 Try.underlying132 hj (by rw [hjs]; decide) hsh (Nat.zero_lt_succ 1)]
    simp only [Result.andThen]
    rw [Oper.upon_value]
    go_wp2
    rw [run_callFunc_extern Try.func110 (by kernel_rfl) (by kernel_rfl) (by kernel_rfl) (e := Extern.AbiNoEscape.same) (by kernel_rfl)]
    rw [Lib.run_noEscape]
    simp only [Result.andThen]
    rw [Oper.upon_value]
    go_wp2
    rw [Lib.run_from_unsafe w ⟨b, 0, none⟩ Try.underlying132 Try.underlying67 hj hsh tw_lies]
    simp only [Result.andThen]
    rw [Oper.upon_value]
    go_wp2
    go_end0
    exact ⟨rfl, hU, hBl, hgr⟩
  · have h0 := h.cell0
    go_enter Try.func93, Try.ntmps93
    go_wp2
    rw [Lib.run_neq_ptr_same w _ Try.underlying67 hj]
    go_wp2
    go_end0
    exact ⟨rfl, h, Below.refl B _, World.grownBy.refl _ _⟩

set_option maxRecDepth 100000 in
set_option maxHeartbeats 1000000 in
theorem tw_WriteString (B b : Nat) (bs : List Value) (s : ByteArray) (w : World) (h : IsTw B b bs w) (hlen : bs.length ≤ 100000000) (hs : s.size ≤ 100000000) (hBw : B ≤ w.heap.size) :
    Calls Try.prog 94 #[.pointer (some ⟨b, 0, none⟩), .string s] w fun e w' => e = .returned (.tuple #[.int .i64 s.size, .nilIface]) ∧ UsedTw B b (bs ++ Lib.strCells s) w' ∧ Below B w w' ∧ TwKeep b w w' := by
  obtain ⟨i0, hi, hz0, hz1, hz2⟩ := info_parts tw_byte
  go_enter Try.func94, Try.ntmps94
  go_wp2_with fail
  refine (tw_copyCheck B b bs _ h).mono ?_
  rintro e w1 ⟨rfl, ⟨hB, v, hbk, hown, hne⟩, hb1, hg1⟩
  have c1 : w1.cell? ⟨b, 1, none⟩ = some v := by rw [Lib.cell_of_heap hbk]; rfl
  clear h
  go_wp2_with (at_builtin; refine Lib.wpList_append_own_string _ rfl _ _ 68 9 rfl B 5 i0 Try.underlying68 Try.underlying9 hi hz0 hz1 hz2 _ _ _ rfl hown s rfl ?c3 ?c4 ?c5 ?_)
  case c3 => unfold maxLen; omega
  case c4 => omega
  case c5 => have := hb1.size; omega
  intro v' w2 hown' hgrow _
  have hlt := Lib.BuilderAt.lt ⟨hB, v, hbk, hown, hne⟩
  have hb2 : w2.heap[b]? = some (.cells #[.pointer (some ⟨b, 0, none⟩), v] 72 (0, 0)) := by
    rw [hgrow.block b hlt (fun e => hne e.symm)]
    exact hbk
  have d1 : w2.cell? ⟨b, 1, none⟩ = some v := by rw [Lib.cell_of_heap hb2]; rfl
  have f1 : w2.frozen? ⟨b, 1, none⟩ = false := Lib.frozen_of_heap hb2 1
  have hfin := Lib.BuilderAt.put (T := 72) (e := 5) hB hb2 (bs' := bs ++ Lib.strCells s) (v' := v') (by simpa [Lib.strCells_length] using hown') (by decide)
  have hkp : TwKeep b w (w2.setCell ⟨b, 1, none⟩ v') := fun D cs t fr hDb ht hD => by
    have h1 : w1.heap[D]? = some (.cells cs t fr) := (hg1.block D (lt_of_block hD) (by simpa using hDb)).trans hD
    have h3 : some D ≠ v.ownBlock := fun e => tw_other hown ht h1 e.symm
    exact (Below.heap_setCell _ _ _ _ hDb).trans ((hgrow.block D (lt_of_block h1) h3).trans (h1))
  have hbel := (hb1.grown hgrow (by have := hb1.size; omega) (fun k hk => (hown.lt k hk).1)).setCell (p := ⟨b, 1, none⟩) hB v'
  obtain ⟨ao, n', cap, rfl⟩ : ∃ ao n' cap, v' = .slice ao n' cap := by
    rcases hown'.2 with ⟨hv, _⟩ | ⟨g, cap, cur, hv, _⟩
    · exact ⟨_, _, _, hv⟩
    · exact ⟨_, _, _, hv⟩
  clear hown hown' hgrow hb1 hbk c1
  go_wp2
  go_ret2
  exact ⟨rfl, hfin, hbel, hkp⟩
set_option maxRecDepth 100000 in
set_option maxHeartbeats 1000000 in
theorem tw_Write (B b : Nat) (bs : List Value) (ad : Addr) (m c : Nat) (news : List Value) (w : World) (h : IsTw B b bs w) (hlen : bs.length ≤ 100000000) (hm : m ≤ 100000000) (hl : news.length = m)
    (hnews : ∀ j u, news[j]? = some u → w.cell? (ad.add j) = some u) (h1 : ∀ u ∈ news, u.oneCell' = true) (hadb : ad.block ≠ b) (hBw : B ≤ w.heap.size) :
    Calls Try.prog 71 #[.pointer (some ⟨b, 0, none⟩), .slice (some ad) m c] w fun e w' => e = .returned (.tuple #[.int .i64 m, .nilIface]) ∧ UsedTw B b (bs ++ news) w' ∧ Below B w w' ∧ TwKeep b w w' := by
  obtain ⟨i0, hi, hz0, hz1, hz2⟩ := info_parts tw_byte
  have HN := Lib.hid hnews
  clear hnews
  go_enter Try.func71, Try.ntmps71
  go_wp2_with fail
  refine (tw_copyCheck B b bs _ h).mono ?_
  rintro e w1 ⟨rfl, ⟨hB, v, hbk, hown, hne⟩, hb1, hg1⟩
  have HW : Hid (∀ j u, news[j]? = some u → w1.cell? (ad.add j) = some u) := Lib.hid fun j u hj => hg1.cell (HN.out j u hj) (by
    have : (ad.add j).block = ad.block := by unfold Addr.add; split <;> rfl
    rw [this]
    simpa using hadb)
  have c1 : w1.cell? ⟨b, 1, none⟩ = some v := by rw [Lib.cell_of_heap hbk]; rfl
  clear h
  go_wp2_with (at_builtin; refine wpList_append_own _ rfl _ _ 68 rfl B 5 i0 (.int .u8 0) 1 1 Try.underlying68 hi hz0 hz1 hz2 rfl (by decide) _ _ _ rfl hown ad m c news rfl (by omega) HW.out h1 ?c3 ?c4 ?c5 ?_)
  case c3 => unfold maxLen; omega
  case c4 => omega
  case c5 => have := hb1.size; omega
  intro v' w2 hown' hgrow _
  have hlt := Lib.BuilderAt.lt ⟨hB, v, hbk, hown, hne⟩
  have hb2 : w2.heap[b]? = some (.cells #[.pointer (some ⟨b, 0, none⟩), v] 72 (0, 0)) := by
    rw [hgrow.block b hlt (fun e => hne e.symm)]
    exact hbk
  have d1 : w2.cell? ⟨b, 1, none⟩ = some v := by rw [Lib.cell_of_heap hb2]; rfl
  have f1 : w2.frozen? ⟨b, 1, none⟩ = false := Lib.frozen_of_heap hb2 1
  have hfin := Lib.BuilderAt.put (T := 72) (e := 5) hB hb2 (bs' := bs ++ news) (v' := v') (by simpa [hl] using hown') (by decide)
  have hkp : TwKeep b w (w2.setCell ⟨b, 1, none⟩ v') := fun D cs t fr hDb ht hD => by
    have h1 : w1.heap[D]? = some (.cells cs t fr) := (hg1.block D (lt_of_block hD) (by simpa using hDb)).trans hD
    have h3 : some D ≠ v.ownBlock := fun e => tw_other hown ht h1 e.symm
    exact (Below.heap_setCell _ _ _ _ hDb).trans ((hgrow.block D (lt_of_block h1) h3).trans (h1))
  have hbel := (hb1.grown hgrow (by have := hb1.size; omega) (fun k hk => (hown.lt k hk).1)).setCell (p := ⟨b, 1, none⟩) hB v'
  obtain ⟨ao, n', cap, rfl⟩ : ∃ ao n' cap, v' = .slice ao n' cap := by
    rcases hown'.2 with ⟨hv, _⟩ | ⟨g, cap, cur, hv, _⟩
    · exact ⟨_, _, _, hv⟩
    · exact ⟨_, _, _, hv⟩
  clear hown hown' hgrow hb1 hbk c1
  go_wp2
  go_ret2
  exact ⟨rfl, hfin, hbel, hkp⟩
theorem tw_lt {B b : Nat} {bs : List Value} {w : World} (h : IsTw B b bs w) : b < w.heap.size := by
  rcases h with h | h
  · exact h.lt
  · exact h.lt
theorem En.bytes_bdT (n : Int) (h0 : 0 ≤ n) (h1 : n ≤ 4294967295) : ∀ x ∈ En.bytes n, 0 ≤ x ∧ x < 256 := by
  unfold En.bytes
  split
  · intro x hx; simp at hx; omega
  · split
    · intro x hx; simp at hx; omega
    · intro x hx; simp at hx; omega
theorem En.cells_numT (n : Int) (h0 : 0 ≤ n) (h1 : n ≤ 4294967295) : (En.bytes n).map (Value.int .u8) = Lib.strCells (En.num n) := by
  unfold Lib.strCells En.num
  rw [strOfNums_data, List.map_map]
  refine List.map_congr_left fun x hx => ?_
  have hb := En.bytes_bdT n h0 h1 x hx
  simp only [Function.comp_apply]
  rw [En.u8 hb.1 hb.2]
theorem En.cells_appendT (s t : ByteArray) : Lib.strCells (s ++ t) = Lib.strCells s ++ Lib.strCells t := by
  unfold Lib.strCells
  rw [ByteArray.data_append, Array.toList_append, List.map_append]
theorem new_cellsT (w : World) (vs : List Value) (t : TypeId) (B : Nat) (hB : B = w.heap.size) : ∀ j u, vs[j]? = some u → (w.alloc (.cells vs.toArray t)).cell? ((⟨B, 0, none⟩ : Addr).add j) = some u := by
  subst hB
  intro j u hj
  have hadr : (⟨w.heap.size, 0, none⟩ : Addr).add j = ⟨w.heap.size, j, none⟩ := by unfold Addr.add; split <;> simp_all
  rw [hadr]
  exact (World.cell?_alloc_mark w vs.toArray t (0, 0) j).trans (by simpa using hj)
theorem En.bytes_lenT (n : Int) : (En.bytes n).length ≤ 5 := by
  unfold En.bytes
  split
  · simp
  · split
    · simp
    · simp
/-- What is left of a writer into which s is written. -/
def TwQ (B : Nat) (O s : ByteArray) (w : World) (e : Ending) (w' : World) : Prop :=
  e = .returned (.tuple #[]) ∧ IsTw B B (Lib.strCells (O ++ s)) w' ∧ Below B w w' ∧ TwKeep B w w'
set_option maxRecDepth 100000 in
set_option maxHeartbeats 1600000 in
theorem tw_number (B : Nat) (O : ByteArray) (x : Int) (w : World) (h : IsTw B B (Lib.strCells O) w) (hO : O.size ≤ 100000) (h0 : 0 ≤ x) (h4 : x ≤ 4294967295) :
    Calls Try.prog 50 #[.pointer (some ⟨B, 0, none⟩), .int .i64 x] w (TwQ B O (En.num x) w) := by
  have hl := En.bytes_lenT x
  have hlt := tw_lt h
  have hcon := tw_Write B B (Lib.strCells O) ⟨w.drew.heap.size, 0, none⟩ (En.bytes x).length (En.bytes x).length ((En.bytes x).map (Value.int .u8)) (w.drew.alloc (.cells ((En.bytes x).map (Value.int .u8)).toArray 5)) (tw_below (w := w.drew) h ((Below.refl _ _).alloc (Nat.le_refl _) _)) (by rw [Lib.strCells_length]; omega) (by omega) (by simp) (new_cellsT w.drew _ _ _ rfl) (by intro u hu; simp at hu; obtain ⟨x, _, rfl⟩ := hu; rfl) (by simp; omega) (by simp; omega)
  rw [En.cells_numT x h0 h4, ← En.cells_appendT, ← En.cells_numT x h0 h4] at hcon
  have HC : Hid (Calls Try.prog 71 #[.pointer (some ⟨B, 0, none⟩), .slice (some ⟨w.drew.heap.size, 0, none⟩) (En.bytes x).length (En.bytes x).length] (w.drew.alloc (.cells ((En.bytes x).map (Value.int .u8)).toArray 5)) fun e w' => e = .returned (.tuple #[.int .i64 (En.bytes x).length, .nilIface]) ∧ IsTw B B (Lib.strCells (O ++ En.num x)) w' ∧ Below B w w' ∧ TwKeep B w w') := Lib.hid (hcon.mono fun e w' ⟨he, hT, hb, hk⟩ => ⟨he, .inr hT, (((Below.refl B w).drew).alloc (by simp; omega) _).trans hb, (TwKeep.of_below (((Below.refl w.heap.size w).drew).alloc (by simp) _)).trans hk⟩)
  unfold TwQ
  clear h hcon
  go_enter Try.func50, Try.ntmps50
  go_wp2_with fail
  go_region_with (first
    | (go_at_call 72; refine (numBytes_any x _ h0 h4).mono ?_; rintro e w1 ⟨rfl, rfl⟩)
    | (go_at_call 71; refine HC.out.mono ?_; rintro e w2 ⟨rfl, hT, hb, hk⟩))
  all_goals
    go_wp2
    go_end0
    exact ⟨rfl, hT, hb, hk⟩
set_option maxRecDepth 100000 in
set_option maxHeartbeats 1600000 in
theorem tw_str (B : Nat) (O s : ByteArray) (w : World) (h : IsTw B B (Lib.strCells O) w) (hO : O.size ≤ 100000) (hs : s.size ≤ 100000) :
    Calls Try.prog 94 #[.pointer (some ⟨B, 0, none⟩), .string s] w fun e w' => e = .returned (.tuple #[.int .i64 s.size, .nilIface]) ∧ IsTw B B (Lib.strCells (O ++ s)) w' ∧ Below B w w' ∧ TwKeep B w w' := by
  refine (tw_WriteString B B (Lib.strCells O) s w h (by rw [Lib.strCells_length]; omega) (by omega) (Nat.le_of_lt (tw_lt h))).mono ?_
  rintro e w' ⟨he, hT, hb, hk⟩
  exact ⟨he, .inr (by rw [En.cells_appendT]; exact hT), hb, hk⟩
set_option maxRecDepth 100000 in
set_option maxHeartbeats 1600000 in
theorem tw_digest (B : Nat) (O : ByteArray) (x : Int) (w : World) (h : IsTw B B (Lib.strCells O) w) (hO : O.size ≤ 100000) (h0 : 0 ≤ x) (h4 : x ≤ 4294967295) :
    Calls Try.prog 73 #[.pointer (some ⟨B, 0, none⟩), .int .i64 x] w (TwQ B O (Dg.bytes x) w) := by
  have hlt := tw_lt h
  have hz := Dg.bytes_size x
  have HH := Lib.hid h
  unfold TwQ
  obtain ⟨X, HX⟩ : ∃ X, Hid (Dg.bytes x = X) := ⟨_, Lib.hid rfl⟩
  have hc1 := implDigestBytes_ok x w.drew h0 h4
  rw [HX.out] at hc1 hz ⊢
  have HC1 := Lib.hid hc1
  have HC2 : Hid (∀ W, Below w.drew.heap.size w.drew W → Calls Try.prog 94 #[.pointer (some ⟨B, 0, none⟩), .string X] W fun e w' => e = .returned (.tuple #[.int .i64 X.size, .nilIface]) ∧ IsTw B B (Lib.strCells (O ++ X)) w' ∧ Below B w w' ∧ TwKeep B w w') := Lib.hid fun W hW =>
    (tw_str B O X W (tw_below (w := w.drew) HH.out hW) hO (by omega)).mono fun e w' ⟨he, hT, hb, hk⟩ => ⟨he, hT, ((Below.refl B w).drew.trans (hW.mono (Nat.le_of_lt hlt))).trans hb, (TwKeep.of_below (((Below.refl w.heap.size w).drew).trans hW)).trans hk⟩
  clear h hc1
  go_enter Try.func73, Try.ntmps73
  go_wp2_with fail
  go_region_with (first
    | (go_at_call 95; refine HC1.out.mono ?_; rintro e w1 ⟨rfl, hb1⟩)
    | (go_at_call 94; refine (HC2.out _ hb1).mono ?_; rintro e w2 ⟨rfl, hT, hb, hk⟩))
  all_goals
    go_wp2
    go_end0
    exact ⟨rfl, hT, hb, hk⟩
set_option maxRecDepth 100000 in
set_option maxHeartbeats 1600000 in
theorem tw_text (B : Nat) (O s : ByteArray) (w : World) (h : IsTw B B (Lib.strCells O) w) (hO : O.size ≤ 90000) (hs : s.size ≤ 4000) :
    Calls Try.prog 74 #[.pointer (some ⟨B, 0, none⟩), .string s] w (TwQ B O (En.text s) w) := by
  have hlt := tw_lt h
  have hz := En.text_size s hs
  have HH := Lib.hid h
  unfold TwQ
  obtain ⟨X, HX⟩ : ∃ X, Hid (En.text s = X) := ⟨_, Lib.hid rfl⟩
  have hc1 := implEncodeText_ok s w (by omega)
  rw [HX.out] at hc1 hz ⊢
  have HC1 := Lib.hid hc1
  clear h hc1
  go_enter Try.func74, Try.ntmps74
  go_wp2_with fail
  refine HC1.out.mono ?_
  rintro e w1 ⟨rfl, hb1⟩
  have hcon := tw_str B O X w1 (tw_below HH.out hb1) (by omega) (by omega)
  have hk1 : TwKeep B w w1 := TwKeep.of_below hb1
  have hbB := hb1.mono (Nat.le_of_lt hlt)
  go_wp2_with fail
  refine hcon.mono ?_
  rintro e w2 ⟨rfl, hT, hb2, hk2⟩
  have hb := hbB.trans hb2
  have hk := hk1.trans hk2
  clear hb1 hk1 hb2 hk2 hbB hcon
  go_wp2
  go_end0
  exact ⟨rfl, hT, hb, hk⟩
set_option maxRecDepth 100000 in
set_option maxHeartbeats 1600000 in
/-- What a writer holds, as a string (it holds at least one byte). -/
theorem tw_String (B : Nat) (O : ByteArray) (w : World) (h : IsTw B B (Lib.strCells O) w) (h0 : O.size ≠ 0) (hO : O.size ≤ 100000) :
    Calls Try.prog 52 #[.pointer (some ⟨B, 0, none⟩)] w fun e w' => e = .returned (.string O) ∧ Below B w w' := by
  obtain ⟨p, hB, v, hbk, hown, hne⟩ : ∃ p, Lib.BuilderAt 72 5 B B p (Lib.strCells O) w := by
    rcases h with h | h
    · exact ⟨_, h⟩
    · exact ⟨_, h⟩
  obtain ⟨l, hl⟩ : ∃ l, O.data.toList = l := ⟨_, rfl⟩
  have hcells : Lib.strCells O = Lib.byteCells l := by rw [← hl]; rfl
  have hll : l.length = O.size := by rw [← hl]; rfl
  have hO2 : (⟨l.toArray⟩ : ByteArray) = O := by rw [← hl]
  rw [hcells] at hown
  rw [Lib.byteCells_length] at hown
  obtain ⟨g, cap, cur, rfl, hbg, hg, hnc, hcm, hcs, htake⟩ : ∃ g cap cur, v = .slice (some ⟨g, 0, none⟩) l.length cap ∧ B ≤ g ∧ w.heap[g]? = some (.cells cur 5 (0, 0)) ∧ l.length ≤ cap ∧ cap ≤ maxLen ∧ cur.size = cap * 1 ∧ cur.toList.take (l.length * 1) = Lib.byteCells l := by
    rcases hown.2 with ⟨_, hz⟩ | ⟨g, cap, cur, hv, r⟩
    · omega
    · exact ⟨g, cap, cur, hv, r⟩
  have c1 : w.drew.cell? ⟨B, 1, none⟩ = some (.slice (some ⟨g, 0, none⟩) l.length cap) := by
    have : w.drew.heap[B]? = some (.cells #[p, .slice (some ⟨g, 0, none⟩) l.length cap] 72 (0, 0)) := hbk
    rw [Lib.cell_of_heap this]; rfl
  have hSD : (Builtin.unsafeSliceData_ #[68] 110 #[.slice (some ⟨g, 0, none⟩) l.length cap]).run Try.prog w.drew = .ok (.pointer (some ⟨g, 0, none⟩)) w.drew :=
    Lib.run_unsafeSliceData_row _ _ _ _ _ _ (by omega)
  have hUS : (Builtin.unsafeString_ #[110, 3] 9 #[.pointer (some ⟨g, 0, none⟩), .int .i64 l.length]).run Try.prog w.drew = .ok (.string O) (w.drew.freeze ⟨g, 0, none⟩ l.length) := by
    rw [← hO2]
    refine Lib.run_unsafeString_row w.drew 110 3 9 5 Try.underlying110 (by kernel_rfl) g cur.size (by have hg' : w.drew.heap[g]? = some (.cells cur 5 (0, 0)) := hg; simp [World.shape?, hg']) l (by intro hn; rw [hn] at hll; simp at hll; omega) (by omega) (by unfold maxLen at hcm; omega) ?_
    intro j x hx
    exact hown.cells (g := g) rfl j (.int .u8 x.toNat) (by simp [Lib.byteCells, hx])
  obtain ⟨n, hn⟩ : ∃ n, l.length = n := ⟨_, rfl⟩
  rw [hn] at c1 hSD hUS
  clear hown htake hcells hO2 h hbk hl
  go_enter Try.func52, Try.ntmps52
  go_wp2
  go_region
  all_goals (go_wp2; go_ret; exact ⟨rfl, Lib.below_freeze (Below.drew (Below.refl B w)) (p := ⟨g, 0, none⟩) hbg _⟩)
theorem tw_fresh (w : World) (B : Nat) (hB : B = w.heap.size) : IsTw B B (Lib.strCells ByteArray.empty) (w.alloc (.cells #[.pointer none, .slice none 0 0] 72)) := by
  subst hB
  exact Lib.fresh_isBuilder _ _ _
theorem En.size_num_pos13 (n : Int) : 1 ≤ (En.num n).size := by
  unfold En.num
  rw [strOfNums_size]
  unfold En.bytes
  split
  · simp
  · split <;> simp
end Go.Proofs.Ytohameoomlehlab
