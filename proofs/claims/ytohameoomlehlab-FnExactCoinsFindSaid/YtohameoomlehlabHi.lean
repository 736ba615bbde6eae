import Derived.Test.YtohameoomlehlabChecked
import Derived.WalkKit
import Derived.WalkSpells
import Derived.Below
import Derived.OwnWalk
import Derived.Lib.Hide
import Derived.Lib.Builder
import Derived.Lib.AppendStr
import Derived.Laws.Externs
import Derived.Test.YtohameoomlehlabEn
import Derived.Test.YtohameoomlehlabOw
import Derived.LoopTactic
import Derived.Lib.Bytealg
import Derived.Lib.UnsafeStr
import Derived.Deep.RegionLaw
import Derived.Deep.QuietTactic
import Derived.BigQuiet
import Derived.Outline
/-
  Contracts of strings.Builder's writers at this translation (go1.27's text).
-/
namespace Go.Proofs.Ytohameoomlehlab
open Go.RowKit

theorem bd_size : (Try.prog.info? 70).map (·.size) = some 2 := by kernel_rfl
theorem bd_lies : liesAt Try.prog Try.prog.depth 70 (2 / Try.prog.cellsOf 70) 0 70 1 = true := by kernel_rfl
theorem bd_byte : (Try.prog.info? 5).map (fun i => (i.zero, i.size, i.bytes)) = some (some (.int .u8 0), 1, 1) := by kernel_rfl
abbrev IsBd (B b : Nat) (bs : List Value) (w : World) : Prop := Lib.IsBuilder 70 5 B b bs w
abbrev UsedBd (B b : Nat) (bs : List Value) (w : World) : Prop := Lib.BuilderAt 70 5 B b (.pointer (some ⟨b, 0, none⟩)) bs w

theorem bd_at_below {B b : Nat} {p : Value} {bs : List Value} {w w' : World} (h : Lib.BuilderAt 70 5 B b p bs w) (hb : Below w.heap.size w w') : Lib.BuilderAt 70 5 B b p bs w' := by
  have hlt := h.lt
  obtain ⟨hB, v, hbk, hown, hne⟩ := h
  refine ⟨hB, v, (hb.block b hlt).trans hbk, hown.kept (row := none) ⟨hb.os, hb.tape, hb.output, hb.size, fun k hk _ => hb.block k hk⟩ ?_, hne⟩
  cases hv : v.ownBlock with
  | none => exact .inl rfl
  | some k => exact .inr (by simp)
/-- A builder stays while only new blocks come. -/
theorem bd_below {B b : Nat} {bs : List Value} {w w' : World} (h : IsBd B b bs w) (hb : Below w.heap.size w w') : IsBd B b bs w' := by
  rcases h with h | h
  · exact .inl (bd_at_below h hb)
  · exact .inr (bd_at_below h hb)
set_option maxRecDepth 100000 in
set_option maxHeartbeats 1000000 in
theorem bd_copyCheck (B b : Nat) (bs : List Value) (w : World) (h : IsBd B b bs w) :
    Calls Try.prog 93 #[.pointer (some ⟨b, 0, none⟩)] w fun e w' => e = .returned (.tuple #[]) ∧ UsedBd B b bs w' ∧ Below B w w' ∧ w.grownBy w' (some b) := by
  obtain ⟨j, hj, hjs⟩ := Option.map_eq_some_iff.1 bd_size
  rcases h with h | h
  · have h0 := h.cell0
    have hsh := h.shape
    have hfz := h.frozen0
    have hU := h.used (.pointer (some ⟨b, 0, none⟩))
    have hBl := (Below.refl B w).setCell (p := ⟨b, 0, none⟩) h.1 (.pointer (some ⟨b, 0, none⟩))
    have hgr : w.grownBy (w.setCell ⟨b, 0, none⟩ (.pointer (some ⟨b, 0, none⟩))) (some b) := ⟨rfl, rfl, rfl, by simp [World.setCell], fun j _ hr => Below.heap_setCell _ _ _ _ (fun e => hr (by simp [e]))⟩
    clear h
    go_enter Try.func93, Try.ntmps93
    go_wp2
    rw [Lib.run_to_unsafe w ⟨b, 0, none⟩ Try.underlying67 Try.underlying132 hj (by rw [hjs]; decide) hsh (Nat.zero_lt_succ 1)]
    simp only [Result.andThen]
    rw [Oper.upon_value]
    go_wp2
    rw [run_callFunc_extern Try.func110 (by kernel_rfl) (by kernel_rfl) (by kernel_rfl) (e := Extern.AbiNoEscape.same) (by kernel_rfl)]
    rw [Lib.run_noEscape]
    simp only [Result.andThen]
    rw [Oper.upon_value]
    go_wp2
    rw [Lib.run_from_unsafe w ⟨b, 0, none⟩ Try.underlying132 Try.underlying67 hj hsh bd_lies]
    simp only [Result.andThen]
    rw [Oper.upon_value]
    go_wp2
    go_end0
    exact ⟨rfl, hU, hBl, hgr⟩
  · have h0 := h.cell0
    go_enter Try.func93, Try.ntmps93
    go_wp2
    rw [Lib.run_neq_ptr_same w _ Try.underlying67 hj]
    go_wp2
    go_end0
    exact ⟨rfl, h, Below.refl B _, World.grownBy.refl _ _⟩

set_option maxRecDepth 100000 in
set_option maxHeartbeats 1000000 in
theorem bd_WriteString (B b : Nat) (bs : List Value) (s : ByteArray) (w : World) (h : IsBd B b bs w) (hlen : bs.length ≤ 100000000) (hs : s.size ≤ 100000000) (hBw : B ≤ w.heap.size) :
    Calls Try.prog 94 #[.pointer (some ⟨b, 0, none⟩), .string s] w fun e w' => e = .returned (.tuple #[.int .i64 s.size, .nilIface]) ∧ UsedBd B b (bs ++ Lib.strCells s) w' ∧ Below B w w' := by
  obtain ⟨i0, hi, hz0, hz1, hz2⟩ := info_parts bd_byte
  go_enter Try.func94, Try.ntmps94
  go_wp2_with fail
  refine (bd_copyCheck B b bs _ h).mono ?_
  rintro e w1 ⟨rfl, ⟨hB, v, hbk, hown, hne⟩, hb1, _⟩
  have c1 : w1.cell? ⟨b, 1, none⟩ = some v := by rw [Lib.cell_of_heap hbk]; rfl
  clear h
  go_wp2_with (at_builtin; refine Lib.wpList_append_own_string _ rfl _ _ 68 9 rfl B 5 i0 Try.underlying68 Try.underlying9 hi hz0 hz1 hz2 _ _ _ rfl hown s rfl ?c3 ?c4 ?c5 ?_)
  case c3 => unfold maxLen; omega
  case c4 => omega
  case c5 => have := hb1.size; omega
  intro v' w2 hown' hgrow _
  have hlt := Lib.BuilderAt.lt ⟨hB, v, hbk, hown, hne⟩
  have hb2 : w2.heap[b]? = some (.cells #[.pointer (some ⟨b, 0, none⟩), v] 70 (0, 0)) := by
    rw [hgrow.block b hlt (fun e => hne e.symm)]
    exact hbk
  have d1 : w2.cell? ⟨b, 1, none⟩ = some v := by rw [Lib.cell_of_heap hb2]; rfl
  have f1 : w2.frozen? ⟨b, 1, none⟩ = false := Lib.frozen_of_heap hb2 1
  have hfin := Lib.BuilderAt.put (T := 70) (e := 5) hB hb2 (bs' := bs ++ Lib.strCells s) (v' := v') (by simpa [Lib.strCells_length] using hown') (by decide)
  have hbel := (hb1.grown hgrow (by have := hb1.size; omega) (fun k hk => (hown.lt k hk).1)).setCell (p := ⟨b, 1, none⟩) hB v'
  obtain ⟨ao, n', cap, rfl⟩ : ∃ ao n' cap, v' = .slice ao n' cap := by
    rcases hown'.2 with ⟨hv, _⟩ | ⟨g, cap, cur, hv, _⟩
    · exact ⟨_, _, _, hv⟩
    · exact ⟨_, _, _, hv⟩
  clear hown hown' hgrow hb1 hbk c1
  go_wp2
  go_ret2
  exact ⟨rfl, hfin, hbel⟩
set_option maxRecDepth 100000 in
set_option maxHeartbeats 1000000 in
theorem bd_Write (B b : Nat) (bs : List Value) (ad : Addr) (m c : Nat) (news : List Value) (w : World) (h : IsBd B b bs w) (hlen : bs.length ≤ 100000000) (hm : m ≤ 100000000) (hl : news.length = m)
    (hnews : ∀ j u, news[j]? = some u → w.cell? (ad.add j) = some u) (h1 : ∀ u ∈ news, u.oneCell' = true) (hadb : ad.block ≠ b) (hBw : B ≤ w.heap.size) :
    Calls Try.prog 71 #[.pointer (some ⟨b, 0, none⟩), .slice (some ad) m c] w fun e w' => e = .returned (.tuple #[.int .i64 m, .nilIface]) ∧ UsedBd B b (bs ++ news) w' ∧ Below B w w' := by
  obtain ⟨i0, hi, hz0, hz1, hz2⟩ := info_parts bd_byte
  have HN := Lib.hid hnews
  clear hnews
  go_enter Try.func71, Try.ntmps71
  go_wp2_with fail
  refine (bd_copyCheck B b bs _ h).mono ?_
  rintro e w1 ⟨rfl, ⟨hB, v, hbk, hown, hne⟩, hb1, hg1⟩
  have HW : Hid (∀ j u, news[j]? = some u → w1.cell? (ad.add j) = some u) := Lib.hid fun j u hj => hg1.cell (HN.out j u hj) (by
    have : (ad.add j).block = ad.block := by unfold Addr.add; split <;> rfl
    rw [this]
    simpa using hadb)
  have c1 : w1.cell? ⟨b, 1, none⟩ = some v := by rw [Lib.cell_of_heap hbk]; rfl
  clear h
  go_wp2_with (at_builtin; refine wpList_append_own _ rfl _ _ 68 rfl B 5 i0 (.int .u8 0) 1 1 Try.underlying68 hi hz0 hz1 hz2 rfl (by decide) _ _ _ rfl hown ad m c news rfl (by omega) HW.out h1 ?c3 ?c4 ?c5 ?_)
  case c3 => unfold maxLen; omega
  case c4 => omega
  case c5 => have := hb1.size; omega
  intro v' w2 hown' hgrow _
  have hlt := Lib.BuilderAt.lt ⟨hB, v, hbk, hown, hne⟩
  have hb2 : w2.heap[b]? = some (.cells #[.pointer (some ⟨b, 0, none⟩), v] 70 (0, 0)) := by
    rw [hgrow.block b hlt (fun e => hne e.symm)]
    exact hbk
  have d1 : w2.cell? ⟨b, 1, none⟩ = some v := by rw [Lib.cell_of_heap hb2]; rfl
  have f1 : w2.frozen? ⟨b, 1, none⟩ = false := Lib.frozen_of_heap hb2 1
  have hfin := Lib.BuilderAt.put (T := 70) (e := 5) hB hb2 (bs' := bs ++ news) (v' := v') (by simpa [hl] using hown') (by decide)
  have hbel := (hb1.grown hgrow (by have := hb1.size; omega) (fun k hk => (hown.lt k hk).1)).setCell (p := ⟨b, 1, none⟩) hB v'
  obtain ⟨ao, n', cap, rfl⟩ : ∃ ao n' cap, v' = .slice ao n' cap := by
    rcases hown'.2 with ⟨hv, _⟩ | ⟨g, cap, cur, hv, _⟩
    · exact ⟨_, _, _, hv⟩
    · exact ⟨_, _, _, hv⟩
  clear hown hown' hgrow hb1 hbk c1
  go_wp2
  go_ret2
  exact ⟨rfl, hfin, hbel⟩
end Go.Proofs.Ytohameoomlehlab

/-
  Contracts of FromHex: the program's and the model's.
-/
namespace Go.Proofs.Ytohameoomlehlab
open Go.RowKit

/-- The value of a hexadecimal digit, or -1. -/
def Hx.v (c : Int) : Int := if 48 ≤ c ∧ c ≤ 57 then c - 48 else if 97 ≤ c ∧ c ≤ 102 then c - 87 else -1
theorem Hx.v_bd (c : Int) : -1 ≤ Hx.v c ∧ Hx.v c ≤ 15 := by unfold Hx.v; split <;> (try split) <;> omega
def Hx.num (s : ByteArray) (j : Nat) : Int := Hx.v (En.byt s (2 * j)) * 16 + Hx.v (En.byt s (2 * j + 1))
/-- The numbers of the first k pairs. -/
def Hx.nums (s : ByteArray) (k : Nat) : List Int := (List.range k).map (Hx.num s)
theorem Hx.nums_succ (s : ByteArray) (k : Nat) : Hx.nums s (k + 1) = Hx.nums s k ++ [Hx.num s k] := by simp [Hx.nums, List.range_succ]
theorem Hx.nums_len (s : ByteArray) (k : Nat) : (Hx.nums s k).length = k := by simp [Hx.nums]
def Hx.ok (s : ByteArray) (k : Nat) : Prop := ∀ j, j < k → 0 ≤ Hx.v (En.byt s (2 * j)) ∧ 0 ≤ Hx.v (En.byt s (2 * j + 1))
theorem Hx.ok_succ {s : ByteArray} {k : Nat} (h : Hx.ok s k) (h0 : 0 ≤ Hx.v (En.byt s (2 * k))) (h1 : 0 ≤ Hx.v (En.byt s (2 * k + 1))) : Hx.ok s (k + 1) := by
  intro j hj
  by_cases hjk : j < k
  · exact h j hjk
  · have : j = k := by omega
    subst this
    exact ⟨h0, h1⟩
def Hx.good (s : ByteArray) : Prop := s.size % 2 = 0 ∧ Hx.ok s (s.size / 2)
def Hx.yes (s : ByteArray) : Value := .tuple #[.string (strOfNums (Hx.nums s (s.size / 2))), .bool true]
def Hx.no : Value := .tuple #[.string ⟨#[]⟩, .bool false]
/-- What FromHex answers. -/
def HexEnd (s : ByteArray) (w : World) (e : Ending) (w' : World) : Prop := ∃ v, e = .returned v ∧ ((Hx.good s ∧ v = Hx.yes s) ∨ (¬ Hx.good s ∧ v = Hx.no)) ∧ Below w.heap.size w w'
theorem Hx.bad {s : ByteArray} {k : Nat} (hk : 2 * k + 1 < s.size) (h : Hx.v (En.byt s (2 * k)) < 0 ∨ Hx.v (En.byt s (2 * k + 1)) < 0) : ¬ Hx.good s := by
  intro ⟨_, g⟩
  have := g k (by omega)
  omega
theorem Hx.or_nib (a b : Int) (ha : 0 ≤ a) (ha2 : a ≤ 15) (hb : 0 ≤ b) (hb2 : b ≤ 15) : bits .or .i64 (a * 16) b = a * 16 + b := by
  obtain ⟨x, rfl⟩ := Int.eq_ofNat_of_zero_le ha
  obtain ⟨y, rfl⟩ := Int.eq_ofNat_of_zero_le hb
  have h1 : (BitVec.ofInt 64 ((x * 16 : Nat) : Int)).toNat = x * 16 := by
    rw [BitVec.ofInt_natCast, BitVec.toNat_ofNat]; exact Nat.mod_eq_of_lt (by omega)
  have h2 : (BitVec.ofInt 64 (y : Int)).toNat = y := by
    rw [BitVec.ofInt_natCast, BitVec.toNat_ofNat]; exact Nat.mod_eq_of_lt (by omega)
  have h3 : x * 16 ||| y = x * 16 + y := by
    rw [Nat.mul_comm x 16]
    exact (Nat.two_pow_add_eq_or_of_lt (i := 4) (b := y) (by omega) x).symm
  have e : ((x : Int) * 16) = ((x * 16 : Nat) : Int) := by omega
  rw [e]
  show IntKind.i64.wrap ((BitVec.ofInt 64 ((x * 16 : Nat) : Int) ||| BitVec.ofInt 64 (y : Int)).toNat : Int) = _
  rw [BitVec.toNat_or, h1, h2, h3]
  rw [IntWalk.i64_in _ (by omega)]
  omega
theorem Hx.idx_all : ∀ c : Fin 256, Lib.indexByte [48, 49, 50, 51, 52, 53, 54, 55, 56, 57, 97, 98, 99, 100, 101, 102] (c.val.toUInt8) = Hx.v (c.val : Int) := by decide +kernel
theorem Hx.idx (c : Int) (h0 : 0 ≤ c) (h : c < 256) : Lib.indexByte [48, 49, 50, 51, 52, 53, 54, 55, 56, 57, 97, 98, 99, 100, 101, 102] c.toNat.toUInt8 = Hx.v c := by
  obtain ⟨n, rfl⟩ := Int.eq_ofNat_of_zero_le h0
  exact Hx.idx_all ⟨n, by omega⟩

theorem byteCells_nums (s : ByteArray) (k : Nat) (c : Int) (h0 : 0 ≤ c) (h : c < 256) (hc : c = Hx.num s k) :
    Lib.byteCells ((Hx.nums s k).map fun x => UInt8.ofNat x.toNat) ++ [.int .u8 c] = Lib.byteCells ((Hx.nums s (k + 1)).map fun x => UInt8.ofNat x.toNat) := by
  rw [Hx.nums_succ, ← hc]
  simp only [Lib.byteCells, List.map_append, List.map_cons, List.map_nil]
  rw [En.u8 h0 h]

end Go.Proofs.Ytohameoomlehlab

/-
  Contracts of HexOf: the program's and the model's.
-/
namespace Go.Proofs.Ytohameoomlehlab
open Go.RowKit

/-- The hexadecimal digit of n. -/
def Hx.dig (n : Int) : Int := if n < 10 then n + 48 else n + 87
theorem Hx.dig_all : ∀ k : Fin 16, (((⟨#[48, 49, 50, 51, 52, 53, 54, 55, 56, 57, 97, 98, 99, 100, 101, 102]⟩ : ByteArray).data[k.val]'(by exact k.isLt)).toNat : Int) = Hx.dig (k.val : Int) := by decide +kernel
theorem Hx.dig_at (k : Nat) (h : k < (⟨#[48, 49, 50, 51, 52, 53, 54, 55, 56, 57, 97, 98, 99, 100, 101, 102]⟩ : ByteArray).size) : (((⟨#[48, 49, 50, 51, 52, 53, 54, 55, 56, 57, 97, 98, 99, 100, 101, 102]⟩ : ByteArray)[k]'h).toNat : Int) = Hx.dig (k : Int) := Hx.dig_all ⟨k, h⟩
theorem Hx.dig_bd (n : Int) (h0 : 0 ≤ n) (h : n < 16) : 0 ≤ Hx.dig n ∧ Hx.dig n < 256 := by unfold Hx.dig; split <;> omega
theorem Hx.and15_all : ∀ k : Fin 256, bits .and .u8 (k.val : Int) 15 = (k.val : Int) % 16 := by decide +kernel
theorem Hx.and15 (x : Int) (h0 : 0 ≤ x) (h : x < 256) : bits .and .u8 x 15 = x % 16 := by
  obtain ⟨k, rfl⟩ := Int.eq_ofNat_of_zero_le h0
  exact Hx.and15_all ⟨k, by omega⟩

theorem two_new (w : World) (x y : Value) (t : TypeId) : ∀ j u, [x, y][j]? = some u → (w.alloc (.cells #[x, y] t)).cell? ((⟨w.heap.size, 0, none⟩ : Addr).add j) = some u := by
  intro j u hj
  have hadr : (⟨w.heap.size, 0, none⟩ : Addr).add j = ⟨w.heap.size, j, none⟩ := by unfold Addr.add; split <;> simp_all
  rw [hadr]
  exact (World.cell?_alloc_mark w #[x, y] t (0, 0) j).trans (by simpa using hj)
/-- The digits of the first k bytes. -/
def Hx.of (s : ByteArray) : Nat → List Int
  | 0 => []
  | k + 1 => Hx.of s k ++ [Hx.dig (En.byt s k / 16), Hx.dig (En.byt s k % 16)]
theorem Hx.of_len (s : ByteArray) (k : Nat) : (Hx.of s k).length = 2 * k := by
  induction k with
  | zero => rfl
  | succ k ih => simp [Hx.of, ih]; omega

theorem byteCells_of (s : ByteArray) (k : Nat) (x : Int) (hx : En.byt s k = x) (h0 : 0 ≤ x) (h : x < 256) :
    Lib.byteCells ((Hx.of s k).map fun n => UInt8.ofNat n.toNat) ++ [.int .u8 (Hx.dig (x / 16))] ++ [.int .u8 (Hx.dig (x % 16))] = Lib.byteCells ((Hx.of s (k + 1)).map fun n => UInt8.ofNat n.toNat) := by
  have d0 := Hx.dig_bd (x / 16) (by omega) (by omega)
  have d1 := Hx.dig_bd (x % 16) (by omega) (by omega)
  simp only [Hx.of, hx, Lib.byteCells, List.map_append, List.map_cons, List.map_nil, List.append_assoc, List.cons_append, List.nil_append]
  rw [En.u8 d0.1 d0.2, En.u8 d1.1 d1.2]

end Go.Proofs.Ytohameoomlehlab

/-
  Plain mathematics: what HexOf writes is read by FromHex.
-/
namespace Go.Proofs.Ytohameoomlehlab
theorem Hx.v_dig (n : Int) (h0 : 0 ≤ n) (h : n < 16) : Hx.v (Hx.dig n) = n := by
  unfold Hx.dig Hx.v
  split
  · rw [if_pos (by omega)]; omega
  · rw [if_neg (by omega), if_pos (by omega)]; omega
theorem Hx.of_get (s : ByteArray) (k : Nat) : ∀ j, j < k → (Hx.of s k)[2 * j]? = some (Hx.dig (En.byt s j / 16)) ∧ (Hx.of s k)[2 * j + 1]? = some (Hx.dig (En.byt s j % 16)) := by
  induction k with
  | zero => intro j hj; omega
  | succ k ih =>
    intro j hj
    have hl := Hx.of_len s k
    simp only [Hx.of]
    by_cases hjk : j < k
    · rw [List.getElem?_append_left (by omega), List.getElem?_append_left (by omega)]
      exact ih j hjk
    · have : j = k := by omega
      subst this
      rw [List.getElem?_append_right (by omega), List.getElem?_append_right (by omega), hl]
      rw [show 2 * j - 2 * j = 0 by omega, show 2 * j + 1 - 2 * j = 1 by omega]
      exact ⟨rfl, rfl⟩
/-- The string of hexadecimal digits. -/
def Hx.str (s : ByteArray) : ByteArray := strOfNums (Hx.of s s.size)
theorem Hx.str_size (s : ByteArray) : (Hx.str s).size = 2 * s.size := by unfold Hx.str; rw [strOfNums_size, Hx.of_len]
theorem Hx.str_get (s : ByteArray) (j : Nat) (hj : j < s.size) : Hx.v (En.byt (Hx.str s) (2 * j)) = En.byt s j / 16 ∧ Hx.v (En.byt (Hx.str s) (2 * j + 1)) = En.byt s j % 16 := by
  have b := En.byt_bd s j
  obtain ⟨g0, g1⟩ := Hx.of_get s s.size j hj
  have d0 := Hx.dig_bd (En.byt s j / 16) (by omega) (by omega)
  have d1 := Hx.dig_bd (En.byt s j % 16) (by omega) (by omega)
  unfold Hx.str
  rw [En.byt_str _ _ _ g0 d0.1 d0.2, En.byt_str _ _ _ g1 d1.1 d1.2]
  exact ⟨Hx.v_dig _ (by omega) (by omega), Hx.v_dig _ (by omega) (by omega)⟩
theorem Hx.str_good (s : ByteArray) : Hx.good (Hx.str s) := by
  refine ⟨by rw [Hx.str_size]; omega, fun j hj => ?_⟩
  rw [Hx.str_size] at hj
  obtain ⟨g0, g1⟩ := Hx.str_get s j (by omega)
  have b := En.byt_bd s j
  rw [g0, g1]
  omega
theorem Hx.str_back (s : ByteArray) : strOfNums (Hx.nums (Hx.str s) ((Hx.str s).size / 2)) = s := by
  apply ByteArray.ext
  apply Array.toList_inj.1
  rw [strOfNums_data, Hx.str_size, show 2 * s.size / 2 = s.size by omega]
  apply List.ext_getElem
  · rw [List.length_map, Hx.nums_len, Array.length_toList]; rfl
  · intro i h1 h2
    have hi : i < s.size := by simpa [Hx.nums_len] using h1
    obtain ⟨g0, g1⟩ := Hx.str_get s i hi
    have hn : Hx.num (Hx.str s) i = En.byt s i := by unfold Hx.num; rw [g0, g1]; omega
    simp only [Hx.nums, List.map_map, List.getElem_map, List.getElem_range, Function.comp_apply, hn]
    rw [← En.byt_eq s i hi]
    exact En.u8b rfl
theorem Hx.dig_v (c : Int) (h : 0 ≤ Hx.v c) : Hx.dig (Hx.v c) = c := by
  unfold Hx.v at h ⊢
  unfold Hx.dig
  split
  · rw [if_pos (by omega)]; omega
  · rename_i h1
    rw [if_neg h1] at h
    split
    · rw [if_neg (by omega)]; omega
    · rename_i h2
      rw [if_neg h2] at h
      omega
theorem Hx.str_from (s : ByteArray) (h : Hx.good s) : Hx.str (strOfNums (Hx.nums s (s.size / 2))) = s := by
  obtain ⟨heven, hok⟩ := h
  have hxs : (strOfNums (Hx.nums s (s.size / 2))).size = s.size / 2 := by rw [strOfNums_size, Hx.nums_len]
  have hbyt : ∀ j, j < s.size / 2 → En.byt (strOfNums (Hx.nums s (s.size / 2))) j = Hx.num s j := by
    intro j hj
    obtain ⟨o0, o1⟩ := hok j hj
    have v0 := Hx.v_bd (En.byt s (2 * j))
    have v1 := Hx.v_bd (En.byt s (2 * j + 1))
    refine En.byt_str _ _ _ ?_ ?_ ?_
    · simp only [Hx.nums, List.getElem?_map, List.getElem?_range hj, Option.map_some]
    · unfold Hx.num; omega
    · unfold Hx.num; omega
  have hget : ∀ i, i < s.size → (Hx.of (strOfNums (Hx.nums s (s.size / 2))) (s.size / 2))[i]? = some (En.byt s i) := by
    intro i hi
    obtain ⟨g0, g1⟩ := Hx.of_get (strOfNums (Hx.nums s (s.size / 2))) (s.size / 2) (i / 2) (by omega)
    have hj : i / 2 < s.size / 2 := by omega
    obtain ⟨o0, o1⟩ := hok (i / 2) hj
    have v0 := Hx.v_bd (En.byt s (2 * (i / 2)))
    have v1 := Hx.v_bd (En.byt s (2 * (i / 2) + 1))
    rw [hbyt _ hj] at g0 g1
    have e0 : Hx.num s (i / 2) / 16 = Hx.v (En.byt s (2 * (i / 2))) := by unfold Hx.num; omega
    have e1 : Hx.num s (i / 2) % 16 = Hx.v (En.byt s (2 * (i / 2) + 1)) := by unfold Hx.num; omega
    rw [e0, Hx.dig_v _ o0] at g0
    rw [e1, Hx.dig_v _ o1] at g1
    by_cases hp : i % 2 = 0
    · rw [show 2 * (i / 2) = i by omega] at g0
      exact g0
    · rw [show 2 * (i / 2) + 1 = i by omega] at g1
      exact g1
  unfold Hx.str
  rw [hxs]
  apply ByteArray.ext
  apply Array.toList_inj.1
  rw [strOfNums_data]
  have hlen : (Hx.of (strOfNums (Hx.nums s (s.size / 2))) (s.size / 2)).length = s.size := by rw [Hx.of_len]; omega
  have hsl : s.data.toList.length = s.size := by rw [Array.length_toList]; rfl
  apply List.ext_getElem?
  intro i
  rw [List.getElem?_map]
  by_cases hi : i < s.size
  · rw [hget i hi, List.getElem?_eq_getElem (by omega)]
    simp only [Option.map_some]
    rw [← En.byt_eq s i hi]
    exact congrArg some (En.u8b rfl)
  · rw [List.getElem?_eq_none (by omega), List.getElem?_eq_none (by omega)]
    rfl
end Go.Proofs.Ytohameoomlehlab
