/-
  Contracts of FromHex: the program's and the model's.
-/
import Derived.Test.YtpldoffjclmacaaGreatDoorEn
import Derived.Test.YtpldoffjclmacaaGreatDoorBd
import Derived.Test.YtpldoffjclmacaaGreatDoorOw
import Derived.Test.YtpldoffjclmacaaGreatDoorShelf
import Derived.LoopTactic
import Derived.Lib.Bytealg
namespace Go.Proofs.YtpldoffjclmacaaGreatDoor
open Go.RowKit

/-- The value of a hexadecimal digit, or -1. -/
def Hx.v (c : Int) : Int := if 48 ≤ c ∧ c ≤ 57 then c - 48 else if 97 ≤ c ∧ c ≤ 102 then c - 87 else -1
theorem Hx.v_bd (c : Int) : -1 ≤ Hx.v c ∧ Hx.v c ≤ 15 := by unfold Hx.v; split <;> (try split) <;> omega
def Hx.num (s : ByteArray) (j : Nat) : Int := Hx.v (En.byt s (2 * j)) * 16 + Hx.v (En.byt s (2 * j + 1))
/-- The numbers of the first k pairs. -/
def Hx.nums (s : ByteArray) (k : Nat) : List Int := (List.range k).map (Hx.num s)
theorem Hx.nums_succ (s : ByteArray) (k : Nat) : Hx.nums s (k + 1) = Hx.nums s k ++ [Hx.num s k] := by simp [Hx.nums, List.range_succ]
theorem Hx.nums_len (s : ByteArray) (k : Nat) : (Hx.nums s k).length = k := by simp [Hx.nums]
def Hx.ok (s : ByteArray) (k : Nat) : Prop := ∀ j, j < k → 0 ≤ Hx.v (En.byt s (2 * j)) ∧ 0 ≤ Hx.v (En.byt s (2 * j + 1))
theorem Hx.ok_succ {s : ByteArray} {k : Nat} (h : Hx.ok s k) (h0 : 0 ≤ Hx.v (En.byt s (2 * k))) (h1 : 0 ≤ Hx.v (En.byt s (2 * k + 1))) : Hx.ok s (k + 1) := by
  intro j hj
  by_cases hjk : j < k
  · exact h j hjk
  · have : j = k := by omega
    subst this
    exact ⟨h0, h1⟩
def Hx.good (s : ByteArray) : Prop := s.size % 2 = 0 ∧ Hx.ok s (s.size / 2)
def Hx.yes (s : ByteArray) : Value := .tuple #[.string (strOfNums (Hx.nums s (s.size / 2))), .bool true]
def Hx.no : Value := .tuple #[.string ⟨#[]⟩, .bool false]
/-- What FromHex answers. -/
def HexEnd (s : ByteArray) (w : World) (e : Ending) (w' : World) : Prop := ∃ v, e = .returned v ∧ ((Hx.good s ∧ v = Hx.yes s) ∨ (¬ Hx.good s ∧ v = Hx.no)) ∧ Below w.heap.size w w'
theorem Hx.bad {s : ByteArray} {k : Nat} (hk : 2 * k + 1 < s.size) (h : Hx.v (En.byt s (2 * k)) < 0 ∨ Hx.v (En.byt s (2 * k + 1)) < 0) : ¬ Hx.good s := by
  intro ⟨_, g⟩
  have := g k (by omega)
  omega
theorem Hx.or_nib (a b : Int) (ha : 0 ≤ a) (ha2 : a ≤ 15) (hb : 0 ≤ b) (hb2 : b ≤ 15) : bits .or .i64 (a * 16) b = a * 16 + b := by
  obtain ⟨x, rfl⟩ := Int.eq_ofNat_of_zero_le ha
  obtain ⟨y, rfl⟩ := Int.eq_ofNat_of_zero_le hb
  have h1 : (BitVec.ofInt 64 ((x * 16 : Nat) : Int)).toNat = x * 16 := by
    rw [BitVec.ofInt_natCast, BitVec.toNat_ofNat]; exact Nat.mod_eq_of_lt (by omega)
  have h2 : (BitVec.ofInt 64 (y : Int)).toNat = y := by
    rw [BitVec.ofInt_natCast, BitVec.toNat_ofNat]; exact Nat.mod_eq_of_lt (by omega)
  have h3 : x * 16 ||| y = x * 16 + y := by
    rw [Nat.mul_comm x 16]
    exact (Nat.two_pow_add_eq_or_of_lt (i := 4) (b := y) (by omega) x).symm
  have e : ((x : Int) * 16) = ((x * 16 : Nat) : Int) := by omega
  rw [e]
  show IntKind.i64.wrap ((BitVec.ofInt 64 ((x * 16 : Nat) : Int) ||| BitVec.ofInt 64 (y : Int)).toNat : Int) = _
  rw [BitVec.toNat_or, h1, h2, h3]
  rw [IntWalk.i64_in _ (by omega)]
  omega
theorem Hx.idx_all : ∀ c : Fin 256, Lib.indexByte [48, 49, 50, 51, 52, 53, 54, 55, 56, 57, 97, 98, 99, 100, 101, 102] (c.val.toUInt8) = Hx.v (c.val : Int) := by decide +kernel
theorem Hx.idx (c : Int) (h0 : 0 ≤ c) (h : c < 256) : Lib.indexByte [48, 49, 50, 51, 52, 53, 54, 55, 56, 57, 97, 98, 99, 100, 101, 102] c.toNat.toUInt8 = Hx.v c := by
  obtain ⟨n, rfl⟩ := Int.eq_ofNat_of_zero_le h0
  exact Hx.idx_all ⟨n, by omega⟩

theorem hexIdx (c : Int) (w : World) (h0 : 0 ≤ c) (h : c < 256) :
    Calls Tryz.prog 84 #[.string ⟨#[48, 49, 50, 51, 52, 53, 54, 55, 56, 57, 97, 98, 99, 100, 101, 102]⟩, .int .u8 c] w fun e w' => e = .returned (.int .i64 (Hx.v c)) ∧ w = w' :=
  (Tryz.strings_IndexByte ⟨#[48, 49, 50, 51, 52, 53, 54, 55, 56, 57, 97, 98, 99, 100, 101, 102]⟩ c w).mono fun e w' ⟨he, hw⟩ => ⟨by rw [he, ← Hx.idx c h0 h], hw.symm⟩

set_option maxHeartbeats 400000 in
theorem l1Hex_any (c : Int) (w : World) (h0 : 0 ≤ c) (h : c < 256) :
    Calls Tryz.prog 74 #[.int .u8 c] w fun e w' => e = .returned (.int .i64 (Hx.v c)) ∧ w = w' := by
  unfold Hx.v
  by_cases h1 : 48 ≤ c
  · by_cases h2 : c ≤ 57
    · rw [if_pos ⟨h1, h2⟩]
      go_enter Tryz.func74, Tryz.ntmps74
      go_wp2
      go_ret
      exact ⟨rfl, rfl⟩
    · rw [if_neg (by omega)]
      by_cases h3 : 97 ≤ c
      · by_cases h4 : c ≤ 102
        · rw [if_pos ⟨h3, h4⟩]
          go_enter Tryz.func74, Tryz.ntmps74
          go_wp2
          go_ret
          exact ⟨by rw [show c - 87 = c - 97 + 10 by omega]; rfl, rfl⟩
        · rw [if_neg (by omega)]
          go_enter Tryz.func74, Tryz.ntmps74
          go_wp2
          go_ret
          exact ⟨rfl, rfl⟩
      · rw [if_neg (by omega)]
        go_enter Tryz.func74, Tryz.ntmps74
        go_wp2
        go_ret
        exact ⟨rfl, rfl⟩
  · rw [if_neg (by omega), if_neg (by omega)]
    go_enter Tryz.func74, Tryz.ntmps74
    go_wp2
    go_ret
    exact ⟨rfl, rfl⟩

theorem byteCells_nums (s : ByteArray) (k : Nat) (c : Int) (h0 : 0 ≤ c) (h : c < 256) (hc : c = Hx.num s k) :
    Lib.byteCells ((Hx.nums s k).map fun x => UInt8.ofNat x.toNat) ++ [.int .u8 c] = Lib.byteCells ((Hx.nums s (k + 1)).map fun x => UInt8.ofNat x.toNat) := by
  rw [Hx.nums_succ, ← hc]
  simp only [Lib.byteCells, List.map_append, List.map_cons, List.map_nil]
  rw [En.u8 h0 h]

set_option maxRecDepth 100000 in
set_option maxHeartbeats 1600000 in
theorem implFromHex_any (s : ByteArray) (w : World) (hs : s.size ≤ 1048576) :
    Calls Tryz.prog 67 #[.string s] w (HexEnd s w) := by
  by_cases hodd : s.size % 2 = 1
  · have hb : ((s.size : Int) % 2 != 0) = true := by simp; omega
    have hng : ¬ Hx.good s := fun g => by have := g.1; omega
    clear hodd
    go_enter Tryz.func67, Tryz.ntmps67
    go_wp2
    go_ret2
    exact ⟨_, rfl, .inr ⟨hng, rfl⟩, Below.refl _ _⟩
  have hb : ((s.size : Int) % 2 != 0) = false := by simp; omega
  have heven : s.size % 2 = 0 := by omega
  have HE := Lib.hid heven
  clear hodd heven
  go_enter Tryz.func67, Tryz.ntmps67
  go_wp2
  go_loopw [5] (fun i wr => ∃ k : Nat, 2 * k ≤ s.size ∧ i = .int .i64 ((2 * k : Nat) : Int) ∧ Hx.ok s k ∧ IsBd w.heap.size w.heap.size (Lib.byteCells ((Hx.nums s k).map fun x => UInt8.ofNat x.toNat)) wr ∧ Below w.heap.size w wr)
    (fun i _ => s.size - (intOf i).toNat)
  case atStart => exact ⟨0, by omega, rfl, fun j hj => by omega, Lib.fresh_isBuilder _ _ _, (Below.refl _ _).alloc (Nat.le_refl _) _⟩
  case round =>
    obtain ⟨k, hk, rfl, hok, hbd, hbel⟩ := hrel
    by_cases hlt : 2 * k < s.size
    · have h2 : 2 * k + 1 < s.size := by have := HE.out; omega
      have hbad := Hx.bad (s := s) (k := k) h2
      have b0 := En.byt_bd s (2 * k)
      have b1 := En.byt_bd s (2 * k + 1)
      have v0 := Hx.v_bd (En.byt s (2 * k))
      have v1 := Hx.v_bd (En.byt s (2 * k + 1))
      have i0 : ∀ h : 2 * k < s.size, ((s[2 * k]'h).toNat : Int) = En.byt s (2 * k) := fun h => En.byt_eq _ _ h
      have i1 : ∀ h : 2 * k + 1 < s.size, ((s[2 * k + 1]'h).toNat : Int) = En.byt s (2 * k + 1) := fun h => En.byt_eq _ _ h
      have HB := Lib.hid hbad
      have HN : Hid (Hx.num s k = Hx.v (En.byt s (2 * k)) * 16 + Hx.v (En.byt s (2 * k + 1))) := rfl
      clear hbad
      generalize hj : 2 * k = j at *
      have HJ := Lib.hid hj
      clear hj
      go_wp2_with fail
      refine (hexIdx _ _ b0.1 b0.2).mono ?_
      rintro e w1 ⟨rfl, rfl⟩
      go_wp2_with fail
      refine (hexIdx _ _ b1.1 b1.2).mono ?_
      rintro e w1 ⟨rfl, rfl⟩
      by_cases n0 : Hx.v (En.byt s j) < 0
      · have hng := HB.out (.inl n0)
        go_wp2
        go_ret2
        exact ⟨_, rfl, .inr ⟨hng, rfl⟩, hbel⟩
      by_cases n1 : Hx.v (En.byt s (j + 1)) < 0
      · have hng := HB.out (.inr n1)
        go_wp2
        go_ret2
        exact ⟨_, rfl, .inr ⟨hng, rfl⟩, hbel⟩
      have hor := Hx.or_nib _ _ (Int.not_lt.1 n0) v0.2 (Int.not_lt.1 n1) v1.2
      have hok' := Hx.ok_succ hok (by rw [HJ.out]; exact Int.not_lt.1 n0) (by rw [HJ.out]; exact Int.not_lt.1 n1)
      have hcell := byteCells_nums s k (Hx.v (En.byt s j) * 16 + Hx.v (En.byt s (j + 1))) (by omega) (by omega) HN.out.symm
      have HC := Lib.hid hcell
      have HO := Lib.hid hok'
      have hlen : (Lib.byteCells ((Hx.nums s k).map fun x => UInt8.ofNat x.toNat)).length ≤ 100000000 := by
        simp only [Lib.byteCells, List.length_map, Hx.nums_len]
        have := HJ.out
        omega
      clear hcell hok' hok
      go_wp2_with fail
      refine (bd_WriteByte w.heap.size w.heap.size _ (Hx.v (En.byt s j) * 16 + Hx.v (En.byt s (j + 1))) _ hbd hlen hbel.size).mono ?_
      rintro e w2 ⟨rfl, hbd2, hb2⟩
      rw [HC.out] at hbd2
      have hbel2 := hbel.trans hb2
      clear hbd hb2 hbel
      go_wp2
      go_roundw
      case rel => exact ⟨k + 1, by have := HJ.out; omega, by have := HJ.out; rw [show 2 * (k + 1) = j + 2 by omega]; simp, HO.out, .inr hbd2, hbel2⟩
      case measure => simp [intOf]; omega
    · have hk2 : s.size / 2 = k := by have := HE.out; omega
      have hgood : Hx.good s := ⟨HE.out, by rw [hk2]; exact hok⟩
      have hyes : Hx.yes s = .tuple #[.string ⟨((Hx.nums s k).map fun x => UInt8.ofNat x.toNat).toArray⟩, .bool true] := by unfold Hx.yes; rw [hk2]; rfl
      have HY := Lib.hid hyes
      clear hyes hk2
      go_wp2_with fail
      refine (Tryz.Builder_String_any w.heap.size w.heap.size _ _ hbd hbel.size).mono ?_
      rintro e w2 ⟨rfl, hb2⟩
      have hbel2 := hbel.trans hb2
      go_wp2
      go_ret2
      exact ⟨_, rfl, .inl ⟨hgood, HY.out.symm⟩, hbel2⟩

set_option maxRecDepth 100000 in
set_option maxHeartbeats 1600000 in
theorem specFromHex_any (s : ByteArray) (w : World) (hs : s.size ≤ 1048576) :
    Calls Tryz.prog 52 #[.string s] w (HexEnd s w) := by
  obtain ⟨i0, hi, hz0, hz1, hz2⟩ := info_parts info_u8
  go_enter Tryz.func52, Tryz.ntmps52
  go_wp2
  go_loopw [4, 5] (fun v i wr => ∃ k : Nat, 2 * k ≤ s.size ∧ i = .int .i64 ((2 * k : Nat) : Int) ∧ Hx.ok s k ∧ wr.ownsRow w.heap.size 5 1 v k ((Hx.nums s k).map (Value.int .u8)) ∧ Below w.heap.size w wr)
    (fun _ i _ => s.size - (intOf i).toNat)
  case atStart => exact ⟨0, by omega, rfl, fun j hj => by omega, World.ownsRow_made _ _ _ (Nat.le_refl _) (by decide) rfl, (Below.refl _ _).alloc (Nat.le_refl _) _⟩
  case round =>
    obtain ⟨k, hk, rfl, hok, hown, hbel⟩ := hrel
    by_cases hlt : 2 * k + 1 < s.size
    · have hbad := Hx.bad (s := s) (k := k) hlt
      have b0 := En.byt_bd s (2 * k)
      have b1 := En.byt_bd s (2 * k + 1)
      have v0 := Hx.v_bd (En.byt s (2 * k))
      have v1 := Hx.v_bd (En.byt s (2 * k + 1))
      have i0' : ∀ h : 2 * k < s.size, ((s[2 * k]'h).toNat : Int) = En.byt s (2 * k) := fun h => En.byt_eq _ _ h
      have i1' : ∀ h : 2 * k + 1 < s.size, ((s[2 * k + 1]'h).toNat : Int) = En.byt s (2 * k + 1) := fun h => En.byt_eq _ _ h
      have HB := Lib.hid hbad
      have HN : Hid (Hx.num s k = Hx.v (En.byt s (2 * k)) * 16 + Hx.v (En.byt s (2 * k + 1))) := rfl
      clear hbad
      generalize hj : 2 * k = j at *
      have HJ := Lib.hid hj
      clear hj
      go_wp2_with fail
      refine (l1Hex_any _ _ b0.1 b0.2).mono ?_
      rintro e w1 ⟨rfl, rfl⟩
      go_wp2_with fail
      refine (l1Hex_any _ _ b1.1 b1.2).mono ?_
      rintro e w1 ⟨rfl, rfl⟩
      by_cases n0 : Hx.v (En.byt s j) < 0
      · have hng := HB.out (.inl n0)
        go_wp2
        go_ret2
        exact ⟨_, rfl, .inr ⟨hng, rfl⟩, hbel⟩
      by_cases n1 : Hx.v (En.byt s (j + 1)) < 0
      · have hng := HB.out (.inr n1)
        go_wp2
        go_ret2
        exact ⟨_, rfl, .inr ⟨hng, rfl⟩, hbel⟩
      have HO := Lib.hid (Hx.ok_succ hok (by rw [HJ.out]; exact Int.not_lt.1 n0) (by rw [HJ.out]; exact Int.not_lt.1 n1))
      clear hok
      have hbs := hbel.size
      go_wp2_with (at_builtin; refine wpList_append_own _ rfl _ _ 22 rfl w.heap.size 5 i0 (.int .u8 0) 1 1 Tryz.underlying22 hi hz0 hz1 hz2 rfl (by decide) _ _ _ rfl (hown.alloc _) ⟨wr.heap.size, 0, none⟩ 1 1 [.int .u8 (16 * Hx.v (En.byt s j) + Hx.v (En.byt s (j + 1)))] rfl rfl ?c1 ?c2 ?c3 ?c4 ?c5 ?_)
      case c1 =>
        intro j' u hj'
        match j', hj' with
        | 0, hj' => simp at hj'; subst hj'; simp [Addr.add]
      case c2 => intro u hu; simp at hu; subst hu; rfl
      case c3 => have := HJ.out; unfold maxLen; omega
      case c4 => have := HJ.out; omega
      case c5 => simp; omega
      intro v' w5 hown5 hgrow _
      have hown6 : w5.ownsRow w.heap.size 5 1 v' (k + 1) ((Hx.nums s (k + 1)).map (Value.int .u8)) := by
        rw [Hx.nums_succ, List.map_append, HN.out, show Hx.v (En.byt s j) * 16 + Hx.v (En.byt s (j + 1)) = 16 * Hx.v (En.byt s j) + Hx.v (En.byt s (j + 1)) by omega]
        exact hown5
      have hbel2 : Below w.heap.size w w5 := (hbel.alloc hbs (.cells #[.int .u8 (16 * Hx.v (En.byt s j) + Hx.v (En.byt s (j + 1)))] 5)).grown hgrow (by simp; omega) (fun q hq => (hown.lt _ hq).1)
      clear hown hown5 hgrow hbel
      go_wp2
      go_roundw
      case rel => exact ⟨k + 1, by have := HJ.out; omega, by have := HJ.out; rw [show 2 * (k + 1) = j + 2 by omega]; simp, HO.out, hown6, hbel2⟩
      case measure => simp [intOf]; omega
    · have hcv := own_string hown (Hx.nums_len s k)
      have HOK := Lib.hid hok
      clear hok hown
      by_cases hodd : s.size % 2 = 1
      · have hb : ((s.size : Int) % 2 == 1) = true := by simp; omega
        have hng : ¬ Hx.good s := fun g => by have := g.1; omega
        clear hodd
        go_wp2
        go_ret2
        exact ⟨_, rfl, .inr ⟨hng, rfl⟩, hbel⟩
      · have hb : ((s.size : Int) % 2 == 1) = false := by simp; omega
        have hk2 : s.size / 2 = k := by omega
        have hgood : Hx.good s := ⟨by omega, by rw [hk2]; exact HOK.out⟩
        have hyes : Hx.yes s = .tuple #[.string (strOfNums (Hx.nums s k)), .bool true] := by unfold Hx.yes; rw [hk2]
        have HY := Lib.hid hyes
        have HG := Lib.hid hgood
        clear hyes hk2 hodd hgood
        go_wp2
        go_ret2
        exact ⟨_, rfl, .inl ⟨HG.out, HY.out.symm⟩, hbel⟩
end Go.Proofs.YtpldoffjclmacaaGreatDoor
