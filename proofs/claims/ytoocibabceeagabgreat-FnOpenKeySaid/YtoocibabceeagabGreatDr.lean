/-
  Contracts of the model's drawing kit: pick, l6Open.
-/
import Derived.Test.YtoocibabceeagabGreatChecked
import Derived.Test.YtoocibabceeagabGreatEn
import Derived.WalkKit
import Derived.WalkSpells
import Derived.Below
import Derived.Lib.Hide
import Derived.LoopTactic
import Derived.Deep.QuietTactic
import Derived.BigQuiet
import Derived.WalkSmall
import Derived.OpenShut
namespace Go.Proofs.YtoocibabceeagabGreat
open Go.RowKit

/-- Block B holds a reader at place p over the code (a, len, cap), whose bytes are zs. -/
structure Dw (B : Nat) (a : Option Addr) (len cap : Nat) (zs : List Int) (w : World) (p : Nat) : Prop where
  held : w.heap[B]? = some (.cells #[.slice a len cap, .int .i64 (p : Int)] 114 (0, 0))
  row : 0 < len → ∃ b off, a = some ⟨b, off, none⟩ ∧ b < B ∧ (∀ i, i < len → w.cell? ⟨b, off + i, none⟩ = some (.int .u8 (zs.getD i 0)))
  byt : ∀ i, 0 ≤ zs.getD i 0 ∧ zs.getD i 0 < 256
  len : len ≤ 2000
theorem dw_code {B : Nat} {a : Option Addr} {len cap : Nat} {zs : List Int} {w : World} {p : Nat} (h : Dw B a len cap zs w p) : w.cell? ⟨B, 0, none⟩ = some (.slice a len cap) := by have := h.held; simp [World.cell?, this]
theorem dw_p {B : Nat} {a : Option Addr} {len cap : Nat} {zs : List Int} {w : World} {p : Nat} (h : Dw B a len cap zs w p) : w.cell? ⟨B, 1, none⟩ = some (.int .i64 (p : Int)) := by have := h.held; simp [World.cell?, this]
theorem dw_f {B : Nat} {a : Option Addr} {len cap : Nat} {zs : List Int} {w : World} {p : Nat} (h : Dw B a len cap zs w p) : w.frozen? ⟨B, 1, none⟩ = false := by have := h.held; simp [World.frozen?, this]
theorem grownBy_set' (w : World) (B i : Nat) (v : Value) : w.grownBy (w.setCell ⟨B, i, none⟩ v) (some B) :=
  ⟨rfl, rfl, rfl, by simp [World.setCell], fun j _ hr => Below.heap_setCell _ _ _ _ (fun e => hr (by simp [e]))⟩
/-- The reader stays while blocks other than its own and the code's turn, or new ones come. -/
theorem Dw.set {B : Nat} {a : Option Addr} {len cap : Nat} {zs : List Int} {w : World} {p : Nat} (h : Dw B a len cap zs w p) (q : Nat) : Dw B a len cap zs (w.setCell ⟨B, 1, none⟩ (.int .i64 (q : Int))) q :=
  ⟨block_setCell h.held 1 _, fun h0 => by
    obtain ⟨b, off, ha, hb, hc⟩ := h.row h0
    refine ⟨b, off, ha, hb, fun i hi => ?_⟩
    have hk : (w.setCell ⟨B, 1, none⟩ (.int .i64 (q : Int))).heap[b]? = w.heap[b]? := Below.heap_setCell _ _ _ _ (by simp; omega)
    exact (World.cell?_of_block (w := w) (a := ⟨b, off + i, none⟩) hk).trans (hc i hi), h.byt, h.len⟩
theorem Dw.drewN {B : Nat} {a : Option Addr} {len cap : Nat} {zs : List Int} {w : World} {p : Nat} (h : Dw B a len cap zs w p) (n : Nat) : Dw B a len cap zs (w.drewN n) p := ⟨h.held, h.row, h.byt, h.len⟩
theorem grownBy_drewN {w w' : World} {row : Option Nat} (h : w.grownBy w' row) (n : Nat) : w.grownBy (w'.drewN n) row := ⟨h.os, h.tape, h.output, h.size, h.block⟩

theorem xor_nonneg (a b : Int) (ha : 0 ≤ a) (ha2 : a ≤ 4611686018427387904) (hb : 0 ≤ b) (hb2 : b ≤ 4611686018427387904) : 0 ≤ bits .xor .i64 a b := by
  obtain ⟨x, rfl⟩ := Int.eq_ofNat_of_zero_le ha
  obtain ⟨y, rfl⟩ := Int.eq_ofNat_of_zero_le hb
  have h1 : (BitVec.ofInt 64 (x : Int)).toNat = x := by
    rw [BitVec.ofInt_natCast, BitVec.toNat_ofNat]; exact Nat.mod_eq_of_lt (by omega)
  have h2 : (BitVec.ofInt 64 (y : Int)).toNat = y := by
    rw [BitVec.ofInt_natCast, BitVec.toNat_ofNat]; exact Nat.mod_eq_of_lt (by omega)
  have h3 : x ^^^ y < 2 ^ 63 := Nat.xor_lt_two_pow (by omega) (by omega)
  show 0 ≤ IntKind.i64.wrap ((BitVec.ofInt 64 (x : Int) ^^^ BitVec.ofInt 64 (y : Int)).toNat : Int)
  rw [BitVec.toNat_xor, h1, h2, IntWalk.i64_in _ (by omega)]
  omega

/-- What pick does: a number v with 0 ≤ v < n, and the place goes on by one. -/
def PickR (B : Nat) (a : Option Addr) (len cap : Nat) (zs : List Int) (p : Nat) (n : Int) (w : World) (e : Ending) (w' : World) : Prop :=
  ∃ v : Int, e = .returned (.int .i64 v) ∧ 0 ≤ v ∧ v < n ∧ Dw B a len cap zs w' (p + 1) ∧ w.grownBy w' (some B)

set_option maxRecDepth 100000 in
set_option maxHeartbeats 800000 in
theorem pick_any (B : Nat) (a : Option Addr) (len cap : Nat) (zs : List Int) (p : Nat) (n : Int) (w : World) (hn : 1 ≤ n) (hp : p ≤ 1000000000) (h : Dw B a len cap zs w p) :
    Calls Tryz.prog 72 #[.pointer (some ⟨B, 0, none⟩), .int .i64 n] w (PickR B a len cap zs p n w) := by
  have hl := h.len
  have c0 := dw_code h
  have c1 := dw_p h
  have f1 := dw_f h
  have hD := h.set (p + 1)
  have hG := grownBy_set' w B 1 (.int .i64 ((p + 1 : Nat) : Int))
  rw [show ((p + 1 : Nat) : Int) = (p : Int) + 1 by omega] at hD hG
  by_cases h0 : len = 0
  · have hz : ((len : Int) == 0) = true := by simp [h0]
    clear h h0
    go_enter Tryz.func72, Tryz.ntmps72
    go_wp2
    go_ret
    exact ⟨0, rfl, by omega, by omega, hD, hG⟩
  have hpos : 0 < len := by omega
  have hz : ((len : Int) == 0) = false := by simp [h0]
  obtain ⟨b, off, rfl, hb, hc⟩ := hD.row hpos
  have hbd := h.byt
  clear h h0
  by_cases hk : p < len
  · have hcp := hc p hk
    have hbp := hbd p
    clear hc hbd
    generalize zs.getD p 0 = x at hcp hbp
    obtain ⟨hb0, hb1⟩ := hbp
    have hv := Int.emod_nonneg x (show n ≠ 0 by omega)
    have hv2 := Int.emod_lt_of_pos x (show 0 < n by omega)
    have HV := Lib.hid (And.intro hv hv2)
    clear hv hv2
    go_enter Tryz.func72, Tryz.ntmps72
    go_wp2
    go_ret
    exact ⟨_, rfl, HV.out.1, HV.out.2, hD, hG⟩
  · have hm := Nat.mod_lt p hpos
    have hm2 := Nat.mod_lt (p * 7 + 3) hpos
    have hcp := hc _ hm
    have hcq := hc _ hm2
    have hbp := hbd (p % len)
    have hbq := hbd ((p * 7 + 3) % len)
    clear hc hbd
    generalize zs.getD (p % len) 0 = x at hcp hbp
    generalize zs.getD ((p * 7 + 3) % len) 0 = y at hcq hbq
    obtain ⟨hb0, hb1⟩ := hbp
    obtain ⟨hb2, hb3⟩ := hbq
    have hdiv : (p : Int) / (len : Int) ≤ 1000000000 := by
      have : p / len ≤ p := Nat.div_le_self _ _
      have e : ((p / len : Nat) : Int) = (p : Int) / (len : Int) := by simp
      omega
    have hdiv0 : 0 ≤ (p : Int) / (len : Int) := Int.ediv_nonneg (by omega) (by omega)
    have i1 : 0 ≤ (p : Int) % (len : Int) := Int.emod_nonneg _ (by omega)
    have i2 : (p : Int) % (len : Int) < (len : Int) := Int.emod_lt_of_pos _ (by omega)
    have i3 : 0 ≤ ((p : Int) * 7 + 3) % (len : Int) := Int.emod_nonneg _ (by omega)
    have i4 : ((p : Int) * 7 + 3) % (len : Int) < (len : Int) := Int.emod_lt_of_pos _ (by omega)
    go_enter Tryz.func72, Tryz.ntmps72
    go_wp2
    go_quiet (fail)
    go_wp2
    go_ret
    have hX : 0 ≤ bits .xor .i64 (x * 131 + y * 1117 + (p : Int) * 29 + (p : Int) / (len : Int) * 53) ((x * 131 + y * 1117 + (p : Int) * 29 + (p : Int) / (len : Int) * 53) / 64) :=
      xor_nonneg _ _ (by omega) (by omega) (by omega) (by omega)
    exact ⟨_, rfl, Int.tmod_nonneg _ hX, Int.tmod_lt_of_pos _ (by omega), hD.drewN _, grownBy_drewN hG _⟩

/-- What the walk is told of a slice of integers that came in. -/
def IsRow (k : IntKind) (w : World) (a : Option Addr) (len cap : Nat) (zs : List Int) : Prop :=
  (a = none ∧ len = 0 ∧ cap = 0 ∧ zs = []) ∨
  ∃ x, a = some x ∧ len ≤ cap ∧ cap ≤ maxLen ∧ zs.length = cap ∧ (∀ i, i < zs.length → w.cell? (x.add i) = some (.int k (zs.getD i 0))) ∧ ∀ n ∈ zs, (Lit.int k n).wf = true

def OpenR (w : World) (e : Ending) (w' : World) : Prop :=
  ∃ B a len cap zs, e = .returned (.pointer (some ⟨B, 0, none⟩)) ∧ w.heap.size ≤ B ∧ Dw B a len cap zs w' 0 ∧ Below w.heap.size w w'
theorem wf_u8 {n : Int} (h : (Lit.int .u8 n).wf = true) : 0 ≤ n ∧ n < 256 := by
  have := bounds_u8 h
  omega

theorem block_lt {w : World} {b o : Nat} {v : Value} (h : w.cell? ⟨b, o, none⟩ = some v) : b < w.heap.size := by
  rcases Nat.lt_or_ge b w.heap.size with h' | h'
  · exact h'
  · simp [World.cell?, Array.getElem?_eq_none h'] at h
theorem heap_new' (w : World) (o : Obj) : (w.alloc o).heap[w.heap.size]? = some o := by
  show (w.heap.push o)[w.heap.size]? = _
  simp
/-- A reader that has just been laid. -/
theorem dw_new (a : Option Addr) (len n cap : Nat) (zs : List Int) (w : World) (hr : IsRow .u8 w a len cap zs) (hn : n ≤ len) (hn2 : n ≤ 2000) :
    Dw w.heap.size a n cap zs (w.alloc (.cells #[.slice a n cap, .int .i64 0] 114 (0, 0))) 0 := by
  have hB : ∀ i, 0 ≤ zs.getD i 0 ∧ zs.getD i 0 < 256 := by
    intro i
    rcases hr with ⟨_, _, _, rfl⟩ | ⟨x, _, _, _, _, _, hw⟩
    · simp
    · by_cases hi : i < zs.length
      · rw [List.getD_eq_getElem?_getD, List.getElem?_eq_getElem hi]
        exact wf_u8 (hw _ (List.getElem_mem hi))
      · rw [List.getD_eq_getElem?_getD, List.getElem?_eq_none (by omega)]; simp
  refine ⟨heap_new' _ _, fun h0 => ?_, hB, hn2⟩
  rcases hr with ⟨_, h, _, _⟩ | ⟨x, rfl, hle, _, hz, hc, _⟩
  · omega
  · obtain ⟨b, off, rfl, hcc⟩ := ints_at hc (by omega)
    have hlt : b < w.heap.size := block_lt (hcc 0 (by omega))
    exact ⟨b, off, rfl, hlt, fun i hi => (Below.cell ((Below.refl w.heap.size w).alloc (Nat.le_refl _) _) (p := ⟨b, off + i, none⟩) hlt).trans (hcc i (by omega))⟩

set_option maxRecDepth 100000 in
set_option maxHeartbeats 800000 in
theorem l6Open_any (a : Option Addr) (len cap : Nat) (zs : List Int) (w : World) (hr : IsRow .u8 w a len cap zs) (hlm : len ≤ 1048576) :
    Calls Tryz.prog 50 #[.slice a len cap] w (OpenR w) := by
  have hle : len ≤ cap ∨ len = 0 := by
    rcases hr with ⟨_, h, _, _⟩ | ⟨_, _, h, _⟩
    · exact .inr h
    · exact .inl h
  have hcm : cap ≤ maxLen := by
    rcases hr with ⟨_, _, h, _⟩ | ⟨_, _, _, h, _⟩
    · omega
    · exact h
  unfold maxLen at hcm
  by_cases h2 : (2000 : Int) < (len : Int)
  · have hD := dw_new a len 2000 cap zs w hr (by omega) (Nat.le_refl _)
    have h3 : len ≤ cap := by omega
    go_enter Tryz.func50, Tryz.ntmps50
    go_wp2
    go_ret
    exact ⟨_, _, _, _, _, rfl, Nat.le_refl _, hD, (Below.refl _ _).alloc (Nat.le_refl _) _⟩
  · have hD := dw_new a len len cap zs w hr (by omega) (by omega)
    go_enter Tryz.func50, Tryz.ntmps50
    go_wp2
    go_ret
    exact ⟨_, _, _, _, _, rfl, Nat.le_refl _, hD, (Below.refl _ _).alloc (Nat.le_refl _) _⟩

/-- What stays: the reader and the code under changes elsewhere. -/
theorem Dw.of {B : Nat} {a : Option Addr} {len cap : Nat} {zs : List Int} {w w' : World} {p : Nat} (h : Dw B a len cap zs w p) (hk : ∀ k, k ≤ B → w'.heap[k]? = w.heap[k]?) : Dw B a len cap zs w' p :=
  ⟨(hk B (Nat.le_refl _)).trans h.held, fun h0 => by
    obtain ⟨b, off, ha, hb, hc⟩ := h.row h0
    exact ⟨b, off, ha, hb, fun i hi => (World.cell?_of_block (w := w) (a := ⟨b, off + i, none⟩) (hk b (by omega))).trans (hc i hi)⟩, h.byt, h.len⟩
theorem Dw.lt {B : Nat} {a : Option Addr} {len cap : Nat} {zs : List Int} {w : World} {p : Nat} (h : Dw B a len cap zs w p) : B < w.heap.size := lt_of_block h.held
theorem Dw.alloc {B : Nat} {a : Option Addr} {len cap : Nat} {zs : List Int} {w : World} {p : Nat} (h : Dw B a len cap zs w p) (o : Obj) : Dw B a len cap zs (w.alloc o) p :=
  h.of fun k hk => Below.heap_alloc _ _ _ (by have := h.lt; omega)
theorem gtrans {w a b : World} {row : Option Nat} (h : w.grownBy a row) (k : a.grownBy b row) : w.grownBy b row :=
  ⟨k.os.trans h.os, k.tape.trans h.tape, k.output.trans h.output, Nat.le_trans h.size k.size, fun j hj hr => (k.block j (Nat.lt_of_lt_of_le hj h.size) hr).trans (h.block j hj hr)⟩

/-- A block of numbers that has just been laid. -/
theorem lit_cell (xs : List Int) (t : TypeId) (W : World) (k : Nat) (hk : k < xs.length) : (W.alloc (.cells (xs.map (Value.int .i64)).toArray t)).cell? ⟨W.heap.size, k, none⟩ = some (.int .i64 (xs.getD k 0)) :=
  (World.cell?_alloc_mark W _ _ _ k).trans (by simp [List.getD, List.getElem?_eq_getElem hk])
theorem getD_bd (xs : List Int) (lo hi : Int) (h : ∀ x ∈ xs, lo ≤ x ∧ x ≤ hi) (k : Nat) (hk : k < xs.length) : lo ≤ xs.getD k 0 ∧ xs.getD k 0 ≤ hi := by
  rw [List.getD_eq_getElem?_getD, List.getElem?_eq_getElem hk]
  exact h _ (List.getElem_mem hk)

/-- What a drawing function does that hands back a number: it lies between lo and hi, and the place goes on by at most c. -/
def NumR (B : Nat) (a : Option Addr) (len cap : Nat) (zs : List Int) (p c : Nat) (lo hi : Int) (w : World) (e : Ending) (w' : World) : Prop :=
  ∃ (v : Int) (q : Nat), e = .returned (.int .i64 v) ∧ lo ≤ v ∧ v ≤ hi ∧ p ≤ q ∧ q ≤ p + c ∧ Dw B a len cap zs w' q ∧ w.grownBy w' (some B)

theorem IsRow.below {k : IntKind} {w w' : World} {a : Option Addr} {len cap : Nat} {zs : List Int} (h : IsRow k w a len cap zs) (hb : Below w.heap.size w w') : IsRow k w' a len cap zs := by
  rcases h with h | ⟨x, rfl, hl, hm, hz, hc, hw⟩
  · exact .inl h
  · refine .inr ⟨x, rfl, hl, hm, hz, fun i hi => ?_, hw⟩
    obtain ⟨b, off, rfl, hcc⟩ := ints_at hc (by omega)
    exact (Below.cell hb (p := (⟨b, off, none⟩ : Addr).add i) (by have := block_lt (hcc 0 (by omega)); unfold Addr.add; split <;> simpa using this)).trans (hc i hi)
theorem IsRow.len {k : IntKind} {w : World} {a : Option Addr} {len cap : Nat} {zs : List Int} (h : IsRow k w a len cap zs) : len ≤ 9223372036854775807 := by
  have hcm : len ≤ maxLen := by
    rcases h with ⟨_, h, _, _⟩ | ⟨_, _, h, h2, _⟩
    · omega
    · omega
  unfold maxLen at hcm
  omega

/-- Drawing a number out of a code. -/
def DrawNum (w : World) (e : Ending) (w' : World) : Prop := ∃ v : Int, e = .returned (.int .i64 v) ∧ -1 ≤ v ∧ v ≤ 4294967296 ∧ Below w.heap.size w w'

end Go.Proofs.YtoocibabceeagabGreat
