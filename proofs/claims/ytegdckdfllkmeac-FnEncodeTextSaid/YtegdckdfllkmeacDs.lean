/-
  Contracts of the model's drawing kit: strings.
-/
import Derived.Test.YtegdckdfllkmeacDr
import Derived.Test.YtegdckdfllkmeacNum
import Derived.Deep.RegionWith
import Derived.Laws.Closers25b
import Derived.Outline
import Derived.OwnWalk
import Derived.Laws.OwnMore
namespace Go.Proofs.Ytegdckdfllkmeac
open Go.RowKit

theorem lit_cellV (vs : List Value) (t : TypeId) (W : World) (k : Nat) (v : Value) (hk : vs[k]? = some v) : (W.alloc (.cells vs.toArray t)).cell? ⟨W.heap.size, k, none⟩ = some v :=
  (World.cell?_alloc_mark W _ _ _ k).trans (by simpa using hk)
theorem grownBy_drew {w w' : World} {row : Option Nat} (h : w.grownBy w' row) : w.grownBy w'.drew row := ⟨h.os, h.tape, h.output, h.size, h.block⟩
/-- What a drawing function does that hands back a string: at most L bytes, and the place goes on by at most c. -/
def StrR (B : Nat) (a : Option Addr) (len cap : Nat) (zs : List Int) (p c : Nat) (L : Nat) (w : World) (e : Ending) (w' : World) : Prop :=
  ∃ (s : ByteArray) (q : Nat), e = .returned (.string s) ∧ s.size ≤ L ∧ p ≤ q ∧ q ≤ p + c ∧ Dw B a len cap zs w' q ∧ w.grownBy w' (some B)

set_option maxRecDepth 100000 in
set_option maxHeartbeats 800000 in
theorem l91Word_any (B : Nat) (a : Option Addr) (len cap : Nat) (zs : List Int) (p : Nat) (w : World) (hp : p ≤ 800000000) (hD0 : Dw B a len cap zs w p) :
    Calls Try.prog 31 #[.pointer (some ⟨B, 0, none⟩)] w (StrR B a len cap zs p 1 5 w) := by
  go_enter Try.func31, Try.ntmps31
  go_wp2_with fail
  have hD1 := hD0.alloc (.cells (([⟨#[]⟩, ⟨#[97]⟩, ⟨#[97, 98]⟩, ⟨#[99, 111, 105, 110]⟩, ⟨#[0]⟩, ⟨#[1]⟩, ⟨#[122, 122]⟩, ⟨#[104, 101, 108, 108, 111]⟩] : List ByteArray).map Value.string).toArray 9)
  refine (pick_any B a len cap zs _ 8 _ (by omega) (by omega) hD1).mono ?_
  rintro e w2 ⟨v, rfl, a2, b2, hD2, hG2⟩
  obtain ⟨k, rfl⟩ := Int.eq_ofNat_of_zero_le a2
  have hk : k < 8 := by omega
  have hne : w.heap.size ≠ B := by have := hD0.lt; omega
  obtain ⟨s, hs, hsz⟩ : ∃ s : ByteArray, ([⟨#[]⟩, ⟨#[97]⟩, ⟨#[97, 98]⟩, ⟨#[99, 111, 105, 110]⟩, ⟨#[0]⟩, ⟨#[1]⟩, ⟨#[122, 122]⟩, ⟨#[104, 101, 108, 108, 111]⟩] : List ByteArray)[k]? = some s ∧ s.size ≤ 5 := by
    match k, hk with
    | 0, _ => exact ⟨_, rfl, by decide⟩
    | 1, _ => exact ⟨_, rfl, by decide⟩
    | 2, _ => exact ⟨_, rfl, by decide⟩
    | 3, _ => exact ⟨_, rfl, by decide⟩
    | 4, _ => exact ⟨_, rfl, by decide⟩
    | 5, _ => exact ⟨_, rfl, by decide⟩
    | 6, _ => exact ⟨_, rfl, by decide⟩
    | 7, _ => exact ⟨_, rfl, by decide⟩
  have hc : w2.cell? ⟨w.heap.size, k, none⟩ = some (.string s) := hG2.cell (lit_cellV _ _ _ _ _ (by rw [List.getElem?_map, hs]; rfl)) (by simpa using hne)
  clear hs
  go_wp2
  go_ret
  exact ⟨s, _, rfl, hsz, by omega, by omega, hD2, gtrans (World.grownBy_alloc _ _ _) hG2⟩

set_option maxHeartbeats 800000 in
theorem l6Mod_any (n m : Int) (w : World) (g0 : 1 ≤ m) (g1 : m ≤ 4611686018427387904) :
    Calls Try.prog 29 #[.int .i64 n, .int .i64 m] w fun e w' => e = .returned (.int .i64 ((n.tmod m + m) % m)) ∧ w = w' := by
  have k1 := Int.tmod_lt_of_pos n (show 0 < m by omega)
  have k2 : -m < n.tmod m := Int.lt_tmod_of_pos n (by omega)
  go_enter Try.func29, Try.ntmps29
  go_wp2
  go_ret
  exact ⟨rfl, rfl⟩
set_option maxRecDepth 100000 in
set_option maxHeartbeats 800000 in
theorem l91Spoil_any (B : Nat) (a : Option Addr) (len cap : Nat) (zs : List Int) (p : Nat) (s : ByteArray) (w : World) (hs : s.size ≤ 1000000) (hp : p ≤ 800000000) (hD0 : Dw B a len cap zs w p) :
    Calls Try.prog 51 #[.pointer (some ⟨B, 0, none⟩), .string s] w (StrR B a len cap zs p 3 (s.size + 5) w) := by
  by_cases h0 : s.size = 0
  · have hz : s = ByteArray.empty := by
      cases s with | mk d => simp [ByteArray.size] at h0; subst h0; rfl
    have hE : s.toList.isEmpty = true := by rw [List.isEmpty_iff, toList_nil_iff_emptyBytes]; exact hz
    clear hz
    go_enter Try.func51, Try.ntmps51
    go_wp2_with fail
    refine (l91Word_any B a len cap zs _ _ (by omega) hD0).mono ?_
    rintro e w1 ⟨t, q, rfl, ht, q0, q1, hD1, hG1⟩
    go_wp2
    go_ret
    exact ⟨t, q, rfl, by omega, q0, by omega, hD1, hG1⟩
  have hE : s.toList.isEmpty = false := by
    rw [Bool.eq_false_iff]
    intro h
    have h' := List.isEmpty_iff.1 h
    rw [toList_nil_iff_emptyBytes] at h'
    rw [h'] at h0
    exact h0 rfl
  go_enter Try.func51, Try.ntmps51
  go_wp2_with fail
  refine (pick_any B a len cap zs _ _ _ (by omega) (by omega) hD0).mono ?_
  rintro e w1 ⟨k, rfl, a1, b1, hD1, hG1⟩
  go_wp2_with fail
  refine (pick_any B a len cap zs _ _ _ (by omega) (by omega) hD1).mono ?_
  rintro e w2 ⟨v, rfl, a2, b2, hD2, hG2⟩
  have hG := gtrans hG1 hG2
  by_cases v0 : v = 0
  · have hv0 := Lib.hid v0
    have H0 : (v == 0) = true := by simpa using v0
    clear v0
    have hadd : ∀ W, (Op.stringOp .add (s.extract 0 k.toNat) (s.extract (k + 1).toNat s.size)).run Try.prog W = .ok (.string (s.extract 0 k.toNat ++ s.extract (k + 1).toNat s.size)) W :=
      fun W => run_string_add_sum (P := Try.prog) W _ _ (by simp [ByteArray.size_extract]; omega)
    go_wp2
    go_quiet (fail)
    go_wp2
    go_ret
    exact ⟨_, _, rfl, by simp [ByteArray.size_extract]; omega, by omega, by omega, hD2.drewN _, grownBy_drewN hG _⟩
  have H0 : (v == 0) = false := by simpa using v0
  by_cases v1 : v = 1
  · have H1 : (v == 1) = true := by simpa using v1
    clear v0 v1
    go_wp2
    go_ret
    exact ⟨_, _, rfl, by simp [ByteArray.size_extract]; omega, by omega, by omega, hD2, hG⟩
  have H1 : (v == 1) = false := by simpa using v1
  by_cases v2 : v = 2
  · have H2 : (v == 2) = true := by simpa using v2
    clear v0 v1 v2
    go_wp2
    have c1 := fun (y : Int) (W : World) => conv_new [y] 1 W
    simp only [List.map, List.length] at c1
    have hadd : ∀ y W, (Op.stringOp .add (s.extract 0 k.toNat) (strOfNums [y])).run Try.prog W = .ok (.string (s.extract 0 k.toNat ++ strOfNums [y])) W :=
      fun y W => run_string_add_sum (P := Try.prog) W _ _ (by rw [strOfNums_size]; simp [ByteArray.size_extract]; omega)
    have hadd2 : ∀ y W, (Op.stringOp .add (s.extract 0 k.toNat ++ strOfNums [y]) (s.extract (k + 1).toNat s.size)).run Try.prog W = .ok (.string (s.extract 0 k.toNat ++ strOfNums [y] ++ s.extract (k + 1).toNat s.size)) W :=
      fun y W => run_string_add_sum (P := Try.prog) W _ _ (by rw [ByteArray.size_append, strOfNums_size]; simp [ByteArray.size_extract]; omega)
    have hk0 : 0 ≤ k + 1 := by omega
    have hk1 : k + 1 ≤ (s.size : Int) := by omega
    have hsl : ∀ W, (Instr.slice 9 (.string s) (some (.int .i64 (k + 1))) none none).run Try.prog W = .ok (.string (s.extract (k + 1).toNat s.size)) W := by
      intro W
      simp [Instr.slice, Instr.sliceBounds, Instr.sliceBound, asIntOf, run_underlying Try.underlying9, hk0, hk1]
    have hwr : IntKind.i64.wrap (k + 1) = k + 1 := IntWalk.i64_in _ (by omega)
    go_region_with (go_at_call 33; go_must (refine (pick_any B a len cap zs (p + 1 + 1) 256 _ (by omega) (by omega) (by exact ⟨hD2.held, hD2.row, hD2.byt, hD2.len⟩)).mono ?_); go_must (rintro e w3 ⟨y, rfl, a3, b3, hD3, hG3⟩))
    all_goals clear hwr hadd hadd2 c1 hsl
    all_goals go_wp2
    all_goals go_ret
    all_goals exact ⟨_, p + 1 + 1 + 1, rfl, by rw [ByteArray.size_append, ByteArray.size_append, strOfNums_size]; simp [ByteArray.size_extract]; omega, by omega, by omega, hD3.alloc _, gtrans (gtrans (grownBy_drew hG) hG3) (World.grownBy_alloc _ _ _)⟩
  have H2 : (v == 2) = false := by simpa using v2
  clear v0 v1 v2
  go_wp2_with fail
  refine (pick_any B a len cap zs _ _ _ (by omega) (by omega) hD2).mono ?_
  rintro e w3 ⟨y, rfl, a3, b3, hD3, hG3⟩
  have c1 := fun (W : World) => conv_new [y] 1 W
  simp only [List.map, List.length] at c1
  have hadd : ∀ W, (Op.stringOp .add s (strOfNums [y])).run Try.prog W = .ok (.string (s ++ strOfNums [y])) W :=
    fun W => run_string_add_sum (P := Try.prog) W _ _ (by rw [strOfNums_size]; simp; omega)
  go_wp2
  go_ret
  exact ⟨_, _, rfl, by rw [ByteArray.size_append, strOfNums_size]; simp, by omega, by omega, hD3.alloc _, gtrans (gtrans hG hG3) (World.grownBy_alloc _ _ _)⟩

set_option maxHeartbeats 800000 in
theorem l91Seldom_any (B : Nat) (a : Option Addr) (len cap : Nat) (zs : List Int) (p : Nat) (s : ByteArray) (w : World) (hs : s.size ≤ 1000000) (hp : p ≤ 700000000) (hD0 : Dw B a len cap zs w p) :
    Calls Try.prog 27 #[.pointer (some ⟨B, 0, none⟩), .string s] w (StrR B a len cap zs p 4 (s.size + 5) w) := by
  go_enter Try.func27, Try.ntmps27
  go_wp2_with fail
  refine (pick_any B a len cap zs _ 6 _ (by omega) (by omega) hD0).mono ?_
  rintro e w1 ⟨k, rfl, a1, b1, hD1, hG1⟩
  by_cases k0 : k = 0
  · have H0 : (k == 0) = true := by simpa using k0
    clear k0
    go_wp2_with fail
    refine (l91Spoil_any B a len cap zs _ s _ hs (by omega) hD1).mono ?_
    rintro e w2 ⟨t, q, rfl, ht, q0, q1, hD2, hG2⟩
    go_wp2
    go_ret
    exact ⟨t, q, rfl, ht, by omega, by omega, hD2, gtrans hG1 hG2⟩
  · have H0 : (k == 0) = false := by simpa using k0
    clear k0
    go_wp2
    go_ret
    exact ⟨s, _, rfl, by omega, by omega, by omega, hD1, hG1⟩

theorem info_u8 : (Try.prog.info? 5).map (fun i => (i.zero, i.size, i.bytes)) = some (some (.int .u8 0), 1, 1) := by kernel_rfl
/-- 'string(b)' of bytes that the call owns. -/
theorem own_string {base n : Nat} {v : Value} {xs : List Int} {W : World} (h : W.ownsRow base 5 1 v n (xs.map (Value.int .u8))) (hn : xs.length = n) :
    (convert 22 9 v).run Try.prog W = .ok (.string (strOfNums xs)) W := by
  rcases h.2 with ⟨rfl, h0⟩ | ⟨g, cap, cur, rfl, _, _, _⟩
  · have : xs = [] := List.eq_nil_of_length_eq_zero (by omega)
    subst this
    exact run_convert_bytes_nil (P := Try.prog) W 22 5 (by kernel_rfl) (by kernel_rfl) 0 0 9 (by kernel_rfl)
  · refine run_convert_bytes_arg (P := Try.prog) W 22 5 (by kernel_rfl) (by kernel_rfl) g 0 n cap xs hn (fun i hi => ?_) 9 (by kernel_rfl)
    have := h.cells (g := g) rfl i (.int .u8 (xs.getD i 0)) (by simp [List.getD, List.getElem?_eq_getElem (show i < xs.length by omega)])
    have hadr : (⟨g, 0, none⟩ : Addr).add i = ⟨g, 0 + i, none⟩ := by unfold Addr.add; split <;> simp_all
    rw [hadr] at this
    exact this
theorem gtrans_own {w a b : World} {row r2 : Option Nat} (h : w.grownBy a row) (k : a.grownBy b r2) (hr : ∀ j, r2 = some j → w.heap.size ≤ j) : w.grownBy b row :=
  ⟨k.os.trans h.os, k.tape.trans h.tape, k.output.trans h.output, Nat.le_trans h.size k.size, fun j hj hn => (k.block j (Nat.lt_of_lt_of_le hj h.size) (fun e => by have := hr j e.symm; omega)).trans (h.block j hj hn)⟩
theorem own_ne {W : World} {base n size : Nat} {e : TypeId} {v : Value} {xs : List Value} (h : W.ownsRow base e size v n xs) {B : Nat} (hB : B < base) : v.ownBlock = none ∨ v.ownBlock ≠ some B := by
  cases hv : v.ownBlock with
  | none => exact .inl rfl
  | some k => exact .inr (fun he => by cases he; have := (h.lt _ hv).1; omega)

set_option maxRecDepth 100000 in
set_option maxHeartbeats 1600000 in
theorem l91Bytes_any (B : Nat) (a : Option Addr) (len cap : Nat) (zs : List Int) (p : Nat) (w : World) (hp : p ≤ 800000000) (hD0 : Dw B a len cap zs w p) :
    Calls Try.prog 32 #[.pointer (some ⟨B, 0, none⟩)] w (StrR B a len cap zs p 40 30 w) := by
  obtain ⟨i0, hi, hz0, hz1, hz2⟩ := info_parts info_u8
  have hBw := hD0.lt
  go_enter Try.func32, Try.ntmps32
  go_wp2_with fail
  refine (pick_any B a len cap zs _ 30 _ (by omega) (by omega) hD0).mono ?_
  rintro e w1 ⟨v1, rfl, a1, b1, hD1, hG1⟩
  go_wp2_with fail
  have hD2 := hD1.alloc (.cells (([0, 1, 2, 4, 7, v1] : List Int).map (Value.int .i64)).toArray 3)
  refine (pick_any B a len cap zs _ 6 _ (by omega) (by omega) hD2).mono ?_
  rintro e w3 ⟨v3, rfl, a3, b3, hD3, hG3⟩
  have hne : w1.heap.size ≠ B := by have := hD1.lt; omega
  have hcell : ∀ k, k < 6 → w3.cell? ⟨w1.heap.size, k, none⟩ = some (.int .i64 (([0, 1, 2, 4, 7, v1] : List Int).getD k 0)) :=
    fun k hk => hG3.cell (lit_cell _ _ _ _ hk) (by simpa using hne)
  have hbd := getD_bd ([0, 1, 2, 4, 7, v1] : List Int) 0 29 (by simp; omega)
  obtain ⟨k, rfl⟩ := Int.eq_ofNat_of_zero_le a3
  have hc := hcell k (by omega)
  have hb := hbd k (by simp; omega)
  generalize ([0, 1, 2, 4, 7, v1] : List Int).getD k 0 = n at hc hb
  obtain ⟨n0, n1⟩ := hb
  have hG := gtrans (gtrans hG1 (World.grownBy_alloc _ (.cells (([0, 1, 2, 4, 7, v1] : List Int).map (Value.int .i64)).toArray 3) _)) hG3
  clear hcell hbd hG1 hG3 hD0 hD1 hD2
  go_wp2
  go_loopw [4, 5] (fun v i wr => ∃ (j : Nat) (xs : List Int) (q : Nat), (j : Int) ≤ n ∧ i = .int .i64 (j : Int) ∧ xs.length = j ∧ wr.ownsRow w.heap.size 5 1 v j (xs.map (Value.int .u8)) ∧ Dw B a len cap zs wr q ∧ q ≤ p + 2 + j ∧ p ≤ q ∧ w.grownBy wr (some B))
    (fun _ i _ => (n - intOf i).toNat)
  case atStart => exact ⟨0, [], _, n0, rfl, rfl, World.ownsRow_made _ _ _ (by have := hG.size; simpa using this) (by decide) rfl, hD3.alloc _, by omega, by omega, gtrans hG (World.grownBy_alloc _ _ _)⟩
  case round =>
    obtain ⟨j, xs, q, hj, rfl, hl, hown, hD, q1, q0, hGr⟩ := hrel
    by_cases hlt : (j : Int) < n
    · go_wp2_with fail
      refine (pick_any B a len cap zs _ 256 _ (by omega) (by omega) hD).mono ?_
      rintro e w4 ⟨y, rfl, a4, b4, hD4, hG4⟩
      have hown4 := hown.kept hG4 (own_ne hown hBw)
      clear hown
      go_wp2_with (at_builtin; refine wpList_append_own _ rfl _ _ 22 rfl w.heap.size 5 i0 (.int .u8 0) 1 1 Try.underlying22 hi hz0 hz1 hz2 rfl (by decide) _ _ _ rfl (hown4.alloc _) ⟨w4.heap.size, 0, none⟩ 1 1 [.int .u8 y] rfl rfl ?c1 ?c2 ?c3 ?c4 ?c5 ?_)
      case c1 =>
        intro j' u hj'
        match j', hj' with
        | 0, hj' => simp at hj'; subst hj'; simp [Addr.add]
      case c2 => intro u hu; simp at hu; subst hu; rfl
      case c3 => unfold maxLen; omega
      case c4 => omega
      case c5 => have := hGr.size; have := hG4.size; simp; omega
      intro v' w5 hown5 hgrow _
      have hD5 : Dw B a len cap zs w5 (q + 1) := (hD4.alloc _).of fun k hk => hgrow.block k (by have := hD4.lt; simp; omega) (fun e => by have := (hown4.lt _ e.symm).1; omega)
      have hG5 := gtrans_own (gtrans (gtrans hGr hG4) (World.grownBy_alloc _ _ _)) hgrow (fun j he => (hown4.lt _ he).1)
      clear hown4 hgrow hGr hG4 hD hD4
      go_wp2
      go_roundw
      case rel => exact ⟨j + 1, xs ++ [y], q + 1, by omega, by simp, by simp [hl], by simpa using hown5, hD5, by omega, by omega, hG5⟩
      case measure => simp [intOf]; omega
    · have hcv := own_string hown hl
      go_wp2
      go_ret
      exact ⟨_, q, rfl, by rw [strOfNums_size]; omega, q0, by omega, hD, hGr⟩

/-- Drawing a string out of a code. -/
def DrawStr (L : Nat) (w : World) (e : Ending) (w' : World) : Prop := ∃ s : ByteArray, e = .returned (.string s) ∧ s.size ≤ L ∧ Below w.heap.size w w'

set_option maxRecDepth 100000 in
set_option maxHeartbeats 1600000 in
theorem drawDecodeNum_any (a : Option Addr) (len cap : Nat) (zs : List Int) (w : World) (hr : IsRow .u8 w a len cap zs) (hlm : len ≤ 1048576) :
    Calls Try.prog 9 #[.slice a len cap] w (DrawStr 30 w) := by
  go_enter Try.func9, Try.ntmps9
  go_wp2_with fail
  refine (l6Open_any a len cap zs _ hr hlm).mono ?_
  rintro e w1 ⟨B, a', l', c', zs', rfl, hB, hD, hb1⟩
  clear hr
  go_wp2_with fail
  refine (l91Num_any B a' l' c' zs' 0 _ (by omega) hD).mono ?_
  rintro e w2 ⟨v, q, rfl, h1, h2, _, q2, hD2, hG2⟩
  go_wp2_with fail
  refine (l6Mod_any v 4294967296 _ (by omega) (by omega)).mono ?_
  rintro e w2' ⟨rfl, rfl⟩
  have m0 : 0 ≤ (v.tmod 4294967296 + 4294967296) % 4294967296 := Int.emod_nonneg _ (by omega)
  have m1 : (v.tmod 4294967296 + 4294967296) % 4294967296 ≤ 4294967295 := by
    have := Int.emod_lt_of_pos (v.tmod 4294967296 + 4294967296) (show (0 : Int) < 4294967296 by omega)
    omega
  generalize (v.tmod 4294967296 + 4294967296) % 4294967296 = n at m0 m1 ⊢
  go_wp2_with fail
  refine (l1Num_any n _ m0 m1).mono ?_
  rintro e w3 ⟨rfl, hb3⟩
  have hD3 := hD2.of (w' := w3) (fun k hk => hb3.block k (by have := hD2.lt; omega))
  have hG3 : w1.grownBy w3 (some B) := gtrans hG2 ⟨hb3.os, hb3.tape, hb3.output, hb3.size, fun k hk _ => hb3.block k hk⟩
  have hsz := En.size_num n
  clear hD hD2 hG2 hb3
  go_wp2_with fail
  refine (l91Seldom_any B a' l' c' zs' _ (En.num n) _ (by omega) (by omega) hD3).mono ?_
  rintro e w4 ⟨s1, q4, rfl, z4, p4, r4, hD4, hG4⟩
  have hG4 := gtrans hG3 hG4
  clear hD3 hG3
  go_wp2_with fail
  refine (l91Word_any B a' l' c' zs' _ _ (by omega) hD4).mono ?_
  rintro e w5 ⟨s2, q5, rfl, z5, p5, r5, hD5, hG5⟩
  have hG5 := gtrans hG4 hG5
  clear hD4 hG4
  have hadd : ∀ W, (Op.stringOp .add s1 s2).run Try.prog W = .ok (.string (s1 ++ s2)) W :=
    fun W => run_string_add_sum (P := Try.prog) W _ _ (by omega)
  go_wp2_with fail
  refine (l91Bytes_any B a' l' c' zs' _ _ (by omega) hD5).mono ?_
  rintro e w6 ⟨s3, q6, rfl, z6, p6, r6, hD6, hG6⟩
  have hG6 := gtrans hG5 hG6
  clear hD5 hG5
  have hD7 := hD6.alloc (.cells (([.string (s1 ++ s2), .string s3] : List Value)).toArray 9)
  go_wp2_with fail
  refine (pick_any B a' l' c' zs' _ 4 _ (by omega) (by omega) hD7).mono ?_
  rintro e w8 ⟨x, rfl, x0, x1, hD8, hG8⟩
  have hne : w6.heap.size ≠ B := by have := hD6.lt; omega
  have hcell : ∀ k v, (([.string (s1 ++ s2), .string s3] : List Value))[k]? = some v → w8.cell? ⟨w6.heap.size, k, none⟩ = some v := fun k v hk => hG8.cell (lit_cellV _ _ _ _ _ hk) (by simpa using hne)
  have hG := gtrans hG6 (gtrans (World.grownBy_alloc _ (.cells (([.string (s1 ++ s2), .string s3] : List Value)).toArray 9) _) hG8)
  have hbel := Below.grown hb1 hG hb1.size (fun j hj => by cases hj; exact hB)
  clear hG6 hG8 hD6 hD7 hD8 hb1 hG
  have hz1 : (s1 ++ s2).size ≤ 30 := by rw [ByteArray.size_append]; omega
  by_cases hx : x < 3
  · have e0 : x / 3 = 0 := by omega
    have c0 := hcell 0 _ rfl
    clear hcell
    go_wp2
    go_ret
    exact ⟨_, rfl, hz1, hbel⟩
  · have e1 : x / 3 = 1 := by omega
    have c1 := hcell 1 _ rfl
    clear hcell
    go_wp2
    go_ret
    exact ⟨_, rfl, z6, hbel⟩

set_option maxRecDepth 100000 in
set_option maxHeartbeats 1600000 in
theorem drawDecodeText_any (htext : ∀ (s : ByteArray) (w : World), (s.size : Int) ≤ 4294967295 → Calls Try.prog 39 #[.string s] w fun e w' => e = .returned (.string (En.num s.size ++ s)) ∧ Below w.heap.size w w')
    (a : Option Addr) (len cap : Nat) (zs : List Int) (w : World) (hr : IsRow .u8 w a len cap zs) (hlm : len ≤ 1048576) :
    Calls Try.prog 17 #[.slice a len cap] w (DrawStr 60 w) := by
  have HT := Lib.hid htext
  clear htext
  go_enter Try.func17, Try.ntmps17
  go_wp2_with fail
  refine (l6Open_any a len cap zs _ hr hlm).mono ?_
  rintro e w1 ⟨B, a', l', c', zs', rfl, hB, hD, hb1⟩
  clear hr
  go_wp2_with fail
  refine (l91Bytes_any B a' l' c' zs' _ _ (by omega) hD).mono ?_
  rintro e w2 ⟨s0, q2, rfl, z2, p2, r2, hD2, hG2⟩
  go_wp2_with fail
  refine (HT.out s0 _ (by omega)).mono ?_
  rintro e w3 ⟨rfl, hb3⟩
  have hD3 := hD2.of (w' := w3) (fun k hk => hb3.block k (by have := hD2.lt; omega))
  have hG3 : w1.grownBy w3 (some B) := gtrans hG2 ⟨hb3.os, hb3.tape, hb3.output, hb3.size, fun k hk _ => hb3.block k hk⟩
  have hsz := En.size_num s0.size
  have hsz2 : (En.num s0.size ++ s0).size ≤ 35 := by rw [ByteArray.size_append]; omega
  generalize En.num s0.size ++ s0 = s00 at hsz2 ⊢
  clear hD hD2 hG2 hb3 HT
  go_wp2_with fail
  refine (l91Seldom_any B a' l' c' zs' _ s00 _ (by omega) (by omega) hD3).mono ?_
  rintro e w4 ⟨s1, q4, rfl, z4, p4, r4, hD4, hG4⟩
  have hG4 := gtrans hG3 hG4
  clear hD3 hG3
  go_wp2_with fail
  refine (l91Word_any B a' l' c' zs' _ _ (by omega) hD4).mono ?_
  rintro e w5 ⟨s2, q5, rfl, z5, p5, r5, hD5, hG5⟩
  have hG5 := gtrans hG4 hG5
  clear hD4 hG4
  have hadd : ∀ W, (Op.stringOp .add s1 s2).run Try.prog W = .ok (.string (s1 ++ s2)) W :=
    fun W => run_string_add_sum (P := Try.prog) W _ _ (by omega)
  go_wp2_with fail
  refine (l91Bytes_any B a' l' c' zs' _ _ (by omega) hD5).mono ?_
  rintro e w6 ⟨s3, q6, rfl, z6, p6, r6, hD6, hG6⟩
  have hG6 := gtrans hG5 hG6
  clear hD5 hG5
  have hD7 := hD6.alloc (.cells (([.string (s1 ++ s2), .string s3] : List Value)).toArray 9)
  go_wp2_with fail
  refine (pick_any B a' l' c' zs' _ 4 _ (by omega) (by omega) hD7).mono ?_
  rintro e w8 ⟨x, rfl, x0, x1, hD8, hG8⟩
  have hne : w6.heap.size ≠ B := by have := hD6.lt; omega
  have hcell : ∀ k v, (([.string (s1 ++ s2), .string s3] : List Value))[k]? = some v → w8.cell? ⟨w6.heap.size, k, none⟩ = some v := fun k v hk => hG8.cell (lit_cellV _ _ _ _ _ hk) (by simpa using hne)
  have hG := gtrans hG6 (gtrans (World.grownBy_alloc _ (.cells (([.string (s1 ++ s2), .string s3] : List Value)).toArray 9) _) hG8)
  have hbel := Below.grown hb1 hG hb1.size (fun j hj => by cases hj; exact hB)
  clear hG6 hG8 hD6 hD7 hD8 hb1 hG
  have hz1 : (s1 ++ s2).size ≤ 60 := by rw [ByteArray.size_append]; omega
  by_cases hx : x < 3
  · have e0 : x / 3 = 0 := by omega
    have c0 := hcell 0 _ rfl
    clear hcell
    go_wp2
    go_ret
    exact ⟨_, rfl, hz1, hbel⟩
  · have e1 : x / 3 = 1 := by omega
    have c1 := hcell 1 _ rfl
    clear hcell
    go_wp2
    go_ret
    exact ⟨_, rfl, by omega, hbel⟩
theorem many_step (o s n : Nat) (C : Nat) (h : o + s * n ≤ C) (hn : 0 < n) (b : Nat) (hb : n % 2 = b) : (o + b * s) + (s + s) * (n / 2) ≤ C ∧ s ≤ C ∧ o ≤ C := by
  have e : n = 2 * (n / 2) + b := by omega
  have h1 : s * n = s * (2 * (n / 2)) + s * b := by conv => lhs; rw [e, Nat.mul_add]
  have h2 : s * (2 * (n / 2)) = (s + s) * (n / 2) := by rw [← Nat.mul_assoc, Nat.mul_two]
  have h3 : b * s = s * b := Nat.mul_comm _ _
  have h4 : s ≤ s * n := Nat.le_mul_of_pos_right _ hn
  refine ⟨by omega, by omega, by omega⟩
def ManyR (C : Nat) (w : World) (e : Ending) (w' : World) : Prop := ∃ s : ByteArray, e = .returned (.string s) ∧ s.size ≤ C ∧ w = w'
set_option maxRecDepth 100000 in
set_option maxHeartbeats 1600000 in
theorem l6Many_any (s : ByteArray) (n : Int) (C : Nat) (w : World) (h0 : 0 ≤ n) (hn : n ≤ 1000000) (hC : s.size * n.toNat ≤ C) (hC2 : C ≤ 1000000000) :
    Calls Try.prog 38 #[.string s, .int .i64 n] w (ManyR C w) := by
  obtain ⟨m, rfl⟩ := Int.eq_ofNat_of_zero_le h0
  rw [Int.toNat_natCast] at hC
  go_enter Try.func38, Try.ntmps38
  go_wp2
  go_loop [0, 1, 5] (fun sv nv ov => ∃ (s' o' : ByteArray) (j : Nat), sv = .string s' ∧ nv = .int .i64 (j : Int) ∧ ov = .string o' ∧ o'.size + s'.size * j ≤ C ∧ j ≤ m) (fun _ nv _ => (intOf nv).toNat)
  case atStart => exact ⟨s, ⟨#[]⟩, m, rfl, rfl, rfl, by rw [show (ByteArray.mk #[]).size = 0 from rfl]; omega, Nat.le_refl _⟩
  case round =>
    obtain ⟨s', o', j, rfl, rfl, rfl, hsum, hjm⟩ := hrel
    by_cases hj : 0 < j
    · by_cases hpar : j % 2 = 1
      · obtain ⟨k1, k2, k3⟩ := many_step _ _ _ _ hsum hj 1 hpar
        have hp : ((j : Int) % 2 == 1) = true := by simp; omega
        have ha1 : ∀ W, (Op.stringOp .add o' s').run Try.prog W = .ok (.string (o' ++ s')) W := fun W => run_string_add_sum (P := Try.prog) W _ _ (by omega)
        have ha2 : ∀ W, (Op.stringOp .add s' s').run Try.prog W = .ok (.string (s' ++ s')) W := fun W => run_string_add_sum (P := Try.prog) W _ _ (by omega)
        clear hpar hsum hC
        go_wp2
        go_round
        case rel => exact ⟨s' ++ s', o' ++ s', j / 2, rfl, by simp, rfl, by rw [ByteArray.size_append, ByteArray.size_append]; omega, by omega⟩
        case measure => simp [intOf]; omega
      · obtain ⟨k1, k2, k3⟩ := many_step _ _ _ _ hsum hj 0 (by omega)
        have hp : ((j : Int) % 2 == 1) = false := by simp; omega
        have ha2 : ∀ W, (Op.stringOp .add s' s').run Try.prog W = .ok (.string (s' ++ s')) W := fun W => run_string_add_sum (P := Try.prog) W _ _ (by omega)
        clear hpar hsum hC
        go_wp2
        go_round
        case rel => exact ⟨s' ++ s', o', j / 2, rfl, by simp, rfl, by rw [ByteArray.size_append]; omega, by omega⟩
        case measure => simp [intOf]; omega
    · have : j = 0 := by omega
      subst this
      go_wp2
      go_ret
      exact ⟨o', rfl, by simpa using hsum, rfl⟩
set_option maxRecDepth 100000 in
set_option maxHeartbeats 1600000 in
theorem drawEncodeText_any (a : Option Addr) (len cap : Nat) (zs : List Int) (w : World) (hr : IsRow .u8 w a len cap zs) (hlm : len ≤ 1048576) :
    Calls Try.prog 13 #[.slice a len cap] w (DrawStr 4001 w) := by
  go_enter Try.func13, Try.ntmps13
  go_wp2_with fail
  refine (l6Open_any a len cap zs _ hr hlm).mono ?_
  rintro e w1 ⟨B, a', l', c', zs', rfl, hB, hD, hb1⟩
  clear hr
  go_wp2_with fail
  refine (l91Bytes_any B a' l' c' zs' _ _ (by omega) hD).mono ?_
  rintro e w2 ⟨s0, q2, rfl, z2, p2, r2, hD2, hG2⟩
  clear hD
  go_wp2_with fail
  refine (pick_any B a' l' c' zs' _ 3 _ (by omega) (by omega) hD2).mono ?_
  rintro e w3 ⟨x, rfl, x0, x1, hD3, hG3⟩
  have hG3 := gtrans hG2 hG3
  clear hD2 hG2
  go_wp2_with fail
  refine (l6Many_any ⟨#[120]⟩ _ 4001 _ (by omega) (by omega) (by rw [show (ByteArray.mk #[120]).size = 1 from rfl]; omega) (by omega)).mono ?_
  rintro e w3' ⟨s1, rfl, z1, rfl⟩
  go_wp2_with fail
  refine (pick_any B a' l' c' zs' _ 2 _ (by omega) (by omega) hD3).mono ?_
  rintro e w4 ⟨y, rfl, y0, y1, hD4, hG4⟩
  have hG4 := gtrans hG3 hG4
  clear hD3 hG3
  go_wp2_with fail
  refine (l6Many_any ⟨#[121]⟩ _ 4001 _ (by omega) (by omega) (by rw [show (ByteArray.mk #[121]).size = 1 from rfl]; omega) (by omega)).mono ?_
  rintro e w4' ⟨s2, rfl, z3, rfl⟩
  have hD7 := hD4.alloc (.cells (([.string s0, .string s1, .string s2] : List Value)).toArray 9)
  go_wp2_with fail
  refine (pick_any B a' l' c' zs' _ 6 _ (by omega) (by omega) hD7).mono ?_
  rintro e w8 ⟨v, rfl, v0, v1, hD8, hG8⟩
  have hne : w4.heap.size ≠ B := by have := hD4.lt; omega
  have hcell : ∀ k v, (([.string s0, .string s1, .string s2] : List Value))[k]? = some v → w8.cell? ⟨w4.heap.size, k, none⟩ = some v := fun k v hk => hG8.cell (lit_cellV _ _ _ _ _ hk) (by simpa using hne)
  have hG := gtrans hG4 (gtrans (World.grownBy_alloc _ (.cells (([.string s0, .string s1, .string s2] : List Value)).toArray 9) _) hG8)
  have hbel := Below.grown hb1 hG hb1.size (fun j hj => by cases hj; exact hB)
  clear hG4 hG8 hD4 hD7 hD8 hb1 hG
  by_cases hx : v < 3
  · have e0 : v / 3 = 0 := by omega
    have c0 := hcell 0 _ rfl
    clear hcell
    go_wp2
    go_ret
    exact ⟨_, rfl, by omega, hbel⟩
  · have e1 : v / 3 = 1 := by omega
    have c1 := hcell 1 _ rfl
    clear hcell
    go_wp2
    go_ret
    exact ⟨_, rfl, by omega, hbel⟩
end Go.Proofs.Ytegdckdfllkmeac
