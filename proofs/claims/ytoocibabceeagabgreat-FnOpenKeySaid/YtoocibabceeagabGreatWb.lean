/-
  The machine of the program: its block and its two slices; how a run is ended early; Clone, take, push.
-/
import Derived.Test.YtoocibabceeagabGreatWa
import Derived.Test.YtoocibabceeagabGreatOc
import Derived.Test.YtoocibabceeagabGreatYf
import Derived.Laws.AppendOwnNone
import Derived.Laws.Cover3
import Derived.WalkLawsBesides
import Derived.Deep.RegionWith
namespace Go.Proofs.YtoocibabceeagabGreat
open Go.RowKit

/-- What ends a run early. -/
def Vm.pe (c : Int) : PanicEntry := { v := .iface 161 (.agg #[.int .i64 c]), recovered := false }
theorem demand_ok (c : Int) (w : World) : Calls Tryz.prog 186 #[.bool true, .int .i64 c] w fun e w' => e = .returned (.tuple #[]) ∧ w' = w := by
  go_enter Tryz.func186, Tryz.ntmps186
  go_wp2
  go_end0
  exact ⟨rfl, rfl⟩
theorem demand_no (c : Int) (w : World) : Calls Tryz.prog 186 #[.bool false, .int .i64 c] w fun e w' => e = .panicked [Vm.pe c] ∧ w' = w := by
  go_enter Tryz.func186, Tryz.ntmps186
  go_wp2
  exact ⟨rfl, rfl, rfl⟩

/-! ### slices of strings -/
theorem sliceS_lo (g k n cap : Nat) (hn : 1 ≤ n) (h : k + n ≤ cap) (W : World) :
    (Instr.slice 25 (.slice (some ⟨g, 0, none⟩) (k + n) cap) (some (.int .i64 (k : Int))) none none).run Tryz.prog W = .ok (.slice (some ⟨g, k, none⟩) n (cap - k)) W := by
  have e1 : (0 : Int) ≤ (k : Int) := by omega
  have h1 : k ≤ k + n := by omega
  have h3 : ¬ cap = k := by omega
  simp [Instr.slice, Instr.sliceBounds, Instr.sliceBound, asIntOf, run_underlying Tryz.underlying25, e1, h1, h3]
  by_cases hk0 : k = 0 <;> simp [Addr.add, hk0]
theorem sliceS_hi (g m k cap : Nat) (h : k ≤ m) (h2 : m ≤ cap) (W : World) :
    (Instr.slice 25 (.slice (some ⟨g, 0, none⟩) m cap) none (some (.int .i64 (k : Int))) none).run Tryz.prog W = .ok (.slice (some ⟨g, 0, none⟩) k cap) W := by
  have e1 : (0 : Int) ≤ (k : Int) := by omega
  have h3 : k ≤ cap := by omega
  simp [Instr.slice, Instr.sliceBounds, Instr.sliceBound, asIntOf, run_underlying Tryz.underlying25, e1, h3]
  by_cases hc : cap = 0 <;> simp [Addr.add]
theorem eql_nilS (a : Option Addr) (l c : Nat) (W : World) : (binOp .eql 25 (.slice a l c) (.slice none 0 0)).run Tryz.prog W = .ok (.bool a.isNone) W := by
  simp only [binOp]
  simp [run_equal_slice_nil W 25 9 a l c Tryz.underlying25]
theorem SR.news {w : World} {ad : Addr} {len : Nat} {zs : List ByteArray} (h : SR w (some ad) len zs) : ∀ j u, (zs.map Value.string)[j]? = some u → w.cell? (ad.add j) = some u := by
  intro j u hj
  have hjl : j < zs.length := by
    rcases Nat.lt_or_ge j zs.length with h' | h'
    · exact h'
    · rw [List.getElem?_eq_none (by simpa using h')] at hj; cases hj
  obtain ⟨b, off, he, _, hc⟩ := h.2 (by have := h.1; omega)
  cases he
  have hadr : (⟨b, off, none⟩ : Addr).add j = ⟨b, off + j, none⟩ := by unfold Addr.add; split <;> simp_all
  rw [hadr, hc j (by have := h.1; omega)]
  rw [List.getElem?_map, List.getElem?_eq_getElem hjl] at hj
  rw [List.getD_eq_getElem?_getD, List.getElem?_eq_getElem hjl]
  simpa using hj
theorem one_cellsS (l : List ByteArray) : ∀ u ∈ l.map Value.string, u.oneCell' = true := by
  intro u hu
  obtain ⟨t, _, rfl⟩ := List.mem_map.1 hu
  rfl
theorem one_cellsB (l : List Bool) : ∀ u ∈ l.map Value.bool, u.oneCell' = true := by
  intro u hu
  obtain ⟨t, _, rfl⟩ := List.mem_map.1 hu
  rfl
theorem wpList_append_anyS {P : Program} {w : World} {ops : Array Oper} {rest : List Oper} {o : Oper} {a : Act} {Q : Exit → Act → World → Prop} (hgd : o.guard = none) (s x : Operand) (t : TypeId)
    (ho : o.op = .call { callee := .builtin .append, args := #[s, x], argTypes := #[t, t] })
    (base : Nat) (e : TypeId) (i : TypeInfo) (z : Value) (size bytes : Nat) (ht : P.underlying t = some (.slice e)) (hi : P.info? e = some i) (hz : i.zero = some z)
    (hsize : i.size = size) (hby : i.bytes = bytes) (hzs : z.cells.size = size) (hsz : 0 < size)
    (v : Value) (n : Nat) (xs : List Value) (hs : a.eval s = v) (hown : w.ownsRow base e size v n xs)
    (ad : Option Addr) (m c : Nat) (news : List Value) (hx : a.eval x = .slice ad m c) (hsrc : (ad = none ∧ m = 0 ∧ c = 0) ∨ ∃ ad', ad = some ad' ∧ ∀ j u, news[j]? = some u → w.cell? (ad'.add j) = some u)
    (hl : news.length = m * size) (h1 : ∀ u ∈ news, u.oneCell' = true)
    (h63 : n + m ≤ maxLen) (hbytes : (n + m) * bytes ≤ 140737488355328) (hbase : base ≤ w.heap.size)
    (h : ∀ v' w', w'.ownsRow base e size v' (n + m) (xs ++ news) → w.grownBy w' v.ownBlock → wpList P ops Q rest (a.put o.dst v') w') : wpList P ops Q (o :: rest) a w := by
  rcases hsrc with ⟨rfl, rfl, rfl⟩ | ⟨ad', rfl, hnews⟩
  · have hn : news = [] := List.eq_nil_of_length_eq_zero (by omega)
    subst hn
    have hrun := run_append_owned_none (P := P) (w := w) base t o.type e i size ht hi v n xs hown
    have hk := h v w (by simpa using hown) (World.grownBy.refl _ _)
    refine wpList_plain hgd fun K hK' => ?_
    unfold Oper.wp
    simp [execOp, ho, resolve, invoke, builtin, hs, hx, hrun, Result.andThen]
    exact hK' _ _ hk
  · exact wpList_append_own w hgd s x t ho base e i z size bytes ht hi hz hsize hby hzs hsz v n xs hs hown ad' m c news hx hl hnews h1 h63 hbytes hbase fun v' w' h2 h3 _ => h v' w' h2 h3
/-- A slice of strings that the call made. -/
def OwnS (base : Nat) (ss : List ByteArray) (w : World) (e : Ending) (w' : World) : Prop :=
  ∃ a c, e = .returned (.slice a ss.length c) ∧ Below base w w' ∧ w'.ownsRow base 9 1 (.slice a ss.length c) ss.length (ss.map Value.string)
theorem own_slice {w : World} {base n : Nat} {e : TypeId} {v : Value} {xs : List Value} (h : w.ownsRow base e 1 v n xs) : ∃ a c, v = .slice a n c ∧ n ≤ c ∧ c ≤ maxLen := by
  rcases h.2 with ⟨h, h0⟩ | ⟨g, cap, cur, h, _, _, h3, h4, _⟩
  · exact ⟨none, 0, by rw [h0]; exact h, by omega, by unfold maxLen; omega⟩
  · exact ⟨_, _, h, h3, h4⟩
theorem own_some {w : World} {base n : Nat} {e : TypeId} {a : Option Addr} {c : Nat} {xs : List Value} (h : w.ownsRow base e 1 (.slice a n c) n xs) (hn : 0 < n) : ∃ g, a = some ⟨g, 0, none⟩ ∧ base ≤ g ∧ g < w.heap.size := by
  rcases h.2 with ⟨h, h0⟩ | ⟨g, cap, cur, h, h2, h3, _⟩
  · omega
  · cases h
    exact ⟨g, rfl, h2, lt_of_block h3⟩
set_option maxRecDepth 100000 in
set_option maxHeartbeats 1600000 in
theorem cloneS_any (a : Option Addr) (m cap : Nat) (zs : List ByteArray) (w : World) (hp : SR w a m zs) (ha : a = none → m = 0 ∧ cap = 0) (hm : m ≤ 1000000) :
    Calls Tryz.prog 105 #[.slice a m cap] w (OwnS w.heap.size zs w) := by
  have hl := hp.1
  cases a with
  | none =>
    obtain ⟨rfl, rfl⟩ := ha rfl
    have hz : zs = [] := List.eq_nil_of_length_eq_zero (by omega)
    subst hz
    clear hp ha hl
    have he := eql_nilS none 0 0
    simp only [Option.isNone_none] at he
    go_enter Tryz.func105, Tryz.ntmps105
    go_wp2
    go_ret
    exact ⟨none, 0, rfl, Below.refl _ _, ⟨rfl, .inl ⟨rfl, rfl⟩⟩⟩
  | some ad =>
    obtain ⟨i0, hi, hz0, hz1, hz2⟩ := info_parts info_str
    have HSRC : Hid (∀ (W : World), (∀ j u, (zs.map Value.string)[j]? = some u → W.cell? (ad.add j) = some u) → ((some ad = none ∧ m = 0 ∧ cap = 0) ∨ ∃ ad', some ad = some ad' ∧ ∀ j u, (zs.map Value.string)[j]? = some u → W.cell? (ad'.add j) = some u)) := Lib.hid fun W h => .inr ⟨ad, rfl, h⟩
    have HN : Hid (∀ (o : Obj), ∀ j u, (zs.map Value.string)[j]? = some u → (w.alloc o).cell? (ad.add j) = some u) := Lib.hid fun o => (hp.alloc o).news
    have hzl : (zs.map Value.string).length = m * 1 := by simp [hl]
    clear hp ha
    have he := eql_nilS (some ad) m cap
    simp only [Option.isNone_some] at he
    go_enter Tryz.func105, Tryz.ntmps105
    have hown := World.ownsRow_made (e := 9) (size := 1) (base := w.heap.size) w #[] 0 (Nat.le_refl _) (by decide) rfl
    go_wp2_with (at_builtin; refine wpList_append_anyS rfl _ _ 25 rfl w.heap.size 9 i0 (.string ByteArray.empty) 1 16 Tryz.underlying25 hi hz0 hz1 hz2 rfl (by decide) _ _ _ rfl hown (some ad) m cap (zs.map Value.string) rfl ?c0 hzl (one_cellsS zs) ?c3 ?c4 ?c5 ?_)
    case c0 => exact HSRC.out _ (HN.out _)
    case c3 => unfold maxLen; omega
    case c4 => omega
    case c5 => simp
    intro v' w5 hown5 hgrow5
    have hbel := ((Below.refl w.heap.size w).alloc (Nat.le_refl _) (.cells #[] 9)).grown hgrow5 (by simp) (fun q hq => (hown.lt _ hq).1)
    have hown6 : w5.ownsRow w.heap.size 9 1 v' zs.length (zs.map Value.string) := by
      rw [hl]
      exact hown5
    obtain ⟨a6, cp6, rfl, _⟩ := own_slice hown6
    clear hown hown5 hgrow5
    go_wp2
    go_ret
    exact ⟨_, cp6, rfl, hbel, hown6⟩

/-! ### the machine -/
/-- The machine at D: items (the top one first), conditions (the innermost first), what it is run with. -/
structure MP (base D : Nat) (vi vb : Value) (E : Vm) (s : List ByteArray) (br : List Bool) (w : World) : Prop where
  hD : base ≤ D
  blk : Bk D 145 #[vi, vb, .string E.t, .int .i64 E.h, .int .i64 E.a] w
  its : w.ownsRow base 9 1 vi s.length (s.reverse.map Value.string)
  brs : w.ownsRow base 4 1 vb br.length (br.reverse.map Value.bool)
theorem below_own {w w' : World} {base n : Nat} {e : TypeId} {v : Value} {xs : List Value} (h : w.ownsRow base e 1 v n xs) (hb : Below w.heap.size w w') : w'.ownsRow base e 1 v n xs :=
  h.kept (row := none) ⟨hb.os, hb.tape, hb.output, hb.size, fun k hk _ => hb.block k hk⟩ (by cases v.ownBlock <;> simp)
theorem MP.below {base D : Nat} {vi vb : Value} {E : Vm} {s : List ByteArray} {br : List Bool} {w w' : World} (h : MP base D vi vb E s br w) (hb : Below w.heap.size w w') : MP base D vi vb E s br w' :=
  ⟨h.hD, h.blk.below hb, below_own h.its hb, below_own h.brs hb⟩
theorem MP.alloc {base D : Nat} {vi vb : Value} {E : Vm} {s : List ByteArray} {br : List Bool} {w : World} (h : MP base D vi vb E s br w) (o : Obj) : MP base D vi vb E s br (w.alloc o) :=
  h.below ((Below.refl _ _).alloc (Nat.le_refl _) o)
theorem MP.drew {base D : Nat} {vi vb : Value} {E : Vm} {s : List ByteArray} {br : List Bool} {w : World} (h : MP base D vi vb E s br w) : MP base D vi vb E s br w.drew :=
  h.below (Below.refl _ _).drew
theorem MP.iD {base D : Nat} {vi vb : Value} {E : Vm} {s : List ByteArray} {br : List Bool} {w : World} (h : MP base D vi vb E s br w) : vi.ownBlock ≠ some D := own_type h.its (by decide) h.blk.held
theorem MP.bD {base D : Nat} {vi vb : Value} {E : Vm} {s : List ByteArray} {br : List Bool} {w : World} (h : MP base D vi vb E s br w) : vb.ownBlock ≠ some D := own_type h.brs (by decide) h.blk.held
theorem own_two {w : World} {b b' n n' : Nat} {e e' : TypeId} {v v' : Value} {xs xs' : List Value} (h : w.ownsRow b e 1 v n xs) (h' : w.ownsRow b' e' 1 v' n' xs') (he : e ≠ e') : v.ownBlock = none ∨ v.ownBlock ≠ v'.ownBlock := by
  rcases h.2 with ⟨hv, _⟩ | ⟨g, cap, cur, hv, _, hh, _⟩
  · exact .inl (by rw [hv]; rfl)
  · right
    have := own_type h' (t := e) (by exact he) hh
    rw [hv]
    exact fun hc => this hc.symm
/-- The items are turned. -/
theorem MP.setI {base D : Nat} {vi vb v' : Value} {E : Vm} {s s' : List ByteArray} {br : List Bool} {w w1 : World} (h : MP base D vi vb E s br w) (hg : w.grownBy w1 vi.ownBlock) (ho : w1.ownsRow base 9 1 v' s'.length (s'.reverse.map Value.string)) :
    MP base D v' vb E s' br (w1.setCell ⟨D, 0, none⟩ v') ∧ Bk D 145 #[vi, vb, .string E.t, .int .i64 E.h, .int .i64 E.a] w1 := by
  have hb1 : Bk D 145 #[vi, vb, .string E.t, .int .i64 E.h, .int .i64 E.a] w1 := h.blk.gbY hg (fun e => h.iD e.symm)
  have hv1 : w1.ownsRow base 4 1 vb br.length (br.reverse.map Value.bool) := h.brs.kept hg (own_two h.brs h.its (by decide))
  have k := hb1.set 0 v'
  exact ⟨⟨h.hD, k, own_set ho D 0 _ (own_type ho (by decide) hb1.held), own_set hv1 D 0 _ (own_type hv1 (by decide) hb1.held)⟩, hb1⟩
/-- The conditions are turned. -/
theorem MP.setB {base D : Nat} {vi vb v' : Value} {E : Vm} {s : List ByteArray} {br br' : List Bool} {w w1 : World} (h : MP base D vi vb E s br w) (hg : w.grownBy w1 vb.ownBlock) (ho : w1.ownsRow base 4 1 v' br'.length (br'.reverse.map Value.bool)) :
    MP base D vi v' E s br' (w1.setCell ⟨D, 1, none⟩ v') ∧ Bk D 145 #[vi, vb, .string E.t, .int .i64 E.h, .int .i64 E.a] w1 := by
  have hb1 : Bk D 145 #[vi, vb, .string E.t, .int .i64 E.h, .int .i64 E.a] w1 := h.blk.gbY hg (fun e => h.bD e.symm)
  have hv1 : w1.ownsRow base 9 1 vi s.length (s.reverse.map Value.string) := h.its.kept hg (own_two h.its h.brs (by decide))
  have k := hb1.set 1 v'
  exact ⟨⟨h.hD, k, own_set hv1 D 1 _ (own_type hv1 (by decide) hb1.held), own_set ho D 1 _ (own_type ho (by decide) hb1.held)⟩, hb1⟩
theorem MP.cells {base D : Nat} {vi vb : Value} {E : Vm} {s : List ByteArray} {br : List Bool} {w : World} (h : MP base D vi vb E s br w) :
    w.cell? ⟨D, 0, none⟩ = some vi ∧ w.cell? ⟨D, 1, none⟩ = some vb ∧ w.cell? ⟨D, 2, none⟩ = some (.string E.t) ∧ w.cell? ⟨D, 3, none⟩ = some (.int .i64 E.h) ∧ w.cell? ⟨D, 4, none⟩ = some (.int .i64 E.a) :=
  ⟨(h.blk.cell 0).trans rfl, (h.blk.cell 1).trans rfl, (h.blk.cell 2).trans rfl, (h.blk.cell 3).trans rfl, (h.blk.cell 4).trans rfl⟩

/-- What lies in other blocks of other types than items' and conditions' stays as it is. -/
def Vm.Kp (D : Nat) (w w' : World) : Prop := ∀ k cs t fr, k ≠ D → t ≠ 9 → t ≠ 4 → w.heap[k]? = some (.cells cs t fr) → w'.heap[k]? = some (.cells cs t fr)
structure Fr (base D : Nat) (w w' : World) : Prop where
  bel : Below base w w'
  kp : Vm.Kp D w w'
theorem Fr.size {base D : Nat} {w w' : World} (h : Fr base D w w') : w.heap.size ≤ w'.heap.size := h.bel.size
theorem Fr.refl (base D : Nat) (w : World) : Fr base D w w := ⟨Below.refl _ _, fun _ _ _ _ _ _ _ h => h⟩
theorem Fr.trans {base D : Nat} {a b c : World} (h : Fr base D a b) (k : Fr base D b c) : Fr base D a c := ⟨h.bel.trans k.bel, fun i cs t fr h1 h2 h3 h4 => k.kp i cs t fr h1 h2 h3 (h.kp i cs t fr h1 h2 h3 h4)⟩
theorem Fr.drew {base D : Nat} {a b : World} (h : Fr base D a b) : Fr base D a b.drew := ⟨h.bel.drew, h.kp⟩
theorem Fr.of {base D : Nat} {w w' : World} (hb : base ≤ w.heap.size) (h : Below w.heap.size w w') : Fr base D w w' := ⟨h.mono hb, fun k _ _ _ _ _ _ h4 => (h.block k (lt_of_block h4)).trans h4⟩
theorem Fr.alloc {base D : Nat} {a w : World} (h : Fr base D a w) (hb : base ≤ w.heap.size) (o : Obj) : Fr base D a (w.alloc o) := h.trans (Fr.of hb ((Below.refl _ _).alloc (Nat.le_refl _) o))
theorem Fr.setD {base D : Nat} {a w : World} (h : Fr base D a w) (hD : base ≤ D) (i : Nat) (v : Value) : Fr base D a (w.setCell ⟨D, i, none⟩ v) :=
  h.trans ⟨(Below.refl _ _).setCell (p := ⟨D, i, none⟩) hD _, fun k _ _ _ h1 _ _ h4 => (Below.heap_setCell _ _ _ _ (by exact h1)).trans h4⟩
theorem Fr.setO {base D : Nat} {a w : World} {b0 n c g : Nat} {e : TypeId} {xs : List Value} (h : Fr base D a w) (ho : w.ownsRow b0 e 1 (.slice (some ⟨g, 0, none⟩) n c) n xs) (he : e = 9 ∨ e = 4) (hg : base ≤ g) (i : Nat) (v : Value) : Fr base D a (w.setCell ⟨g, i, none⟩ v) :=
  h.trans ⟨(Below.refl _ _).setCell (p := ⟨g, i, none⟩) hg _, fun k _ t _ _ h2 h3 h4 => (Below.heap_setCell _ _ _ _ (by
    intro e'
    have : k = g := e'
    subst this
    exact own_type ho (by rcases he with rfl | rfl <;> assumption) h4 rfl)).trans h4⟩
theorem Fr.grown {base D : Nat} {a w w' : World} {b0 n : Nat} {e : TypeId} {v : Value} {xs : List Value} (h : Fr base D a w) (hg : w.grownBy w' v.ownBlock) (ho : w.ownsRow b0 e 1 v n xs) (he : e = 9 ∨ e = 4) (hb : base ≤ w.heap.size) (hv : base ≤ b0) : Fr base D a w' :=
  h.trans ⟨(Below.refl _ _).grown hg hb (fun j hj => Nat.le_trans hv (ho.lt j hj).1), fun k _ t _ _ h2 h3 h4 => (hg.block k (lt_of_block h4) (fun e' => own_type ho (by rcases he with rfl | rfl <;> assumption) h4 e'.symm)).trans h4⟩

theorem Bk.fr {base D B : Nat} {t : TypeId} {cs : Array Value} {w w' : World} (h : Bk B t cs w) (hf : Fr base D w w') (hD : B ≠ D) (h1 : t ≠ 9) (h2 : t ≠ 4) : Bk B t cs w' := ⟨hf.kp B cs t (0, 0) hD h1 h2 h.held⟩
theorem Bk.c3w {B : Nat} {t : TypeId} {u0 u1 u2 : Value} {w : World} (h : Bk B t #[u0, u1, u2] w) : w.cell? ⟨B, 0, none⟩ = some u0 ∧ w.cell? ⟨B, 1, none⟩ = some u1 ∧ w.cell? ⟨B, 2, none⟩ = some u2 :=
  ⟨h.cell 0, h.cell 1, h.cell 2⟩

/-! ### take, push -/
/-- What take leaves. -/
def TkP (base D n : Nat) (vi vb : Value) (E : Vm) (s : List ByteArray) (br : List Bool) (w : World) (e : Ending) (w' : World) : Prop :=
  ∃ a c vi', e = .returned (.slice a n c) ∧ w'.ownsRow w.heap.size 9 1 (.slice a n c) n ((s.take n).reverse.map Value.string) ∧ MP base D vi' vb E (s.drop n) br w' ∧ vi'.ownBlock = vi.ownBlock ∧ Fr base D w w' ∧ ∀ k, k < w.heap.size → k ≠ D → w'.heap[k]? = w.heap[k]?
theorem rev_cut (s : List ByteArray) (n : Nat) : s.reverse = (s.drop n).reverse ++ (s.take n).reverse := by
  rw [← List.reverse_append, List.take_append_drop]
set_option maxRecDepth 100000 in
set_option maxHeartbeats 1600000 in
theorem takeM_ok (base D n : Nat) (vi vb : Value) (E : Vm) (s : List ByteArray) (br : List Bool) (w : World) (h : MP base D vi vb E s br w) (hb : base ≤ w.heap.size) (hs : s.length ≤ 24) (hn : 1 ≤ n) (hns : n ≤ s.length) :
    Calls Tryz.prog 176 #[.pointer (some ⟨D, 0, none⟩), .int .i64 (n : Int)] w (TkP base D n vi vb E s br w) := by
  obtain ⟨a, cap, rfl, hcap, hmax⟩ := own_slice h.its
  obtain ⟨g, rfl, hgb, hgl⟩ := own_some h.its (by omega)
  have hI := h.its
  obtain ⟨k, hk⟩ : ∃ k, s.length = k + n := ⟨s.length - n, by omega⟩
  have hdl : (s.drop n).length = k := by rw [List.length_drop]; omega
  have htl : (s.take n).length = n := by rw [List.length_take]; omega
  rw [rev_cut s n, List.map_append] at hI
  have hF := ownsRow_front hI
  rw [show (List.map Value.string (s.drop n).reverse).length = k by rw [List.length_map, List.length_reverse, hdl]] at hF
  have hSR : SR w (some ⟨g, k, none⟩) n (s.take n).reverse := by
    obtain ⟨_, hsr⟩ := SR.own (ss := s.reverse) h.its
    refine ⟨by simpa using htl, fun _ => ⟨g, k, rfl, hgl, fun i hi => ?_⟩⟩
    obtain ⟨b', off', he, _, hc⟩ := hsr.2 (by omega)
    cases he
    have := hc (k + i) (by omega)
    rw [Nat.zero_add] at this
    rw [this, rev_cut s n]
    congr 1
    rw [List.getD_eq_getElem?_getD, List.getD_eq_getElem?_getD, List.getElem?_append_right (by simp; omega)]
    simp [hdl]
  rw [hk] at h hcap
  have hsl := fun W => sliceS_lo g k n cap hn hcap W
  have hsh := fun W => sliceS_hi g (k + n) k cap (by omega) hcap W
  have hq : IntKind.i64.wrap ((k : Int) + n - n) = (k : Int) := by rw [IntKind.wrap_i64]; omega
  obtain ⟨c0, c1, c2, c3, c4⟩ := h.cells
  have f0 := h.blk.fro 0
  have H := Lib.hid h
  have HF := Lib.hid hF
  have HSR := Lib.hid hSR
  have HRL : Hid ((s.take n).reverse.length = n) := Lib.hid (by simpa using htl)
  clear h hI hF hSR
  go_enter Tryz.func176, Tryz.ntmps176
  go_wp2_with fail
  refine (demand_ok 2 _).mono ?_
  rintro e w1 ⟨rfl, rfl⟩
  go_wp2_with fail
  refine (show Calls Tryz.prog 105 #[.slice (some ⟨g, k, none⟩) n (cap - k)] w1 _ from cloneS_any _ n _ _ _ HSR.out (by simp) (by omega)).mono ?_
  rintro e w2 ⟨a2, c2, rfl, hb2, hown2⟩
  rw [HRL.out] at hown2 ⊢
  have h2 := H.out.below hb2
  obtain ⟨d0, d1, d2, d3, d4⟩ := h2.cells
  have f2 := h2.blk.fro 0
  have H2 := Lib.hid h2
  have HB2 := Lib.hid hb2
  have HO2 := Lib.hid hown2
  clear h2 hb2 hown2
  go_wp2
  go_ret
  have k1 := (H2.out.setI (s' := s.drop n) (World.grownBy.refl _ _) (by rw [hdl]; exact below_own HF.out HB2.out)).1
  exact ⟨a2, c2, _, rfl, own_set HO2.out D 0 _ (own_type HO2.out (by decide) H2.out.blk.held), k1, rfl, (Fr.of hb HB2.out).setD H.out.hD 0 _, fun k hk hkD => (Below.heap_setCell _ _ _ _ (by exact hkD)).trans (HB2.out.block k hk)⟩
/-- What push leaves. -/
def PuP (base D : Nat) (vi vb : Value) (E : Vm) (s : List ByteArray) (br : List Bool) (w : World) (e : Ending) (w' : World) : Prop :=
  ∃ vi', e = .returned (.tuple #[]) ∧ MP base D vi' vb E s br w' ∧ Fr base D w w' ∧ ∀ k, k < w.heap.size → k ≠ D → vi.ownBlock ≠ some k → w'.heap[k]? = w.heap[k]?
set_option maxRecDepth 100000 in
set_option maxHeartbeats 1600000 in
theorem push_ok (base D : Nat) (vi vb : Value) (E : Vm) (s : List ByteArray) (br : List Bool) (x : ByteArray) (w : World) (h : MP base D vi vb E s br w) (hb : base ≤ w.heap.size) (hs : s.length < 24) :
    Calls Tryz.prog 173 #[.pointer (some ⟨D, 0, none⟩), .string x] w (PuP base D vi vb E (x :: s) br w) := by
  obtain ⟨a, cap, rfl, hcap, hmax⟩ := own_slice h.its
  obtain ⟨i0, hi, hz0, hz1, hz2⟩ := info_parts info_str
  obtain ⟨c0, c1, c2, c3, c4⟩ := h.cells
  have f0 := h.blk.fro 0
  have hq : decide ((s.length : Int) < 24) = true := decide_eq_true (by omega)
  have hown := h.its.alloc (.cells #[.string x] 9)
  obtain ⟨n, hn⟩ : ∃ n, s.length = n := ⟨_, rfl⟩
  rw [hn] at hown hs hq
  have H := Lib.hid h
  have HN := Lib.hid hn
  clear h
  rw [hn] at c0
  clear hn
  go_enter Tryz.func173, Tryz.ntmps173
  go_wp2_with fail
  refine (demand_ok 5 _).mono ?_
  rintro e w1 ⟨rfl, rfl⟩
  go_wp2_with (at_builtin; refine wpList_append_own _ rfl _ _ 25 rfl base 9 i0 (.string ByteArray.empty) 1 16 Tryz.underlying25 hi hz0 hz1 hz2 rfl (by decide) _ _ _ rfl hown ⟨w1.heap.size, 0, none⟩ 1 1 [.string x] rfl rfl ?c1 ?c2 ?c3 ?c4 ?c5 ?_)
  case c1 => exact one_new _ _ _
  case c2 => intro u hu; simp at hu; subst hu; rfl
  case c3 => unfold maxLen; omega
  case c4 => omega
  case c5 => simp; omega
  intro v' w2 hown2 hg2 _
  obtain ⟨a2, cp2, rfl, _⟩ := own_slice hown2
  have hg : w1.grownBy w2 (Value.slice a n cap).ownBlock := grownBy_trans' (World.grownBy_alloc _ _ _) hg2
  have hrl : (x :: s).length = n + 1 := by rw [List.length_cons, HN.out]
  have k1 := (MP.setI (s' := x :: s) (v' := .slice a2 (n + 1) cp2) (by have := H.out; rw [HN.out] at this; exact this) hg (by rw [hrl, List.reverse_cons, List.map_append, List.map_reverse]; exact hown2))
  have d0 := (k1.2.cell 0).trans rfl
  have f2 := k1.2.fro 0
  have K1 := Lib.hid k1.1
  have HG := Lib.hid hg
  have hbel : Fr base D w1 w2 := (Fr.refl base D w1).grown hg (by have := H.out.its; rw [HN.out] at this; exact this) (.inl rfl) hb (Nat.le_refl _)
  have HB := Lib.hid hbel
  clear k1 hown hown2 hg2 hg hbel
  go_wp2
  go_end0
  refine ⟨_, rfl, K1.out, HB.out.setD H.out.hD 0 _, fun k hk hkD hkv => ?_⟩
  rw [Below.heap_setCell _ _ _ _ (by exact hkD)]
  exact HG.out.block k hk (by rw [HN.out] at hkv; exact fun e => hkv e.symm)
set_option maxRecDepth 100000 in
set_option maxHeartbeats 800000 in
theorem push_no (base D : Nat) (vi vb : Value) (E : Vm) (s : List ByteArray) (br : List Bool) (x : ByteArray) (w : World) (h : MP base D vi vb E s br w) (hs : ¬ s.length < 24) :
    Calls Tryz.prog 173 #[.pointer (some ⟨D, 0, none⟩), .string x] w fun e w' => e = .panicked [Vm.pe 5] ∧ w' = w := by
  obtain ⟨a, cap, rfl, hcap, hmax⟩ := own_slice h.its
  obtain ⟨c0, c1, c2, c3, c4⟩ := h.cells
  have hq : decide ((s.length : Int) < 24) = false := decide_eq_false (by omega)
  clear h
  go_enter Tryz.func173, Tryz.ntmps173
  go_wp2_with fail
  refine (demand_no 5 _).mono ?_
  rintro e w1 ⟨rfl, rfl⟩
  go_wp2
  exact ⟨rfl, rfl, rfl⟩
set_option maxRecDepth 100000 in
set_option maxHeartbeats 800000 in
theorem takeM_no (base D n : Nat) (vi vb : Value) (E : Vm) (s : List ByteArray) (br : List Bool) (w : World) (h : MP base D vi vb E s br w) (hs : s.length < n) (hn : n ≤ 24) :
    Calls Tryz.prog 176 #[.pointer (some ⟨D, 0, none⟩), .int .i64 (n : Int)] w fun e w' => e = .panicked [Vm.pe 2] ∧ w' = w := by
  obtain ⟨a, cap, rfl, hcap, hmax⟩ := own_slice h.its
  obtain ⟨c0, c1, c2, c3, c4⟩ := h.cells
  have hq : decide (n ≤ s.length) = false := decide_eq_false (by omega)
  obtain ⟨m, hm⟩ : ∃ m, s.length = m := ⟨_, rfl⟩
  rw [hm] at c0 hq hs
  clear h hm
  go_enter Tryz.func176, Tryz.ntmps176
  go_wp2_with fail
  refine (demand_no 2 _).mono ?_
  rintro e w1 ⟨rfl, rfl⟩
  go_wp2
  exact ⟨rfl, rfl, rfl⟩
end Go.Proofs.YtoocibabceeagabGreat
