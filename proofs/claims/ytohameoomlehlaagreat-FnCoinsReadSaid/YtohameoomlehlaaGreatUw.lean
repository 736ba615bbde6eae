/-
  Witnesses: what they are; a list of strings behind another one.
-/
import Derived.Test.YtohameoomlehlaaGreatYa
import Derived.Test.YtohameoomlehlaaGreatSg
import Derived.Test.YtohameoomlehlaaGreatSl
import Derived.Laws.AppendOwnNone
namespace Go.Proofs.YtohameoomlehlaaGreat
open Go.RowKit

/-- The items of true and of false. -/
def Wt.tr (b : Bool) : ByteArray := if b then ⟨#[1]⟩ else ⟨#[]⟩
/-- A number is a secret. -/
def Wt.sec (x : Int) : Bool := decide (1 ≤ x) && decide (x ≤ 1073741788)
theorem Wt.sec_iff (x : Int) : Wt.sec x = true ↔ 1 ≤ x ∧ x ≤ 1073741788 := by simp [Wt.sec]
/-- The item of a signature. -/
def Wt.sig (x : Int) (t : ByteArray) : ByteArray := Jo.item (Sg.sr x t) (Sg.ss x t)
theorem take_snocW (zs : List Int) (k : Nat) (h : k < zs.length) : zs.take (k + 1) = zs.take k ++ [zs.getD k 0] := by
  rw [List.take_add_one, List.getElem?_eq_getElem h, List.getD_eq_getElem?_getD, List.getElem?_eq_getElem h]
  rfl
/-- The first signatures of a witness. -/
def Wt.items (zs : List Int) (t : ByteArray) (k : Nat) : List ByteArray := (zs.take k).map fun x => Wt.sig x t
theorem Wt.items_snoc (zs : List Int) (t : ByteArray) (k : Nat) (h : k < zs.length) : Wt.items zs t (k + 1) = Wt.items zs t k ++ [Wt.sig (zs.getD k 0) t] := by
  unfold Wt.items
  rw [take_snocW zs k h, List.map_append]
  rfl
/-- What OpenMany asks. -/
def Wt.manyOk (zs : List Int) : Bool := zs.all Wt.sec && (decide (1 ≤ zs.length) && decide (zs.length ≤ 5))
theorem Wt.many_no {zs : List Int} {k : Nat} (h : k < zs.length) (hk : Wt.sec (zs.getD k 0) = false) : Wt.manyOk zs = false := by
  have : zs.all Wt.sec = false := by
    rw [List.all_eq_false]
    refine ⟨zs.getD k 0, ?_, by rw [hk]; decide⟩
    rw [List.getD_eq_getElem?_getD, List.getElem?_eq_getElem h]
    exact List.getElem_mem h
  unfold Wt.manyOk
  rw [this, Bool.false_and]
theorem Wt.many_all {zs : List Int} (h : ∀ j, j < zs.length → Wt.sec (zs.getD j 0) = true) : Wt.manyOk zs = (decide (1 ≤ zs.length) && decide (zs.length ≤ 5)) := by
  have : zs.all Wt.sec = true := by
    rw [List.all_eq_true]
    intro x hx
    obtain ⟨j, hj, rfl⟩ := List.getElem_of_mem hx
    have := h j hj
    rwa [List.getD_eq_getElem?_getD, List.getElem?_eq_getElem hj] at this
  unfold Wt.manyOk
  rw [this, Bool.true_and]
theorem own_newS (W : World) (base : Nat) (hb : base ≤ W.heap.size) (ss : List ByteArray) (cs : Array Value) (hc : cs.toList = ss.map Value.string) (hm : ss.length ≤ 100) :
    (W.alloc (.cells cs 9 (0, 0))).ownsRow base 9 1 (.slice (some ⟨W.heap.size, 0, none⟩) ss.length ss.length) ss.length (ss.map Value.string) :=
  ⟨by simp, .inr ⟨W.heap.size, ss.length, cs, rfl, hb, heap_alloc_new W _, Nat.le_refl _, by unfold maxLen; omega, by
    have := congrArg List.length hc
    simpa using this, by
    rw [hc, Nat.mul_one, List.take_of_length_le (by simp)]⟩⟩
theorem own_low {w : World} {base b2 n : Nat} {g cp : Nat} {xs : List Value} {e : TypeId} (h : w.ownsRow base e 1 (.slice (some ⟨g, 0, none⟩) n cp) n xs) (hb : b2 ≤ base) : w.ownsRow b2 e 1 (.slice (some ⟨g, 0, none⟩) n cp) n xs := by
  refine ⟨h.1, ?_⟩
  rcases h.2 with ⟨h1, _⟩ | ⟨g', cap', cur, h1, h2, h3⟩
  · cases h1
  · exact .inr ⟨g', cap', cur, h1, Nat.le_trans hb h2, h3⟩
theorem SR.newsU {w : World} {ad : Addr} {len : Nat} {zs : List ByteArray} (h : SR w (some ad) len zs) : ∀ j u, (zs.map Value.string)[j]? = some u → w.cell? (ad.add j) = some u := by
  intro j u hj
  have hjl : j < zs.length := by
    rcases Nat.lt_or_ge j zs.length with h' | h'
    · exact h'
    · rw [List.getElem?_eq_none (by simpa using h')] at hj; cases hj
  obtain ⟨b, off, he, _, hc⟩ := h.2 (by have := h.1; omega)
  cases he
  have hadr : (⟨b, off, none⟩ : Addr).add j = ⟨b, off + j, none⟩ := by unfold Addr.add; split <;> simp_all
  rw [hadr, hc j (by have := h.1; omega)]
  rw [List.getElem?_map, List.getElem?_eq_getElem hjl] at hj
  rw [List.getD_eq_getElem?_getD, List.getElem?_eq_getElem hjl]
  simpa using hj
theorem one_cellsU (l : List ByteArray) : ∀ u ∈ l.map Value.string, u.oneCell' = true := by
  intro u hu
  obtain ⟨t, _, rfl⟩ := List.mem_map.1 hu
  rfl
theorem wpList_append_anyU {P : Program} {w : World} {ops : Array Oper} {rest : List Oper} {o : Oper} {a : Act} {Q : Exit → Act → World → Prop} (hgd : o.guard = none) (s x : Operand) (t : TypeId)
    (ho : o.op = .call { callee := .builtin .append, args := #[s, x], argTypes := #[t, t] })
    (base : Nat) (e : TypeId) (i : TypeInfo) (z : Value) (size bytes : Nat) (ht : P.underlying t = some (.slice e)) (hi : P.info? e = some i) (hz : i.zero = some z)
    (hsize : i.size = size) (hby : i.bytes = bytes) (hzs : z.cells.size = size) (hsz : 0 < size)
    (v : Value) (n : Nat) (xs : List Value) (hs : a.eval s = v) (hown : w.ownsRow base e size v n xs)
    (ad : Option Addr) (m c : Nat) (news : List Value) (hx : a.eval x = .slice ad m c) (hsrc : (ad = none ∧ m = 0 ∧ c = 0) ∨ ∃ ad', ad = some ad' ∧ ∀ j u, news[j]? = some u → w.cell? (ad'.add j) = some u)
    (hl : news.length = m * size) (h1 : ∀ u ∈ news, u.oneCell' = true)
    (h63 : n + m ≤ maxLen) (hbytes : (n + m) * bytes ≤ 140737488355328) (hbase : base ≤ w.heap.size)
    (h : ∀ v' w', w'.ownsRow base e size v' (n + m) (xs ++ news) → w.grownBy w' v.ownBlock → wpList P ops Q rest (a.put o.dst v') w') : wpList P ops Q (o :: rest) a w := by
  rcases hsrc with ⟨rfl, rfl, rfl⟩ | ⟨ad', rfl, hnews⟩
  · have hn : news = [] := List.eq_nil_of_length_eq_zero (by omega)
    subst hn
    have hrun := run_append_owned_none (P := P) (w := w) base t o.type e i size ht hi v n xs hown
    have hk := h v w (by simpa using hown) (World.grownBy.refl _ _)
    refine wpList_plain hgd fun K hK' => ?_
    unfold Oper.wp
    simp [execOp, ho, resolve, invoke, builtin, hs, hx, hrun, Result.andThen]
    exact hK' _ _ hk
  · exact wpList_append_own w hgd s x t ho base e i z size bytes ht hi hz hsize hby hzs hsz v n xs hs hown ad' m c news hx hl hnews h1 h63 hbytes hbase fun v' w' h2 h3 _ => h v' w' h2 h3
theorem own_sliceU {w : World} {base n : Nat} {e : TypeId} {v : Value} {xs : List Value} (h : w.ownsRow base e 1 v n xs) : ∃ a c, v = .slice a n c ∧ n ≤ c ∧ c ≤ maxLen := by
  rcases h.2 with ⟨h, h0⟩ | ⟨g, cap, cur, h, _, _, h3, h4, _⟩
  · exact ⟨none, 0, by rw [h0]; exact h, by omega, by unfold maxLen; omega⟩
  · exact ⟨_, _, h, h3, h4⟩
theorem own_someU {w : World} {base n : Nat} {e : TypeId} {a : Option Addr} {c : Nat} {xs : List Value} (h : w.ownsRow base e 1 (.slice a n c) n xs) (hn : 0 < n) : ∃ g, a = some ⟨g, 0, none⟩ ∧ base ≤ g ∧ g < w.heap.size := by
  rcases h.2 with ⟨h, h0⟩ | ⟨g, cap, cur, h, h2, h3, _⟩
  · omega
  · cases h
    exact ⟨g, rfl, h2, lt_of_block h3⟩
end Go.Proofs.YtohameoomlehlaaGreat
