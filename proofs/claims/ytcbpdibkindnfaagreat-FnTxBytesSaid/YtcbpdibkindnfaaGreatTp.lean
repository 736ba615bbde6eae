/-
  Plain: a transaction with another witness; witnesses that lie apart; what a call that hands back a transaction answers.
-/
import Derived.Test.YtcbpdibkindnfaaGreatTk
namespace Go.Proofs.YtcbpdibkindnfaaGreat
open Go.RowKit

/-- The inputs with another witness of the one with index i. -/
def Tr.putW (i : Int) (ss : List ByteArray) (l : List Tr.In) : List Tr.In := l.mapIdx fun k x => if (k : Int) = i then ⟨x.tx, x.out, ss⟩ else x
theorem Tr.putW_length (i : Int) (ss : List ByteArray) (l : List Tr.In) : (Tr.putW i ss l).length = l.length := by simp [Tr.putW]
theorem Tr.putW_at (i : Int) (ss : List ByteArray) (l : List Tr.In) (k : Nat) (hk : k < l.length) : Tr.inAt (Tr.putW i ss l) k = if (k : Int) = i then ⟨(Tr.inAt l k).tx, (Tr.inAt l k).out, ss⟩ else Tr.inAt l k := by
  unfold Tr.inAt
  rw [List.getD_eq_getElem?_getD, List.getD_eq_getElem?_getD, List.getElem?_eq_getElem hk, List.getElem?_eq_getElem (by rw [Tr.putW_length]; exact hk)]
  simp [Tr.putW]
def Tr.with_ (t : Tr) (i : Int) (ss : List ByteArray) : Tr := ⟨Tr.putW i ss t.ins, t.outs, t.after, t.note⟩
theorem Tr.cat_mapIdx (l : List Tr.In) : ∀ f : Nat → Tr.In → Tr.In, (∀ k x, (f k x).enc false = x.enc false) → Tr.cat (Tr.In.enc false) (l.mapIdx f) = Tr.cat (Tr.In.enc false) l := by
  induction l with
  | nil => intro f _; rfl
  | cons x l ih =>
    intro f hf
    rw [List.mapIdx_cons]
    show Tr.In.enc false _ ++ Tr.cat (Tr.In.enc false) _ = Tr.In.enc false x ++ Tr.cat (Tr.In.enc false) l
    rw [hf, ih _ (fun k x => hf (k + 1) x)]
theorem Tr.cat_putW (i : Int) (ss : List ByteArray) (l : List Tr.In) : Tr.cat (Tr.In.enc false) (Tr.putW i ss l) = Tr.cat (Tr.In.enc false) l := by
  unfold Tr.putW
  refine Tr.cat_mapIdx l _ fun k x => ?_
  split
  · unfold Tr.In.enc
    rw [if_neg (by decide), if_neg (by decide)]
  · rfl
/-- The witnesses are no part of the core. -/
theorem Tr.enc_with (t : Tr) (i : Int) (ss : List ByteArray) : Tr.enc false (t.with_ i ss) = Tr.enc false t := by
  unfold Tr.enc Tr.with_
  simp only [Tr.putW_length, Tr.cat_putW]
theorem Tr.sign_with (t : Tr) (j i k : Int) (ss : List ByteArray) (s : ByteArray) : Tr.sign (t.with_ j ss) i k s = Tr.sign t i k s := by
  unfold Tr.sign
  rw [Tr.enc_with]
/-- The transaction with another witness, if it is one. -/
def Tr.withOk (t : Tr) (i : Int) (ss : List ByteArray) : Option Tr := if (t.ok && (decide (0 ≤ i) && decide (i ≤ (t.ins.length : Int) - 1))) = true then (if (t.with_ i ss).ok = true then some (t.with_ i ss) else none) else none
theorem Tr.withOk_no1 {t : Tr} {i : Int} {ss : List ByteArray} (h : t.ok = false) : t.withOk i ss = none := by
  unfold Tr.withOk
  rw [h, Bool.false_and]
  rfl
theorem Tr.withOk_no2 {t : Tr} {i : Int} {ss : List ByteArray} (h : (decide (0 ≤ i) && decide (i ≤ (t.ins.length : Int) - 1)) = false) : t.withOk i ss = none := by
  unfold Tr.withOk
  rw [h, Bool.and_false]
  rfl
theorem Tr.withOk_no3 {t : Tr} {i : Int} {ss : List ByteArray} (h : (t.with_ i ss).ok = false) : t.withOk i ss = none := by
  unfold Tr.withOk
  rw [h]
  split <;> rfl
theorem Tr.withOk_yes {t : Tr} {i : Int} {ss : List ByteArray} (h1 : t.ok = true) (h2 : (decide (0 ≤ i) && decide (i ≤ (t.ins.length : Int) - 1)) = true) (h3 : (t.with_ i ss).ok = true) : t.withOk i ss = some (t.with_ i ss) := by
  unfold Tr.withOk
  rw [h1, h2, Bool.true_and, if_pos rfl, if_pos h3]
theorem Tr.withOk_some {t u : Tr} {i : Int} {ss : List ByteArray} (h : t.withOk i ss = some u) : u = t.with_ i ss ∧ t.ok = true ∧ (0 ≤ i ∧ i ≤ (t.ins.length : Int) - 1) ∧ (t.with_ i ss).ok = true := by
  unfold Tr.withOk at h
  split at h
  · rename_i h1
    split at h
    · rename_i h2
      cases h
      simp only [Bool.and_eq_true, decide_eq_true_eq] at h1
      exact ⟨rfl, h1.1, h1.2, h2⟩
    · cases h
  · cases h
/-- Witnesses that lie in different blocks. -/
def DistW (l : List (Tr.In × Value)) : Prop := l.Pairwise fun x y => x.2.ownBlock = none ∨ x.2.ownBlock ≠ y.2.ownBlock
theorem DistW.nil : DistW [] := List.Pairwise.nil
theorem DistW.push {l : List (Tr.In × Value)} {x : Tr.In × Value} (h : DistW l) (hx : ∀ y ∈ l, y.2.ownBlock = none ∨ y.2.ownBlock ≠ x.2.ownBlock) : DistW (l ++ [x]) := by
  unfold DistW
  rw [List.pairwise_append]
  exact ⟨h, List.pairwise_singleton _ _, fun y hy z hz => by rw [List.mem_singleton] at hz; subst hz; exact hx y hy⟩
/-- A row is no block that comes later. -/
theorem own_later {w : World} {B base n k : Nat} {e : TypeId} {v : Value} {xs : List Value} (h : w.ownsRow B e k v n xs) {W : World} {n' k' : Nat} {e' : TypeId} {v' : Value} {xs' : List Value} (h' : W.ownsRow base e' k' v' n' xs') (hs : w.heap.size ≤ base) : v.ownBlock = none ∨ v.ownBlock ≠ v'.ownBlock := by
  cases hv : v.ownBlock with
  | none => exact .inl rfl
  | some g =>
    refine .inr fun he => ?_
    have h1 := (h.lt g hv).2
    have h2 := (h'.lt g he.symm).1
    omega
/-- What a call answers that hands back a transaction. -/
def TxAns (o : Option Tr) (w : World) (e : Ending) (w' : World) : Prop :=
  ∃ a n c b m d af nt ok, e = .returned (.tuple #[.agg #[.slice a n c, .slice b m d, .int .i64 af, .string nt], .bool ok]) ∧ Below w.heap.size w w' ∧
    ((Hid (o = none) ∧ ok = false ∧ a = none ∧ n = 0 ∧ c = 0 ∧ b = none ∧ m = 0 ∧ d = 0 ∧ af = 0 ∧ nt = ⟨#[]⟩) ∨
     ∃ l outs, Hid (o = some ⟨l.map Prod.fst, outs, af, nt⟩) ∧ ok = true ∧ OwnI w.heap.size w' (.slice a n c) l ∧ OwnO w.heap.size w' (.slice b m d) outs)
/-- .. and whose witnesses lie in different blocks. -/
def TxAnsD (o : Option Tr) (w : World) (e : Ending) (w' : World) : Prop :=
  ∃ a n c b m d af nt ok, e = .returned (.tuple #[.agg #[.slice a n c, .slice b m d, .int .i64 af, .string nt], .bool ok]) ∧ Below w.heap.size w w' ∧
    ((Hid (o = none) ∧ ok = false ∧ a = none ∧ n = 0 ∧ c = 0 ∧ b = none ∧ m = 0 ∧ d = 0 ∧ af = 0 ∧ nt = ⟨#[]⟩) ∨
     ∃ l outs, Hid (o = some ⟨l.map Prod.fst, outs, af, nt⟩) ∧ ok = true ∧ OwnI w.heap.size w' (.slice a n c) l ∧ OwnO w.heap.size w' (.slice b m d) outs ∧ Hid (DistW l))
theorem TxAnsD.ans {o : Option Tr} {w w' : World} {e : Ending} (h : TxAnsD o w e w') : TxAns o w e w' := by
  obtain ⟨a, n, c, b, m, d, af, nt, ok, he, hb, h⟩ := h
  refine ⟨a, n, c, b, m, d, af, nt, ok, he, hb, ?_⟩
  rcases h with h | ⟨l, outs, h1, h2, h3, h4, _⟩
  · exact .inl h
  · exact .inr ⟨l, outs, h1, h2, h3, h4⟩
theorem TxRdQ.ans {s : ByteArray} {w w' : World} {e : Ending} (h : TxRdQ s w e w') : TxAns (Tr.read s) w e w' := h
/-- The transaction that was handed back, as what slices hold. -/
def Tr.getO (o : Option Tr) : Tr := o.getD ⟨[], [], 0, ⟨#[]⟩⟩
theorem OwnI.trR {base : Nat} {w : World} {a b : Option Addr} {n c m d : Nat} {l : List (Tr.In × Value)} {outs : List Tr.Out} {af : Int} {nt : ByteArray} (h : OwnI base w (.slice a n c) l) (ho : OwnO base w (.slice b m d) outs) : TrR base w a n b m ⟨l.map Prod.fst, outs, af, nt⟩ := by
  obtain ⟨a', c', hv, hI⟩ := h.inL
  obtain ⟨b', d', hv2, hO⟩ := ho.ouL
  cases hv
  cases hv2
  exact ⟨hI, hO⟩
/-- Either answer, read: what the slices hold. -/
theorem TxAns.trR {o : Option Tr} {w w' : World} {e : Ending} (h : TxAns o w e w') : ∃ a n c b m d, e = .returned (.tuple #[.agg #[.slice a n c, .slice b m d, .int .i64 (Tr.getO o).after, .string (Tr.getO o).note], .bool o.isSome]) ∧ Below w.heap.size w w' ∧ TrR w.heap.size w' a n b m (Tr.getO o) := by
  obtain ⟨a, n, c, b, m, d, af, nt, ok, rfl, hb, h⟩ := h
  rcases h with ⟨h1, rfl, rfl, rfl, rfl, rfl, rfl, rfl, rfl, rfl⟩ | ⟨l, outs, h1, rfl, h3, h4⟩
  · refine ⟨none, 0, 0, none, 0, 0, ?_, hb, ?_⟩
    · rw [h1.out]; rfl
    · rw [h1.out]
      exact ⟨⟨rfl, fun h => absurd h (by omega)⟩, ⟨rfl, fun h => absurd h (by omega)⟩⟩
  · refine ⟨a, n, c, b, m, d, ?_, hb, ?_⟩
    · rw [h1.out]; rfl
    · rw [h1.out]
      exact h3.trR h4
end Go.Proofs.YtcbpdibkindnfaaGreat
