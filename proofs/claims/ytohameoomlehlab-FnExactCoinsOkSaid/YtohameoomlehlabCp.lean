/-
  Plain mathematics of coins in a map by their places: the order, what a map of coins reads as, what has come of a range over it.
-/
import Derived.Test.YtohameoomlehlabCb
import Derived.Maps.RangeWalk
import Derived.Maps.Ext
import Derived.DeepKeys4
import Derived.Shelf.SlSortCmp.Insertion
namespace Go.Proofs.Ytohameoomlehlab
open Go.RowKit Go.Maps

/-! ### the order -/
def Co.ci (x y : Int) : Int := if x < y then -1 else if y < x then 1 else 0
def Co.cmp (x y : Co) : Int := if Co.ci x.tx y.tx = 0 then Co.ci x.out y.out else Co.ci x.tx y.tx
theorem Co.ci_lt (x y : Int) : Co.ci x y < 0 ↔ x < y := by
  unfold Co.ci
  split
  · omega
  · split <;> omega
theorem Co.ci_eq (x y : Int) : Co.ci x y = 0 ↔ x = y := by
  unfold Co.ci
  split
  · omega
  · split <;> omega
theorem Co.cmp_lt (x y : Co) : Co.cmp x y < 0 ↔ x.tx < y.tx ∨ (x.tx = y.tx ∧ x.out < y.out) := by
  unfold Co.cmp
  split
  · rename_i h
    rw [Co.ci_lt]
    have := (Co.ci_eq _ _).1 h
    omega
  · rename_i h
    rw [Co.ci_lt]
    have : ¬ x.tx = y.tx := fun e => h ((Co.ci_eq _ _).2 e)
    omega
theorem Co.ltOf_cmp (x y : Co) : ltOf Co.cmp x y = x.less y.tx y.out := by
  unfold ltOf
  cases h : x.less y.tx y.out with
  | true => rw [decide_eq_true]; exact (Co.cmp_lt x y).2 ((Co.less_iff _ _ _).1 h)
  | false => rw [decide_eq_false]; exact fun h2 => (Co.less_no _ _ _).1 h ((Co.cmp_lt x y).1 h2)
theorem Co.swo : Go.Sort.SWO (ltOf Co.cmp) where
  irrefl x := by rw [Co.ltOf_cmp, Co.less_no]; omega
  trans x y z h1 h2 := by rw [Co.ltOf_cmp, Co.less_iff] at *; omega
  ntrans x y z h1 h2 := by rw [Co.ltOf_cmp, Co.less_no] at *; omega
/-- A sorted permutation of strictly ascending coins is these coins. -/
theorem Co.sorted_uniq : ∀ {m g : List Co}, m.Perm g → m.Pairwise (fun a b => b.less a.tx a.out = false) → g.Pairwise (fun a b => a.less b.tx b.out = true) → m = g
  | [], g, hp, _, _ => (List.nil_perm.1 hp).symm
  | a :: m, [], hp, _, _ => absurd hp.length_eq (by simp)
  | a :: m, b :: g, hp, hm, hg => by
    obtain ⟨m1, m2⟩ := List.pairwise_cons.1 hm
    obtain ⟨g1, g2⟩ := List.pairwise_cons.1 hg
    have hab : a = b := by
      rcases List.mem_cons.1 (hp.mem_iff.1 (List.mem_cons_self : a ∈ a :: m)) with h | h
      · exact h
      · rcases List.mem_cons.1 (hp.mem_iff.2 (List.mem_cons_self : b ∈ b :: g)) with h2 | h2
        · exact h2.symm
        · have h3 := g1 a h
          have h4 := m1 b h2
          rw [h3] at h4
          cases h4
    subst hab
    rw [Co.sorted_uniq hp.cons_inv m2 g2]
theorem Co.pairwise_nth {R : Co → Co → Prop} {l : List Co} (h : ∀ i j, i < j → j < l.length → R (Co.nth l i) (Co.nth l j)) : l.Pairwise R := by
  rw [List.pairwise_iff_getElem]
  intro i j hi hj hij
  have h1 := h i j hij hj
  have e : ∀ k (hk : k < l.length), Co.nth l k = l[k] := fun k hk => by
    have := Co.nth_get hk
    rw [List.getElem?_eq_getElem hk] at this
    exact (Option.some.inj this).symm
  rw [e i hi, e j hj] at h1
  exact h1
theorem Co.Good.asc2 {l : List Co} (h : Co.Good l) : l.Pairwise (fun a b => a.less b.tx b.out = true) :=
  Co.pairwise_nth fun i j hij hj => (Co.less_iff _ _ _).2 (h.asc i j hij hj)
instance : Inhabited Co := ⟨Co.z⟩
/-- What the sort leaves. -/
theorem Co.sorted_of {l : List Co} {d d' : Array Co} (hg : Co.Good l) (hp : d.toList.Perm l) (h1 : Go.Sort.PermIn 0 d.size d d') (h2 : Go.Sort.SortedIn (ltOf Co.cmp) 0 d.size d') : d'.toList = l ∧ d'.size = d.size := by
  obtain ⟨hs, _, hpm⟩ := h1
  refine ⟨Co.sorted_uniq ?_ ?_ hg.asc2, hs⟩
  · have e1 : (d'.extract 0 d.size).toList = d'.toList := by rw [← hs]; simp
    have e2 : (d.extract 0 d.size).toList = d.toList := by simp
    rw [e1, e2] at hpm
    exact hpm.trans hp
  · rw [List.pairwise_iff_getElem]
    intro i j hi hj hij
    have hj' : j < d'.size := by simpa using hj
    have := h2 i j (Nat.zero_le _) hij (by omega)
    rw [Co.ltOf_cmp, getElem!_pos d' i (by omega), getElem!_pos d' j hj'] at this
    simpa using this
/-! ### places -/
/-- No place twice. -/
def Co.Apart (l : List Co) : Prop := l.Pairwise (fun a b => ¬ (a.tx = b.tx ∧ a.out = b.out))
theorem Co.Good.apart {l : List Co} (h : Co.Good l) : Co.Apart l := h.asc2.imp fun {a b} hab => by
  have := (Co.less_iff _ _ _).1 hab
  omega
theorem Co.Apart.one {l : List Co} (h : Co.Apart l) {a b : Co} (ha : a ∈ l) (hb : b ∈ l) (h1 : a.tx = b.tx) (h2 : a.out = b.out) : a = b := by
  induction l with
  | nil => cases ha
  | cons c l ih =>
    obtain ⟨k1, k2⟩ := List.pairwise_cons.1 h
    rcases List.mem_cons.1 ha with rfl | ha'
    · rcases List.mem_cons.1 hb with rfl | hb'
      · rfl
      · exact absurd ⟨h1, h2⟩ (k1 b hb')
    · rcases List.mem_cons.1 hb with rfl | hb'
      · exact absurd ⟨h1.symm, h2.symm⟩ (k1 a ha')
      · exact ih k2 ha' hb'
theorem Co.Apart.nodup {l : List Co} (h : Co.Apart l) : l.Nodup := h.imp fun {a b} hab e => hab ⟨by rw [e], by rw [e]⟩
theorem Co.Apart.snoc {l : List Co} (h : Co.Apart l) {c : Co} (hc : ∀ a ∈ l, ¬ (a.tx = c.tx ∧ a.out = c.out)) : Co.Apart (l ++ [c]) := by
  refine List.pairwise_append.2 ⟨h, by simp, fun a ha b hb => ?_⟩
  simp at hb
  subst hb
  exact hc a ha
/-! ### what a map of coins reads as -/
abbrev Co.D : Type := DataW Unit
def Co.key (t o : Int) : Lit := .string (keyBytes [.int .i64 t, .int .i64 o])
def Co.kv (t o : Int) : Value := .agg #[.int .i64 t, .int .i64 o]
def Co.val (c : Co) : Value := .agg #[.int .i64 c.tx, .int .i64 c.out, .int .i64 c.amt, .string c.lock, .int .i64 c.ht, .bool c.rew]
def Co.dat (c : Co) : Co.D := .agg [.lit (.int .i64 c.tx), .lit (.int .i64 c.out), .lit (.int .i64 c.amt), .lit (.string c.lock.data.toList), .lit (.int .i64 c.ht), .lit (.bool c.rew)]
theorem Co.dat_inj {a b : Co} (h : a.dat = b.dat) : a = b := by
  obtain ⟨t, o, m, s, e, r⟩ := a
  obtain ⟨t', o', m', s', e', r'⟩ := b
  simp only [Co.dat, DataW.agg.injEq, List.cons.injEq, DataW.lit.injEq, Lit.int.injEq, Lit.string.injEq, Lit.bool.injEq, true_and, and_true] at h
  obtain ⟨rfl, rfl, rfl, h, rfl, rfl⟩ := h
  have : s = s' := ByteArray.ext (Array.ext' h)
  subst this
  rfl
/-- How a coin reads in a map. -/
def Co.rdr : Value → Option (Co.D × List MemPlace)
  | .agg ⟨[.int .i64 a, .int .i64 b, .int .i64 c, .string s, .int .i64 e, .bool r]⟩ => some (Co.dat ⟨a, b, c, s, e, r⟩, [])
  | _ => none
theorem Co.rdr_val (c : Co) : Co.rdr c.val = some (c.dat, []) := rfl
theorem Co.rdr_inv {v : Value} {y : Co.D × List MemPlace} (h : Co.rdr v = some y) : ∃ c : Co, v = c.val ∧ y = (c.dat, []) := by
  unfold Co.rdr at h
  split at h
  · rename_i a b c s e r
    cases h
    exact ⟨⟨a, b, c, s, e, r⟩, rfl, rfl⟩
  · cases h
/-- A place that a key can say. -/
def Co.In (t o : Int) : Prop := (-9223372036854775808 ≤ t ∧ t ≤ 9223372036854775807) ∧ (-9223372036854775808 ≤ o ∧ o ≤ 9223372036854775807)
theorem Co.Ok.inn {c : Co} (h : c.Ok) : Co.In c.tx c.out := by
  have h1 := h.tx
  have h2 := h.out
  unfold Co.In
  omega
theorem Co.wf64 {t : Int} (h : -9223372036854775808 ≤ t ∧ t ≤ 9223372036854775807) : (Lit.int .i64 t).wf = true := WalkArith.wf_i64 (by omega)
/-- The map D holds just the coins l, each at its place. -/
structure Co.Is (D : Co.D) (l : List Co) : Prop where
  apart : Co.Apart l
  inn : ∀ c ∈ l, Co.In c.tx c.out
  size : Maps.size D = l.length
  at_ : ∀ c ∈ l, ∀ zd, D.atKey (Co.key c.tx c.out) zd = c.dat
  only : ∀ kl, Maps.has D kl = true → ∃ c ∈ l, kl = Co.key c.tx c.out
theorem Co.isKey (t o : Int) : WideAt.IsKeyLit (Co.key t o) := by
  unfold Co.key WideAt.IsKeyLit
  trivial
theorem Co.Is.nil : Co.Is (.map []) [] := ⟨List.Pairwise.nil, fun c hc => (List.not_mem_nil hc).elim, rfl, fun c hc => (List.not_mem_nil hc).elim, fun _ h => by cases h⟩
theorem Co.Is.has {D : Co.D} {l : List Co} (h : Co.Is D l) {c : Co} (hc : c ∈ l) : Maps.has D (Co.key c.tx c.out) = true := has_true_of_atKey (h.at_ c hc)
/-! ### what has come of a range -/
structure Co.Got (l : List Co) (left : Lit → Bool) (xs : List Co) : Prop where
  sub : ∀ c ∈ xs, c ∈ l ∧ left (Co.key c.tx c.out) = false
  nodup : xs.Nodup
  all : ∀ c ∈ l, left (Co.key c.tx c.out) = false → c ∈ xs
theorem Co.Got.start {D : Co.D} {l : List Co} (h : Co.Is D l) : Co.Got l (Maps.has D) [] :=
  ⟨fun c hc => (List.not_mem_nil hc).elim, List.nodup_nil, fun c hc h2 => by rw [h.has hc] at h2; cases h2⟩
theorem Co.Is.which {D : Co.D} {l : List Co} (h : Co.Is D l) {kl : Lit} {c : Co} {y : Co.D × List MemPlace} (hR : Co.rdr c.val = some y) (hat : ∀ zd, D.atKey kl zd = y.1) : c ∈ l ∧ kl = Co.key c.tx c.out := by
  rw [Co.rdr_val] at hR
  cases hR
  obtain ⟨c', hc', rfl⟩ := h.only kl (has_true_of_atKey hat)
  have e := (h.at_ c' hc' .nil).symm.trans (hat .nil)
  have := Co.dat_inj e
  subst this
  exact ⟨hc', rfl⟩
theorem Co.Got.step {D : Co.D} {l xs : List Co} {left : Lit → Bool} (h : Co.Is D l) (g : Co.Got l left xs) {c : Co} (hc : c ∈ l) (hl : left (Co.key c.tx c.out) = true) : Co.Got l (fun z => left z && !z.sameKey (Co.key c.tx c.out)) (xs ++ [c]) := by
  refine ⟨fun a ha => ?_, ?_, fun a ha h2 => ?_⟩
  · rcases List.mem_append.1 ha with h1 | h1
    · obtain ⟨k1, k2⟩ := g.sub a h1
      exact ⟨k1, by rw [k2]; rfl⟩
    · simp at h1
      subst h1
      exact ⟨hc, by rw [WideAt.sameKey_self (Co.isKey _ _)]; simp⟩
  · refine List.nodup_append.2 ⟨g.nodup, by simp, fun a ha b hb e => ?_⟩
    simp at hb
    subst hb
    subst e
    have := (g.sub a ha).2
    rw [hl] at this
    cases this
  · by_cases he : left (Co.key a.tx a.out) = false
    · exact List.mem_append.2 (.inl (g.all a ha he))
    · have h3 : left (Co.key a.tx a.out) = true := by simpa using he
      rw [h3] at h2
      have h4 : (Co.key a.tx a.out).sameKey (Co.key c.tx c.out) = true := by simpa using h2
      have h5 := WideAt.sameKey_eq h4
      have h6 := h.at_ a ha .nil
      rw [h5, h.at_ c hc .nil] at h6
      have := Co.dat_inj h6
      subst this
      exact List.mem_append.2 (.inr (by simp))
theorem Co.Got.perm {l xs : List Co} {left : Lit → Bool} (hl : l.Nodup) (g : Co.Got l left xs) (hn : ∀ kl, left kl = false) : xs.Perm l :=
  (List.perm_ext_iff_of_nodup g.nodup hl).2 fun a => ⟨fun ha => (g.sub a ha).1, fun ha => g.all a ha (hn _)⟩
/-! ### the coin at a place -/
def Co.hit (t o : Int) (c : Co) : Bool := decide (c.tx = t) && decide (c.out = o)
theorem Co.hit_iff (t o : Int) (c : Co) : Co.hit t o c = true ↔ c.tx = t ∧ c.out = o := by
  unfold Co.hit
  simp only [Bool.and_eq_true, decide_eq_true_eq]
def Co.pick (l : List Co) (t o : Int) : Option Co := l.find? (Co.hit t o)
theorem Co.pick_some {l : List Co} {t o : Int} {c : Co} (h : Co.pick l t o = some c) : c ∈ l ∧ c.tx = t ∧ c.out = o :=
  ⟨List.mem_of_find?_eq_some h, (Co.hit_iff _ _ _).1 (List.find?_some h)⟩
theorem Co.pick_none {l : List Co} {t o : Int} (h : Co.pick l t o = none) : ∀ c ∈ l, ¬ (c.tx = t ∧ c.out = o) := fun c hc hq => by
  have := List.find?_eq_none.1 h c hc
  exact this ((Co.hit_iff _ _ _).2 hq)
theorem Co.pick_mem {l : List Co} (h : Co.Apart l) {c : Co} (hc : c ∈ l) : Co.pick l c.tx c.out = some c := by
  cases hp : Co.pick l c.tx c.out with
  | none => exact absurd ⟨rfl, rfl⟩ (Co.pick_none hp c hc)
  | some d =>
    obtain ⟨h1, h2, h3⟩ := Co.pick_some hp
    rw [h.one h1 hc h2 h3]
theorem Co.has_mem {l : List Co} {t o : Int} (h : Co.has l t o = true) : Co.nth l (Co.at_ l t o) ∈ l := Co.nth_mem ((Co.has_iff _ _ _).1 h).1
theorem Co.pick_has {l : List Co} (h : Co.Good l) {t o : Int} (hh : Co.has l t o = true) : Co.pick l t o = some (Co.nth l (Co.at_ l t o)) := by
  have h1 := Co.pick_mem h.apart (Co.has_mem hh)
  obtain ⟨_, h2, h3⟩ := (Co.has_iff _ _ _).1 hh
  rw [h2, h3] at h1
  exact h1
theorem Co.pick_not {l : List Co} (h : Co.Good l) {t o : Int} (hh : Co.has l t o = false) : Co.pick l t o = none := by
  cases hp : Co.pick l t o with
  | none => rfl
  | some c =>
    obtain ⟨h1, rfl, rfl⟩ := Co.pick_some hp
    obtain ⟨j, hj, rfl⟩ := Co.mem_nth h1
    rw [Co.has_nth h hj] at hh
    cases hh
theorem Co.pick_find {l : List Co} (h : Co.lok l = true) (t o : Int) : Co.pick l t o = Co.find l t o := by
  have hg := (Co.good_iff l).1 h
  unfold Co.find
  rw [if_pos h]
  cases hh : Co.has l t o with
  | true => rw [if_pos rfl, Co.pick_has hg hh]
  | false => rw [if_neg (by decide), Co.pick_not hg hh]
/-! ### one more, one less -/
theorem Co.put_perm (l : List Co) (k : Nat) (c : Co) : (l ++ [c]).Perm (Co.put l k c) := by
  unfold Co.put
  have h1 : (l.take k ++ c :: l.drop k).Perm (c :: (l.take k ++ l.drop k)) := List.perm_middle
  rw [List.take_append_drop] at h1
  exact (List.perm_append_singleton c l).trans h1.symm
def Co.drop (l : List Co) (t o : Int) : List Co := l.filter (fun c => !Co.hit t o c)
theorem Co.drop_cut {l : List Co} (h : Co.Good l) {t o : Int} (hh : Co.has l t o = true) : Co.drop l t o = Co.cut l (Co.at_ l t o) := by
  obtain ⟨hk, h2, h3⟩ := (Co.has_iff _ _ _).1 hh
  generalize Co.at_ l t o = k at hk h2 h3 ⊢
  have hsplit : l = l.take k ++ Co.nth l k :: l.drop (k + 1) := by
    have h4 : l.drop k = Co.nth l k :: l.drop (k + 1) := by
      rw [List.drop_eq_getElem_cons hk]
      congr 1
      have := Co.nth_get hk
      rw [List.getElem?_eq_getElem hk] at this
      exact Option.some.inj this
    conv => lhs; rw [← List.take_append_drop k l, h4]
  have hp := h.apart
  unfold Co.Apart at hp
  rw [hsplit] at hp
  obtain ⟨_, p2, p3⟩ := List.pairwise_append.1 hp
  obtain ⟨p4, _⟩ := List.pairwise_cons.1 p2
  have hy : Co.hit t o (Co.nth l k) = true := (Co.hit_iff _ _ _).2 ⟨h2, h3⟩
  unfold Co.drop Co.cut
  conv => lhs; rw [hsplit]
  rw [List.filter_append, List.filter_cons, hy]
  have e1 : (l.take k).filter (fun c => !Co.hit t o c) = l.take k := List.filter_eq_self.2 fun a ha => by
    cases hq : Co.hit t o a with
    | false => rfl
    | true =>
      have := (Co.hit_iff _ _ _).1 hq
      exact absurd ⟨this.1.trans h2.symm, this.2.trans h3.symm⟩ (p3 a ha _ List.mem_cons_self)
  have e2 : (l.drop (k + 1)).filter (fun c => !Co.hit t o c) = l.drop (k + 1) := List.filter_eq_self.2 fun a ha => by
    cases hq : Co.hit t o a with
    | false => rfl
    | true =>
      have := (Co.hit_iff _ _ _).1 hq
      exact absurd ⟨h2.trans this.1.symm, h3.trans this.2.symm⟩ (p4 a ha)
  rw [e1, e2]
  simp
end Go.Proofs.Ytohameoomlehlab
