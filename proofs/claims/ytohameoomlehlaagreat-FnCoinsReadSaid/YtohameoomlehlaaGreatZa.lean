import Derived.Test.YtohameoomlehlaaGreatOf
import Derived.Test.YtohameoomlehlaaGreatUw
import Derived.Test.YtohameoomlehlaaGreatWa
import Derived.Test.YtohameoomlehlaaGreatDg
import Derived.Test.YtohameoomlehlaaGreatGk
import Derived.Test.YtohameoomlehlaaGreatBk
/-
  Plain mathematics of locks: their operations, and which script is a lock of which kind.
-/
namespace Go.Proofs.YtohameoomlehlaaGreat

/-- A pushed number; an operation without fields. -/
def Lk.push (n : Int) : Jo := ⟨0, 0, 0, Dg.bytes n⟩
def Lk.code (c : Int) : Jo := ⟨c, 0, 0, ⟨#[]⟩⟩
def Lk.key (k : Int) : List Jo := [Lk.push k, Lk.code 11]
def Lk.digest (d : Int) : List Jo := [Lk.code 10, Lk.push d, Lk.code 4]
def Lk.timed (d payee height payer : Int) : List Jo := [Lk.code 6, Lk.code 10, Lk.push d, Lk.code 4, Lk.code 9, Lk.push payee, Lk.code 11, Lk.code 7, ⟨13, height, 0, ⟨#[]⟩⟩, Lk.push payer, Lk.code 11, Lk.code 8]
def Lk.revocable (revoke delay owner : Int) : List Jo := [Lk.code 6, Lk.push revoke, Lk.code 11, Lk.code 7, ⟨14, delay, 0, ⟨#[]⟩⟩, Lk.push owner, Lk.code 11, Lk.code 8]
/-- What the lock's function asks. -/
def Lk.timedOk (d payee height payer : Int) : Bool := ((decide (0 ≤ d) && decide (d ≤ 4294967295))) && (Gr.kok payee) && (Gr.kok payer) && ((decide (0 ≤ height) && decide (height ≤ 9999)))
/-- What the lock's function asks. -/
def Lk.revocableOk (revoke delay owner : Int) : Bool := (Gr.kok revoke) && (Gr.kok owner) && ((decide (1 ≤ delay) && decide (delay ≤ 99)))
/-- The first pushes of a shared lock. -/
def Lk.pre (zs : List Int) (k : Nat) : List Jo := (zs.take k).map Lk.push
theorem Lk.pre_snoc (zs : List Int) (k : Nat) (h : k < zs.length) : Lk.pre zs (k + 1) = Lk.pre zs k ++ [Lk.push (zs.getD k 0)] := by
  unfold Lk.pre
  rw [take_snocW zs k h, List.map_append]
  rfl
def Lk.many (need : Int) (zs : List Int) : List Jo := Lk.pre zs zs.length ++ [⟨12, need, (zs.length : Int), ⟨#[]⟩⟩]
def Lk.manyLen (n : Nat) : Bool := decide (1 ≤ (n : Int)) && decide ((n : Int) ≤ 5)
def Lk.manyNeed (need : Int) (n : Nat) : Bool := decide (1 ≤ need) && decide (need ≤ (n : Int))
/-- What LockMany asks. -/
def Lk.manyOk (need : Int) (zs : List Int) : Bool := Lk.manyLen zs.length && Lk.manyNeed need zs.length && zs.all Gr.kok
theorem Lk.all_no {zs : List Int} {k : Nat} (h : k < zs.length) (hk : Gr.kok (zs.getD k 0) = false) : zs.all Gr.kok = false := by
  rw [List.all_eq_false]
  refine ⟨zs.getD k 0, ?_, by rw [hk]; decide⟩
  rw [List.getD_eq_getElem?_getD, List.getElem?_eq_getElem h]
  exact List.getElem_mem h
theorem Lk.all_yes {zs : List Int} (h : ∀ j, j < zs.length → Gr.kok (zs.getD j 0) = true) : zs.all Gr.kok = true := by
  rw [List.all_eq_true]
  intro x hx
  obtain ⟨j, hj, rfl⟩ := List.getElem_of_mem hx
  have := h j hj
  rwa [List.getD_eq_getElem?_getD, List.getElem?_eq_getElem hj] at this

theorem Gr.kok_bd {a : Int} (h : Gr.kok a = true) : 0 ≤ a ∧ a ≤ 4294967295 := by
  unfold Gr.kok Gr.ok at h
  simp at h
  omega
theorem Gr.kok_pos {a : Int} (h : Gr.kok a = true) : 1 ≤ a := by
  unfold Gr.kok Gr.ok at h
  simp at h
  omega
/-! ### they are scripts -/
theorem Lk.fld_push (n : Int) : Jo.fld (Lk.push n) = true := by
  unfold Jo.fld Lk.push
  simp [Dg.bytes_size]
theorem Lk.fld_after (h : Int) : Jo.fld ⟨13, h, 0, ⟨#[]⟩⟩ = (decide (0 ≤ h) && decide (h ≤ 9999)) := by
  have e : (⟨#[]⟩ : ByteArray).size = 0 := rfl
  unfold Jo.fld
  simp [e]
theorem Lk.fld_older (h : Int) : Jo.fld ⟨14, h, 0, ⟨#[]⟩⟩ = (decide (1 ≤ h) && decide (h ≤ 99)) := by
  have e : (⟨#[]⟩ : ByteArray).size = 0 := rfl
  unfold Jo.fld
  simp [e]
theorem Lk.fld_many (need n : Int) : Jo.fld ⟨12, need, n, ⟨#[]⟩⟩ = decide (1 ≤ need ∧ need ≤ n ∧ n ≤ 5) := by
  have e : (⟨#[]⟩ : ByteArray).size = 0 := rfl
  unfold Jo.fld
  simp [e]
theorem Lk.ok_key (k : Int) : Jo.ok (Lk.key k) = true := by
  refine (Jo.ok_iff _).2 ⟨by simp [Lk.key], ?_, rfl⟩
  intro x hx
  simp [Lk.key] at hx
  rcases hx with rfl | rfl
  · exact Lk.fld_push k
  · decide
theorem Lk.ok_digest (d : Int) : Jo.ok (Lk.digest d) = true := by
  refine (Jo.ok_iff _).2 ⟨by simp [Lk.digest], ?_, rfl⟩
  intro x hx
  simp [Lk.digest] at hx
  rcases hx with rfl | rfl | rfl
  · decide
  · exact Lk.fld_push d
  · decide
theorem Lk.ok_timed (d p h q : Int) : Jo.ok (Lk.timed d p h q) = (decide (0 ≤ h) && decide (h ≤ 9999)) := by
  rw [← Lk.fld_after h]
  have hn : Jo.nest [] (Lk.timed d p h q) = some [] := rfl
  have hl : (Lk.timed d p h q).length = 12 := rfl
  rw [Bool.eq_iff_iff, Jo.ok_iff]
  refine ⟨fun g => g.2.1 _ (by simp [Lk.timed]), fun g => ⟨by rw [hl]; decide, fun x hx => ?_, hn⟩⟩
  simp [Lk.timed] at hx
  rcases hx with rfl | rfl | rfl | rfl | rfl | rfl | rfl | rfl | rfl | rfl | rfl | rfl <;> first | exact Lk.fld_push _ | exact g | decide
theorem Lk.ok_revocable (r d o : Int) : Jo.ok (Lk.revocable r d o) = (decide (1 ≤ d) && decide (d ≤ 99)) := by
  rw [← Lk.fld_older d]
  have hn : Jo.nest [] (Lk.revocable r d o) = some [] := rfl
  have hl : (Lk.revocable r d o).length = 8 := rfl
  rw [Bool.eq_iff_iff, Jo.ok_iff]
  refine ⟨fun g => g.2.1 _ (by simp [Lk.revocable]), fun g => ⟨by rw [hl]; decide, fun x hx => ?_, hn⟩⟩
  simp [Lk.revocable] at hx
  rcases hx with rfl | rfl | rfl | rfl | rfl | rfl | rfl | rfl <;> first | exact Lk.fld_push _ | exact g | decide
theorem Lk.nest_push (zs : List Int) (st : List Bool) (l : List Jo) : Jo.nest st (zs.map Lk.push ++ l) = Jo.nest st l := by
  induction zs with
  | nil => rfl
  | cons z zs ih => exact ih
theorem Lk.many_eq (need : Int) (zs : List Int) : Lk.many need zs = zs.map Lk.push ++ [⟨12, need, (zs.length : Int), ⟨#[]⟩⟩] := by
  unfold Lk.many Lk.pre
  rw [List.take_length]
theorem Lk.ok_many (need : Int) (zs : List Int) (hl : zs.length ≤ 5) : Jo.ok (Lk.many need zs) = (Lk.manyLen zs.length && Lk.manyNeed need zs.length) := by
  rw [Bool.eq_iff_iff, Jo.ok_iff, Lk.many_eq, Lk.nest_push]
  have hq : (Lk.manyLen zs.length && Lk.manyNeed need zs.length) = true ↔ Jo.fld ⟨12, need, (zs.length : Int), ⟨#[]⟩⟩ = true := by
    rw [Lk.fld_many]
    unfold Lk.manyLen Lk.manyNeed
    simp
    omega
  rw [hq]
  refine ⟨fun g => g.2.1 _ (by simp), fun g => ⟨by simp; omega, fun x hx => ?_, rfl⟩⟩
  rcases List.mem_append.1 hx with h | h
  · obtain ⟨z, _, rfl⟩ := List.mem_map.1 h
    exact Lk.fld_push z
  · simp at h
    subst h
    exact g
theorem Lk.many_short {need : Int} {zs : List Int} (h : Lk.manyOk need zs = true) : zs.length ≤ 5 := by
  unfold Lk.manyOk Lk.manyLen at h
  simp at h
  omega
theorem Lk.ok_many' {need : Int} {zs : List Int} (h : Lk.manyOk need zs = true) : Jo.ok (Lk.many need zs) = true := by
  rw [Lk.ok_many need zs (Lk.many_short h)]
  unfold Lk.manyOk at h
  simp only [Bool.and_eq_true] at h ⊢
  exact h.1
theorem Lk.many_all {need : Int} {zs : List Int} (h : Lk.manyOk need zs = true) : ∀ z ∈ zs, Gr.kok z = true := by
  unfold Lk.manyOk at h
  simp only [Bool.and_eq_true] at h
  exact fun z hz => List.all_eq_true.1 h.2 z hz
theorem Lk.timed_ok {d p h q : Int} (g : Lk.timedOk d p h q = true) : (0 ≤ d ∧ d ≤ 4294967295) ∧ Gr.kok p = true ∧ Gr.kok q = true ∧ (0 ≤ h ∧ h ≤ 9999) := by
  unfold Lk.timedOk at g
  simp only [Bool.and_eq_true, decide_eq_true_eq] at g
  exact ⟨g.1.1.1, g.1.1.2, g.1.2, g.2⟩
theorem Lk.rev_ok {r d o : Int} (g : Lk.revocableOk r d o = true) : Gr.kok r = true ∧ Gr.kok o = true ∧ (1 ≤ d ∧ d ≤ 99) := by
  unfold Lk.revocableOk at g
  simp only [Bool.and_eq_true, decide_eq_true_eq] at g
  exact ⟨g.1.1, g.1.2, g.2⟩
theorem Lk.ok_timed' {d p h q : Int} (g : Lk.timedOk d p h q = true) : Jo.ok (Lk.timed d p h q) = true := by
  have := (Lk.timed_ok g).2.2.2
  rw [Lk.ok_timed]
  simp
  exact this
theorem Lk.ok_revocable' {r d o : Int} (g : Lk.revocableOk r d o = true) : Jo.ok (Lk.revocable r d o) = true := by
  have := (Lk.rev_ok g).2.2
  rw [Lk.ok_revocable]
  simp
  exact this
/-- The string that a lock's function hands back. -/
def Lk.s (ok : Bool) (l : List Jo) : ByteArray := if ok = true then Jo.bs l else ⟨#[]⟩
theorem Jo.bs_no {l : List Jo} (h : Jo.ok l = false) : Jo.bs l = ⟨#[]⟩ := if_neg (by rw [h]; decide)
theorem Jo.bs_ok {l : List Jo} (h : Jo.ok l = true) : Jo.bs l = Jo.bytes l := if_pos h
theorem Jo.read_bs {l : List Jo} (h : Jo.ok l = true) : Jo.read (Jo.bs l) = some l := by rw [Jo.bs_ok h]; exact Jo.read_bytes h
theorem Jo.bs_inj {l m : List Jo} (hl : Jo.ok l = true) (hm : Jo.ok m = true) (h : Jo.bs l = Jo.bs m) : l = m := by
  have h1 := Jo.read_bs hl
  rw [h, Jo.read_bs hm] at h1
  exact (Option.some.inj h1).symm
/-! ### terms -/
def Lk.has (x : Jo) : Bool := decide (x.c = 0) && decide (x.t.size = 4)
/-- The digests and keys that are pushed. -/
def Lk.ds (l : List Jo) : List Int := (l.filter Lk.has).map fun x => Dg.num x.t
def Lk.sets (x : Jo) : Bool := decide (x.c = 12) || (decide (x.c = 13) || decide (x.c = 14))
/-- The last number. -/
def Lk.num (l : List Jo) : Int := l.foldl (fun a x => if Lk.sets x = true then x.a else a) 0
def Lk.dg (l : List Jo) (i : Nat) : Int := (Lk.ds l).getD i (-1)
theorem Lk.ds_snoc (l : List Jo) (x : Jo) : Lk.ds (l ++ [x]) = if Lk.has x = true then Lk.ds l ++ [Dg.num x.t] else Lk.ds l := by
  unfold Lk.ds
  rw [List.filter_append, List.map_append]
  cases h : Lk.has x
  · rw [List.filter_cons_of_neg (by rw [h]; decide)]
    simp
  · rw [List.filter_cons_of_pos h]
    simp
theorem Lk.num_snoc (l : List Jo) (x : Jo) : Lk.num (l ++ [x]) = if Lk.sets x = true then x.a else Lk.num l := by
  unfold Lk.num
  rw [List.foldl_append]
  rfl
theorem Lk.has_push (n : Int) : Lk.has (Lk.push n) = true := by
  unfold Lk.has Lk.push
  simp [Dg.bytes_size]
theorem Lk.has_no (c a b : Int) : Lk.has ⟨c, a, b, ⟨#[]⟩⟩ = false := by
  have e : (⟨#[]⟩ : ByteArray).size = 0 := rfl
  unfold Lk.has
  simp [e]
theorem Lk.has_code (c : Int) : Lk.has (Lk.code c) = false := Lk.has_no c 0 0
theorem Lk.ds_key {k : Int} (h : 0 ≤ k ∧ k ≤ 4294967295) : Lk.ds (Lk.key k) = [k] := by
  have : (Lk.key k).filter Lk.has = [Lk.push k] := by
    unfold Lk.key
    simp [Lk.has_push, Lk.has_code]
  unfold Lk.ds
  rw [this]
  show [Dg.num (Dg.bytes k)] = _
  rw [Dg.num_bytes k h.1 h.2]
theorem Lk.ds_digest {d : Int} (h : 0 ≤ d ∧ d ≤ 4294967295) : Lk.ds (Lk.digest d) = [d] := by
  have : (Lk.digest d).filter Lk.has = [Lk.push d] := by
    unfold Lk.digest
    simp [Lk.has_push, Lk.has_code]
  unfold Lk.ds
  rw [this]
  show [Dg.num (Dg.bytes d)] = _
  rw [Dg.num_bytes d h.1 h.2]
theorem Lk.ds_timed {d p h q : Int} (hd : 0 ≤ d ∧ d ≤ 4294967295) (hp : 0 ≤ p ∧ p ≤ 4294967295) (hq : 0 ≤ q ∧ q ≤ 4294967295) : Lk.ds (Lk.timed d p h q) = [d, p, q] := by
  have : (Lk.timed d p h q).filter Lk.has = [Lk.push d, Lk.push p, Lk.push q] := by
    unfold Lk.timed
    simp [Lk.has_push, Lk.has_code, Lk.has_no]
  unfold Lk.ds
  rw [this]
  show [Dg.num (Dg.bytes d), Dg.num (Dg.bytes p), Dg.num (Dg.bytes q)] = _
  rw [Dg.num_bytes d hd.1 hd.2, Dg.num_bytes p hp.1 hp.2, Dg.num_bytes q hq.1 hq.2]
theorem Lk.ds_revocable {r d o : Int} (hr : 0 ≤ r ∧ r ≤ 4294967295) (ho : 0 ≤ o ∧ o ≤ 4294967295) : Lk.ds (Lk.revocable r d o) = [r, o] := by
  have : (Lk.revocable r d o).filter Lk.has = [Lk.push r, Lk.push o] := by
    unfold Lk.revocable
    simp [Lk.has_push, Lk.has_code, Lk.has_no]
  unfold Lk.ds
  rw [this]
  show [Dg.num (Dg.bytes r), Dg.num (Dg.bytes o)] = _
  rw [Dg.num_bytes r hr.1 hr.2, Dg.num_bytes o ho.1 ho.2]
theorem Lk.ds_push : ∀ zs : List Int, (∀ z ∈ zs, 0 ≤ z ∧ z ≤ 4294967295) → Lk.ds (zs.map Lk.push) = zs := by
  intro zs
  induction zs with
  | nil => intro _; rfl
  | cons z zs ih =>
    intro h
    have h2 := ih fun y hy => h y (List.mem_cons_of_mem _ hy)
    have hz := h z (List.mem_cons_self ..)
    unfold Lk.ds at h2 ⊢
    rw [List.map_cons, List.filter_cons_of_pos (Lk.has_push z), List.map_cons, h2]
    show Dg.num (Dg.bytes z) :: zs = _
    rw [Dg.num_bytes z hz.1 hz.2]
theorem Lk.ds_many {need : Int} {zs : List Int} (h : ∀ z ∈ zs, 0 ≤ z ∧ z ≤ 4294967295) : Lk.ds (Lk.many need zs) = zs := by
  rw [Lk.many_eq, Lk.ds_snoc, Lk.has_no, if_neg (by decide), Lk.ds_push zs h]
theorem Lk.num_timed (d p h q : Int) : Lk.num (Lk.timed d p h q) = h := rfl
theorem Lk.num_revocable (r d o : Int) : Lk.num (Lk.revocable r d o) = d := rfl
theorem Lk.num_many (need : Int) (zs : List Int) : Lk.num (Lk.many need zs) = need := by
  rw [Lk.many_eq, Lk.num_snoc]
  rfl
/-! ### kinds -/
/-- Is it a lock of the kind k? -/
def Lk.Is (k : Nat) (l : List Jo) : Prop := match k with
  | 0 => ∃ x, Gr.kok x = true ∧ l = Lk.key x
  | 1 => ∃ d, (0 ≤ d ∧ d ≤ 4294967295) ∧ l = Lk.digest d
  | 2 => ∃ n zs, Lk.manyOk n zs = true ∧ l = Lk.many n zs
  | 3 => ∃ d p h q, Lk.timedOk d p h q = true ∧ l = Lk.timed d p h q
  | _ => ∃ r d o, Lk.revocableOk r d o = true ∧ l = Lk.revocable r d o
def Lk.okk (k : Nat) (T : List Int) (n : Int) : Bool := match k with
  | 0 => Gr.kok (T.getD 0 (-1))
  | 1 => decide (0 ≤ T.getD 0 (-1)) && decide (T.getD 0 (-1) ≤ 4294967295)
  | 2 => Lk.manyOk n T
  | 3 => Lk.timedOk (T.getD 0 (-1)) (T.getD 1 (-1)) n (T.getD 2 (-1))
  | _ => Lk.revocableOk (T.getD 0 (-1)) n (T.getD 1 (-1))
def Lk.mk (k : Nat) (T : List Int) (n : Int) : List Jo := match k with
  | 0 => Lk.key (T.getD 0 (-1))
  | 1 => Lk.digest (T.getD 0 (-1))
  | 2 => Lk.many n T
  | 3 => Lk.timed (T.getD 0 (-1)) (T.getD 1 (-1)) n (T.getD 2 (-1))
  | _ => Lk.revocable (T.getD 0 (-1)) n (T.getD 1 (-1))
theorem Lk.okk_ok (k : Nat) (T : List Int) (n : Int) (h : Lk.okk k T n = true) : Jo.ok (Lk.mk k T n) = true := by
  match k, h with
  | 0, _ => exact Lk.ok_key _
  | 1, _ => exact Lk.ok_digest _
  | 2, h => exact Lk.ok_many' h
  | 3, h => exact Lk.ok_timed' h
  | _ + 4, h => exact Lk.ok_revocable' h
/-- Is it told as a lock of the kind k? -/
def Lk.t (k : Nat) (l : List Jo) : Bool := Lk.okk k (Lk.ds l) (Lk.num l) && decide (Lk.s (Lk.okk k (Lk.ds l) (Lk.num l)) (Lk.mk k (Lk.ds l) (Lk.num l)) = Jo.bs l)
theorem Lk.t_is {k : Nat} {l : List Jo} (hl : Jo.ok l = true) (h : Lk.t k l = true) : Lk.Is k l := by
  unfold Lk.t at h
  rw [Bool.and_eq_true, decide_eq_true_eq] at h
  obtain ⟨h1, h2⟩ := h
  have h3 := Lk.okk_ok k _ _ h1
  unfold Lk.s at h2
  rw [if_pos h1] at h2
  have e := (Jo.bs_inj h3 hl h2).symm
  match k, h1, e with
  | 0, h1, e => exact ⟨_, h1, e⟩
  | 1, h1, e =>
    refine ⟨_, ?_, e⟩
    unfold Lk.okk at h1
    simpa only [Bool.and_eq_true, decide_eq_true_eq] using h1
  | 2, h1, e => exact ⟨_, _, h1, e⟩
  | 3, h1, e => exact ⟨_, _, _, _, h1, e⟩
  | _ + 4, h1, e => exact ⟨_, _, _, h1, e⟩
theorem Lk.is_t {k : Nat} {l : List Jo} (h : Lk.Is k l) : Lk.t k l = true := by
  have key : ∀ {T n}, Lk.ds l = T → Lk.num l = n → Lk.okk k T n = true → Lk.mk k T n = l → Lk.t k l = true := by
    intro T n e1 e2 h1 h2
    unfold Lk.t
    rw [e1, e2, h1, h2, Bool.true_and, decide_eq_true_eq]
    rfl
  match k, h with
  | 0, ⟨x, hx, e⟩ =>
    subst e
    exact key (Lk.ds_key (Gr.kok_bd hx)) rfl hx rfl
  | 1, ⟨d, hd, e⟩ =>
    subst e
    exact key (Lk.ds_digest hd) rfl (by show (decide (0 ≤ d) && decide (d ≤ 4294967295)) = true; simp [hd.1, hd.2]) rfl
  | 2, ⟨n, zs, hz, e⟩ =>
    subst e
    exact key (Lk.ds_many fun z h => Gr.kok_bd (Lk.many_all hz z h)) (Lk.num_many n zs) hz rfl
  | 3, ⟨d, p, x, q, hz, e⟩ =>
    subst e
    obtain ⟨h1, h2, h3, _⟩ := Lk.timed_ok hz
    exact key (Lk.ds_timed h1 (Gr.kok_bd h2) (Gr.kok_bd h3)) (Lk.num_timed d p x q) hz rfl
  | _ + 4, ⟨r, d, o, hz, e⟩ =>
    subst e
    obtain ⟨h1, h2, _⟩ := Lk.rev_ok hz
    exact key (Lk.ds_revocable (Gr.kok_bd h1) (Gr.kok_bd h2)) (Lk.num_revocable r d o) hz rfl
theorem Lk.is_ok {k : Nat} {l : List Jo} (h : Lk.Is k l) : Jo.ok l = true := by
  match k, h with
  | 0, ⟨x, hx, e⟩ => subst e; exact Lk.ok_key _
  | 1, ⟨d, hd, e⟩ => subst e; exact Lk.ok_digest _
  | 2, ⟨n, zs, hz, e⟩ => subst e; exact Lk.ok_many' hz
  | 3, ⟨d, p, h, q, hz, e⟩ => subst e; exact Lk.ok_timed' hz
  | _ + 4, ⟨r, d, o, hz, e⟩ => subst e; exact Lk.ok_revocable' hz
/-- What tells the kinds apart. -/
def Lk.tag (l : List Jo) : Int := match l.getLast? with
  | none => 0
  | some x => if x.c = 8 then (l.length : Int) + 100 else x.c
theorem Lk.tag_many (n : Int) (zs : List Int) : Lk.tag (Lk.many n zs) = 12 := by
  unfold Lk.tag
  rw [Lk.many_eq, List.getLast?_append]
  rfl
theorem Lk.is_tag {k : Nat} {l : List Jo} (hk : k < 5) (h : Lk.Is k l) : Lk.tag l = ([11, 4, 12, 112, 108] : List Int).getD k 0 := by
  match k, hk, h with
  | 0, _, ⟨x, hx, e⟩ => subst e; rfl
  | 1, _, ⟨d, hd, e⟩ => subst e; rfl
  | 2, _, ⟨n, zs, hz, e⟩ => subst e; exact Lk.tag_many n zs
  | 3, _, ⟨d, p, h, q, hz, e⟩ => subst e; rfl
  | 4, _, ⟨r, d, o, hz, e⟩ => subst e; rfl
theorem Lk.is_one {j k : Nat} {l : List Jo} (hj : j < 5) (hk : k < 5) (h1 : Lk.Is j l) (h2 : Lk.Is k l) : j = k := by
  have e1 := Lk.is_tag hj h1
  have e2 := Lk.is_tag hk h2
  rw [e1] at e2
  have key : ∀ j, j < 5 → ∀ k, k < 5 → ([11, 4, 12, 112, 108] : List Int).getD j 0 = ([11, 4, 12, 112, 108] : List Int).getD k 0 → j = k := by decide
  exact key j hj k hk e2
/-- The name of the kind k. -/
def Lk.nm (k : Nat) : ByteArray := match k with
  | 0 => ⟨#[107, 101, 121]⟩
  | 1 => ⟨#[100, 105, 103, 101, 115, 116]⟩
  | 2 => ⟨#[115, 104, 97, 114, 101, 100]⟩
  | 3 => ⟨#[116, 105, 109, 101, 100]⟩
  | _ => ⟨#[114, 101, 118, 111, 99, 97, 98, 108, 101]⟩
/-- The name of a script. -/
def Lk.name (l : List Jo) : ByteArray :=
  if Lk.t 0 l = true then Lk.nm 0 else if Lk.t 1 l = true then Lk.nm 1 else if Lk.t 2 l = true then Lk.nm 2 else if Lk.t 3 l = true then Lk.nm 3 else if Lk.t 4 l = true then Lk.nm 4 else ⟨#[]⟩
/-- The name of a string. -/
def Lk.nameS (s : ByteArray) : ByteArray := match Jo.read s with
  | none => ⟨#[]⟩
  | some l => Lk.name l
theorem Lk.name_first {k : Nat} {l : List Jo} (hk : k < 5) (h : Lk.t k l = true) (hn : ∀ j, j < k → Lk.t j l = false) : Lk.name l = Lk.nm k := by
  unfold Lk.name
  match k, hk, h, hn with
  | 0, _, h, _ => rw [if_pos h]
  | 1, _, h, hn => rw [if_neg (by rw [hn 0 (by omega)]; decide), if_pos h]
  | 2, _, h, hn => rw [if_neg (by rw [hn 0 (by omega)]; decide), if_neg (by rw [hn 1 (by omega)]; decide), if_pos h]
  | 3, _, h, hn => rw [if_neg (by rw [hn 0 (by omega)]; decide), if_neg (by rw [hn 1 (by omega)]; decide), if_neg (by rw [hn 2 (by omega)]; decide), if_pos h]
  | 4, _, h, hn => rw [if_neg (by rw [hn 0 (by omega)]; decide), if_neg (by rw [hn 1 (by omega)]; decide), if_neg (by rw [hn 2 (by omega)]; decide), if_neg (by rw [hn 3 (by omega)]; decide), if_pos h]
theorem Lk.name_none {l : List Jo} (hn : ∀ j, j < 5 → Lk.t j l = false) : Lk.name l = ⟨#[]⟩ := by
  unfold Lk.name
  rw [if_neg (by rw [hn 0 (by omega)]; decide), if_neg (by rw [hn 1 (by omega)]; decide), if_neg (by rw [hn 2 (by omega)]; decide), if_neg (by rw [hn 3 (by omega)]; decide), if_neg (by rw [hn 4 (by omega)]; decide)]
theorem Lk.name_is {k : Nat} {l : List Jo} (hk : k < 5) (h : Lk.Is k l) : Lk.name l = Lk.nm k :=
  Lk.name_first hk (Lk.is_t h) fun j hj => by
    cases ht : Lk.t j l
    · rfl
    · exact absurd (Lk.is_one (by omega) hk (Lk.t_is (Lk.is_ok h) ht) h) (by omega)
theorem Lk.name_no {l : List Jo} (hl : Jo.ok l = true) (hn : ∀ j, j < 5 → ¬ Lk.Is j l) : Lk.name l = ⟨#[]⟩ :=
  Lk.name_none fun j hj => by
    cases ht : Lk.t j l
    · rfl
    · exact absurd (Lk.t_is hl ht) (hn j hj)
theorem Lk.nameS_is {k : Nat} {l : List Jo} (hk : k < 5) (h : Lk.Is k l) : Lk.nameS (Jo.bs l) = Lk.nm k := by
  unfold Lk.nameS
  rw [Jo.read_bs (Lk.is_ok h)]
  exact Lk.name_is hk h
/-! ### the model's tests -/
/-- The key that an operation pushes, or 0. -/
def Lk.kx (x : Jo) : Int := if Lk.has x = true ∧ Gr.kok (Dg.num x.t) = true then Dg.num x.t else 0
theorem Lk.kx_key {x : Jo} (hf : Jo.fld x = true) (h : Lk.kx x ≠ 0) : x = Lk.push (Lk.kx x) ∧ Gr.kok (Lk.kx x) = true := by
  unfold Lk.kx at h ⊢
  split at h
  · rename_i hc
    rw [if_pos hc]
    refine ⟨?_, hc.2⟩
    have h1 := hc.1
    unfold Lk.has at h1
    rw [Bool.and_eq_true, decide_eq_true_eq, decide_eq_true_eq] at h1
    rcases Jo.kinds hf with ⟨e, _⟩ | ⟨e, _⟩ | ⟨e, _⟩ | ⟨e, _⟩ | ⟨j, e, _, _⟩
    · rw [e]
      unfold Lk.push
      simp only
      rw [Dg.bytes_num _ h1.2]
    all_goals (rw [e] at h1; simp at h1; try omega)
  · exact absurd rfl h
theorem Lk.kx_push {k : Int} (h : Gr.kok k = true) : Lk.kx (Lk.push k) = k := by
  obtain ⟨h0, h1⟩ := Gr.kok_bd h
  have e : Dg.num (Lk.push k).t = k := Dg.num_bytes k h0 h1
  unfold Lk.kx
  rw [e, if_pos ⟨Lk.has_push k, h⟩]
theorem Lk.kx_pos (x : Jo) (h : Lk.kx x ≠ 0) : 0 < Lk.kx x := by
  unfold Lk.kx at h ⊢
  split at h
  · rename_i hc
    rw [if_pos hc]
    have := Gr.kok_pos hc.2
    omega
  · exact absurd rfl h
theorem Lk.kx_bd (x : Jo) : 0 ≤ Lk.kx x ∧ Lk.kx x ≤ 4294967295 := by
  unfold Lk.kx
  split
  · exact Dg.num_bd _
  · omega
/-- Are operations a shared lock? -/
def Lk.keysOk (l : List Jo) : Bool := decide (2 ≤ l.length) && (decide ((Jo.at_ l (l.length - 1)).c = 12) && (decide ((Jo.at_ l (l.length - 1)).b = ((l.length - 1 : Nat) : Int)) && (List.range (l.length - 1)).all fun j => decide (Lk.kx (Jo.at_ l j) ≠ 0)))
theorem Jo.at_mem {l : List Jo} {j : Nat} (h : j < l.length) : Jo.at_ l j ∈ l := by
  unfold Jo.at_
  rw [List.getD_eq_getElem?_getD, List.getElem?_eq_getElem h]
  exact List.getElem_mem h
theorem Jo.take_last {l : List Jo} (h : 1 ≤ l.length) : l = l.take (l.length - 1) ++ [Jo.at_ l (l.length - 1)] := by
  have h1 : l.take (l.length - 1 + 1) = l := List.take_of_length_le (by omega)
  rw [List.take_add_one, Jo.at_get (by omega)] at h1
  exact h1.symm
theorem Lk.keys_is {l : List Jo} (hl : Jo.ok l = true) (h : Lk.keysOk l = true) : Lk.Is 2 l := by
  unfold Lk.keysOk at h
  simp only [Bool.and_eq_true, decide_eq_true_eq, List.all_eq_true, List.mem_range] at h
  obtain ⟨h2, hc, hb, hk⟩ := h
  obtain ⟨hlen, hfld, hnest⟩ := (Jo.ok_iff l).1 hl
  have hlast := hfld _ (Jo.at_mem (l := l) (j := l.length - 1) (by omega))
  have hx : Jo.at_ l (l.length - 1) = ⟨12, (Jo.at_ l (l.length - 1)).a, ((l.length - 1 : Nat) : Int), ⟨#[]⟩⟩ ∧ 1 ≤ (Jo.at_ l (l.length - 1)).a ∧ (Jo.at_ l (l.length - 1)).a ≤ ((l.length - 1 : Nat) : Int) ∧ ((l.length - 1 : Nat) : Int) ≤ 5 := by
    rcases Jo.kinds hlast with ⟨e, _⟩ | ⟨e, q⟩ | ⟨e, _⟩ | ⟨e, _⟩ | ⟨j, e, _, _⟩
    · rw [e] at hc; simp at hc
    · rw [hb] at q e
      exact ⟨e, q⟩
    · rw [e] at hc; simp at hc
    · rw [e] at hc; simp at hc
    · rw [e] at hc; simp at hc; omega
  have htk : l.take (l.length - 1) = ((l.take (l.length - 1)).map Lk.kx).map Lk.push := by
    rw [List.map_map]
    refine (List.ext_getElem (by simp) fun i h1 _ => ?_)
    rw [List.length_take] at h1
    simp only [List.getElem_map, Function.comp_apply, List.getElem_take]
    have hi : l[i]'(by omega) = Jo.at_ l i := by
      have := Jo.at_get (l := l) (j := i) (by omega)
      rw [List.getElem?_eq_getElem (by omega)] at this
      exact Option.some.inj this
    rw [hi]
    exact (Lk.kx_key (hfld _ (Jo.at_mem (by omega))) (hk i (by omega))).1
  have hzl : ((l.take (l.length - 1)).map Lk.kx).length = l.length - 1 := by simp
  refine ⟨(Jo.at_ l (l.length - 1)).a, (l.take (l.length - 1)).map Lk.kx, ?_, ?_⟩
  · unfold Lk.manyOk Lk.manyLen Lk.manyNeed
    simp only [Bool.and_eq_true, decide_eq_true_eq, List.all_eq_true]
    refine ⟨⟨⟨by rw [hzl]; omega, by rw [hzl]; omega⟩, by omega, by rw [hzl]; omega⟩, fun z hz => ?_⟩
    obtain ⟨x, hx1, rfl⟩ := List.mem_map.1 hz
    obtain ⟨i, hi, rfl⟩ := List.getElem_of_mem hx1
    rw [List.length_take] at hi
    have hi2 : (l.take (l.length - 1))[i] = Jo.at_ l i := by
      have := Jo.at_get (l := l) (j := i) (by omega)
      rw [List.getElem?_eq_getElem (by omega)] at this
      rw [List.getElem_take]
      exact Option.some.inj this
    rw [hi2]
    exact (Lk.kx_key (hfld _ (Jo.at_mem (by omega))) (hk i (by omega))).2
  · rw [Lk.many_eq, ← htk, hzl, ← hx.1]
    exact Jo.take_last (by omega)
theorem Lk.is_keys {l : List Jo} (h : Lk.Is 2 l) : Lk.keysOk l = true := by
  obtain ⟨n, zs, hz, rfl⟩ := h
  have hn : 1 ≤ zs.length := by
    have := hz
    unfold Lk.manyOk Lk.manyLen at this
    simp at this
    omega
  have hall := Lk.many_all hz
  rw [Lk.many_eq]
  have hl : (zs.map Lk.push ++ [(⟨12, n, (zs.length : Int), ⟨#[]⟩⟩ : Jo)]).length - 1 = zs.length := by simp
  unfold Lk.keysOk
  rw [hl]
  have hlast : Jo.at_ (zs.map Lk.push ++ [(⟨12, n, (zs.length : Int), ⟨#[]⟩⟩ : Jo)]) zs.length = ⟨12, n, (zs.length : Int), ⟨#[]⟩⟩ := by
    unfold Jo.at_
    rw [List.getD_eq_getElem?_getD, List.getElem?_append_right (by simp)]
    simp
  rw [hlast]
  simp only [Bool.and_eq_true, decide_eq_true_eq, List.all_eq_true, List.mem_range, true_and]
  refine ⟨by simp; omega, fun j hj => ?_⟩
  have hj2 : Jo.at_ (zs.map Lk.push ++ [(⟨12, n, (zs.length : Int), ⟨#[]⟩⟩ : Jo)]) j = Lk.push zs[j] := by
    unfold Jo.at_
    rw [List.getD_eq_getElem?_getD, List.getElem?_append_left (by simpa using hj), List.getElem?_map, List.getElem?_eq_getElem hj]
    rfl
  have hk := hall zs[j] (List.getElem_mem hj)
  rw [hj2, Lk.kx_push hk]
  have := Gr.kok_pos hk
  omega
/-- What is left if no other kind fits. -/
theorem Lk.name_end {l : List Jo} (hl : Jo.ok l = true) (h0 : ¬ Lk.Is 0 l) (h1 : ¬ Lk.Is 1 l) (h3 : ¬ Lk.Is 3 l) (h4 : ¬ Lk.Is 4 l) : Lk.name l = if Lk.keysOk l = true then Lk.nm 2 else ⟨#[]⟩ := by
  cases hk : Lk.keysOk l
  · rw [if_neg (by decide)]
    refine Lk.name_no hl fun j hj => ?_
    match j, hj with
    | 0, _ => exact h0
    | 1, _ => exact h1
    | 2, _ => exact fun h => by rw [Lk.is_keys h] at hk; cases hk
    | 3, _ => exact h3
    | 4, _ => exact h4
  · rw [if_pos rfl]
    exact Lk.name_is (by omega) (Lk.keys_is hl hk)
end Go.Proofs.YtohameoomlehlaaGreat

/-
  Locks of the model: how long their bytes are.
-/
namespace Go.Proofs.YtohameoomlehlaaGreat
open Go.RowKit

theorem Jo.bs_size (l : List Jo) : (Jo.bs l).size ≤ 4000 := by
  unfold Jo.bs
  split
  · rename_i hok
    obtain ⟨h1, h2, _⟩ := (Jo.ok_iff l).1 hok
    have := Jo.bytes_size h2
    omega
  · exact Nat.zero_le _
/-- A new block that holds the cells of operations is a slice of them. -/
theorem OL.new (W : World) (l : List Jo) (cs : Array Value) (hc : cs.toList = Jo.cells l) (hm : l.length ≤ 100) : OL (W.alloc (.cells cs 114 (0, 0))) (some ⟨W.heap.size, 0, none⟩) l.length l :=
  (OL.own (base := 0) (cap := l.length) (e := 114) ⟨Jo.cells_length l, .inr ⟨W.heap.size, l.length, cs, rfl, Nat.zero_le _, heap_alloc_new W _, Nat.le_refl _, by unfold maxLen; omega, by
    have := congrArg List.length hc
    rw [Jo.cells_length] at this
    simpa using this, by
    rw [hc, ← Jo.cells_length l, List.take_length]⟩⟩).2
theorem four_newZ (W : World) (a b c d : Value) (t : TypeId) (B : Nat) (hB : B = W.heap.size) : ∀ j u, [a, b, c, d][j]? = some u → (W.alloc (.cells #[a, b, c, d] t (0, 0))).cell? ((⟨B, 0, none⟩ : Addr).add j) = some u := by
  subst hB
  intro j u hj
  have hadr : (⟨W.heap.size, 0, none⟩ : Addr).add j = ⟨W.heap.size, j, none⟩ := by unfold Addr.add; split <;> simp_all
  rw [hadr]
  exact (World.cell?_alloc_mark W #[a, b, c, d] t (0, 0) j).trans (by simpa using hj)
/-- What a lock's function hands back. -/
def LockR (w : World) (e : Ending) (w' : World) : Prop := ∃ (s : ByteArray) (ok : Bool), e = .returned (.tuple #[.string s, .bool ok]) ∧ s.size ≤ 4000 ∧ Below w.heap.size w w'
set_option maxRecDepth 100000 in
set_option maxHeartbeats 3200000 in
theorem l12Code_any (c : Int) (w : World) :
    Calls Tryz.prog 92 #[.int .i64 c] w fun e w' => e = .returned (.agg #[.int .i64 c, .int .i64 0, .int .i64 0, .string ⟨#[]⟩]) ∧ Below w.heap.size w w' := by
  have vX := Bk.new w 114 #[.int .i64 c, .int .i64 0, .int .i64 0, .string ⟨#[]⟩]
  have hb := (Below.refl w.heap.size w).alloc (Nat.le_refl _) (.cells #[.int .i64 c, .int .i64 0, .int .i64 0, .string ⟨#[]⟩] 114 (0, 0))
  go_enter Tryz.func92, Tryz.ntmps92
  go_wp2
  refine bodyPost_ret (results_cell_row (P := Tryz.prog) rfl _ _ w.heap.size 114 _ (0, 0) _ rfl vX.held Tryz.underlying114 rfl (by kernel_rfl)) rfl ?_
  exact ⟨rfl, hb⟩
set_option maxRecDepth 100000 in
set_option maxHeartbeats 3200000 in
theorem l12Push_any (n : Int) (w : World) (h0 : 0 ≤ n) (h1 : n ≤ 4294967295) :
    Calls Tryz.prog 91 #[.int .i64 n] w fun e w' => e = .returned (.agg #[.int .i64 0, .int .i64 0, .int .i64 0, .string (Dg.bytes n)]) ∧ Below w.heap.size w w' := by
  have vR0 := Bk.new w 114 #[.int .i64 0, .int .i64 0, .int .i64 0, .string ⟨#[]⟩]
  have hb0 : Below w.heap.size w (w.alloc (.cells #[.int .i64 0, .int .i64 0, .int .i64 0, .string ⟨#[]⟩] 114 (0, 0))) := (Below.refl _ _).alloc (Nat.le_refl _) _
  go_enter Tryz.func91, Tryz.ntmps91
  go_wp2_with fail
  refine (l2Bytes_any n _ h0 h1).mono ?_
  rintro e w2 ⟨rfl, hb2⟩
  have vR2 := vR0.below hb2
  have hbel2 := below_aft9 hb0 hb2
  obtain ⟨r0, r1, r2, r3⟩ := Bk.c4 vR2
  obtain ⟨z0, z1, z2, z3⟩ := vR2.f4
  obtain ⟨t, HT⟩ : ∃ t, Hid (Dg.bytes n = t) := ⟨_, Lib.hid rfl⟩
  simp only [HT.out]
  have vR9 := Bk.store4 vR2 (.int .i64 0) (.int .i64 0) (.int .i64 0) (.string t)
  have hb9 := below_store4 hbel2 w.heap.size (Nat.le_refl _) (.int .i64 0) (.int .i64 0) (.int .i64 0) (.string t)
  clear vR0 hb0 hb2 vR2 hbel2
  go_wp2
  refine bodyPost_ret (results_cell_row (P := Tryz.prog) rfl _ _ w.heap.size 114 _ (0, 0) _ rfl vR9.held Tryz.underlying114 rfl (by kernel_rfl)) rfl ?_
  exact ⟨by rw [HT.out], hb9⟩
set_option maxRecDepth 100000 in
set_option maxHeartbeats 3200000 in
theorem l12Lock_any (a : Option Addr) (len cap : Nat) (l : List Jo) (w : World) (h : OL w a len l) (hm : len ≤ 100) :
    Calls Tryz.prog 90 #[.slice a len cap] w (LockR w) := by
  have hcon := specScriptBytes_any a len cap l w h (by omega)
  have hz := Jo.bs_size l
  obtain ⟨X, HX⟩ : ∃ x, Hid (Jo.bs l = x) := ⟨_, Lib.hid rfl⟩
  obtain ⟨f, HF⟩ : ∃ x, Hid (Jo.ok l = x) := ⟨_, Lib.hid rfl⟩
  rw [HX.out] at hcon hz
  rw [HF.out] at hcon
  clear HX HF h
  go_enter Tryz.func90, Tryz.ntmps90
  go_wp2_with fail
  refine hcon.mono ?_
  rintro e w2 ⟨rfl, hb2⟩
  go_wp2
  go_ret2
  exact ⟨X, f, rfl, hz, hb2⟩
set_option maxRecDepth 100000 in
set_option maxHeartbeats 3200000 in
theorem LockKey_any (key : Int) (w : World) : Calls Tryz.prog 78 #[.int .i64 key] w (LockR w) := by
  have hbd := @Gr.kok_bd key
  go_enter Tryz.func78, Tryz.ntmps78
  go_wp2_with fail
  refine (specKeyOk_any key _).mono ?_
  rintro e w1 ⟨rfl, hw1⟩
  have hb1 : Below w.heap.size w w1 := by rw [hw1]; exact Below.refl _ _
  clear hw1
  obtain ⟨f, HF⟩ : ∃ f, Hid (Gr.kok key = f) := ⟨_, Lib.hid rfl⟩
  rw [HF.out] at hbd ⊢
  clear HF
  cases f
  · clear hbd
    go_wp2
    go_ret2
    exact ⟨⟨#[]⟩, false, rfl, by decide, hb1⟩
  obtain ⟨k0, k1⟩ := hbd rfl
  go_wp2_with fail
  refine (l12Push_any key _ k0 k1).mono ?_
  rintro e w2 ⟨rfl, hb2⟩
  obtain ⟨t2, HT2⟩ : ∃ t, Hid (Dg.bytes key = t) := ⟨_, Lib.hid rfl⟩
  rw [HT2.out]
  clear HT2
  replace hb2 := below_aft9 hb1 hb2
  clear hb1
  go_wp2_with fail
  refine (l12Code_any 11 _).mono ?_
  rintro e w3 ⟨rfl, hb3⟩
  replace hb3 := below_aft9 hb2 hb3
  clear hb2
  have ol := OL.new w3 [⟨0, 0, 0, t2⟩, ⟨11, 0, 0, ⟨#[]⟩⟩] #[.int .i64 0, .int .i64 0, .int .i64 0, .string t2, .int .i64 11, .int .i64 0, .int .i64 0, .string ⟨#[]⟩] rfl (by simp)
  have hb9 := hb3.alloc hb3.size (.cells #[.int .i64 0, .int .i64 0, .int .i64 0, .string t2, .int .i64 11, .int .i64 0, .int .i64 0, .string ⟨#[]⟩] 114 (0, 0))
  clear hb3
  go_wp2_with fail
  refine (l12Lock_any _ 2 2 _ _ ol (by decide)).mono ?_
  rintro e wz ⟨s, ok, rfl, hs, hbz⟩
  replace hbz := below_aft9 hb9 hbz
  clear hb9 ol
  go_wp2
  go_ret2
  exact ⟨s, ok, rfl, hs, hbz⟩
set_option maxRecDepth 100000 in
set_option maxHeartbeats 3200000 in
theorem LockDigest_any (d : Int) (w : World) (k0 : 0 ≤ d) (k1 : d ≤ 4294967295) : Calls Tryz.prog 80 #[.int .i64 d] w (LockR w) := by
  have H1 : (decide (0 ≤ d) && decide (d ≤ 4294967295)) = true := by simp [k0, k1]
  go_enter Tryz.func80, Tryz.ntmps80
  go_wp2_with fail
  refine (l6In_any d 0 4294967295 _).mono ?_
  rintro e w1 ⟨rfl, hw1⟩
  have hb1 : Below w.heap.size w w1 := by rw [hw1]; exact Below.refl _ _
  clear hw1
  go_wp2_with fail
  refine (l12Code_any 10 _).mono ?_
  rintro e w2 ⟨rfl, hb2⟩
  replace hb2 := below_aft9 hb1 hb2
  clear hb1
  go_wp2_with fail
  refine (l12Push_any d _ k0 k1).mono ?_
  rintro e w3 ⟨rfl, hb3⟩
  obtain ⟨t3, HT3⟩ : ∃ t, Hid (Dg.bytes d = t) := ⟨_, Lib.hid rfl⟩
  rw [HT3.out]
  clear HT3
  replace hb3 := below_aft9 hb2 hb3
  clear hb2
  go_wp2_with fail
  refine (l12Code_any 4 _).mono ?_
  rintro e w4 ⟨rfl, hb4⟩
  replace hb4 := below_aft9 hb3 hb4
  clear hb3
  have ol := OL.new w4 [⟨10, 0, 0, ⟨#[]⟩⟩, ⟨0, 0, 0, t3⟩, ⟨4, 0, 0, ⟨#[]⟩⟩] #[.int .i64 10, .int .i64 0, .int .i64 0, .string ⟨#[]⟩, .int .i64 0, .int .i64 0, .int .i64 0, .string t3, .int .i64 4, .int .i64 0, .int .i64 0, .string ⟨#[]⟩] rfl (by simp)
  have hb9 := hb4.alloc hb4.size (.cells #[.int .i64 10, .int .i64 0, .int .i64 0, .string ⟨#[]⟩, .int .i64 0, .int .i64 0, .int .i64 0, .string t3, .int .i64 4, .int .i64 0, .int .i64 0, .string ⟨#[]⟩] 114 (0, 0))
  clear hb4
  go_wp2_with fail
  refine (l12Lock_any _ 3 3 _ _ ol (by decide)).mono ?_
  rintro e wz ⟨s, ok, rfl, hs, hbz⟩
  replace hbz := below_aft9 hb9 hbz
  clear hb9 ol
  go_wp2
  go_ret2
  exact ⟨s, ok, rfl, hs, hbz⟩
set_option maxRecDepth 100000 in
set_option maxHeartbeats 3200000 in
theorem l12Timed_any (d : Int) (payee : Int) (height : Int) (payer : Int) (w : World) (d0 : 0 ≤ d) (d1 : d ≤ 4294967295) (e0 : 0 ≤ payee) (e1 : payee ≤ 4294967295) (r0 : 0 ≤ payer) (r1 : payer ≤ 4294967295) :
    Calls Tryz.prog 95 #[.int .i64 d, .int .i64 payee, .int .i64 height, .int .i64 payer] w fun e w' => ∃ b l, e = .returned (.slice (some ⟨b, 0, none⟩) 12 12) ∧ OL w' (some ⟨b, 0, none⟩) 12 l ∧ Below w.heap.size w w' := by
  go_enter Tryz.func95, Tryz.ntmps95
  go_wp2_with fail
  refine (l12Code_any 6 _).mono ?_
  rintro e w1 ⟨rfl, hb1⟩
  go_wp2_with fail
  refine (l12Code_any 10 _).mono ?_
  rintro e w2 ⟨rfl, hb2⟩
  replace hb2 := below_aft9 hb1 hb2
  clear hb1
  go_wp2_with fail
  refine (l12Push_any d _ d0 d1).mono ?_
  rintro e w3 ⟨rfl, hb3⟩
  obtain ⟨t3, HT3⟩ : ∃ t, Hid (Dg.bytes d = t) := ⟨_, Lib.hid rfl⟩
  rw [HT3.out]
  clear HT3
  replace hb3 := below_aft9 hb2 hb3
  clear hb2
  go_wp2_with fail
  refine (l12Code_any 4 _).mono ?_
  rintro e w4 ⟨rfl, hb4⟩
  replace hb4 := below_aft9 hb3 hb4
  clear hb3
  go_wp2_with fail
  refine (l12Code_any 9 _).mono ?_
  rintro e w5 ⟨rfl, hb5⟩
  replace hb5 := below_aft9 hb4 hb5
  clear hb4
  go_wp2_with fail
  refine (l12Push_any payee _ e0 e1).mono ?_
  rintro e w6 ⟨rfl, hb6⟩
  obtain ⟨t6, HT6⟩ : ∃ t, Hid (Dg.bytes payee = t) := ⟨_, Lib.hid rfl⟩
  rw [HT6.out]
  clear HT6
  replace hb6 := below_aft9 hb5 hb6
  clear hb5
  go_wp2_with fail
  refine (l12Code_any 11 _).mono ?_
  rintro e w7 ⟨rfl, hb7⟩
  replace hb7 := below_aft9 hb6 hb7
  clear hb6
  go_wp2_with fail
  refine (l12Code_any 7 _).mono ?_
  rintro e w8 ⟨rfl, hb8⟩
  replace hb8 := below_aft9 hb7 hb8
  clear hb7
  go_wp2_with fail
  refine (l12Push_any payer _ r0 r1).mono ?_
  rintro e w9 ⟨rfl, hb9⟩
  obtain ⟨t9, HT9⟩ : ∃ t, Hid (Dg.bytes payer = t) := ⟨_, Lib.hid rfl⟩
  rw [HT9.out]
  clear HT9
  replace hb9 := below_aft9 hb8 hb9
  clear hb8
  go_wp2_with fail
  refine (l12Code_any 11 _).mono ?_
  rintro e w10 ⟨rfl, hb10⟩
  replace hb10 := below_aft9 hb9 hb10
  clear hb9
  go_wp2_with fail
  refine (l12Code_any 8 _).mono ?_
  rintro e w11 ⟨rfl, hb11⟩
  replace hb11 := below_aft9 hb10 hb11
  clear hb10
  have ol := OL.new w11 [⟨6, 0, 0, ⟨#[]⟩⟩, ⟨10, 0, 0, ⟨#[]⟩⟩, ⟨0, 0, 0, t3⟩, ⟨4, 0, 0, ⟨#[]⟩⟩, ⟨9, 0, 0, ⟨#[]⟩⟩, ⟨0, 0, 0, t6⟩, ⟨11, 0, 0, ⟨#[]⟩⟩, ⟨7, 0, 0, ⟨#[]⟩⟩, ⟨13, height, 0, ⟨#[]⟩⟩, ⟨0, 0, 0, t9⟩, ⟨11, 0, 0, ⟨#[]⟩⟩, ⟨8, 0, 0, ⟨#[]⟩⟩] #[.int .i64 6, .int .i64 0, .int .i64 0, .string ⟨#[]⟩, .int .i64 10, .int .i64 0, .int .i64 0, .string ⟨#[]⟩, .int .i64 0, .int .i64 0, .int .i64 0, .string t3, .int .i64 4, .int .i64 0, .int .i64 0, .string ⟨#[]⟩, .int .i64 9, .int .i64 0, .int .i64 0, .string ⟨#[]⟩, .int .i64 0, .int .i64 0, .int .i64 0, .string t6, .int .i64 11, .int .i64 0, .int .i64 0, .string ⟨#[]⟩, .int .i64 7, .int .i64 0, .int .i64 0, .string ⟨#[]⟩, .int .i64 13, .int .i64 height, .int .i64 0, .string ⟨#[]⟩, .int .i64 0, .int .i64 0, .int .i64 0, .string t9, .int .i64 11, .int .i64 0, .int .i64 0, .string ⟨#[]⟩, .int .i64 8, .int .i64 0, .int .i64 0, .string ⟨#[]⟩] rfl (by simp)
  have hb9 := hb11.alloc hb11.size (.cells #[.int .i64 6, .int .i64 0, .int .i64 0, .string ⟨#[]⟩, .int .i64 10, .int .i64 0, .int .i64 0, .string ⟨#[]⟩, .int .i64 0, .int .i64 0, .int .i64 0, .string t3, .int .i64 4, .int .i64 0, .int .i64 0, .string ⟨#[]⟩, .int .i64 9, .int .i64 0, .int .i64 0, .string ⟨#[]⟩, .int .i64 0, .int .i64 0, .int .i64 0, .string t6, .int .i64 11, .int .i64 0, .int .i64 0, .string ⟨#[]⟩, .int .i64 7, .int .i64 0, .int .i64 0, .string ⟨#[]⟩, .int .i64 13, .int .i64 height, .int .i64 0, .string ⟨#[]⟩, .int .i64 0, .int .i64 0, .int .i64 0, .string t9, .int .i64 11, .int .i64 0, .int .i64 0, .string ⟨#[]⟩, .int .i64 8, .int .i64 0, .int .i64 0, .string ⟨#[]⟩] 114 (0, 0))
  clear hb11
  go_wp2
  go_ret
  exact ⟨_, _, rfl, ol, hb9⟩
set_option maxRecDepth 100000 in
set_option maxHeartbeats 3200000 in
theorem l12Revocable_any (revoke : Int) (delay : Int) (owner : Int) (w : World) (e0 : 0 ≤ revoke) (e1 : revoke ≤ 4294967295) (r0 : 0 ≤ owner) (r1 : owner ≤ 4294967295) :
    Calls Tryz.prog 96 #[.int .i64 revoke, .int .i64 delay, .int .i64 owner] w fun e w' => ∃ b l, e = .returned (.slice (some ⟨b, 0, none⟩) 8 8) ∧ OL w' (some ⟨b, 0, none⟩) 8 l ∧ Below w.heap.size w w' := by
  go_enter Tryz.func96, Tryz.ntmps96
  go_wp2_with fail
  refine (l12Code_any 6 _).mono ?_
  rintro e w1 ⟨rfl, hb1⟩
  go_wp2_with fail
  refine (l12Push_any revoke _ e0 e1).mono ?_
  rintro e w2 ⟨rfl, hb2⟩
  obtain ⟨t2, HT2⟩ : ∃ t, Hid (Dg.bytes revoke = t) := ⟨_, Lib.hid rfl⟩
  rw [HT2.out]
  clear HT2
  replace hb2 := below_aft9 hb1 hb2
  clear hb1
  go_wp2_with fail
  refine (l12Code_any 11 _).mono ?_
  rintro e w3 ⟨rfl, hb3⟩
  replace hb3 := below_aft9 hb2 hb3
  clear hb2
  go_wp2_with fail
  refine (l12Code_any 7 _).mono ?_
  rintro e w4 ⟨rfl, hb4⟩
  replace hb4 := below_aft9 hb3 hb4
  clear hb3
  go_wp2_with fail
  refine (l12Push_any owner _ r0 r1).mono ?_
  rintro e w5 ⟨rfl, hb5⟩
  obtain ⟨t5, HT5⟩ : ∃ t, Hid (Dg.bytes owner = t) := ⟨_, Lib.hid rfl⟩
  rw [HT5.out]
  clear HT5
  replace hb5 := below_aft9 hb4 hb5
  clear hb4
  go_wp2_with fail
  refine (l12Code_any 11 _).mono ?_
  rintro e w6 ⟨rfl, hb6⟩
  replace hb6 := below_aft9 hb5 hb6
  clear hb5
  go_wp2_with fail
  refine (l12Code_any 8 _).mono ?_
  rintro e w7 ⟨rfl, hb7⟩
  replace hb7 := below_aft9 hb6 hb7
  clear hb6
  have ol := OL.new w7 [⟨6, 0, 0, ⟨#[]⟩⟩, ⟨0, 0, 0, t2⟩, ⟨11, 0, 0, ⟨#[]⟩⟩, ⟨7, 0, 0, ⟨#[]⟩⟩, ⟨14, delay, 0, ⟨#[]⟩⟩, ⟨0, 0, 0, t5⟩, ⟨11, 0, 0, ⟨#[]⟩⟩, ⟨8, 0, 0, ⟨#[]⟩⟩] #[.int .i64 6, .int .i64 0, .int .i64 0, .string ⟨#[]⟩, .int .i64 0, .int .i64 0, .int .i64 0, .string t2, .int .i64 11, .int .i64 0, .int .i64 0, .string ⟨#[]⟩, .int .i64 7, .int .i64 0, .int .i64 0, .string ⟨#[]⟩, .int .i64 14, .int .i64 delay, .int .i64 0, .string ⟨#[]⟩, .int .i64 0, .int .i64 0, .int .i64 0, .string t5, .int .i64 11, .int .i64 0, .int .i64 0, .string ⟨#[]⟩, .int .i64 8, .int .i64 0, .int .i64 0, .string ⟨#[]⟩] rfl (by simp)
  have hb9 := hb7.alloc hb7.size (.cells #[.int .i64 6, .int .i64 0, .int .i64 0, .string ⟨#[]⟩, .int .i64 0, .int .i64 0, .int .i64 0, .string t2, .int .i64 11, .int .i64 0, .int .i64 0, .string ⟨#[]⟩, .int .i64 7, .int .i64 0, .int .i64 0, .string ⟨#[]⟩, .int .i64 14, .int .i64 delay, .int .i64 0, .string ⟨#[]⟩, .int .i64 0, .int .i64 0, .int .i64 0, .string t5, .int .i64 11, .int .i64 0, .int .i64 0, .string ⟨#[]⟩, .int .i64 8, .int .i64 0, .int .i64 0, .string ⟨#[]⟩] 114 (0, 0))
  clear hb7
  go_wp2
  go_ret
  exact ⟨_, _, rfl, ol, hb9⟩
set_option maxRecDepth 100000 in
set_option maxHeartbeats 3200000 in
theorem LockTimed_any (d payee height payer : Int) (w : World) (d0 : 0 ≤ d) (d1 : d ≤ 4294967295) : Calls Tryz.prog 83 #[.int .i64 d, .int .i64 payee, .int .i64 height, .int .i64 payer] w (LockR w) := by
  have H1 : (decide (0 ≤ d) && decide (d ≤ 4294967295)) = true := by simp [d0, d1]
  have hbe := @Gr.kok_bd payee
  have hbr := @Gr.kok_bd payer
  go_enter Tryz.func83, Tryz.ntmps83
  go_wp2_with fail
  refine (l6In_any d 0 4294967295 _).mono ?_
  rintro e w1 ⟨rfl, hw1⟩
  have hb1 : Below w.heap.size w w1 := by rw [hw1]; exact Below.refl _ _
  clear hw1
  go_wp2_with fail
  refine (specKeyOk_any payee _).mono ?_
  rintro e w2 ⟨rfl, hw2⟩
  have hb2 : Below w.heap.size w w2 := by rw [hw2]; first | exact hb1 | exact Below.refl _ _
  clear hw2
  obtain ⟨f2, HF2⟩ : ∃ f, Hid (Gr.kok payee = f) := ⟨_, Lib.hid rfl⟩
  rw [HF2.out] at hbe ⊢
  clear HF2
  cases f2
  · clear hbe
    go_wp2
    go_ret2
    exact ⟨⟨#[]⟩, false, rfl, by decide, hb2⟩
  replace hbe := hbe rfl
  go_wp2_with fail
  refine (specKeyOk_any payer _).mono ?_
  rintro e w3 ⟨rfl, hw3⟩
  have hb3 : Below w.heap.size w w3 := by rw [hw3]; first | exact hb2 | exact Below.refl _ _
  clear hw3
  obtain ⟨f3, HF3⟩ : ∃ f, Hid (Gr.kok payer = f) := ⟨_, Lib.hid rfl⟩
  rw [HF3.out] at hbr ⊢
  clear HF3
  cases f3
  · clear hbr
    go_wp2
    go_ret2
    exact ⟨⟨#[]⟩, false, rfl, by decide, hb3⟩
  replace hbr := hbr rfl
  go_wp2_with fail
  refine (l6In_any height 0 9999 _).mono ?_
  rintro e w4 ⟨rfl, hw4⟩
  have hb4 : Below w.heap.size w w4 := by rw [← hw4]; exact hb3
  clear hw4
  obtain ⟨g4, HG4⟩ : ∃ g, Hid ((decide (0 ≤ height) && decide (height ≤ 9999)) = g) := ⟨_, Lib.hid rfl⟩
  rw [HG4.out]
  clear HG4
  cases g4
  · go_wp2
    go_ret2
    exact ⟨⟨#[]⟩, false, rfl, by decide, hb4⟩
  go_wp2_with fail
  refine (l12Timed_any d payee height payer _ d0 d1 hbe.1 hbe.2 hbr.1 hbr.2).mono ?_
  rintro e w5 ⟨b, l, rfl, ol, hb5⟩
  replace hb5 := below_aft9 hb4 hb5
  go_wp2_with fail
  refine (l12Lock_any _ 12 12 _ _ ol (by decide)).mono ?_
  rintro e wz ⟨s, ok, rfl, hs, hbz⟩
  replace hbz := below_aft9 hb5 hbz
  clear hb5 ol
  go_wp2
  go_ret2
  exact ⟨s, ok, rfl, hs, hbz⟩
set_option maxRecDepth 100000 in
set_option maxHeartbeats 3200000 in
theorem LockRevocable_any (revoke delay owner : Int) (w : World) : Calls Tryz.prog 84 #[.int .i64 revoke, .int .i64 delay, .int .i64 owner] w (LockR w) := by
  have hbe := @Gr.kok_bd revoke
  have hbr := @Gr.kok_bd owner
  have hb0 := Below.refl w.heap.size w
  go_enter Tryz.func84, Tryz.ntmps84
  go_wp2_with fail
  refine (specKeyOk_any revoke _).mono ?_
  rintro e w1 ⟨rfl, hw1⟩
  have hb1 : Below w.heap.size w w1 := by rw [hw1]; first | exact hb0 | exact Below.refl _ _
  clear hw1
  obtain ⟨f1, HF1⟩ : ∃ f, Hid (Gr.kok revoke = f) := ⟨_, Lib.hid rfl⟩
  rw [HF1.out] at hbe ⊢
  clear HF1
  cases f1
  · clear hbe
    go_wp2
    go_ret2
    exact ⟨⟨#[]⟩, false, rfl, by decide, hb1⟩
  replace hbe := hbe rfl
  go_wp2_with fail
  refine (specKeyOk_any owner _).mono ?_
  rintro e w2 ⟨rfl, hw2⟩
  have hb2 : Below w.heap.size w w2 := by rw [hw2]; first | exact hb1 | exact Below.refl _ _
  clear hw2
  obtain ⟨f2, HF2⟩ : ∃ f, Hid (Gr.kok owner = f) := ⟨_, Lib.hid rfl⟩
  rw [HF2.out] at hbr ⊢
  clear HF2
  cases f2
  · clear hbr
    go_wp2
    go_ret2
    exact ⟨⟨#[]⟩, false, rfl, by decide, hb2⟩
  replace hbr := hbr rfl
  go_wp2_with fail
  refine (l6In_any delay 1 99 _).mono ?_
  rintro e w3 ⟨rfl, hw3⟩
  have hb3 : Below w.heap.size w w3 := by rw [← hw3]; exact hb2
  clear hw3
  obtain ⟨g3, HG3⟩ : ∃ g, Hid ((decide (1 ≤ delay) && decide (delay ≤ 99)) = g) := ⟨_, Lib.hid rfl⟩
  rw [HG3.out]
  clear HG3
  cases g3
  · go_wp2
    go_ret2
    exact ⟨⟨#[]⟩, false, rfl, by decide, hb3⟩
  go_wp2_with fail
  refine (l12Revocable_any revoke delay owner _ hbe.1 hbe.2 hbr.1 hbr.2).mono ?_
  rintro e w4 ⟨b, l, rfl, ol, hb4⟩
  replace hb4 := below_aft9 hb3 hb4
  go_wp2_with fail
  refine (l12Lock_any _ 8 8 _ _ ol (by decide)).mono ?_
  rintro e wz ⟨s, ok, rfl, hs, hbz⟩
  replace hbz := below_aft9 hb4 hbz
  clear hb4 ol
  go_wp2
  go_ret2
  exact ⟨s, ok, rfl, hs, hbz⟩
end Go.Proofs.YtohameoomlehlaaGreat
