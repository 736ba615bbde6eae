/-
  Plain mathematics of the script machine: what a run does to the stack (the top item first) and to the conditions (the innermost first).
-/
import Derived.Test.YtohameoomlehlaaGreatPa
import Derived.Test.YtohameoomlehlaaGreatDg
import Derived.Test.YtohameoomlehlaaGreatSg
namespace Go.Proofs.YtohameoomlehlaaGreat

/-- What a script is run with. -/
structure Vm where
  t : ByteArray
  h : Int
  a : Int
def Vm.tr (b : Bool) : ByteArray := if b then ⟨#[1]⟩ else ⟨#[]⟩
theorem Vm.tr_size (b : Bool) : (Vm.tr b).size ≤ 1 := by cases b <;> decide
def Vm.put (s : ByteArray) (r : List ByteArray) : Except Int (List ByteArray) := if r.length < 24 then .ok (s :: r) else .error 5
/-- Are two items a signature of the message and its key? -/
def Vm.sg (t s k : ByteArray) : Bool := decide (s.size = 8) && (decide (k.size = 4) && Sg.ver (Dg.num k) t (Dg.num (s.extract 0 4)) (Dg.num (s.extract 4 s.size)))
/-- Signatures that fit keys in the same order. -/
def Vm.many (t : ByteArray) : List ByteArray → List ByteArray → Bool
  | ss, [] => ss.isEmpty
  | ss, k :: ks => match ss with
    | [] => true
    | s :: r => if Vm.sg t s k = true then Vm.many t r ks else Vm.many t (s :: r) ks
theorem Vm.many_nil (t : ByteArray) (ks : List ByteArray) : Vm.many t [] ks = true := by cases ks <;> rfl
theorem Vm.many_none (t : ByteArray) (ss : List ByteArray) : Vm.many t ss [] = ss.isEmpty := by cases ss <;> rfl
theorem Vm.many_yes {t s k : ByteArray} (r ks : List ByteArray) (h : Vm.sg t s k = true) : Vm.many t (s :: r) (k :: ks) = Vm.many t r ks := by
  show (if Vm.sg t s k = true then _ else _) = _
  rw [if_pos h]
theorem Vm.many_no {t s k : ByteArray} (r ks : List ByteArray) (h : Vm.sg t s k = false) : Vm.many t (s :: r) (k :: ks) = Vm.many t (s :: r) ks := by
  show (if Vm.sg t s k = true then _ else _) = _
  rw [h]; rfl
/-- What an operation that is none of conditions does. -/
def Vm.act (E : Vm) (x : Jo) (s : List ByteArray) : Except Int (List ByteArray) :=
  if x.c = 0 then Vm.put x.t s
  else if x.c = 1 then (match s with
    | a :: r => Vm.put a (a :: r)
    | [] => .error 2)
  else if x.c = 2 then (match s with
    | _ :: r => .ok r
    | [] => .error 2)
  else if x.c = 3 then (match s with
    | a :: b :: r => .ok (b :: a :: r)
    | _ => .error 2)
  else if x.c = 4 then (match s with
    | a :: b :: r => .ok (Vm.tr (decide (b = a)) :: r)
    | _ => .error 2)
  else if x.c = 5 then (match s with
    | a :: r => .ok (Vm.tr (decide (a.size = 0)) :: r)
    | [] => .error 2)
  else if x.c = 9 then (match s with
    | a :: r => if a.size = 0 then .error 3 else .ok r
    | [] => .error 2)
  else if x.c = 10 then (match s with
    | a :: r => .ok (Dg.bytes (Dg.of a) :: r)
    | [] => .error 2)
  else if x.c = 11 then (match s with
    | k :: g :: r => .ok (Vm.tr (Vm.sg E.t g k) :: r)
    | _ => .error 2)
  else if x.c = 12 then (if s.length < (x.a + x.b).toNat then .error 2
    else .ok (Vm.tr (Vm.many E.t ((s.drop x.b.toNat).take x.a.toNat).reverse (s.take x.b.toNat).reverse) :: s.drop (x.a + x.b).toNat))
  else if x.c = 13 then (if x.a ≤ E.h then .ok s else .error 4)
  else if x.c = 14 then (if x.a ≤ E.a then .ok s else .error 4)
  else .ok s
def Vm.live (br : List Bool) : Bool := !br.contains false
/-- What an operation of conditions does. -/
def Vm.cond (c : Int) (s : List ByteArray) (br : List Bool) : Except Int (List ByteArray × List Bool) :=
  if c = 6 then (if Vm.live br = true then (match s with
      | a :: r => .ok (r, decide (a.size ≠ 0) :: br)
      | [] => .error 2) else .ok (s, false :: br))
  else if c = 7 then (match br with
    | b :: r => .ok (s, (!b) :: r)
    | [] => .ok (s, []))
  else (match br with
    | _ :: r => .ok (s, r)
    | [] => .ok (s, []))
def Vm.step (E : Vm) (x : Jo) (s : List ByteArray) (br : List Bool) : Except Int (List ByteArray × List Bool) :=
  if 6 ≤ x.c ∧ x.c ≤ 8 then Vm.cond x.c s br
  else if Vm.live br = true then (match Vm.act E x s with
    | .ok r => .ok (r, br)
    | .error c => .error c)
  else .ok (s, br)
def Vm.go (E : Vm) : List Jo → List ByteArray → List Bool → Except Int (List ByteArray × List Bool)
  | [], s, br => .ok (s, br)
  | x :: l, s, br => match Vm.step E x s br with
    | .ok m => Vm.go E l m.1 m.2
    | .error c => .error c
/-- Is it a stack? (sizes alone) -/
def Vm.fits (s : List ByteArray) : Prop := s.length ≤ 24 ∧ ∀ a ∈ s, a.size ≤ 80
instance (s : List ByteArray) : Decidable (Vm.fits s) := by unfold Vm.fits; infer_instance
/-- The stack behind a run, the top item last, and the code. -/
def Vm.run (E : Vm) (l : List Jo) (s : List ByteArray) : List ByteArray × Int :=
  if Jo.ok l = true ∧ Vm.fits s then (match Vm.go E l s.reverse [] with
    | .ok m => (m.1.reverse, 0)
    | .error c => ([], c))
  else ([], 1)

/-! ### what is known of it -/
theorem Vm.put_err {a : ByteArray} {r : List ByteArray} {c : Int} (h : Vm.put a r = .error c) : 2 ≤ c ∧ c ≤ 5 := by
  unfold Vm.put at h
  split at h <;> simp at h
  omega
theorem Vm.put_fits {a : ByteArray} {r s : List ByteArray} (h : Vm.put a r = .ok s) (ha : a.size ≤ 80) (hr : ∀ x ∈ r, x.size ≤ 80) : Vm.fits s := by
  unfold Vm.put at h
  split at h
  · simp at h
    subst h
    refine ⟨by simp; omega, fun x hx => ?_⟩
    rcases List.mem_cons.1 hx with rfl | hx
    · exact ha
    · exact hr x hx
  · simp at h
theorem Vm.fits_tail {a : ByteArray} {r : List ByteArray} (h : Vm.fits (a :: r)) : Vm.fits r :=
  ⟨by have := h.1; simp at this; omega, fun x hx => h.2 x (List.mem_cons_of_mem _ hx)⟩
theorem Vm.fits_cons {a b : ByteArray} {r : List ByteArray} (h : Vm.fits (a :: r)) (hb : b.size ≤ 80) : Vm.fits (b :: r) :=
  ⟨by simpa using h.1, fun x hx => by
    rcases List.mem_cons.1 hx with rfl | hx
    · exact hb
    · exact h.2 x (List.mem_cons_of_mem _ hx)⟩
theorem Vm.fits_rev {s : List ByteArray} (h : Vm.fits s) : Vm.fits s.reverse := ⟨by simpa using h.1, fun x hx => h.2 x (by simpa using hx)⟩
theorem Vm.fits_drop {s : List ByteArray} (h : Vm.fits s) (n : Nat) : Vm.fits (s.drop n) := ⟨by have := h.1; rw [List.length_drop]; omega, fun x hx => h.2 x (List.mem_of_mem_drop hx)⟩
theorem Vm.act_err {E : Vm} {x : Jo} {s : List ByteArray} {c : Int} (h : Vm.act E x s = .error c) : 2 ≤ c ∧ c ≤ 5 := by
  unfold Vm.act at h
  by_cases h0 : x.c = 0
  · rw [if_pos h0] at h
    exact Vm.put_err h
  rw [if_neg h0] at h
  by_cases h1 : x.c = 1
  · rw [if_pos h1] at h
    rcases s with _ | ⟨a, r⟩
    · cases h; omega
    · exact Vm.put_err h
  rw [if_neg h1] at h
  by_cases h2 : x.c = 2
  · rw [if_pos h2] at h
    rcases s with _ | ⟨a, r⟩
    · cases h; omega
    · cases h
  rw [if_neg h2] at h
  by_cases h3 : x.c = 3
  · rw [if_pos h3] at h
    rcases s with _ | ⟨a, _ | ⟨b, r⟩⟩
    · cases h; omega
    · cases h; omega
    · cases h
  rw [if_neg h3] at h
  by_cases h4 : x.c = 4
  · rw [if_pos h4] at h
    rcases s with _ | ⟨a, _ | ⟨b, r⟩⟩
    · cases h; omega
    · cases h; omega
    · cases h
  rw [if_neg h4] at h
  by_cases h5 : x.c = 5
  · rw [if_pos h5] at h
    rcases s with _ | ⟨a, r⟩
    · cases h; omega
    · cases h
  rw [if_neg h5] at h
  by_cases h9 : x.c = 9
  · rw [if_pos h9] at h
    rcases s with _ | ⟨a, r⟩
    · cases h; omega
    · simp only at h
      split at h
      · cases h; omega
      · cases h
  rw [if_neg h9] at h
  by_cases h10 : x.c = 10
  · rw [if_pos h10] at h
    rcases s with _ | ⟨a, r⟩
    · cases h; omega
    · cases h
  rw [if_neg h10] at h
  by_cases h11 : x.c = 11
  · rw [if_pos h11] at h
    rcases s with _ | ⟨a, _ | ⟨b, r⟩⟩
    · cases h; omega
    · cases h; omega
    · cases h
  rw [if_neg h11] at h
  by_cases h12 : x.c = 12
  · rw [if_pos h12] at h
    split at h
    · cases h; omega
    · cases h
  rw [if_neg h12] at h
  by_cases h13 : x.c = 13
  · rw [if_pos h13] at h
    split at h
    · cases h
    · cases h; omega
  rw [if_neg h13] at h
  by_cases h14 : x.c = 14
  · rw [if_pos h14] at h
    split at h
    · cases h
    · cases h; omega
  rw [if_neg h14] at h
  cases h
theorem Vm.step_err {E : Vm} {x : Jo} {s : List ByteArray} {br : List Bool} {c : Int} (h : Vm.step E x s br = .error c) : 2 ≤ c ∧ c ≤ 5 := by
  unfold Vm.step at h
  split at h
  · unfold Vm.cond at h
    repeat' (split at h)
    all_goals first
      | (cases h; omega)
      | exact absurd h (by intro g; cases g)
  · split at h
    · split at h
      · cases h
      · rename_i c' hc
        cases h
        exact Vm.act_err hc
    · cases h
theorem Vm.go_err {E : Vm} {l : List Jo} : ∀ {s : List ByteArray} {br : List Bool} {c : Int}, Vm.go E l s br = .error c → 2 ≤ c ∧ c ≤ 5 := by
  induction l with
  | nil => intro s br c h; simp [Vm.go] at h
  | cons x l ih =>
    intro s br c h
    unfold Vm.go at h
    split at h
    · exact ih h
    · rename_i c' hc
      simp at h
      subst h
      exact Vm.step_err hc
theorem Vm.act_fits {E : Vm} {x : Jo} {s r : List ByteArray} (hx : Jo.fld x = true) (hs : Vm.fits s) (h : Vm.act E x s = .ok r) : Vm.fits r := by
  unfold Vm.act at h
  by_cases h0 : x.c = 0
  · rw [if_pos h0] at h
    refine Vm.put_fits h ?_ hs.2
    unfold Jo.fld at hx
    simp [h0] at hx
    omega
  rw [if_neg h0] at h
  by_cases h1 : x.c = 1
  · rw [if_pos h1] at h
    cases s with
    | nil => simp at h
    | cons a r' => exact Vm.put_fits h (hs.2 a (List.mem_cons_self ..)) hs.2
  rw [if_neg h1] at h
  by_cases h2 : x.c = 2
  · rw [if_pos h2] at h
    cases s with
    | nil => simp at h
    | cons a r' => simp at h; subst h; exact Vm.fits_tail hs
  rw [if_neg h2] at h
  by_cases h3 : x.c = 3
  · rw [if_pos h3] at h
    rcases s with _ | ⟨a, _ | ⟨b, r'⟩⟩
    · simp at h
    · simp at h
    · simp at h
      subst h
      refine ⟨by simpa using hs.1, fun y hy => hs.2 y ?_⟩
      simp at hy ⊢
      rcases hy with h | h | h
      · exact .inr (.inl h)
      · exact .inl h
      · exact .inr (.inr h)
  rw [if_neg h3] at h
  by_cases h4 : x.c = 4
  · rw [if_pos h4] at h
    rcases s with _ | ⟨a, _ | ⟨b, r'⟩⟩
    · simp at h
    · simp at h
    · simp at h
      subst h
      exact Vm.fits_cons (Vm.fits_tail hs) (Nat.le_trans (Vm.tr_size _) (by decide))
  rw [if_neg h4] at h
  by_cases h5 : x.c = 5
  · rw [if_pos h5] at h
    cases s with
    | nil => simp at h
    | cons a r' => simp at h; subst h; exact Vm.fits_cons hs (Nat.le_trans (Vm.tr_size _) (by decide))
  rw [if_neg h5] at h
  by_cases h9 : x.c = 9
  · rw [if_pos h9] at h
    cases s with
    | nil => simp at h
    | cons a r' =>
      simp only at h
      split at h
      · simp at h
      · simp at h; subst h; exact Vm.fits_tail hs
  rw [if_neg h9] at h
  by_cases h10 : x.c = 10
  · rw [if_pos h10] at h
    cases s with
    | nil => simp at h
    | cons a r' => simp at h; subst h; exact Vm.fits_cons hs (by rw [Dg.bytes_size]; decide)
  rw [if_neg h10] at h
  by_cases h11 : x.c = 11
  · rw [if_pos h11] at h
    rcases s with _ | ⟨a, _ | ⟨b, r'⟩⟩
    · simp at h
    · simp at h
    · simp at h
      subst h
      exact Vm.fits_cons (Vm.fits_tail hs) (Nat.le_trans (Vm.tr_size _) (by decide))
  rw [if_neg h11] at h
  by_cases h12 : x.c = 12
  · rw [if_pos h12] at h
    split at h
    · simp at h
    · rename_i hn
      simp at h
      subst h
      unfold Jo.fld at hx
      simp [h12] at hx
      have hl := hs.1
      have hd := Vm.fits_drop hs (x.a + x.b).toNat
      refine ⟨?_, fun y hy => ?_⟩
      · rw [List.length_cons, List.length_drop]; omega
      · rcases List.mem_cons.1 hy with rfl | hy
        · exact Nat.le_trans (Vm.tr_size _) (by decide)
        · exact hd.2 y hy
  rw [if_neg h12] at h
  repeat' (split at h)
  all_goals (simp at h; try (subst h; exact hs))
theorem Vm.step_fits {E : Vm} {x : Jo} {s : List ByteArray} {br : List Bool} {m : List ByteArray × List Bool} (hx : Jo.fld x = true) (hs : Vm.fits s) (h : Vm.step E x s br = .ok m) : Vm.fits m.1 := by
  unfold Vm.step at h
  split at h
  · unfold Vm.cond at h
    split at h
    · split at h
      · split at h
        · simp at h; subst h; exact Vm.fits_tail hs
        · simp at h
      · simp at h; subst h; exact hs
    · split at h
      · split at h <;> (simp at h; subst h; exact hs)
      · split at h <;> (simp at h; subst h; exact hs)
  · split at h
    · split at h
      · rename_i r hr
        simp at h
        subst h
        exact Vm.act_fits hx hs hr
      · simp at h
    · simp at h; subst h; exact hs
theorem Vm.go_fits {E : Vm} {l : List Jo} : ∀ {s : List ByteArray} {br : List Bool} {m : List ByteArray × List Bool}, (∀ x ∈ l, Jo.fld x = true) → Vm.fits s → Vm.go E l s br = .ok m → Vm.fits m.1 := by
  induction l with
  | nil => intro s br m _ hs h; simp [Vm.go] at h; subst h; exact hs
  | cons x l ih =>
    intro s br m hl hs h
    unfold Vm.go at h
    split at h
    · rename_i m' hm'
      exact ih (fun y hy => hl y (List.mem_cons_of_mem _ hy)) (Vm.step_fits (hl x (List.mem_cons_self ..)) hs hm') h
    · simp at h
/-- The conditions around go with those of the script. -/
theorem Vm.step_nest {E : Vm} {x : Jo} {s : List ByteArray} {br : List Bool} {m : List ByteArray × List Bool} {st st' : List Bool} (hn : Jo.step st x.c = some st') (hl : st.length = br.length) (h : Vm.step E x s br = .ok m) : st'.length = m.2.length := by
  unfold Vm.step Vm.cond at h
  unfold Jo.step at hn
  by_cases h6 : x.c = 6
  · rw [if_pos h6] at hn
    rw [if_pos (by omega), if_pos h6] at h
    split at hn
    · simp at hn
      subst hn
      split at h
      · split at h
        · simp at h; subst h; simp [hl]
        · simp at h
      · simp at h; subst h; simp [hl]
    · simp at hn
  rw [if_neg h6] at hn
  by_cases h7 : x.c = 7
  · rw [if_pos h7] at hn
    rw [if_pos (by omega), if_neg h6, if_pos h7] at h
    split at hn
    · simp at hn
      subst hn
      cases br with
      | nil => simp at hl
      | cons b r => simp at h; subst h; simpa using hl
    · simp at hn
  rw [if_neg h7] at hn
  by_cases h8 : x.c = 8
  · rw [if_pos h8] at hn
    rw [if_pos (by omega), if_neg h6, if_neg h7] at h
    split at hn
    · simp at hn
      subst hn
      cases br with
      | nil => simp at hl
      | cons b r => simp at h; subst h; simpa using hl
    · simp at hn
  rw [if_neg h8] at hn
  rw [if_neg (by omega)] at h
  simp at hn
  subst hn
  split at h
  · split at h
    · simp at h; subst h; exact hl
    · simp at h
  · simp at h; subst h; exact hl
theorem Vm.go_nest {E : Vm} {l : List Jo} : ∀ {s : List ByteArray} {br : List Bool} {m : List ByteArray × List Bool} {st st' : List Bool}, Jo.nest st l = some st' → st.length = br.length → Vm.go E l s br = .ok m → st'.length = m.2.length := by
  induction l with
  | nil => intro s br m st st' hn hl h; simp [Vm.go] at h; simp [Jo.nest] at hn; subst h; subst hn; exact hl
  | cons x l ih =>
    intro s br m st st' hn hl h
    unfold Vm.go at h
    unfold Jo.nest at hn
    split at hn
    · simp at hn
    · rename_i s1 hs1
      split at h
      · rename_i m' hm'
        exact ih hn (Vm.step_nest hs1 hl hm') h
      · simp at h
theorem Vm.go_append (E : Vm) (l k : List Jo) : ∀ (s : List ByteArray) (br : List Bool), Vm.go E (l ++ k) s br = match Vm.go E l s br with
    | .ok m => Vm.go E k m.1 m.2
    | .error c => .error c := by
  induction l with
  | nil => intro s br; rfl
  | cons x l ih =>
    intro s br
    simp only [List.cons_append, Vm.go]
    split
    · exact ih _ _
    · rfl
/-- Two scripts, one behind the other. -/
theorem Vm.run_two (E : Vm) (l k : List Jo) (s : List ByteArray) (hl : Jo.ok l = true) (hk : Jo.ok k = true) (ha : Jo.ok (l ++ k) = true) :
    ((Vm.run E l s).2 ≠ 0 → (Vm.run E (l ++ k) s).2 = (Vm.run E l s).2) ∧ ((Vm.run E l s).2 = 0 → Vm.run E (l ++ k) s = Vm.run E k (Vm.run E l s).1) := by
  by_cases hf : Vm.fits s
  · unfold Vm.run
    rw [if_pos (show Jo.ok l = true ∧ Vm.fits s from ⟨hl, hf⟩), if_pos (show Jo.ok (l ++ k) = true ∧ Vm.fits s from ⟨ha, hf⟩), Vm.go_append]
    cases hg : Vm.go E l s.reverse [] with
    | error c =>
      simp only
      have := Vm.go_err hg
      exact ⟨fun _ => trivial, fun h => by omega⟩
    | ok m =>
      have hn := Vm.go_nest ((Jo.ok_iff l).1 hl).2.2 rfl hg
      have hm2 : m.2 = [] := List.eq_nil_of_length_eq_zero (by simpa using hn.symm)
      have hm1 := Vm.go_fits ((Jo.ok_iff l).1 hl).2.1 (Vm.fits_rev hf) hg
      simp only [hm2]
      refine ⟨fun h => absurd rfl h, fun _ => ?_⟩
      rw [if_pos ⟨hk, Vm.fits_rev hm1⟩, List.reverse_reverse]
  · unfold Vm.run
    rw [if_neg (fun h => hf h.2), if_neg (fun h => hf h.2)]
    exact ⟨fun _ => rfl, fun h => by simp at h⟩
theorem Vm.act_13 {E : Vm} {x : Jo} {s : List ByteArray} (h : x.c = 13) : Vm.act E x s = if x.a ≤ E.h then .ok s else .error 4 := by
  unfold Vm.act
  simp only [h]
  rfl
theorem Vm.act_14 {E : Vm} {x : Jo} {s : List ByteArray} (h : x.c = 14) : Vm.act E x s = if x.a ≤ E.a then .ok s else .error 4 := by
  unfold Vm.act
  simp only [h]
  rfl
theorem Vm.act_later {E F : Vm} (ht : F.t = E.t) (hh : E.h ≤ F.h) (ha : E.a ≤ F.a) {x : Jo} {s r : List ByteArray} (h : Vm.act E x s = .ok r) : Vm.act F x s = .ok r := by
  by_cases h13 : x.c = 13
  · rw [Vm.act_13 h13] at h ⊢
    by_cases h1 : x.a ≤ E.h
    · rw [if_pos h1] at h
      rw [if_pos (by omega)]
      exact h
    · rw [if_neg h1] at h
      cases h
  by_cases h14 : x.c = 14
  · rw [Vm.act_14 h14] at h ⊢
    by_cases h1 : x.a ≤ E.a
    · rw [if_pos h1] at h
      rw [if_pos (by omega)]
      exact h
    · rw [if_neg h1] at h
      cases h
  · unfold Vm.act at h ⊢
    rw [if_neg h13, if_neg h14] at h ⊢
    rw [ht]
    exact h
theorem Vm.step_later {E F : Vm} (ht : F.t = E.t) (hh : E.h ≤ F.h) (ha : E.a ≤ F.a) {x : Jo} {s : List ByteArray} {br : List Bool} {m : List ByteArray × List Bool} (h : Vm.step E x s br = .ok m) : Vm.step F x s br = .ok m := by
  unfold Vm.step at h ⊢
  split
  · rename_i hc
    rw [if_pos hc] at h
    exact h
  · rename_i hc
    rw [if_neg hc] at h
    split
    · rename_i hv
      rw [if_pos hv] at h
      split at h
      · rename_i r hr
        rw [Vm.act_later ht hh ha hr]
        exact h
      · simp at h
    · rename_i hv
      rw [if_neg hv] at h
      exact h
theorem Vm.go_later {E F : Vm} (ht : F.t = E.t) (hh : E.h ≤ F.h) (ha : E.a ≤ F.a) {l : List Jo} : ∀ {s : List ByteArray} {br : List Bool} {m : List ByteArray × List Bool}, Vm.go E l s br = .ok m → Vm.go F l s br = .ok m := by
  induction l with
  | nil => intro s br m h; exact h
  | cons x l ih =>
    intro s br m h
    unfold Vm.go at h ⊢
    split at h
    · rename_i m' hm'
      rw [Vm.step_later ht hh ha hm']
      exact ih h
    · simp at h
/-- What runs runs later, too. -/
theorem Vm.run_later {E F : Vm} (ht : F.t = E.t) (hh : E.h ≤ F.h) (ha : E.a ≤ F.a) {l : List Jo} {s : List ByteArray} (h : (Vm.run E l s).2 = 0) : Vm.run F l s = Vm.run E l s := by
  unfold Vm.run at h ⊢
  split at h
  · rename_i hc
    rw [if_pos hc, if_pos hc]
    cases hg : Vm.go E l s.reverse [] with
    | error c => rw [hg] at h; simp only at h; have := Vm.go_err hg; omega
    | ok m => rw [Vm.go_later ht hh ha hg]
  · simp at h
/-- What a run leaves. -/
theorem Vm.run_fits (E : Vm) (l : List Jo) (s : List ByteArray) : Vm.fits (Vm.run E l s).1 := by
  have h0 : Vm.fits [] := ⟨by simp, by simp⟩
  unfold Vm.run
  split
  · rename_i hc
    cases hg : Vm.go E l s.reverse [] with
    | error c => exact h0
    | ok m => exact Vm.fits_rev (Vm.go_fits ((Jo.ok_iff l).1 hc.1).2.1 (Vm.fits_rev hc.2) hg)
  · exact h0
theorem Vm.run_nil {E : Vm} {l : List Jo} {s : List ByteArray} (h : (Vm.run E l s).2 ≠ 0) : (Vm.run E l s).1 = [] := by
  unfold Vm.run at h ⊢
  split at h
  · rename_i hc
    rw [if_pos hc]
    cases hg : Vm.go E l s.reverse [] with
    | error c => rfl
    | ok m => rw [hg] at h; simp at h
  · rename_i hc
    rw [if_neg hc]
theorem Vm.run_code (E : Vm) (l : List Jo) (s : List ByteArray) : 0 ≤ (Vm.run E l s).2 ∧ (Vm.run E l s).2 ≤ 5 := by
  unfold Vm.run
  split
  · split
    · simp
    · rename_i c hg
      have := Vm.go_err hg
      exact ⟨by show 0 ≤ c; omega, this.2⟩
  · simp
/-- Is a lock opened? -/
def Vm.opens (E : Vm) (o : Option (List Jo)) (s : List ByteArray) : Bool := match o with
  | none => false
  | some l => match Vm.run E l s with
    | ([a], c) => decide (c = 0) && decide (a.size ≠ 0)
    | _ => false
end Go.Proofs.YtohameoomlehlaaGreat
