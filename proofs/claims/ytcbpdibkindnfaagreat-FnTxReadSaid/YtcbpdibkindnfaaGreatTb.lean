import Derived.Test.YtcbpdibkindnfaaGreatTs
import Derived.Test.YtcbpdibkindnfaaGreatWa
import Derived.Test.YtcbpdibkindnfaaGreatBk
import Derived.Test.YtcbpdibkindnfaaGreatOw
import Derived.Test.YtcbpdibkindnfaaGreatSl
import Derived.Below
import Derived.WalkKit
import Derived.WalkSpells
import Derived.LoopTactic
/-
  Plain mathematics of transactions: what is valid by itself, bytes and core, reading.
-/
namespace Go.Proofs.YtcbpdibkindnfaaGreat

/-- An input, an output, a transaction. -/
structure Tr.In where
  tx : Int
  out : Int
  wit : List ByteArray
structure Tr.Out where
  amt : Int
  lock : ByteArray
structure Tr where
  ins : List Tr.In
  outs : List Tr.Out
  after : Int
  note : ByteArray
theorem Tr.assoc (a b c : ByteArray) : a ++ b ++ c = a ++ (b ++ c) := by
  apply ByteArray.ext
  simp [ByteArray.data_append]
theorem Tr.nilL (a : ByteArray) : ByteArray.empty ++ a = a := by
  apply ByteArray.ext
  simp
theorem Tr.nilR (a : ByteArray) : a ++ ByteArray.empty = a := by
  apply ByteArray.ext
  simp
/-! ### reading, part by part -/
def Tr.dig (s : ByteArray) : Option (Int × ByteArray) := if s.size < 4 then none else some (Dg.num (En.front s 4), En.rest s 4)
theorem Tr.dig_fw (d : Int) (t : ByteArray) (h : 0 ≤ d ∧ d ≤ 4294967295) : Tr.dig (Dg.bytes d ++ t) = some (d, t) := by
  have hz := Dg.bytes_size d
  have h1 := En.front_append (Dg.bytes d) t
  have h2 := En.rest_append (Dg.bytes d) t
  rw [hz] at h1 h2
  unfold Tr.dig
  rw [if_neg (by rw [ByteArray.size_append, hz]; omega)]
  show some (Dg.num (En.front (Dg.bytes d ++ t) ((4 : Nat) : Int)), En.rest (Dg.bytes d ++ t) ((4 : Nat) : Int)) = _
  rw [h1, h2, Dg.num_bytes d h.1 h.2]
theorem Tr.dig_bw {s t : ByteArray} {d : Int} (h : Tr.dig s = some (d, t)) : Dg.bytes d ++ t = s ∧ (0 ≤ d ∧ d ≤ 4294967295) := by
  unfold Tr.dig at h
  split at h
  · cases h
  · rename_i hs
    cases h
    refine ⟨?_, Dg.num_bd _⟩
    have hz : (En.front s 4).size = 4 := by
      have := En.size_front s 4 (by omega)
      exact this
    rw [Dg.bytes_num _ hz]
    exact En.front_rest s 4 (by omega) (by omega)
theorem En.bel_fw (n top : Int) (t : ByteArray) (h0 : 0 ≤ n) (h1 : n ≤ top) (h2 : n ≤ 4294967295) : En.bel (En.num n ++ t) top = some (n, t) :=
  En.bel_ok (En.dec_num n t h0 h2) (by simp only []; omega)
theorem En.bel_bw {s t : ByteArray} {n top : Int} (h : En.bel s top = some (n, t)) : En.num n ++ t = s ∧ 0 ≤ n ∧ n ≤ top ∧ n ≤ 4294967295 := by
  obtain ⟨h1, h2⟩ := En.bel_inv h
  have h3 := En.dec_bd h1
  exact ⟨En.num_dec h1, h3.1, h2, h3.2.1⟩
section
variable {α : Type}
/-- The first k of what stands one behind the other. -/
def Tr.rep (p : ByteArray → Option (α × ByteArray)) (s : ByteArray) : Nat → Option (List α × ByteArray)
  | 0 => some ([], s)
  | k + 1 => match Tr.rep p s k with
    | none => none
    | some x => match p x.2 with
      | none => none
      | some y => some (x.1 ++ [y.1], y.2)
def Tr.cat (e : α → ByteArray) : List α → ByteArray
  | [] => ByteArray.empty
  | x :: l => e x ++ Tr.cat e l
theorem Tr.cat_append (e : α → ByteArray) (a b : List α) : Tr.cat e (a ++ b) = Tr.cat e a ++ Tr.cat e b := by
  induction a with
  | nil => exact (Tr.nilL _).symm
  | cons x a ih => show e x ++ Tr.cat e (a ++ b) = e x ++ Tr.cat e a ++ Tr.cat e b; rw [ih, Tr.assoc]
theorem Tr.cat_snoc (e : α → ByteArray) (a : List α) (x : α) : Tr.cat e (a ++ [x]) = Tr.cat e a ++ e x := by
  rw [Tr.cat_append]
  show Tr.cat e a ++ (e x ++ ByteArray.empty) = _
  rw [Tr.nilR]
theorem Tr.rep_none {p : ByteArray → Option (α × ByteArray)} {s : ByteArray} {k : Nat} (h : Tr.rep p s k = none) : ∀ m, k ≤ m → Tr.rep p s m = none := by
  intro m hm
  induction m with
  | zero =>
    have : k = 0 := by omega
    rw [this] at h
    exact h
  | succ m ih =>
    by_cases hk : k = m + 1
    · rw [hk] at h; exact h
    · have := ih (by omega)
      unfold Tr.rep
      rw [this]
theorem Tr.rep_bad {p : ByteArray → Option (α × ByteArray)} {s : ByteArray} {k : Nat} {x : List α × ByteArray} (h : Tr.rep p s k = some x) (h2 : p x.2 = none) : Tr.rep p s (k + 1) = none := by
  simp only [Tr.rep, h, h2]
theorem Tr.rep_ok {p : ByteArray → Option (α × ByteArray)} {s : ByteArray} {k : Nat} {x : List α × ByteArray} {y : α × ByteArray} (h : Tr.rep p s k = some x) (h2 : p x.2 = some y) : Tr.rep p s (k + 1) = some (x.1 ++ [y.1], y.2) := by
  simp only [Tr.rep, h, h2]
theorem Tr.rep_fw {e : α → ByteArray} {p : ByteArray → Option (α × ByteArray)} {ok : α → Prop} (hfw : ∀ x t, ok x → p (e x ++ t) = some (x, t)) (l : List α) (hl : ∀ x ∈ l, ok x) (t : ByteArray) :
    ∀ k, k ≤ l.length → Tr.rep p (Tr.cat e l ++ t) k = some (l.take k, Tr.cat e (l.drop k) ++ t) := by
  intro k
  induction k with
  | zero => intro _; simp [Tr.rep]
  | succ k ih =>
    intro hk
    have h1 := ih (by omega)
    have hd : l.drop k = l[k] :: l.drop (k + 1) := List.drop_eq_getElem_cons (by omega)
    refine (Tr.rep_ok (y := (l[k], Tr.cat e (l.drop (k + 1)) ++ t)) h1 ?_).trans ?_
    · simp only []
      rw [hd]
      show p (e l[k] ++ Tr.cat e (l.drop (k + 1)) ++ t) = _
      rw [Tr.assoc]
      exact hfw _ _ (hl _ (List.getElem_mem (by omega)))
    · rw [List.take_add_one, List.getElem?_eq_getElem (by omega)]
      rfl
theorem Tr.rep_all {e : α → ByteArray} {p : ByteArray → Option (α × ByteArray)} {ok : α → Prop} (hfw : ∀ x t, ok x → p (e x ++ t) = some (x, t)) (l : List α) (hl : ∀ x ∈ l, ok x) (t : ByteArray) :
    Tr.rep p (Tr.cat e l ++ t) l.length = some (l, t) := by
  have h := Tr.rep_fw hfw l hl t l.length (Nat.le_refl _)
  rw [List.take_length, List.drop_length] at h
  rw [h]
  show some (l, ByteArray.empty ++ t) = _
  rw [Tr.nilL]
theorem Tr.rep_bw {e : α → ByteArray} {p : ByteArray → Option (α × ByteArray)} {ok : α → Prop} (hbw : ∀ s x t, p s = some (x, t) → e x ++ t = s ∧ ok x) {s : ByteArray} :
    ∀ {k : Nat} {x : List α × ByteArray}, Tr.rep p s k = some x → Tr.cat e x.1 ++ x.2 = s ∧ x.1.length = k ∧ ∀ y ∈ x.1, ok y := by
  intro k
  induction k with
  | zero =>
    intro x h
    simp [Tr.rep] at h
    subst h
    exact ⟨Tr.nilL _, rfl, by simp⟩
  | succ k ih =>
    intro x h
    cases h1 : Tr.rep p s k with
    | none => simp only [Tr.rep, h1] at h; cases h
    | some z =>
      cases h2 : p z.2 with
      | none => rw [Tr.rep_bad h1 h2] at h; cases h
      | some y =>
        rw [Tr.rep_ok h1 h2] at h
        cases h
        obtain ⟨g1, g2, g3⟩ := ih h1
        obtain ⟨q1, q2⟩ := hbw z.2 y.1 y.2 (by rw [h2])
        refine ⟨?_, by simp [g2], fun u hu => ?_⟩
        · rw [Tr.cat_snoc, Tr.assoc, q1, g1]
        · rcases List.mem_append.1 hu with h | h
          · exact g3 u h
          · simp at h; subst h; exact q2
end
theorem En.cat_tr (l : List ByteArray) : En.cat l = Tr.cat En.text l := by
  induction l with
  | nil => rfl
  | cons s l ih => show En.text s ++ En.cat l = En.text s ++ Tr.cat En.text l; rw [ih]
theorem Tr.text_fw (x t : ByteArray) (h : x.size ≤ 4000) : En.decT (En.text x ++ t) = some (x, t) := En.decT_text x t h
theorem Tr.text_bw (s x t : ByteArray) (h : En.decT s = some (x, t)) : En.text x ++ t = s ∧ x.size ≤ 4000 := En.text_decT h
/-- A list of at most top strings. -/
def Tr.wits (top : Int) (s : ByteArray) : Option (List ByteArray × ByteArray) := match En.bel s top with
  | none => none
  | some x => Tr.rep En.decT x.2 x.1.toNat
theorem Tr.wits_fw (top : Int) (l : List ByteArray) (t : ByteArray) (h1 : (l.length : Int) ≤ top) (h2 : (l.length : Int) ≤ 4294967295) (h : ∀ x ∈ l, x.size ≤ 4000) : Tr.wits top (En.texts l ++ t) = some (l, t) := by
  unfold Tr.wits En.texts
  rw [Tr.assoc, En.bel_fw _ top _ (by omega) h1 h2, En.cat_tr]
  simp only [Int.toNat_natCast]
  exact Tr.rep_all Tr.text_fw l h t
theorem Tr.wits_bw {top : Int} {s t : ByteArray} {l : List ByteArray} (h : Tr.wits top s = some (l, t)) : En.texts l ++ t = s ∧ (l.length : Int) ≤ top ∧ (l.length : Int) ≤ 4294967295 ∧ ∀ x ∈ l, x.size ≤ 4000 := by
  unfold Tr.wits at h
  split at h
  · cases h
  · rename_i x hx
    obtain ⟨n, u⟩ := x
    obtain ⟨h1, h2, h3, h4⟩ := En.bel_bw hx
    obtain ⟨g1, g2, g3⟩ := Tr.rep_bw Tr.text_bw h
    simp only at g1 g2 g3
    have hn : (l.length : Int) = n := by omega
    refine ⟨?_, by omega, by omega, g3⟩
    unfold En.texts
    rw [Tr.assoc, En.cat_tr, g1, hn, h1]
/-! ### inputs and outputs -/
def Tr.In.enc (whole : Bool) (x : Tr.In) : ByteArray := Dg.bytes x.tx ++ (En.num x.out ++ (if whole = true then En.texts x.wit else ByteArray.empty))
def Tr.Out.enc (x : Tr.Out) : ByteArray := En.num x.amt ++ En.text x.lock
def Tr.In.bare (x : Tr.In) : Tr.In := ⟨x.tx, x.out, []⟩
/-- What can be written so that it is read again. -/
def Tr.In.fit (x : Tr.In) : Prop := (0 ≤ x.tx ∧ x.tx ≤ 4294967295) ∧ (0 ≤ x.out ∧ x.out ≤ 4294967295) ∧ x.wit.length ≤ 24 ∧ ∀ s ∈ x.wit, s.size ≤ 4000
def Tr.Out.fit (x : Tr.Out) : Prop := (0 ≤ x.amt ∧ x.amt ≤ 4294967295) ∧ x.lock.size ≤ 4000
def Tr.inR (s : ByteArray) : Option (Tr.In × ByteArray) := match Tr.dig s with
  | none => none
  | some a => match En.dec a.2 with
    | none => none
    | some b => match Tr.wits 24 b.2 with
      | none => none
      | some c => some (⟨a.1, b.1, c.1⟩, c.2)
def Tr.inC (s : ByteArray) : Option (Tr.In × ByteArray) := match Tr.dig s with
  | none => none
  | some a => match En.dec a.2 with
    | none => none
    | some b => some (⟨a.1, b.1, []⟩, b.2)
def Tr.outR (s : ByteArray) : Option (Tr.Out × ByteArray) := match En.dec s with
  | none => none
  | some a => match En.decT a.2 with
    | none => none
    | some b => some (⟨a.1, b.1⟩, b.2)
theorem Tr.inR_fw (x : Tr.In) (t : ByteArray) (h : x.fit) : Tr.inR (x.enc true ++ t) = some (x, t) := by
  obtain ⟨h1, h2, h3, h4⟩ := h
  unfold Tr.inR Tr.In.enc
  rw [if_pos rfl, Tr.assoc, Tr.dig_fw _ _ h1]
  simp only
  rw [Tr.assoc, En.dec_num _ _ h2.1 h2.2]
  simp only
  rw [Tr.wits_fw 24 _ _ (by omega) (by omega) h4]
theorem Tr.inR_bw (s : ByteArray) (x : Tr.In) (t : ByteArray) (h : Tr.inR s = some (x, t)) : x.enc true ++ t = s ∧ x.fit := by
  unfold Tr.inR at h
  split at h
  · cases h
  · rename_i a ha
    split at h
    · cases h
    · rename_i b hb
      split at h
      · cases h
      · rename_i c hc
        cases h
        obtain ⟨a1, a2⟩ := Tr.dig_bw (s := s) (d := a.1) (t := a.2) ha
        have b1 := En.num_dec (s := a.2) (n := b.1) (r := b.2) hb
        have b2 := En.dec_bd (s := a.2) (n := b.1) (r := b.2) hb
        obtain ⟨c1, c2, c3, c4⟩ := Tr.wits_bw (s := b.2) (l := c.1) (t := c.2) hc
        refine ⟨?_, a2, ⟨b2.1, b2.2.1⟩, (by show c.1.length ≤ 24; omega), c4⟩
        unfold Tr.In.enc
        rw [if_pos rfl, Tr.assoc, Tr.assoc, c1, b1, a1]
theorem Tr.inC_fw (x : Tr.In) (t : ByteArray) (h : (0 ≤ x.tx ∧ x.tx ≤ 4294967295) ∧ (0 ≤ x.out ∧ x.out ≤ 4294967295)) : Tr.inC (x.enc false ++ t) = some (x.bare, t) := by
  obtain ⟨h1, h2⟩ := h
  unfold Tr.inC Tr.In.enc
  rw [if_neg (by decide), Tr.nilR, Tr.assoc, Tr.dig_fw _ _ h1]
  simp only
  rw [En.dec_num _ _ h2.1 h2.2]
  rfl
theorem Tr.outR_fw (x : Tr.Out) (t : ByteArray) (h : x.fit) : Tr.outR (x.enc ++ t) = some (x, t) := by
  obtain ⟨h1, h2⟩ := h
  unfold Tr.outR Tr.Out.enc
  rw [Tr.assoc, En.dec_num _ _ h1.1 h1.2]
  simp only
  rw [En.decT_text _ _ h2]
theorem Tr.outR_bw (s : ByteArray) (x : Tr.Out) (t : ByteArray) (h : Tr.outR s = some (x, t)) : x.enc ++ t = s ∧ x.fit := by
  unfold Tr.outR at h
  split at h
  · cases h
  · rename_i a ha
    split at h
    · cases h
    · rename_i b hb
      cases h
      have a1 := En.num_dec (s := s) (n := a.1) (r := a.2) ha
      have a2 := En.dec_bd (s := s) (n := a.1) (r := a.2) ha
      obtain ⟨b1, b2⟩ := En.text_decT (s := a.2) (t := b.1) (r := b.2) hb
      refine ⟨?_, ⟨a2.1, a2.2.1⟩, b2⟩
      unfold Tr.Out.enc
      rw [Tr.assoc, b1, a1]
/-! ### transactions -/
/-- The bytes (whole), or the core. -/
def Tr.enc (whole : Bool) (t : Tr) : ByteArray := En.num t.ins.length ++ (Tr.cat (Tr.In.enc whole) t.ins ++ (En.num t.outs.length ++ (Tr.cat Tr.Out.enc t.outs ++ (En.num t.after ++ En.text t.note))))
def Tr.rdE (d : Tr) (s : ByteArray) : Option (Tr × ByteArray) := match En.dec s with
  | none => none
  | some e => match En.decT e.2 with
    | none => none
    | some f => some (⟨d.ins, d.outs, e.1, f.1⟩, f.2)
def Tr.rdO (ins : List Tr.In) (s : ByteArray) : Option (Tr × ByteArray) := match En.bel s 6 with
  | none => none
  | some c => match Tr.rep Tr.outR c.2 c.1.toNat with
    | none => none
    | some d => Tr.rdE ⟨ins, d.1, 0, ByteArray.empty⟩ d.2
/-- A transaction ahead of what is left. -/
def Tr.rdA (p : ByteArray → Option (Tr.In × ByteArray)) (s : ByteArray) : Option (Tr × ByteArray) := match En.bel s 6 with
  | none => none
  | some a => match Tr.rep p a.2 a.1.toNat with
    | none => none
    | some b => Tr.rdO b.1 b.2
/-- The whole string. -/
def Tr.rd (s : ByteArray) : Option Tr := match Tr.rdA Tr.inR s with
  | none => none
  | some x => if x.2.size = 0 then some x.1 else none
/-- What can be written so that it is read again. -/
structure Tr.fit (t : Tr) : Prop where
  nin : t.ins.length ≤ 6
  nout : t.outs.length ≤ 6
  ins : ∀ x ∈ t.ins, x.fit
  outs : ∀ x ∈ t.outs, x.fit
  after : 0 ≤ t.after ∧ t.after ≤ 4294967295
  note : t.note.size ≤ 4000
theorem Tr.rdE_fw (d : Tr) (n : Int) (s t : ByteArray) (h : 0 ≤ n ∧ n ≤ 4294967295) (hs : s.size ≤ 4000) : Tr.rdE d (En.num n ++ (En.text s ++ t)) = some (⟨d.ins, d.outs, n, s⟩, t) := by
  unfold Tr.rdE
  rw [En.dec_num _ _ h.1 h.2]
  simp only
  rw [En.decT_text _ _ hs]
theorem Tr.rdO_fw (l : List Tr.In) (t : Tr) (u : ByteArray) (h : t.fit) : Tr.rdO l (En.num t.outs.length ++ (Tr.cat Tr.Out.enc t.outs ++ (En.num t.after ++ (En.text t.note ++ u)))) = some (⟨l, t.outs, t.after, t.note⟩, u) := by
  unfold Tr.rdO
  rw [En.bel_fw _ 6 _ (by omega) (by have := h.nout; omega) (by have := h.nout; omega)]
  simp only [Int.toNat_natCast]
  rw [Tr.rep_all Tr.outR_fw t.outs h.outs]
  simp only
  rw [Tr.rdE_fw _ _ _ _ h.after h.note]
theorem Tr.enc_append (w : Bool) (t : Tr) (u : ByteArray) : Tr.enc w t ++ u = En.num t.ins.length ++ (Tr.cat (Tr.In.enc w) t.ins ++ (En.num t.outs.length ++ (Tr.cat Tr.Out.enc t.outs ++ (En.num t.after ++ (En.text t.note ++ u))))) := by
  unfold Tr.enc
  simp only [Tr.assoc]
theorem Tr.rdA_fw (t : Tr) (u : ByteArray) (h : t.fit) : Tr.rdA Tr.inR (Tr.enc true t ++ u) = some (t, u) := by
  rw [Tr.enc_append]
  unfold Tr.rdA
  rw [En.bel_fw _ 6 _ (by omega) (by have := h.nin; omega) (by have := h.nin; omega)]
  simp only [Int.toNat_natCast]
  rw [Tr.rep_all Tr.inR_fw t.ins h.ins]
  simp only
  rw [Tr.rdO_fw _ _ _ h]
/-- What is written is read. -/
theorem Tr.rd_enc (t : Tr) (h : t.fit) : Tr.rd (Tr.enc true t) = some t := by
  have h1 := Tr.rdA_fw t ByteArray.empty h
  rw [Tr.nilR] at h1
  unfold Tr.rd
  rw [h1]
  exact if_pos rfl
theorem Tr.rdA_bw {s u : ByteArray} {t : Tr} (h : Tr.rdA Tr.inR s = some (t, u)) : Tr.enc true t ++ u = s ∧ t.fit := by
  unfold Tr.rdA at h
  split at h
  · cases h
  rename_i a ha
  split at h
  · cases h
  rename_i b hb
  unfold Tr.rdO at h
  split at h
  · cases h
  rename_i c hc
  split at h
  · cases h
  rename_i d hd
  unfold Tr.rdE at h
  split at h
  · cases h
  rename_i e he
  split at h
  · cases h
  rename_i f hf
  cases h
  obtain ⟨a1, a2, a3, a4⟩ := En.bel_bw (s := s) (n := a.1) (t := a.2) ha
  obtain ⟨b1, b2, b3⟩ := Tr.rep_bw Tr.inR_bw hb
  obtain ⟨c1, c2, c3, c4⟩ := En.bel_bw (s := b.2) (n := c.1) (t := c.2) hc
  obtain ⟨d1, d2, d3⟩ := Tr.rep_bw Tr.outR_bw hd
  have e1 := En.num_dec (s := d.2) (n := e.1) (r := e.2) he
  have e2 := En.dec_bd (s := d.2) (n := e.1) (r := e.2) he
  obtain ⟨f1, f2⟩ := En.text_decT (s := e.2) (t := f.1) (r := f.2) hf
  have hn : (b.1.length : Int) = a.1 := by omega
  have hm : (d.1.length : Int) = c.1 := by omega
  refine ⟨?_, ⟨by simp only []; omega, by simp only []; omega, b3, d3, ⟨e2.1, e2.2.1⟩, f2⟩⟩
  rw [Tr.enc_append]
  simp only
  rw [f1, e1, d1, hm, c1, b1, hn, a1]
/-- A transaction has one string of bytes. -/
theorem Tr.enc_rd {s : ByteArray} {t : Tr} (h : Tr.rd s = some t) : Tr.enc true t = s ∧ t.fit := by
  unfold Tr.rd at h
  split at h
  · cases h
  rename_i x hx
  split at h
  · rename_i hz
    cases h
    obtain ⟨h1, h2⟩ := Tr.rdA_bw (s := s) (t := x.1) (u := x.2) hx
    have : x.2 = ByteArray.empty := ByteArray.ext (Array.eq_empty_of_size_eq_zero hz)
    rw [this, Tr.nilR] at h1
    exact ⟨h1, h2⟩
  · cases h
/-! ### what is valid by itself -/
def Tr.z : Tr.In := ⟨0, 0, []⟩
def Tr.zo : Tr.Out := ⟨0, ByteArray.empty⟩
def Tr.In.ok (x : Tr.In) : Bool := (decide (0 ≤ x.tx) && decide (x.tx ≤ 4294967295)) && ((decide (0 ≤ x.out) && decide (x.out ≤ 5)) && decide (Vm.fits x.wit))
def Tr.In.same (x y : Tr.In) : Bool := decide (x.tx = y.tx) && decide (x.out = y.out)
def Tr.apart (l : List Tr.In) : Bool := (List.range l.length).all fun i => (List.range i).all fun k => !((l.getD k Tr.z).same (l.getD i Tr.z))
def Tr.insOk (l : List Tr.In) : Bool := l.all Tr.In.ok && Tr.apart l && decide (l.length ≤ 6)
def Tr.Out.ok (x : Tr.Out) : Bool := (decide (1 ≤ x.amt) && decide (x.amt ≤ 1000000)) && decide (x.lock.size ≤ 300)
def Tr.sum (l : List Tr.Out) : Int := l.foldl (fun a x => a + x.amt) 0
def Tr.outsOk (l : List Tr.Out) : Bool := (decide (1 ≤ l.length) && decide (l.length ≤ 6)) && (l.all Tr.Out.ok && decide (Tr.sum l ≤ 1000000))
def Tr.ok (t : Tr) : Bool := Tr.insOk t.ins && Tr.outsOk t.outs && (decide (0 ≤ t.after) && decide (t.after ≤ 9999)) && decide (t.note.size ≤ 20) && decide ((Tr.enc true t).size ≤ 3000)
theorem Tr.In.ok_fit {x : Tr.In} (h : x.ok = true) : x.fit := by
  unfold Tr.In.ok at h
  simp only [Bool.and_eq_true, decide_eq_true_eq] at h
  obtain ⟨h1, h2, h3⟩ := h
  exact ⟨h1, ⟨h2.1, by omega⟩, h3.1, fun s hs => by have := h3.2 s hs; omega⟩
theorem Tr.Out.ok_fit {x : Tr.Out} (h : x.ok = true) : x.fit := by
  unfold Tr.Out.ok at h
  simp only [Bool.and_eq_true, decide_eq_true_eq] at h
  exact ⟨⟨by omega, by omega⟩, by omega⟩
theorem Tr.ok_fit {t : Tr} (h : t.ok = true) : t.fit := by
  unfold Tr.ok Tr.insOk Tr.outsOk at h
  simp only [Bool.and_eq_true, decide_eq_true_eq, List.all_eq_true] at h
  obtain ⟨⟨⟨⟨⟨⟨h1, h2⟩, h3⟩, ⟨h4, h5⟩, h6, h7⟩, h8⟩, h9⟩, h10⟩ := h
  exact ⟨h3, h5, fun x hx => Tr.In.ok_fit (h1 x hx), fun x hx => Tr.Out.ok_fit (h6 x hx), ⟨h8.1, by omega⟩, by omega⟩
/-- The transaction of a string. -/
def Tr.read (s : ByteArray) : Option Tr := match Tr.rd s with
  | none => none
  | some t => if t.ok = true then some t else none
theorem Tr.read_enc {t : Tr} (h : t.ok = true) : Tr.read (Tr.enc true t) = some t := by
  unfold Tr.read
  rw [Tr.rd_enc t (Tr.ok_fit h)]
  exact if_pos h
theorem Tr.enc_read {s : ByteArray} {t : Tr} (h : Tr.read s = some t) : Tr.enc true t = s ∧ t.ok = true := by
  unfold Tr.read at h
  split at h
  · cases h
  rename_i x hx
  split at h
  · rename_i hk
    cases h
    exact ⟨(Tr.enc_rd hx).1, hk⟩
  · cases h
theorem Tr.In.enc_bare (x : Tr.In) : x.bare.enc false = x.enc false := by
  simp [Tr.In.enc, Tr.In.bare]
/-- Transactions with the same core differ in witnesses alone. -/
theorem Tr.core_binds {a b : Tr} (ha : a.fit) (hb : b.fit) (h : Tr.enc false a = Tr.enc false b) : a.ins.map Tr.In.bare = b.ins.map Tr.In.bare ∧ a.outs = b.outs ∧ a.after = b.after ∧ a.note = b.note := by
  have key : ∀ t : Tr, t.fit → Tr.rdA Tr.inC (Tr.enc false t) = some (⟨t.ins.map Tr.In.bare, t.outs, t.after, t.note⟩, ByteArray.empty) := by
    intro t ht
    have hcat : Tr.cat (Tr.In.enc false) t.ins = Tr.cat (Tr.In.enc false) (t.ins.map Tr.In.bare) := by
      generalize t.ins = l
      induction l with
      | nil => rfl
      | cons x l ih => show x.enc false ++ Tr.cat (Tr.In.enc false) l = x.bare.enc false ++ Tr.cat (Tr.In.enc false) (l.map Tr.In.bare); rw [ih, Tr.In.enc_bare]
    have hl : t.ins.length = (t.ins.map Tr.In.bare).length := by simp
    have hr : ∀ u, Tr.rep Tr.inC (Tr.cat (Tr.In.enc false) (t.ins.map Tr.In.bare) ++ u) (t.ins.map Tr.In.bare).length = some (t.ins.map Tr.In.bare, u) := fun u =>
      Tr.rep_all (ok := fun x => ((0 ≤ x.tx ∧ x.tx ≤ 4294967295) ∧ (0 ≤ x.out ∧ x.out ≤ 4294967295)) ∧ x.bare = x) (fun x v hx => by rw [Tr.inC_fw x v hx.1, hx.2]) _ (fun x hx => by
        obtain ⟨y, hy, rfl⟩ := List.mem_map.1 hx
        have := ht.ins y hy
        exact ⟨⟨this.1, this.2.1⟩, rfl⟩) u
    have h1 := Tr.enc_append false t ByteArray.empty
    rw [Tr.nilR] at h1
    rw [h1]
    unfold Tr.rdA
    rw [En.bel_fw _ 6 _ (by omega) (by have := ht.nin; omega) (by have := ht.nin; omega)]
    simp only [Int.toNat_natCast]
    rw [hcat, hl, hr]
    simp only
    rw [Tr.rdO_fw _ _ _ ht]
  have h1 := key a ha
  rw [h, key b hb] at h1
  simp only [Option.some.injEq, Prod.mk.injEq, Tr.mk.injEq, and_true] at h1
  exact ⟨h1.1.symm, h1.2.1.symm, h1.2.2.1.symm, h1.2.2.2.symm⟩
end Go.Proofs.YtcbpdibkindnfaaGreat

/-
  What slices of inputs and of outputs hold.
-/
namespace Go.Proofs.YtcbpdibkindnfaaGreat
open Go.RowKit

def Tr.inAt (l : List Tr.In) (j : Nat) : Tr.In := l.getD j Tr.z
def Tr.outAt (l : List Tr.Out) (j : Nat) : Tr.Out := l.getD j Tr.zo
theorem Tr.inAt_get {l : List Tr.In} {j : Nat} (h : j < l.length) : l[j]? = some (Tr.inAt l j) := by
  unfold Tr.inAt
  rw [List.getD_eq_getElem?_getD, List.getElem?_eq_getElem h]
  rfl
theorem Tr.outAt_get {l : List Tr.Out} {j : Nat} (h : j < l.length) : l[j]? = some (Tr.outAt l j) := by
  unfold Tr.outAt
  rw [List.getD_eq_getElem?_getD, List.getElem?_eq_getElem h]
  rfl
theorem Tr.inAt_mem {l : List Tr.In} {j : Nat} (h : j < l.length) : Tr.inAt l j ∈ l := List.mem_of_getElem? (Tr.inAt_get h)
theorem Tr.outAt_mem {l : List Tr.Out} {j : Nat} (h : j < l.length) : Tr.outAt l j ∈ l := List.mem_of_getElem? (Tr.outAt_get h)
/-- An input's cells and what its witness holds; the witness's block is no older than lo. -/
structure InC (lo : Nat) (w : World) (b o : Nat) (x : Tr.In) (wa : Option Addr) (wc : Nat) : Prop where
  tx : w.cell? ⟨b, o, none⟩ = some (.int .i64 x.tx)
  out : w.cell? ⟨b, o + 1, none⟩ = some (.int .i64 x.out)
  wit : w.cell? ⟨b, o + 2, none⟩ = some (.slice wa x.wit.length wc)
  row : SR w wa x.wit.length x.wit
  low : 0 < x.wit.length → ∀ g off, wa = some ⟨g, off, none⟩ → lo ≤ g
theorem InC.grown {lo : Nat} {w w' : World} {b o : Nat} {x : Tr.In} {wa : Option Addr} {wc : Nat} {row : Option Nat} (h : InC lo w b o x wa wc) (hg : w.grownBy w' row) (hb : some b ≠ row) (hr : ∀ r, row = some r → r < lo) : InC lo w' b o x wa wc :=
  ⟨hg.cell h.tx (by simpa using hb), hg.cell h.out (by simpa using hb), hg.cell h.wit (by simpa using hb),
   h.row.grown hg (fun h0 g off he e => by have := h.low h0 g off he; have := hr g e.symm; omega), h.low⟩
theorem InC.mono {lo lo' : Nat} {w : World} {b o : Nat} {x : Tr.In} {wa : Option Addr} {wc : Nat} (h : InC lo w b o x wa wc) (hl : lo' ≤ lo) : InC lo' w b o x wa wc :=
  ⟨h.tx, h.out, h.wit, h.row, fun h0 g off he => Nat.le_trans hl (h.low h0 g off he)⟩
/-- The slice at a holds the len inputs l; all its blocks are no older than lo. -/
def InL (lo : Nat) (w : World) (a : Option Addr) (len : Nat) (l : List Tr.In) : Prop :=
  l.length = len ∧ (0 < len → ∃ b off, a = some ⟨b, off, none⟩ ∧ lo ≤ b ∧ b < w.heap.size ∧ ∀ j, j < len → ∃ wa wc, InC lo w b (off + j * 3) (Tr.inAt l j) wa wc)
theorem InL.grown {lo : Nat} {w w' : World} {a : Option Addr} {len : Nat} {l : List Tr.In} {row : Option Nat} (h : InL lo w a len l) (hg : w.grownBy w' row) (hr : ∀ r, row = some r → r < lo) : InL lo w' a len l :=
  ⟨h.1, fun h0 => by
    obtain ⟨b, off, rfl, hlo, hb, hc⟩ := h.2 h0
    refine ⟨b, off, rfl, hlo, Nat.lt_of_lt_of_le hb hg.size, fun j hj => ?_⟩
    obtain ⟨wa, wc, hi⟩ := hc j hj
    exact ⟨wa, wc, hi.grown hg (fun e => by have := hr b e.symm; omega) hr⟩⟩
theorem InL.below {lo : Nat} {w w' : World} {a : Option Addr} {len : Nat} {l : List Tr.In} (h : InL lo w a len l) (hb : Below w.heap.size w w') : InL lo w' a len l :=
  h.grown (row := none) ⟨hb.os, hb.tape, hb.output, hb.size, fun k hk _ => hb.block k hk⟩ (fun _ e => by cases e)
theorem InL.alloc {lo : Nat} {w : World} {a : Option Addr} {len : Nat} {l : List Tr.In} (h : InL lo w a len l) (o : Obj) : InL lo (w.alloc o) a len l :=
  h.grown (World.grownBy_alloc w o none) (fun _ e => by cases e)
theorem InL.drew {lo : Nat} {w : World} {a : Option Addr} {len : Nat} {l : List Tr.In} (h : InL lo w a len l) : InL lo w.drew a len l :=
  h.below (Below.refl _ _).drew
/-- The slice at a holds the len outputs l. -/
def OuL (lo : Nat) (w : World) (a : Option Addr) (len : Nat) (l : List Tr.Out) : Prop :=
  l.length = len ∧ (0 < len → ∃ b off, a = some ⟨b, off, none⟩ ∧ lo ≤ b ∧ b < w.heap.size ∧ ∀ j, j < len → w.cell? ⟨b, off + j * 2, none⟩ = some (.int .i64 (Tr.outAt l j).amt) ∧ w.cell? ⟨b, off + j * 2 + 1, none⟩ = some (.string (Tr.outAt l j).lock))
theorem OuL.grown {lo : Nat} {w w' : World} {a : Option Addr} {len : Nat} {l : List Tr.Out} {row : Option Nat} (h : OuL lo w a len l) (hg : w.grownBy w' row) (hr : ∀ r, row = some r → r < lo) : OuL lo w' a len l :=
  ⟨h.1, fun h0 => by
    obtain ⟨b, off, rfl, hlo, hb, hc⟩ := h.2 h0
    have hn : some b ≠ row := fun e => by have := hr b e.symm; omega
    exact ⟨b, off, rfl, hlo, Nat.lt_of_lt_of_le hb hg.size, fun j hj => ⟨hg.cell (hc j hj).1 (by simpa using hn), hg.cell (hc j hj).2 (by simpa using hn)⟩⟩⟩
theorem OuL.below {lo : Nat} {w w' : World} {a : Option Addr} {len : Nat} {l : List Tr.Out} (h : OuL lo w a len l) (hb : Below w.heap.size w w') : OuL lo w' a len l :=
  h.grown (row := none) ⟨hb.os, hb.tape, hb.output, hb.size, fun k hk _ => hb.block k hk⟩ (fun _ e => by cases e)
theorem OuL.alloc {lo : Nat} {w : World} {a : Option Addr} {len : Nat} {l : List Tr.Out} (h : OuL lo w a len l) (o : Obj) : OuL lo (w.alloc o) a len l :=
  h.grown (World.grownBy_alloc w o none) (fun _ e => by cases e)
theorem OuL.drew {lo : Nat} {w : World} {a : Option Addr} {len : Nat} {l : List Tr.Out} (h : OuL lo w a len l) : OuL lo w.drew a len l :=
  h.below (Below.refl _ _).drew
/-- A transaction as a value: two slices and what they hold. -/
structure TrR (lo : Nat) (w : World) (a : Option Addr) (n : Nat) (b : Option Addr) (m : Nat) (t : Tr) : Prop where
  ins : InL lo w a n t.ins
  outs : OuL lo w b m t.outs
theorem TrR.grown {lo : Nat} {w w' : World} {a b : Option Addr} {n m : Nat} {t : Tr} {row : Option Nat} (h : TrR lo w a n b m t) (hg : w.grownBy w' row) (hr : ∀ r, row = some r → r < lo) : TrR lo w' a n b m t := ⟨h.ins.grown hg hr, h.outs.grown hg hr⟩
theorem TrR.below {lo : Nat} {w w' : World} {a b : Option Addr} {n m : Nat} {t : Tr} (h : TrR lo w a n b m t) (hb : Below w.heap.size w w') : TrR lo w' a n b m t := ⟨h.ins.below hb, h.outs.below hb⟩
theorem TrR.alloc {lo : Nat} {w : World} {a b : Option Addr} {n m : Nat} {t : Tr} (h : TrR lo w a n b m t) (o : Obj) : TrR lo (w.alloc o) a n b m t := ⟨h.ins.alloc o, h.outs.alloc o⟩
theorem TrR.drew {lo : Nat} {w : World} {a b : Option Addr} {n m : Nat} {t : Tr} (h : TrR lo w a n b m t) : TrR lo w.drew a n b m t := ⟨h.ins.drew, h.outs.drew⟩
/-- Sizes that a machine's number counts. -/
structure Tr.small (t : Tr) : Prop where
  nin : t.ins.length ≤ 1048576
  nout : t.outs.length ≤ 1048576
  wit : ∀ x ∈ t.ins, x.wit.length ≤ 1048576 ∧ ∀ s ∈ x.wit, s.size ≤ 1048576
  num : ∀ x ∈ t.ins, (-9223372036854775808 ≤ x.tx ∧ x.tx ≤ 9223372036854775807) ∧ (-9223372036854775808 ≤ x.out ∧ x.out ≤ 9223372036854775807)
  lock : ∀ x ∈ t.outs, x.lock.size ≤ 1048576
  note : t.note.size ≤ 1048576
/-! ### what is found out step by step -/
theorem Tr.insOk_bad {l : List Tr.In} {j : Nat} (hj : j < l.length) (h : (Tr.inAt l j).ok = false) : Tr.insOk l = false := by
  unfold Tr.insOk
  have : l.all Tr.In.ok = false := by
    rw [Bool.eq_false_iff]
    intro h2
    have := List.all_eq_true.1 h2 _ (Tr.inAt_mem hj)
    rw [h] at this
    cases this
  rw [this]
  rfl
theorem Tr.insOk_twice {l : List Tr.In} {i k : Nat} (hi : i < l.length) (hk : k < i) (h : (Tr.inAt l k).same (Tr.inAt l i) = true) : Tr.insOk l = false := by
  unfold Tr.insOk
  have : Tr.apart l = false := by
    rw [Bool.eq_false_iff]
    intro h2
    have h3 := List.all_eq_true.1 h2 i (List.mem_range.2 hi)
    have h4 := List.all_eq_true.1 h3 k (List.mem_range.2 hk)
    unfold Tr.inAt at h
    rw [h] at h4
    cases h4
  rw [this, Bool.and_false]
  rfl
theorem Tr.insOk_end {l : List Tr.In} (h : ∀ j, j < l.length → (Tr.inAt l j).ok = true) (h2 : ∀ i, i < l.length → ∀ k, k < i → (Tr.inAt l k).same (Tr.inAt l i) = false) : Tr.insOk l = decide (l.length ≤ 6) := by
  unfold Tr.insOk
  have h3 : l.all Tr.In.ok = true := by
    rw [List.all_eq_true]
    intro x hx
    obtain ⟨j, hj, rfl⟩ := List.mem_iff_getElem.1 hx
    have h4 := h j hj
    unfold Tr.inAt at h4
    rw [List.getD_eq_getElem?_getD, List.getElem?_eq_getElem hj] at h4
    exact h4
  have h4 : Tr.apart l = true := by
    unfold Tr.apart
    rw [List.all_eq_true]
    intro i hi
    rw [List.all_eq_true]
    intro k hk
    have := h2 i (List.mem_range.1 hi) k (List.mem_range.1 hk)
    unfold Tr.inAt at this
    rw [this]
    rfl
  rw [h3, h4]
  rfl
theorem Tr.sum_take (l : List Tr.Out) (k : Nat) (hk : k < l.length) : Tr.sum (l.take (k + 1)) = Tr.sum (l.take k) + (Tr.outAt l k).amt := by
  unfold Tr.sum
  rw [List.take_add_one, Tr.outAt_get hk, Option.toList_some, List.foldl_append]
  rfl
theorem Tr.outsOk_bad {l : List Tr.Out} {j : Nat} (hj : j < l.length) (h : (Tr.outAt l j).ok = false) : Tr.outsOk l = false := by
  unfold Tr.outsOk
  have : l.all Tr.Out.ok = false := by
    rw [Bool.eq_false_iff]
    intro h2
    have := List.all_eq_true.1 h2 _ (Tr.outAt_mem hj)
    rw [h] at this
    cases this
  rw [this]
  simp
theorem Tr.outsOk_end {l : List Tr.Out} (h0 : 1 ≤ l.length ∧ l.length ≤ 6) (h : ∀ j, j < l.length → (Tr.outAt l j).ok = true) : Tr.outsOk l = decide (Tr.sum l ≤ 1000000) := by
  unfold Tr.outsOk
  have h3 : l.all Tr.Out.ok = true := by
    rw [List.all_eq_true]
    intro x hx
    obtain ⟨j, hj, rfl⟩ := List.mem_iff_getElem.1 hx
    have h4 := h j hj
    unfold Tr.outAt at h4
    rw [List.getD_eq_getElem?_getD, List.getElem?_eq_getElem hj] at h4
    exact h4
  rw [h3]
  simp [h0.1, h0.2]
theorem Tr.outsOk_len {l : List Tr.Out} (h : ¬ (1 ≤ l.length ∧ l.length ≤ 6)) : Tr.outsOk l = false := by
  unfold Tr.outsOk
  have : (decide (1 ≤ l.length) && decide (l.length ≤ 6)) = false := by
    rw [Bool.eq_false_iff]
    intro h2
    simp at h2
    exact h ⟨h2.1, h2.2⟩
  rw [this]
  rfl
end Go.Proofs.YtcbpdibkindnfaaGreat
