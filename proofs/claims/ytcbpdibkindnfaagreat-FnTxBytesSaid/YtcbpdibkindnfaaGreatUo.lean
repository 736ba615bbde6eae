/-
  The program's reader of transactions: what it reads (plain), its parts.
-/
import Derived.Test.YtcbpdibkindnfaaGreatTp
import Derived.Test.YtcbpdibkindnfaaGreatTm
import Derived.Test.YtcbpdibkindnfaaGreatTd
import Derived.Test.YtcbpdibkindnfaaGreatTq
namespace Go.Proofs.YtcbpdibkindnfaaGreat
open Go.RowKit

/-! ### what it reads: witnesses of up to forty items -/
def Tr.inP (s : ByteArray) : Option (Tr.In × ByteArray) := match Tr.dig s with
  | none => none
  | some a => match En.dec a.2 with
    | none => none
    | some b => match Tr.wits 40 b.2 with
      | none => none
      | some c => some (⟨a.1, b.1, c.1⟩, c.2)
theorem Tr.inP_bw (s : ByteArray) (x : Tr.In) (t : ByteArray) (h : Tr.inP s = some (x, t)) : x.enc true ++ t = s ∧ ((0 ≤ x.tx ∧ x.tx ≤ 4294967295) ∧ (0 ≤ x.out ∧ x.out ≤ 4294967295) ∧ x.wit.length ≤ 40 ∧ ∀ s ∈ x.wit, s.size ≤ 4000) := by
  unfold Tr.inP at h
  split at h
  · cases h
  · rename_i a ha
    split at h
    · cases h
    · rename_i b hb
      split at h
      · cases h
      · rename_i c hc
        cases h
        obtain ⟨a1, a2⟩ := Tr.dig_bw (s := s) (d := a.1) (t := a.2) ha
        have b1 := En.num_dec (s := a.2) (n := b.1) (r := b.2) hb
        have b2 := En.dec_bd (s := a.2) (n := b.1) (r := b.2) hb
        obtain ⟨c1, c2, c3, c4⟩ := Tr.wits_bw (s := b.2) (l := c.1) (t := c.2) hc
        refine ⟨?_, a2, ⟨b2.1, b2.2.1⟩, (by show c.1.length ≤ 40; omega), c4⟩
        unfold Tr.In.enc
        rw [if_pos rfl, Tr.assoc, Tr.assoc, c1, b1, a1]
theorem Tr.inP_inR {s : ByteArray} {x : Tr.In} {t : ByteArray} (h : Tr.inP s = some (x, t)) (hx : x.wit.length ≤ 24) : Tr.inR s = some (x, t) := by
  obtain ⟨h1, h2, h3, _, h5⟩ := Tr.inP_bw s x t h
  rw [← h1]
  exact Tr.inR_fw x t ⟨h2, h3, hx, h5⟩
theorem Tr.inP_fw (x : Tr.In) (t : ByteArray) (h1 : 0 ≤ x.tx ∧ x.tx ≤ 4294967295) (h2 : 0 ≤ x.out ∧ x.out ≤ 4294967295) (h3 : x.wit.length ≤ 40) (h4 : ∀ s ∈ x.wit, s.size ≤ 4000) : Tr.inP (x.enc true ++ t) = some (x, t) := by
  unfold Tr.inP Tr.In.enc
  rw [if_pos rfl, Tr.assoc, Tr.dig_fw _ _ h1]
  simp only
  rw [Tr.assoc, En.dec_num _ _ h2.1 h2.2]
  simp only
  rw [Tr.wits_fw 40 _ _ (by omega) (by omega) h4]
theorem Tr.inR_inP {s : ByteArray} {x : Tr.In} {t : ByteArray} (h : Tr.inR s = some (x, t)) : Tr.inP s = some (x, t) := by
  obtain ⟨h1, h2, h3, h4, h5⟩ := Tr.inR_bw s x t h
  rw [← h1]
  exact Tr.inP_fw x t h2 h3 (by omega) h5
theorem Tr.rep_inR_inP {s : ByteArray} : ∀ {k : Nat} {x : List Tr.In × ByteArray}, Tr.rep Tr.inR s k = some x → Tr.rep Tr.inP s k = some x := by
  intro k
  induction k with
  | zero => intro x h; exact h
  | succ k ih =>
    intro x h
    cases h1 : Tr.rep Tr.inR s k with
    | none => simp only [Tr.rep, h1] at h; cases h
    | some z =>
      cases h2 : Tr.inR z.2 with
      | none => rw [Tr.rep_bad h1 h2] at h; cases h
      | some y =>
        rw [Tr.rep_ok h1 h2] at h
        cases h
        exact Tr.rep_ok (ih h1) (Tr.inR_inP (x := y.1) (t := y.2) h2)
theorem Tr.rep_inP_inR {s : ByteArray} : ∀ {k : Nat} {x : List Tr.In × ByteArray}, Tr.rep Tr.inP s k = some x → (∀ y ∈ x.1, y.wit.length ≤ 24) → Tr.rep Tr.inR s k = some x := by
  intro k
  induction k with
  | zero => intro x h _; exact h
  | succ k ih =>
    intro x h hx
    cases h1 : Tr.rep Tr.inP s k with
    | none => simp only [Tr.rep, h1] at h; cases h
    | some z =>
      cases h2 : Tr.inP z.2 with
      | none => rw [Tr.rep_bad h1 h2] at h; cases h
      | some y =>
        rw [Tr.rep_ok h1 h2] at h
        cases h
        exact Tr.rep_ok (ih h1 (fun q hq => hx q (by simp [hq]))) (Tr.inP_inR (x := y.1) (t := y.2) h2 (hx y.1 (by simp)))
theorem Tr.rdA_inv {p : ByteArray → Option (Tr.In × ByteArray)} {s u : ByteArray} {t : Tr} (h : Tr.rdA p s = some (t, u)) : ∃ a b, En.bel s 6 = some a ∧ Tr.rep p a.2 a.1.toNat = some b ∧ Tr.rdO b.1 b.2 = some (t, u) ∧ t.ins = b.1 := by
  unfold Tr.rdA at h
  split at h
  · cases h
  rename_i a ha
  split at h
  · cases h
  rename_i b hb
  refine ⟨a, b, ha, hb, h, ?_⟩
  unfold Tr.rdO at h
  split at h
  · cases h
  split at h
  · cases h
  unfold Tr.rdE at h
  split at h
  · cases h
  split at h
  · cases h
  cases h
  rfl
/-- What the program reads. -/
def Tr.readP (s : ByteArray) : Option Tr := match Tr.rdA Tr.inP s with
  | none => none
  | some x => if x.2.size = 0 then (if x.1.ok = true then some x.1 else none) else none
theorem Tr.readP_eq (s : ByteArray) : Tr.readP s = Tr.read s := by
  have h1 : ∀ t, Tr.readP s = some t → Tr.read s = some t := by
    intro t h
    unfold Tr.readP at h
    split at h
    · cases h
    rename_i x hx
    split at h
    · rename_i hz
      split at h
      · rename_i hk
        cases h
        obtain ⟨a, b, e1, e2, e3, e4⟩ := Tr.rdA_inv (t := x.1) (u := x.2) hx
        have e5 := Tr.rep_inP_inR e2 (fun y hy => by
          rw [← e4] at hy
          exact ((Tr.ok_mid hk).ins y hy).2.2.1)
        have e6 : Tr.rdA Tr.inR s = some x := by rw [Tr.rdA_rep1 e1 e5]; exact e3
        unfold Tr.read Tr.rd
        rw [e6]
        simp only
        rw [if_pos hz]
        simp only
        rw [if_pos hk]
      · cases h
    · cases h
  have h2 : ∀ t, Tr.read s = some t → Tr.readP s = some t := by
    intro t h
    unfold Tr.read Tr.rd at h
    cases hx : Tr.rdA Tr.inR s with
    | none => rw [hx] at h; cases h
    | some x =>
      rw [hx] at h
      simp only at h
      by_cases hz : x.2.size = 0
      · rw [if_pos hz] at h
        simp only at h
        by_cases hk : x.1.ok = true
        · rw [if_pos hk] at h
          cases h
          obtain ⟨a, b, e1, e2, e3, e4⟩ := Tr.rdA_inv (t := x.1) (u := x.2) hx
          have e6 : Tr.rdA Tr.inP s = some x := by rw [Tr.rdA_rep1 e1 (Tr.rep_inR_inP e2)]; exact e3
          unfold Tr.readP
          rw [e6]
          simp only
          rw [if_pos hz, if_pos hk]
        · rw [if_neg hk] at h; cases h
      · rw [if_neg hz] at h; cases h
  cases hp : Tr.readP s with
  | some t => exact (h1 t hp).symm
  | none =>
    cases hr : Tr.read s with
    | none => rfl
    | some t => rw [h2 t hr] at hp; cases hp
theorem Tr.inP_small {s u : ByteArray} {t : Tr} (h : Tr.rdA Tr.inP s = some (t, u)) : t.small := by
  obtain ⟨a, b, e1, e2, e3, e4⟩ := Tr.rdA_inv h
  obtain ⟨_, g2, g3⟩ := Tr.rep_bw Tr.inP_bw e2
  obtain ⟨_, k2, k3, _⟩ := En.bel_bw (s := s) (n := a.1) (t := a.2) e1
  unfold Tr.rdO at e3
  split at e3
  · cases e3
  rename_i c hc
  split at e3
  · cases e3
  rename_i d hd
  obtain ⟨_, d2, d3⟩ := Tr.rep_bw Tr.outR_bw hd
  obtain ⟨_, m2, m3, _⟩ := En.bel_bw (s := b.2) (n := c.1) (t := c.2) hc
  unfold Tr.rdE at e3
  split at e3
  · cases e3
  rename_i e he
  split at e3
  · cases e3
  rename_i f hf
  cases e3
  obtain ⟨_, f2⟩ := En.text_decT (s := e.2) (t := f.1) (r := f.2) hf
  refine ⟨?_, ?_, fun x hx => ?_, fun x hx => ?_, fun x hx => ?_, ?_⟩
  · simp only; omega
  · simp only; omega
  · obtain ⟨_, _, q3, q4⟩ := g3 x hx
    exact ⟨by omega, fun s hs => by have := q4 s hs; omega⟩
  · obtain ⟨q1, q2, _, _⟩ := g3 x hx
    exact ⟨by omega, by omega⟩
  · have := (d3 x hx).2
    omega
  · simp only; omega
theorem Tr.inP_some {s r r2 r3 : ByteArray} {d q : Int} {l : List ByteArray} (h1 : Tr.dig s = some (d, r)) (h2 : En.dec r = some (q, r2)) (h3 : Tr.wits 40 r2 = some (l, r3)) : Tr.inP s = some (⟨d, q, l⟩, r3) := by
  unfold Tr.inP
  rw [h1]
  simp only
  rw [h2]
  simp only
  rw [h3]
theorem isEmptyP (s : ByteArray) : s.toList.isEmpty = decide (s.size = 0) := by
  rw [ByteArray.toList_eq]
  have h : s.data.toList.length = s.size := rfl
  cases hs : s.data.toList with
  | nil => rw [hs] at h; simp at h; rw [decide_eq_true h.symm]; rfl
  | cons x l => rw [hs] at h; simp at h; rw [decide_eq_false (by omega)]; rfl
/-! ### the reader's state: it lies in block D behind a transaction, its string in block B -/
abbrev restAt (B : Nat) : Value := .func (.func 74) #[] #[.pointer (some ⟨B, 0, none⟩)]
structure RT (D B : Nat) (c0 c1 c2 c3 : Value) (r : ByteArray) (b : Bool) (w : World) : Prop where
  blk : Bk D 47 #[c0, c1, c2, c3, takerAt B, restAt B, .bool b] w
  str : w.heap[B]? = some (.cells #[.string r] 9 (0, 0))
/-- Between two worlds nothing but the blocks D and B was written. -/
structure Two (D B : Nat) (w w' : World) : Prop where
  os : w'.os = w.os
  tape : w'.tape = w.tape
  output : w'.output = w.output
  size : w.heap.size ≤ w'.heap.size
  block : ∀ k, k < w.heap.size → k ≠ D → k ≠ B → w'.heap[k]? = w.heap[k]?
theorem Two.refl (D B : Nat) (w : World) : Two D B w w := ⟨rfl, rfl, rfl, Nat.le_refl _, fun _ _ _ _ => rfl⟩
theorem Two.trans {D B : Nat} {w a c : World} (h : Two D B w a) (k : Two D B a c) : Two D B w c :=
  ⟨k.os.trans h.os, k.tape.trans h.tape, k.output.trans h.output, Nat.le_trans h.size k.size, fun j hj h1 h2 => (k.block j (Nat.lt_of_lt_of_le hj h.size) h1 h2).trans (h.block j hj h1 h2)⟩
theorem Two.tk {D B : Nat} {w w' : World} {r : ByteArray} (h : Tk B w w' r) : Two D B w w' := ⟨h.kept.os, h.kept.tape, h.kept.output, h.kept.size, fun k hk _ h2 => h.kept.block k hk (by simpa using h2)⟩
theorem Two.below {D B : Nat} {w w' : World} (h : Below w.heap.size w w') : Two D B w w' := ⟨h.os, h.tape, h.output, h.size, fun k hk _ _ => h.block k hk⟩
theorem Two.set {D B : Nat} (w : World) (i : Nat) (u : Value) : Two D B w (w.setCell ⟨D, i, none⟩ u) := ⟨rfl, rfl, rfl, by simp [World.setCell], fun k _ h1 _ => Below.heap_setCell _ _ _ _ h1⟩
theorem Two.low {D B : Nat} {w w' : World} {k : Nat} (h : Two D B w w') (hk : k ≤ w.heap.size) (hD : k ≤ D) (hB : k ≤ B) : Below k w w' := ⟨h.os, h.tape, h.output, h.size, fun j hj => h.block j (by omega) (by omega) (by omega)⟩
theorem Two.drew {D B : Nat} {w w' : World} (h : Two D B w w') : Two D B w w'.drew := ⟨h.os, h.tape, h.output, h.size, h.block⟩
theorem own_two {D B : Nat} {w w' : World} {base k n : Nat} {e : TypeId} {v : Value} {xs : List Value} (h : w.ownsRow base e k v n xs) (h2 : Two D B w w') (hD : D < base) (hB : B < base) : w'.ownsRow base e k v n xs := by
  obtain ⟨hl, h⟩ := h
  refine ⟨hl, ?_⟩
  rcases h with h | ⟨g, cap, cur, he, hg, hh, h⟩
  · exact .inl h
  · exact .inr ⟨g, cap, cur, he, hg, (h2.block g (lt_of_block hh) (by omega) (by omega)).trans hh, h⟩
theorem OwnI.two {D B base : Nat} {w w' : World} {v : Value} {l : List (Tr.In × Value)} (h : OwnI base w v l) (h2 : Two D B w w') (hD : D < base) (hB : B < base) : OwnI base w' v l :=
  ⟨own_two h.1 h2 hD hB, fun x hx => ⟨(h.2 x hx).1, own_two (h.2 x hx).2 h2 hD hB⟩⟩
theorem OwnO.two {D B base : Nat} {w w' : World} {v : Value} {l : List Tr.Out} (h : OwnO base w v l) (h2 : Two D B w w') (hD : D < base) (hB : B < base) : OwnO base w' v l := own_two h h2 hD hB
theorem Bk.two {D B E : Nat} {t : TypeId} {cs : Array Value} {w w' : World} (h : Bk E t cs w) (h2 : Two D B w w') (hD : E ≠ D) (hB : E ≠ B) : Bk E t cs w' := ⟨(h2.block E h.lt hD hB).trans h.held⟩
section
variable {D B : Nat} {c0 c1 c2 c3 : Value} {r : ByteArray} {b : Bool} {w w' : World}
theorem RT.ne (h : RT D B c0 c1 c2 c3 r b w) : D ≠ B := fun e => by
  have h1 := h.blk.held
  rw [e, h.str] at h1
  cases h1
theorem RT.tk {r2 : ByteArray} (h : RT D B c0 c1 c2 c3 r b w) (k : Tk B w w' r2) : RT D B c0 c1 c2 c3 r2 b w' := ⟨⟨(k.kept.block D h.blk.lt (by simpa using h.ne)).trans h.blk.held⟩, k.held⟩
theorem RT.below (h : RT D B c0 c1 c2 c3 r b w) (k : Below w.heap.size w w') : RT D B c0 c1 c2 c3 r b w' := ⟨h.blk.below k, (k.block B (lt_of_block h.str)).trans h.str⟩
theorem RT.drew (h : RT D B c0 c1 c2 c3 r b w) : RT D B c0 c1 c2 c3 r b w.drew := ⟨h.blk.drew, h.str⟩
theorem RT.cells (h : RT D B c0 c1 c2 c3 r b w) : (w.cell? ⟨D, 0, none⟩ = some c0 ∧ w.cell? ⟨D, 1, none⟩ = some c1 ∧ w.cell? ⟨D, 2, none⟩ = some c2 ∧ w.cell? ⟨D, 3, none⟩ = some c3) ∧ w.cell? ⟨D, 4, none⟩ = some (takerAt B) ∧ w.cell? ⟨D, 5, none⟩ = some (restAt B) ∧ w.cell? ⟨D, 6, none⟩ = some (.bool b) :=
  ⟨⟨h.blk.cell 0, h.blk.cell 1, h.blk.cell 2, h.blk.cell 3⟩, h.blk.cell 4, h.blk.cell 5, h.blk.cell 6⟩
theorem RT.put0 (h : RT D B c0 c1 c2 c3 r b w) (u : Value) : RT D B u c1 c2 c3 r b (w.setCell ⟨D, 0, none⟩ u) := ⟨h.blk.set 0 u, (Below.heap_setCell _ _ _ _ (Ne.symm h.ne)).trans h.str⟩
theorem RT.put1 (h : RT D B c0 c1 c2 c3 r b w) (u : Value) : RT D B c0 u c2 c3 r b (w.setCell ⟨D, 1, none⟩ u) := ⟨h.blk.set 1 u, (Below.heap_setCell _ _ _ _ (Ne.symm h.ne)).trans h.str⟩
theorem RT.put2 (h : RT D B c0 c1 c2 c3 r b w) (u : Value) : RT D B c0 c1 u c3 r b (w.setCell ⟨D, 2, none⟩ u) := ⟨h.blk.set 2 u, (Below.heap_setCell _ _ _ _ (Ne.symm h.ne)).trans h.str⟩
theorem RT.put3 (h : RT D B c0 c1 c2 c3 r b w) (u : Value) : RT D B c0 c1 c2 u r b (w.setCell ⟨D, 3, none⟩ u) := ⟨h.blk.set 3 u, (Below.heap_setCell _ _ _ _ (Ne.symm h.ne)).trans h.str⟩
theorem RT.put6 (h : RT D B c0 c1 c2 c3 r b w) (x : Bool) : RT D B c0 c1 c2 c3 r x (w.setCell ⟨D, 6, none⟩ (.bool x)) := ⟨h.blk.set 6 (.bool x), (Below.heap_setCell _ _ _ _ (Ne.symm h.ne)).trans h.str⟩
end
/-- What a part of the program's reader leaves: p is what the part is, v its value. -/
def PartQ {α : Type} (D B : Nat) (c0 c1 c2 c3 : Value) (b : Bool) (p : Option (α × ByteArray)) (v : α) (w w' : World) : Prop :=
  ∃ r2 b2, RT D B c0 c1 c2 c3 r2 b2 w' ∧ Two D B w w' ∧ Hid ((b2 = true → b = true ∨ p = none) ∧ (b2 = false → b = false ∧ p = some (v, r2)))

set_option maxRecDepth 100000 in
set_option maxHeartbeats 1600000 in
theorem expect_any (D B : Nat) (c0 c1 c2 c3 : Value) (r : ByteArray) (b : Bool) (x : Bool) (w : World) (h : RT D B c0 c1 c2 c3 r b w) :
    Calls Tryz.prog 50 #[.pointer (some ⟨D, 4, none⟩), .bool x] w fun e w' => e = .returned (.tuple #[]) ∧ RT D B c0 c1 c2 c3 r (b || !x) w' ∧ Two D B w w' := by
  obtain ⟨_, _, _, h6⟩ := h.cells
  have f6 := h.blk.fro 6
  have hT := h.put6 true
  have hW : Two D B w (w.setCell ⟨D, 6, none⟩ (.bool true)) := Two.set w 6 _
  cases x
  · rw [show (b || !false) = true by simp]
    clear h
    go_enter Tryz.func50, Tryz.ntmps50
    go_wp2
    go_end0
    exact ⟨rfl, hT, hW⟩
  · rw [show (b || !true) = b by simp]
    go_enter Tryz.func50, Tryz.ntmps50
    go_wp2
    go_end0
    exact ⟨rfl, h, Two.refl _ _ _⟩

set_option maxRecDepth 100000 in
set_option maxHeartbeats 1600000 in
theorem pnumber_any (D B : Nat) (c0 c1 c2 c3 : Value) (r : ByteArray) (b : Bool) (w : World) (h : RT D B c0 c1 c2 c3 r b w) :
    Calls Tryz.prog 21 #[.pointer (some ⟨D, 4, none⟩)] w fun e w' => ∃ n : Int, e = .returned (.int .i64 n) ∧ (0 ≤ n ∧ n ≤ 4294967295) ∧ PartQ D B c0 c1 c2 c3 b (En.dec r) n w w' := by
  obtain ⟨_, h4, _, _⟩ := h.cells
  have hcon := takeNum_any B r w h.str
  have HH := Lib.hid h
  clear h
  cases hd : En.dec r with
  | none =>
    rw [En.decV_none hd] at hcon
    go_enter Tryz.func21, Tryz.ntmps21
    go_wp2_with fail
    refine hcon.mono ?_
    rintro e w1 ⟨rfl, r1, hT, _, _⟩
    have h1 := HH.out.tk hT
    have t1 : Two D B w w1 := Two.tk hT
    have hce := expect_any D B c0 c1 c2 c3 r1 b false w1 h1
    rw [show (b || !false) = true by simp] at hce
    clear hT hcon h4
    go_wp2_with fail
    refine hce.mono ?_
    rintro e w2 ⟨rfl, h2, t2⟩
    go_wp2
    go_ret
    exact ⟨0, rfl, by omega, r1, true, h2, t1.trans t2, Lib.hid ⟨fun _ => .inr rfl, fun h => by cases h⟩⟩
  | some y =>
    obtain ⟨n, r0⟩ := y
    have hbd := En.dec_bd hd
    rw [En.decV_some hd] at hcon
    go_enter Tryz.func21, Tryz.ntmps21
    go_wp2_with fail
    refine hcon.mono ?_
    rintro e w1 ⟨rfl, r1, hT, _, hr⟩
    have hr0 : r0 = r1 := hr (n, r0) hd
    subst hr0
    have h1 := HH.out.tk hT
    have t1 : Two D B w w1 := Two.tk hT
    have hce := expect_any D B c0 c1 c2 c3 r0 b true w1 h1
    rw [show (b || !true) = b by simp] at hce
    clear hT hcon h4 hr
    go_wp2_with fail
    refine hce.mono ?_
    rintro e w2 ⟨rfl, h2, t2⟩
    go_wp2
    go_ret
    exact ⟨n, rfl, ⟨hbd.1, hbd.2.1⟩, r0, b, h2, t1.trans t2, Lib.hid ⟨fun h => .inl h, fun h => ⟨h, rfl⟩⟩⟩

set_option maxRecDepth 100000 in
set_option maxHeartbeats 1600000 in
theorem ptext_any (D B : Nat) (c0 c1 c2 c3 : Value) (r : ByteArray) (b : Bool) (w : World) (h : RT D B c0 c1 c2 c3 r b w) :
    Calls Tryz.prog 22 #[.pointer (some ⟨D, 4, none⟩)] w fun e w' => ∃ s : ByteArray, e = .returned (.string s) ∧ PartQ D B c0 c1 c2 c3 b (En.decT r) s w w' := by
  obtain ⟨_, h4, _, _⟩ := h.cells
  have hcon := takeText_any B r w h.str
  have HH := Lib.hid h
  clear h
  cases hd : En.decT r with
  | none =>
    rw [En.decTV_none hd] at hcon
    go_enter Tryz.func22, Tryz.ntmps22
    go_wp2_with fail
    refine hcon.mono ?_
    rintro e w1 ⟨rfl, r1, hT, _, _⟩
    have h1 := HH.out.tk hT
    have t1 : Two D B w w1 := Two.tk hT
    have hce := expect_any D B c0 c1 c2 c3 r1 b false w1 h1
    rw [show (b || !false) = true by simp] at hce
    clear hT hcon h4
    go_wp2_with fail
    refine hce.mono ?_
    rintro e w2 ⟨rfl, h2, t2⟩
    go_wp2
    go_ret
    exact ⟨_, rfl, r1, true, h2, t1.trans t2, Lib.hid ⟨fun _ => .inr rfl, fun h => by cases h⟩⟩
  | some y =>
    obtain ⟨n, r0⟩ := y
    rw [En.decTV_some hd] at hcon
    go_enter Tryz.func22, Tryz.ntmps22
    go_wp2_with fail
    refine hcon.mono ?_
    rintro e w1 ⟨rfl, r1, hT, _, hr⟩
    have hr0 : r0 = r1 := hr (n, r0) hd
    subst hr0
    have h1 := HH.out.tk hT
    have t1 : Two D B w w1 := Two.tk hT
    have hce := expect_any D B c0 c1 c2 c3 r0 b true w1 h1
    rw [show (b || !true) = b by simp] at hce
    clear hT hcon h4 hr
    go_wp2_with fail
    refine hce.mono ?_
    rintro e w2 ⟨rfl, h2, t2⟩
    go_wp2
    go_ret
    exact ⟨n, rfl, r0, b, h2, t1.trans t2, Lib.hid ⟨fun h => .inl h, fun h => ⟨h, rfl⟩⟩⟩

set_option maxRecDepth 100000 in
set_option maxHeartbeats 1600000 in
theorem ptexts_any (D B : Nat) (c0 c1 c2 c3 : Value) (r : ByteArray) (b : Bool) (w : World) (h : RT D B c0 c1 c2 c3 r b w) :
    Calls Tryz.prog 48 #[.pointer (some ⟨D, 4, none⟩)] w fun e w' => ∃ (l : List ByteArray) (a : Option Addr) (c : Nat), e = .returned (.slice a l.length c) ∧ w'.ownsRow w.heap.size 9 1 (.slice a l.length c) l.length (l.map Value.string) ∧ PartQ D B c0 c1 c2 c3 b (Tr.wits 40 r) l w w' := by
  obtain ⟨_, h4, _, _⟩ := h.cells
  have hcon := takeTexts_any B r w h.str
  have HH := Lib.hid h
  have hDl := h.blk.lt
  have hBl := lt_of_block h.str
  rw [Tr.wits_decLt]
  clear h
  go_enter Tryz.func48, Tryz.ntmps48
  go_wp2_with fail
  refine hcon.mono ?_
  rintro e w1 (⟨hd, rfl, r1, hT⟩ | ⟨l, r1, a, c, hd, rfl, hT, hown⟩)
  · have HDN := Lib.hid hd
    have h1 := HH.out.tk hT
    have t1 : Two D B w w1 := Two.tk hT
    have hce := expect_any D B c0 c1 c2 c3 r1 b false w1 h1
    rw [show (b || !false) = true by simp] at hce
    clear hT hcon h4 hd
    go_wp2_with fail
    refine hce.mono ?_
    rintro e w2 ⟨rfl, h2, t2⟩
    go_wp2
    go_ret
    exact ⟨[], none, 0, rfl, World.ownsRow_nil _ _ _ _, r1, true, h2, t1.trans t2, Lib.hid ⟨fun _ => .inr HDN.out, fun h => by cases h⟩⟩
  · have HDN := Lib.hid hd
    have h1 := HH.out.tk hT
    have t1 : Two D B w w1 := Two.tk hT
    have HOW := Lib.hid hown
    have hce := expect_any D B c0 c1 c2 c3 r1 b true w1 h1
    rw [show (b || !true) = b by simp] at hce
    obtain ⟨q, hq⟩ : ∃ q, Hid (l.length = q) := ⟨_, Lib.hid rfl⟩
    rw [hq.out]
    clear hT hcon h4 hd hown
    go_wp2_with fail
    refine hce.mono ?_
    rintro e w2 ⟨rfl, h2, t2⟩
    have HOW2 := Lib.hid (own_two HOW.out t2 hDl hBl)
    go_wp2
    go_ret
    exact ⟨l, a, c, by rw [hq.out]; rfl, HOW2.out, r1, b, h2, t1.trans t2, Lib.hid ⟨fun h => .inl h, fun h => ⟨h, HDN.out⟩⟩⟩

set_option maxRecDepth 100000 in
set_option maxHeartbeats 1600000 in
theorem pdigest_any (D B : Nat) (c0 c1 c2 c3 : Value) (r : ByteArray) (b : Bool) (w : World) (h : RT D B c0 c1 c2 c3 r b w) :
    Calls Tryz.prog 47 #[.pointer (some ⟨D, 4, none⟩)] w fun e w' => ∃ d : Int, e = .returned (.int .i64 d) ∧ PartQ D B c0 c1 c2 c3 b (Tr.dig r) d w w' := by
  obtain ⟨_, h4, _, _⟩ := h.cells
  have HH := Lib.hid h
  have hstr := h.str
  clear h
  by_cases hs : (r.size : Int) < 4
  · have HD4 : Hid (Tr.dig r = none) := Lib.hid (by unfold Tr.dig; rw [if_pos (by omega)])
    have hce := expect_any D B c0 c1 c2 c3 r b false w HH.out
    rw [show (b || !false) = true by simp] at hce
    have hcb := fun W => implBytesDigest_no ⟨#[]⟩ W (by decide)
    go_enter Tryz.func47, Tryz.ntmps47
    go_wp2_with fail
    go_at_call 73
    refine (take_no B r 4 _ hs hstr).mono ?_
    rintro e w1 ⟨rfl, rfl⟩
    clear h4 hstr
    go_wp2_with fail
    refine hce.mono ?_
    rintro e w2 ⟨rfl, h2, t2⟩
    clear hce
    go_wp2_with fail
    refine (hcb _).mono ?_
    rintro e w3 ⟨rfl, hx⟩
    have h3 := h2.below hx
    have t3 : Two D B w2 w3 := Two.below hx
    clear hx
    go_wp2
    go_ret
    exact ⟨0, rfl, r, true, h3, t2.trans t3, Lib.hid ⟨fun _ => .inr HD4.out, fun h => by cases h⟩⟩
  · have HD4 : Hid (Tr.dig r = some (Dg.num (En.front r 4), En.rest r 4)) := Lib.hid (by unfold Tr.dig; rw [if_neg (by omega)])
    have hz : (En.front r 4).size = 4 := by
      have := En.size_front r 4 (by omega)
      exact this
    have hcb := fun W => implBytesDigest_ok (En.front r 4) W hz
    obtain ⟨F, HF⟩ : ∃ F, Hid (En.front r 4 = F) := ⟨_, Lib.hid rfl⟩
    obtain ⟨R, HR⟩ : ∃ F, Hid (En.rest r 4 = F) := ⟨_, Lib.hid rfl⟩
    have hct := take_yes B r 4 w (by omega) (by omega) hstr
    rw [HF.out, HR.out] at hct
    rw [HF.out, HR.out] at HD4
    simp only [HF.out] at hcb
    obtain ⟨d, hdd⟩ : ∃ d, Hid (Dg.num F = d) := ⟨_, Lib.hid rfl⟩
    simp only [hdd.out] at hcb
    rw [hdd.out] at HD4
    clear hz
    go_enter Tryz.func47, Tryz.ntmps47
    go_wp2_with fail
    go_at_call 73
    refine hct.mono ?_
    rintro e w1 ⟨rfl, hT⟩
    have h1 := HH.out.tk hT
    have t1 : Two D B w w1 := Two.tk hT
    have hce := expect_any D B c0 c1 c2 c3 R b true w1 h1
    rw [show (b || !true) = b by simp] at hce
    clear h4 hstr hT hct
    go_wp2_with fail
    refine hce.mono ?_
    rintro e w2 ⟨rfl, h2, t2⟩
    clear hce
    go_wp2_with fail
    refine (hcb _).mono ?_
    rintro e w3 ⟨rfl, hx⟩
    have h3 := h2.below hx
    have t3 : Two D B w2 w3 := Two.below hx
    clear hx
    go_wp2
    go_ret
    exact ⟨d, rfl, R, b, h3, (t1.trans t2).trans t3, Lib.hid ⟨fun h => .inl h, fun h => ⟨h, HD4.out⟩⟩⟩

set_option maxRecDepth 100000 in
set_option maxHeartbeats 1600000 in
theorem pcount_any (D B : Nat) (c0 c1 c2 c3 : Value) (r : ByteArray) (b : Bool) (w : World) (h : RT D B c0 c1 c2 c3 r b w) :
    Calls Tryz.prog 46 #[.pointer (some ⟨D, 4, none⟩), .int .i64 6] w fun e w' => ∃ n m : Int, e = .returned (.int .i64 m) ∧ (0 ≤ m ∧ m ≤ 6) ∧ Hid (n ≤ 6 → m = n) ∧ PartQ D B c0 c1 c2 c3 b (En.bel r 6) n w w' := by
  have hcn := pnumber_any D B c0 c1 c2 c3 r b w h
  clear h
  go_enter Tryz.func46, Tryz.ntmps46
  go_wp2_with fail
  refine hcn.mono ?_
  rintro e w1 ⟨n, rfl, hn, r1, b1, h1, t1, HB⟩
  by_cases h6 : n ≤ 6
  · have hv : decide (n ≤ 6) = true := decide_eq_true h6
    have hce := expect_any D B c0 c1 c2 c3 r1 b1 true w1 h1
    rw [show (b1 || !true) = b1 by simp] at hce
    have HQ : Hid ((b1 = true → b = true ∨ En.bel r 6 = none) ∧ (b1 = false → b = false ∧ En.bel r 6 = some (n, r1))) := Lib.hid ⟨fun hb => by
      rcases HB.out.1 hb with e | e
      · exact .inl e
      · exact .inr (En.bel_none e), fun hb => ⟨(HB.out.2 hb).1, En.bel_ok (HB.out.2 hb).2 (by simp only; omega)⟩⟩
    have hmin : min n 6 = n := by omega
    clear hcn
    go_wp2_with fail
    refine hce.mono ?_
    rintro e w2 ⟨rfl, h2, t2⟩
    go_wp2
    go_ret
    exact ⟨n, n, by first | rfl | (simp [hmin]), ⟨hn.1, h6⟩, Lib.hid (fun _ => rfl), r1, b1, h2, t1.trans t2, HQ⟩
  · have hv : decide (n ≤ 6) = false := decide_eq_false h6
    have hce := expect_any D B c0 c1 c2 c3 r1 b1 false w1 h1
    rw [show (b1 || !false) = true by simp] at hce
    have HQ : Hid (b = true ∨ En.bel r 6 = none) := Lib.hid (by
      cases hb : b1
      · exact .inr (En.bel_big (HB.out.2 hb).2 (by simp only; omega))
      · rcases HB.out.1 hb with e | e
        · exact .inl e
        · exact .inr (En.bel_none e))
    have hmin : min n 6 = 6 := by omega
    clear hcn
    go_wp2_with fail
    refine hce.mono ?_
    rintro e w2 ⟨rfl, h2, t2⟩
    go_wp2
    go_ret
    exact ⟨n, 6, by first | rfl | (simp [hmin]), by omega, Lib.hid (fun h => absurd h (by omega)), r1, true, h2, t1.trans t2, Lib.hid ⟨fun _ => HQ.out, fun h => by cases h⟩⟩

set_option maxRecDepth 100000 in
set_option maxHeartbeats 1600000 in
theorem pdone_any (D B : Nat) (c0 c1 c2 c3 : Value) (r : ByteArray) (b : Bool) (w : World) (h : RT D B c0 c1 c2 c3 r b w) :
    Calls Tryz.prog 23 #[.pointer (some ⟨D, 4, none⟩)] w fun e w' => e = .returned (.bool (!b && decide (r.size = 0))) ∧ w' = w := by
  obtain ⟨_, _, h5, h6⟩ := h.cells
  have hstr := h.str
  clear h
  cases b
  · have hq : (r.toList.isEmpty) = decide (r.size = 0) := isEmptyP r
    obtain ⟨v, hv⟩ : ∃ v, decide (r.size = 0) = v := ⟨_, rfl⟩
    rw [hv] at hq
    rw [show (!false && decide (r.size = 0)) = v by rw [hv]; rfl]
    clear hv
    go_enter Tryz.func23, Tryz.ntmps23
    go_wp2_with fail
    go_at_call 74
    refine (rest_any B r _ hstr).mono ?_
    rintro e w1 ⟨rfl, rfl⟩
    go_wp2
    go_ret
    exact ⟨rfl, rfl⟩
  · go_enter Tryz.func23, Tryz.ntmps23
    go_wp2
    go_ret
    exact ⟨rfl, rfl⟩

end Go.Proofs.YtcbpdibkindnfaaGreat
