/-
  The program's reader in a block of its own: its parts.
-/
import Derived.Test.YtohameoomlehlabTx
import Derived.Test.YtohameoomlehlabDg
import Derived.Test.YtohameoomlehlabT0
import Derived.Test.YtohameoomlehlabBk
import Derived.Test.YtohameoomlehlabOw
import Derived.Laws.EntriesVeiled
namespace Go.Proofs.Ytohameoomlehlab
open Go.RowKit
theorem isEmptyC (s : ByteArray) : s.toList.isEmpty = decide (s.size = 0) := by
  rw [ByteArray.toList_eq]
  have h : s.data.toList.length = s.size := rfl
  cases hs : s.data.toList with
  | nil => rw [hs] at h; simp at h; rw [decide_eq_true h.symm]; rfl
  | cons x l => rw [hs] at h; simp at h; rw [decide_eq_false (by omega)]; rfl
/-! ### the reader's state: it lies in block D, its string in block B -/
abbrev restAtC (B : Nat) : Value := .func (.func 99) #[] #[.pointer (some ⟨B, 0, none⟩)]
structure RD (D B : Nat) (r : ByteArray) (b : Bool) (w : World) : Prop where
  blk : Bk D 84 #[takerAt B, restAtC B, .bool b] w
  str : w.heap[B]? = some (.cells #[.string r] 9 (0, 0))
/-- Between two worlds nothing but the blocks D and B was written. -/
structure TwoC (D B : Nat) (w w' : World) : Prop where
  os : w'.os = w.os
  tape : w'.tape = w.tape
  output : w'.output = w.output
  size : w.heap.size ≤ w'.heap.size
  block : ∀ k, k < w.heap.size → k ≠ D → k ≠ B → w'.heap[k]? = w.heap[k]?
theorem TwoC.refl (D B : Nat) (w : World) : TwoC D B w w := ⟨rfl, rfl, rfl, Nat.le_refl _, fun _ _ _ _ => rfl⟩
theorem TwoC.trans {D B : Nat} {w a c : World} (h : TwoC D B w a) (k : TwoC D B a c) : TwoC D B w c :=
  ⟨k.os.trans h.os, k.tape.trans h.tape, k.output.trans h.output, Nat.le_trans h.size k.size, fun j hj h1 h2 => (k.block j (Nat.lt_of_lt_of_le hj h.size) h1 h2).trans (h.block j hj h1 h2)⟩
theorem TwoC.tk {D B : Nat} {w w' : World} {r : ByteArray} (h : Tk B w w' r) : TwoC D B w w' := ⟨h.kept.os, h.kept.tape, h.kept.output, h.kept.size, fun k hk _ h2 => h.kept.block k hk (by simpa using h2)⟩
theorem TwoC.below {D B : Nat} {w w' : World} (h : Below w.heap.size w w') : TwoC D B w w' := ⟨h.os, h.tape, h.output, h.size, fun k hk _ _ => h.block k hk⟩
theorem TwoC.set {D B : Nat} (w : World) (i : Nat) (u : Value) : TwoC D B w (w.setCell ⟨D, i, none⟩ u) := ⟨rfl, rfl, rfl, by simp [World.setCell], fun k _ h1 _ => Below.heap_setCell _ _ _ _ h1⟩
theorem TwoC.low {D B : Nat} {w w' : World} {k : Nat} (h : TwoC D B w w') (hk : k ≤ w.heap.size) (hD : k ≤ D) (hB : k ≤ B) : Below k w w' := ⟨h.os, h.tape, h.output, h.size, fun j hj => h.block j (by omega) (by omega) (by omega)⟩
theorem TwoC.drew {D B : Nat} {w w' : World} (h : TwoC D B w w') : TwoC D B w w'.drew := ⟨h.os, h.tape, h.output, h.size, h.block⟩
theorem TwoC.grown {D B : Nat} {w w1 w' : World} {own : Option Nat} (h : TwoC D B w w1) (hg : w1.grownBy w' own) (ho : ∀ j, own = some j → w.heap.size ≤ j) : TwoC D B w w' :=
  ⟨hg.os.trans h.os, hg.tape.trans h.tape, hg.output.trans h.output, Nat.le_trans h.size hg.size, fun k hk h1 h2 => (hg.block k (Nat.lt_of_lt_of_le hk h.size) (fun e => by have := ho k e.symm; omega)).trans (h.block k hk h1 h2)⟩
theorem TwoC.alloc {D B : Nat} {w w1 : World} (h : TwoC D B w w1) (o : Obj) : TwoC D B w (w1.alloc o) := h.trans (TwoC.below ((Below.refl _ _).alloc (Nat.le_refl _) o))
theorem own_twoC {D B : Nat} {w w' : World} {base k n : Nat} {e : TypeId} {v : Value} {xs : List Value} (h : w.ownsRow base e k v n xs) (h2 : TwoC D B w w') (hD : D < base) (hB : B < base) : w'.ownsRow base e k v n xs := by
  obtain ⟨hl, h⟩ := h
  refine ⟨hl, ?_⟩
  rcases h with h | ⟨g, cap, cur, he, hg, hh, h⟩
  · exact .inl h
  · exact .inr ⟨g, cap, cur, he, hg, (h2.block g (lt_of_block hh) (by omega) (by omega)).trans hh, h⟩
theorem Bk.twoC {D B E : Nat} {t : TypeId} {cs : Array Value} {w w' : World} (h : Bk E t cs w) (h2 : TwoC D B w w') (hD : E ≠ D) (hB : E ≠ B) : Bk E t cs w' := ⟨(h2.block E h.lt hD hB).trans h.held⟩
section
variable {D B : Nat} {r : ByteArray} {b : Bool} {w w' : World}
theorem RD.ne (h : RD D B r b w) : D ≠ B := fun e => by
  have h1 := h.blk.held
  rw [e, h.str] at h1
  cases h1
theorem RD.tk {r2 : ByteArray} (h : RD D B r b w) (k : Tk B w w' r2) : RD D B r2 b w' := ⟨⟨(k.kept.block D h.blk.lt (by simpa using h.ne)).trans h.blk.held⟩, k.held⟩
theorem RD.below (h : RD D B r b w) (k : Below w.heap.size w w') : RD D B r b w' := ⟨h.blk.below k, (k.block B (lt_of_block h.str)).trans h.str⟩
theorem RD.drew (h : RD D B r b w) : RD D B r b w.drew := ⟨h.blk.drew, h.str⟩
theorem RD.grown {base : Nat} {own : Option Nat} (h : RD D B r b w) (hg : w.grownBy w' own) (ho : ∀ j, own = some j → base ≤ j) (hD : D < base) (hB : B < base) : RD D B r b w' :=
  ⟨⟨(hg.block D h.blk.lt (fun e => by have := ho D e.symm; omega)).trans h.blk.held⟩, (hg.block B (lt_of_block h.str) (fun e => by have := ho B e.symm; omega)).trans h.str⟩
theorem RD.cells (h : RD D B r b w) : True ∧ w.cell? ⟨D, 0, none⟩ = some (takerAt B) ∧ w.cell? ⟨D, 1, none⟩ = some (restAtC B) ∧ w.cell? ⟨D, 2, none⟩ = some (.bool b) :=
  ⟨trivial, h.blk.cell 0, h.blk.cell 1, h.blk.cell 2⟩
theorem RD.put2 (h : RD D B r b w) (x : Bool) : RD D B r x (w.setCell ⟨D, 2, none⟩ (.bool x)) := ⟨h.blk.set 2 (.bool x), (Below.heap_setCell _ _ _ _ (Ne.symm h.ne)).trans h.str⟩
end
/-- What a part of the program's reader leaves: p is what the part is, v its value. -/
def PartR {α : Type} (D B : Nat) (b : Bool) (p : Option (α × ByteArray)) (v : α) (w w' : World) : Prop :=
  ∃ r2 b2, RD D B r2 b2 w' ∧ TwoC D B w w' ∧ Hid ((b2 = true → b = true ∨ p = none) ∧ (b2 = false → b = false ∧ p = some (v, r2)))

set_option maxRecDepth 100000 in
set_option maxHeartbeats 1600000 in
theorem expect_anyC (D B : Nat) (r : ByteArray) (b : Bool) (x : Bool) (w : World) (h : RD D B r b w) :
    Calls Try.prog 101 #[.pointer (some ⟨D, 0, none⟩), .bool x] w fun e w' => e = .returned (.tuple #[]) ∧ RD D B r (b || !x) w' ∧ TwoC D B w w' := by
  obtain ⟨_, _, _, h6⟩ := h.cells
  have f6 := h.blk.fro 2
  have hT := h.put2 true
  have hW : TwoC D B w (w.setCell ⟨D, 2, none⟩ (.bool true)) := TwoC.set w 2 _
  cases x
  · rw [show (b || !false) = true by simp]
    clear h
    go_enter Try.func101, Try.ntmps101
    go_wp2
    go_end0
    exact ⟨rfl, hT, hW⟩
  · rw [show (b || !true) = b by simp]
    go_enter Try.func101, Try.ntmps101
    go_wp2
    go_end0
    exact ⟨rfl, h, TwoC.refl _ _ _⟩

set_option maxRecDepth 100000 in
set_option maxHeartbeats 1600000 in
theorem pnumber_anyC (D B : Nat) (r : ByteArray) (b : Bool) (w : World) (h : RD D B r b w) :
    Calls Try.prog 100 #[.pointer (some ⟨D, 0, none⟩)] w fun e w' => ∃ n : Int, e = .returned (.int .i64 n) ∧ (0 ≤ n ∧ n ≤ 4294967295) ∧ PartR D B b (En.dec r) n w w' := by
  obtain ⟨_, h4, _, _⟩ := h.cells
  have hcon := takeNum_any B r w h.str
  have HH := Lib.hid h
  clear h
  cases hd : En.dec r with
  | none =>
    rw [En.decV_none hd] at hcon
    go_enter Try.func100, Try.ntmps100
    go_wp2_with fail
    refine hcon.mono ?_
    rintro e w1 ⟨rfl, r1, hT, _, _⟩
    have h1 := HH.out.tk hT
    have t1 : TwoC D B w w1 := TwoC.tk hT
    have hce := expect_anyC D B r1 b false w1 h1
    rw [show (b || !false) = true by simp] at hce
    clear hT hcon h4
    go_wp2_with fail
    refine hce.mono ?_
    rintro e w2 ⟨rfl, h2, t2⟩
    go_wp2
    go_ret
    exact ⟨0, rfl, by omega, r1, true, h2, t1.trans t2, Lib.hid ⟨fun _ => .inr rfl, fun h => by cases h⟩⟩
  | some y =>
    obtain ⟨n, r0⟩ := y
    have hbd := En.dec_bd hd
    rw [En.decV_some hd] at hcon
    go_enter Try.func100, Try.ntmps100
    go_wp2_with fail
    refine hcon.mono ?_
    rintro e w1 ⟨rfl, r1, hT, _, hr⟩
    have hr0 : r0 = r1 := hr (n, r0) hd
    subst hr0
    have h1 := HH.out.tk hT
    have t1 : TwoC D B w w1 := TwoC.tk hT
    have hce := expect_anyC D B r0 b true w1 h1
    rw [show (b || !true) = b by simp] at hce
    clear hT hcon h4 hr
    go_wp2_with fail
    refine hce.mono ?_
    rintro e w2 ⟨rfl, h2, t2⟩
    go_wp2
    go_ret
    exact ⟨n, rfl, ⟨hbd.1, hbd.2.1⟩, r0, b, h2, t1.trans t2, Lib.hid ⟨fun h => .inl h, fun h => ⟨h, rfl⟩⟩⟩

set_option maxRecDepth 100000 in
set_option maxHeartbeats 1600000 in
theorem ptext_anyC (D B : Nat) (r : ByteArray) (b : Bool) (w : World) (h : RD D B r b w) :
    Calls Try.prog 103 #[.pointer (some ⟨D, 0, none⟩)] w fun e w' => ∃ s : ByteArray, e = .returned (.string s) ∧ s.size ≤ 4000 ∧ PartR D B b (En.decT r) s w w' := by
  obtain ⟨_, h4, _, _⟩ := h.cells
  have hcon := takeText_any B r w h.str
  have HH := Lib.hid h
  clear h
  cases hd : En.decT r with
  | none =>
    rw [En.decTV_none hd] at hcon
    go_enter Try.func103, Try.ntmps103
    go_wp2_with fail
    refine hcon.mono ?_
    rintro e w1 ⟨rfl, r1, hT, _, _⟩
    have h1 := HH.out.tk hT
    have t1 : TwoC D B w w1 := TwoC.tk hT
    have hce := expect_anyC D B r1 b false w1 h1
    rw [show (b || !false) = true by simp] at hce
    clear hT hcon h4
    go_wp2_with fail
    refine hce.mono ?_
    rintro e w2 ⟨rfl, h2, t2⟩
    go_wp2
    go_ret
    exact ⟨_, rfl, by decide, r1, true, h2, t1.trans t2, Lib.hid ⟨fun _ => .inr rfl, fun h => by cases h⟩⟩
  | some y =>
    obtain ⟨n, r0⟩ := y
    have HZ4 : Hid (n.size ≤ 4000) := Lib.hid (En.text_decT hd).2
    rw [En.decTV_some hd] at hcon
    go_enter Try.func103, Try.ntmps103
    go_wp2_with fail
    refine hcon.mono ?_
    rintro e w1 ⟨rfl, r1, hT, _, hr⟩
    have hr0 : r0 = r1 := hr (n, r0) hd
    subst hr0
    have h1 := HH.out.tk hT
    have t1 : TwoC D B w w1 := TwoC.tk hT
    have hce := expect_anyC D B r0 b true w1 h1
    rw [show (b || !true) = b by simp] at hce
    clear hT hcon h4 hr
    go_wp2_with fail
    refine hce.mono ?_
    rintro e w2 ⟨rfl, h2, t2⟩
    go_wp2
    go_ret
    exact ⟨n, rfl, HZ4.out, r0, b, h2, t1.trans t2, Lib.hid ⟨fun h => .inl h, fun h => ⟨h, rfl⟩⟩⟩

set_option maxRecDepth 100000 in
set_option maxHeartbeats 1600000 in
theorem pdigest_anyC (D B : Nat) (r : ByteArray) (b : Bool) (w : World) (h : RD D B r b w) :
    Calls Try.prog 102 #[.pointer (some ⟨D, 0, none⟩)] w fun e w' => ∃ d : Int, e = .returned (.int .i64 d) ∧ PartR D B b (Tr.dig r) d w w' := by
  obtain ⟨_, h4, _, _⟩ := h.cells
  have HH := Lib.hid h
  have hstr := h.str
  clear h
  by_cases hs : (r.size : Int) < 4
  · have HD4 : Hid (Tr.dig r = none) := Lib.hid (by unfold Tr.dig; rw [if_pos (by omega)])
    have hce := expect_anyC D B r b false w HH.out
    rw [show (b || !false) = true by simp] at hce
    have hcb := fun W => implBytesDigest_no ⟨#[]⟩ W (by decide)
    go_enter Try.func102, Try.ntmps102
    go_wp2_with fail
    go_at_call 98
    refine (take_no B r 4 _ hs hstr).mono ?_
    rintro e w1 ⟨rfl, rfl⟩
    clear h4 hstr
    go_wp2_with fail
    refine hce.mono ?_
    rintro e w2 ⟨rfl, h2, t2⟩
    clear hce
    go_wp2_with fail
    refine (hcb _).mono ?_
    rintro e w3 ⟨rfl, hx⟩
    have h3 := h2.below hx
    have t3 : TwoC D B w2 w3 := TwoC.below hx
    clear hx
    go_wp2
    go_ret
    exact ⟨0, rfl, r, true, h3, t2.trans t3, Lib.hid ⟨fun _ => .inr HD4.out, fun h => by cases h⟩⟩
  · have HD4 : Hid (Tr.dig r = some (Dg.num (En.front r 4), En.rest r 4)) := Lib.hid (by unfold Tr.dig; rw [if_neg (by omega)])
    have hz : (En.front r 4).size = 4 := by
      have := En.size_front r 4 (by omega)
      exact this
    have hcb := fun W => implBytesDigest_ok (En.front r 4) W hz
    obtain ⟨F, HF⟩ : ∃ F, Hid (En.front r 4 = F) := ⟨_, Lib.hid rfl⟩
    obtain ⟨R, HR⟩ : ∃ F, Hid (En.rest r 4 = F) := ⟨_, Lib.hid rfl⟩
    have hct := take_yes B r 4 w (by omega) (by omega) hstr
    rw [HF.out, HR.out] at hct
    rw [HF.out, HR.out] at HD4
    simp only [HF.out] at hcb
    obtain ⟨d, hdd⟩ : ∃ d, Hid (Dg.num F = d) := ⟨_, Lib.hid rfl⟩
    simp only [hdd.out] at hcb
    rw [hdd.out] at HD4
    clear hz
    go_enter Try.func102, Try.ntmps102
    go_wp2_with fail
    go_at_call 98
    refine hct.mono ?_
    rintro e w1 ⟨rfl, hT⟩
    have h1 := HH.out.tk hT
    have t1 : TwoC D B w w1 := TwoC.tk hT
    have hce := expect_anyC D B R b true w1 h1
    rw [show (b || !true) = b by simp] at hce
    clear h4 hstr hT hct
    go_wp2_with fail
    refine hce.mono ?_
    rintro e w2 ⟨rfl, h2, t2⟩
    clear hce
    go_wp2_with fail
    refine (hcb _).mono ?_
    rintro e w3 ⟨rfl, hx⟩
    have h3 := h2.below hx
    have t3 : TwoC D B w2 w3 := TwoC.below hx
    clear hx
    go_wp2
    go_ret
    exact ⟨d, rfl, R, b, h3, (t1.trans t2).trans t3, Lib.hid ⟨fun h => .inl h, fun h => ⟨h, HD4.out⟩⟩⟩

set_option maxRecDepth 100000 in
set_option maxHeartbeats 1600000 in
theorem pcount80_anyC (D B : Nat) (r : ByteArray) (b : Bool) (w : World) (h : RD D B r b w) :
    Calls Try.prog 81 #[.pointer (some ⟨D, 0, none⟩), .int .i64 80] w fun e w' => ∃ n m : Int, e = .returned (.int .i64 m) ∧ (0 ≤ m ∧ m ≤ 80) ∧ Hid (n ≤ 80 → m = n) ∧ PartR D B b (En.bel r 80) n w w' := by
  have hcn := pnumber_anyC D B r b w h
  clear h
  go_enter Try.func81, Try.ntmps81
  go_wp2_with fail
  refine hcn.mono ?_
  rintro e w1 ⟨n, rfl, hn, r1, b1, h1, t1, HB⟩
  by_cases h6 : n ≤ 80
  · have hv : decide (n ≤ 80) = true := decide_eq_true h6
    have hce := expect_anyC D B r1 b1 true w1 h1
    rw [show (b1 || !true) = b1 by simp] at hce
    have HQ : Hid ((b1 = true → b = true ∨ En.bel r 80 = none) ∧ (b1 = false → b = false ∧ En.bel r 80 = some (n, r1))) := Lib.hid ⟨fun hb => by
      rcases HB.out.1 hb with e | e
      · exact .inl e
      · exact .inr (En.bel_none e), fun hb => ⟨(HB.out.2 hb).1, En.bel_ok (HB.out.2 hb).2 (by simp only; omega)⟩⟩
    have hmin : min n 80 = n := by omega
    clear hcn
    go_wp2_with fail
    refine hce.mono ?_
    rintro e w2 ⟨rfl, h2, t2⟩
    go_wp2
    go_ret
    exact ⟨n, n, by first | rfl | (simp [hmin]), ⟨hn.1, h6⟩, Lib.hid (fun _ => rfl), r1, b1, h2, t1.trans t2, HQ⟩
  · have hv : decide (n ≤ 80) = false := decide_eq_false h6
    have hce := expect_anyC D B r1 b1 false w1 h1
    rw [show (b1 || !false) = true by simp] at hce
    have HQ : Hid (b = true ∨ En.bel r 80 = none) := Lib.hid (by
      cases hb : b1
      · exact .inr (En.bel_big (HB.out.2 hb).2 (by simp only; omega))
      · rcases HB.out.1 hb with e | e
        · exact .inl e
        · exact .inr (En.bel_none e))
    have hmin : min n 80 = 80 := by omega
    clear hcn
    go_wp2_with fail
    refine hce.mono ?_
    rintro e w2 ⟨rfl, h2, t2⟩
    go_wp2
    go_ret
    exact ⟨n, 80, by first | rfl | (simp [hmin]), by omega, Lib.hid (fun h => absurd h (by omega)), r1, true, h2, t1.trans t2, Lib.hid ⟨fun _ => HQ.out, fun h => by cases h⟩⟩

set_option maxRecDepth 100000 in
set_option maxHeartbeats 1600000 in
theorem pcount1_anyC (D B : Nat) (r : ByteArray) (b : Bool) (w : World) (h : RD D B r b w) :
    Calls Try.prog 81 #[.pointer (some ⟨D, 0, none⟩), .int .i64 1] w fun e w' => ∃ n m : Int, e = .returned (.int .i64 m) ∧ (0 ≤ m ∧ m ≤ 1) ∧ Hid (n ≤ 1 → m = n) ∧ PartR D B b (En.bel r 1) n w w' := by
  have hcn := pnumber_anyC D B r b w h
  clear h
  go_enter Try.func81, Try.ntmps81
  go_wp2_with fail
  refine hcn.mono ?_
  rintro e w1 ⟨n, rfl, hn, r1, b1, h1, t1, HB⟩
  by_cases h6 : n ≤ 1
  · have hv : decide (n ≤ 1) = true := decide_eq_true h6
    have hce := expect_anyC D B r1 b1 true w1 h1
    rw [show (b1 || !true) = b1 by simp] at hce
    have HQ : Hid ((b1 = true → b = true ∨ En.bel r 1 = none) ∧ (b1 = false → b = false ∧ En.bel r 1 = some (n, r1))) := Lib.hid ⟨fun hb => by
      rcases HB.out.1 hb with e | e
      · exact .inl e
      · exact .inr (En.bel_none e), fun hb => ⟨(HB.out.2 hb).1, En.bel_ok (HB.out.2 hb).2 (by simp only; omega)⟩⟩
    have hmin : min n 1 = n := by omega
    clear hcn
    go_wp2_with fail
    refine hce.mono ?_
    rintro e w2 ⟨rfl, h2, t2⟩
    go_wp2
    go_ret
    exact ⟨n, n, by first | rfl | (simp [hmin]), ⟨hn.1, h6⟩, Lib.hid (fun _ => rfl), r1, b1, h2, t1.trans t2, HQ⟩
  · have hv : decide (n ≤ 1) = false := decide_eq_false h6
    have hce := expect_anyC D B r1 b1 false w1 h1
    rw [show (b1 || !false) = true by simp] at hce
    have HQ : Hid (b = true ∨ En.bel r 1 = none) := Lib.hid (by
      cases hb : b1
      · exact .inr (En.bel_big (HB.out.2 hb).2 (by simp only; omega))
      · rcases HB.out.1 hb with e | e
        · exact .inl e
        · exact .inr (En.bel_none e))
    have hmin : min n 1 = 1 := by omega
    clear hcn
    go_wp2_with fail
    refine hce.mono ?_
    rintro e w2 ⟨rfl, h2, t2⟩
    go_wp2
    go_ret
    exact ⟨n, 1, by first | rfl | (simp [hmin]), by omega, Lib.hid (fun h => absurd h (by omega)), r1, true, h2, t1.trans t2, Lib.hid ⟨fun _ => HQ.out, fun h => by cases h⟩⟩

set_option maxRecDepth 100000 in
set_option maxHeartbeats 1600000 in
theorem pdone_anyC (D B : Nat) (r : ByteArray) (b : Bool) (w : World) (h : RD D B r b w) :
    Calls Try.prog 58 #[.pointer (some ⟨D, 0, none⟩)] w fun e w' => e = .returned (.bool (!b && decide (r.size = 0))) ∧ w' = w := by
  obtain ⟨_, _, h5, h6⟩ := h.cells
  have hstr := h.str
  clear h
  cases b
  · have hq : (r.toList.isEmpty) = decide (r.size = 0) := isEmptyC r
    obtain ⟨v, hv⟩ : ∃ v, decide (r.size = 0) = v := ⟨_, rfl⟩
    rw [hv] at hq
    rw [show (!false && decide (r.size = 0)) = v by rw [hv]; rfl]
    clear hv
    go_enter Try.func58, Try.ntmps58
    go_wp2_with fail
    go_at_call 99
    refine (rest_any B r _ hstr).mono ?_
    rintro e w1 ⟨rfl, rfl⟩
    go_wp2
    go_ret
    exact ⟨rfl, rfl⟩
  · go_enter Try.func58, Try.ntmps58
    go_wp2
    go_ret
    exact ⟨rfl, rfl⟩

end Go.Proofs.Ytohameoomlehlab
