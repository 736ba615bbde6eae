/-
  Contracts of chapter 7: the participants gathered; of the program.
-/
import Derived.Test.YtabihimhenhnnaaSf
namespace Go.Proofs.Ytabihimhenhnnaa
open Go.RowKit

/-- What the loop of gather has laid. -/
def GI (g n : Nat) (u : Nat → Int) (ks : List Int) (okf : Nat → Bool) (w : World) (j : Nat) (W : World) : Prop :=
  ∃ (bs : Nat → Nat) (L : Array Value), Bk g 48 L W ∧ L.size = n ∧ (∀ i, i < j → L[i]? = some (.pointer (some ⟨bs i, 0, none⟩))) ∧ PB g j bs ∧ PC j bs (Pt.raw u ks) W ∧ (∀ i, i < j → okf i = true) ∧ Below w.heap.size w W
def Pt.zero : Array Value := #[.int .i64 0, .int .i64 0, .int .i64 0, .int .i64 0]
theorem GI.zero (n : Nat) (u : Nat → Int) (ks : List Int) (okf : Nat → Bool) (w : World) (v : Value) : GI w.heap.size n u ks okf w 0 (w.alloc (.cells (madeCells #[v] n) 48 (0, 0))) :=
  ⟨fun _ => 0, madeCells #[v] n, Bk.new _ _ _, size_madeCells _ _, fun i hi => absurd hi (by omega), ⟨fun i hi => absurd hi (by omega), fun i _ hi => absurd hi (by omega)⟩, fun i hi => absurd hi (by omega), fun i hi => absurd hi (by omega), below_alloc (Below.refl _ _) _⟩
/-- The world which the call of 'fill' meets. -/
def GI.at (g j : Nat) (W : World) : World := (W.setCell ⟨g, j, none⟩ (.pointer (some ⟨W.heap.size, 0, none⟩))).alloc (.cells Pt.zero 52 (0, 0))
theorem GI.step {g n : Nat} {u : Nat → Int} {ks : List Int} {okf : Nat → Bool} {w : World} {j : Nat} {W : World} (h : GI g n u ks okf w j W) (hj : j < n) (hg : w.heap.size ≤ g) :
    (W.cell? ⟨g, j, none⟩).isSome = true ∧ W.frozen? ⟨g, j, none⟩ = false ∧ g < W.heap.size ∧ Bk W.heap.size 52 Pt.zero (GI.at g j W) ∧ Below w.heap.size w (GI.at g j W)
      ∧ ∀ w', Bk W.heap.size 52 (Pt.raw u ks j) w' → okf j = true → Below W.heap.size (GI.at g j W) w' → GI g n u ks okf w (j + 1) w' := by
  obtain ⟨bs, L, h1, h2, h3, h4, h5, h6, h7⟩ := h
  have hgl := h1.lt
  have hsz : (W.setCell ⟨g, j, none⟩ (.pointer (some ⟨W.heap.size, 0, none⟩))).heap.size = W.heap.size := World.size_setCell ..
  have hb : Below w.heap.size w (GI.at g j W) := (h7.setCell (p := ⟨g, j, none⟩) hg _).alloc (by rw [hsz]; exact Nat.le_trans hg (Nat.le_of_lt hgl)) _
  refine ⟨by rw [h1.cell j, Array.getElem?_eq_getElem (by omega : j < L.size)]; rfl, h1.fro j, hgl, Bk.new' _ _ _ _ hsz.symm, hb, fun w' q1 q2 q3 => ?_⟩
  have hL1 := (h1.set j (.pointer (some ⟨W.heap.size, 0, none⟩))).alloc (.cells Pt.zero 52 (0, 0))
  obtain ⟨bs', p1, p2⟩ : ∃ bs' : Nat → Nat, (∀ i, i < j → bs' i = bs i) ∧ bs' j = W.heap.size := ⟨fun i => if i < j then bs i else W.heap.size, fun i hi => if_pos hi, if_neg (by omega)⟩
  refine ⟨bs', L.setIfInBounds j (.pointer (some ⟨W.heap.size, 0, none⟩)), ⟨(q3.block g hgl).trans hL1.held⟩, by simpa using h2, ?_, ⟨?_, ?_⟩, ?_, ?_, ?_⟩
  · intro i hi
    by_cases hij : i < j
    · rw [Array.getElem?_setIfInBounds_ne (by omega), p1 i hij]
      exact h3 i hij
    · have : i = j := by omega
      subst this
      rw [Array.getElem?_setIfInBounds_self_of_lt (by omega), p2]
  · intro i hi
    by_cases hij : i < j
    · rw [p1 i hij]; exact h4.1 i hij
    · rw [show i = j by omega, p2]; exact hgl
  · intro i i' hi hi' he
    by_cases hij : i < j
    · by_cases hij' : i' < j
      · rw [p1 i hij, p1 i' hij'] at he
        exact h4.2 i i' hij hij' he
      · rw [p1 i hij, show i' = j by omega, p2] at he
        have := (h5 i hij).lt
        omega
    · by_cases hij' : i' < j
      · rw [p1 i' hij', show i = j by omega, p2] at he
        have := (h5 i' hij').lt
        omega
      · omega
  · intro i hi
    by_cases hij : i < j
    · rw [p1 i hij]
      have hlt := (h5 i hij).lt
      have := h4.1 i hij
      exact ⟨(q3.block (bs i) hlt).trans (((h5 i hij).oset g j (.pointer (some ⟨W.heap.size, 0, none⟩)) (by omega)).alloc (.cells Pt.zero 52 (0, 0))).held⟩
    · rw [show i = j by omega, p2]
      exact q1
  · intro i hi
    by_cases hij : i < j
    · exact h6 i hij
    · rw [show i = j by omega]; exact q2
  · exact hb.trans (q3.mono (by omega))
theorem GI.done {g n : Nat} {u : Nat → Int} {ks : List Int} {okf : Nat → Bool} {w W : World} (h : GI g n u ks okf w n W) : ∃ bs, PL g n bs W ∧ PB g n bs ∧ PC n bs (Pt.raw u ks) W ∧ (∀ i, i < n → okf i = true) ∧ Below w.heap.size w W := by
  obtain ⟨bs, L, h1, h2, h3, h4, h5, h6, h7⟩ := h
  exact ⟨bs, ⟨L, h1, h2, h3⟩, h4, h5, h6, h7⟩
theorem GI.below {g n : Nat} {u : Nat → Int} {ks : List Int} {okf : Nat → Bool} {w : World} {j : Nat} {W : World} (h : GI g n u ks okf w j W) : Below w.heap.size w W := by
  obtain ⟨bs, L, h1, h2, h3, h4, h5, h6, h7⟩ := h
  exact h7
/-- What gather answers. -/
def GP (n : Nat) (u : Nat → Int) (ks : List Int) (okf : Nat → Bool) (w : World) (e : Ending) (w' : World) : Prop := Below w.heap.size w w' ∧
  ((e = .returned (.tuple #[.slice none 0 0, .bool false]) ∧ (Sd.room n = false ∨ ∃ j, j < n ∧ okf j = false)) ∨
   ∃ g bs, e = .returned (.tuple #[.slice (some ⟨g, 0, none⟩) n n, .bool true]) ∧ w.heap.size ≤ g ∧ (1 ≤ n ∧ n ≤ 8) ∧ (∀ j, j < n → okf j = true) ∧ PL g n bs w' ∧ PB g n bs ∧ PC n bs (Pt.wtd u ks) w')
theorem GP.no {n : Nat} {u : Nat → Int} {ks : List Int} {okf : Nat → Bool} {w w' : World} (h : Below w.heap.size w w') (h1 : Sd.room n = false ∨ ∃ j, j < n ∧ okf j = false) : GP n u ks okf w (.returned (.tuple #[.slice none 0 0, .bool false])) w' := ⟨h, Or.inl ⟨rfl, h1⟩⟩
set_option maxRecDepth 100000 in
set_option maxHeartbeats 1600000 in
theorem gather_any (f : Nat) (caps : Array Value) (n : Nat) (u : Nat → Int) (ks : List Int) (okf : Nat → Bool) (w : World) (hm : n ≤ 9223372036854775807) (hn : ks.length = n)
    (he : ∀ args w, (callFunc f args).run Try.prog w = .ok (.enter f args) w)
    (hk : ∀ j, j < n → okf j = true → 0 ≤ ks.getD j 0 ∧ ks.getD j 0 < 2147483579)
    (hfill : ∀ j b W, j < n → Below w.heap.size w W → w.heap.size ≤ b → Bk b 52 Pt.zero W → Calls Try.prog f (#[.int .i64 (j : Int), .pointer (some ⟨b, 0, none⟩)] ++ caps) W fun e w' => e = .returned (.bool (okf j)) ∧ Bk b 52 (Pt.raw u ks j) w' ∧ Below b W w') :
    Calls Try.prog 21 #[.int .i64 (n : Int), .func (.func f) #[] caps] w fun e w' => GP n u ks okf w e w' := by
  by_cases hr : ¬ (1 ≤ n ∧ n ≤ 8)
  · have hroom : Sd.room n = false := by unfold Sd.room; simp; omega
    have HR : Hid (Sd.room n = false ∨ ∃ j, j < n ∧ okf j = false) := Lib.hid (Or.inl hroom)
    clear hfill hk he hroom hn
    go_enter Try.func21, Try.ntmps21
    by_cases h0 : n < 1
    · go_wp2
      go_ret2
      exact GP.no (Below.refl _ _) HR.out
    · have h8 : 8 < n := by omega
      go_wp2
      go_ret2
      exact GP.no (Below.refl _ _) HR.out
  replace hr := Decidable.not_not.mp hr
  have hmk := run_make_row' (P := Try.prog) 45 48 (.pointer none) 8 Try.underlying45 (by kernel_rfl) rfl .i64 .i64 n (by omega) (by omega)
  go_enter Try.func21, Try.ntmps21
  go_wp2
  go_loopw [18] (fun i wr => ∃ k : Nat, k ≤ n ∧ i = .int .i64 (k : Int) ∧ Hid (GI w.heap.size n u ks okf w k wr))
    (fun i _ => n - (intOf i).toNat)
  case atStart => exact ⟨0, by omega, rfl, Lib.hid (GI.zero _ _ _ _ _ _)⟩
  case round =>
    obtain ⟨k, hk1, rfl, hI⟩ := hrel
    by_cases hlt : k < n
    · obtain ⟨s0, s2, s3, s4, s5, s6⟩ := GI.step hI.out hlt (Nat.le_refl _)
      have hcw := World.cell?_setCell_same' wr ⟨w.heap.size, k, none⟩ (.pointer (some ⟨wr.heap.size, 0, none⟩)) s0
      obtain ⟨v, s1⟩ := Option.isSome_iff_exists.1 s0
      clear s0
      have hcon := hfill k wr.heap.size _ hlt s5 (by omega) s4
      have HS6 := Lib.hid s6
      have HN : Hid (okf k = false → Sd.room n = false ∨ ∃ j, j < n ∧ okf j = false) := Lib.hid fun h => Or.inr ⟨k, hlt, h⟩
      have hal : Hid (((wr.setCell ⟨w.heap.size, k, none⟩ (.pointer (some ⟨wr.heap.size, 0, none⟩))).alloc (.cells #[.int .i64 0, .int .i64 0, .int .i64 0, .int .i64 0] 52 (0, 0))) = GI.at w.heap.size k wr) := Lib.hid rfl
      have HB5 := Lib.hid s5
      have hcw2 : ((wr.setCell ⟨w.heap.size, k, none⟩ (.pointer (some ⟨wr.heap.size, 0, none⟩))).alloc (.cells #[.int .i64 0, .int .i64 0, .int .i64 0, .int .i64 0] 52 (0, 0))).cell? ⟨w.heap.size, k, none⟩ = some (.pointer (some ⟨wr.heap.size, 0, none⟩)) := by
        rw [World.cell?_alloc_past _ _ _ (by rw [World.size_setCell]; exact s3)]; exact hcw
      have HO : Hid (∀ b, okf k = b → Hid (okf k = b)) := Lib.hid fun b h => Lib.hid h
      clear hfill hk s6 hI s5
      cases hok : okf k
      · have HF := HN.out hok
        rw [hok] at hcon
        clear HS6 HN HO hok
        go_wp2_with fail
        rw [hal.out]
        refine hcon.mono ?_
        rintro e2 w2 ⟨rfl, h1, h2⟩
        have hb2 := HB5.out.trans (h2.mono (Nat.le_of_lt (Nat.lt_of_le_of_lt (Nat.le_refl _) (Nat.lt_of_lt_of_le s3 (Nat.le_refl _)))))
        have HG := Lib.hid (GP.no (u := u) (ks := ks) hb2 HF)
        clear h1 h2 hb2 HF HB5 hal
        go_wp2
        go_ret2
        exact HG.out
      · have HF := HO.out true hok
        rw [hok] at hcon
        clear HN HO hok
        go_wp2_with fail
        rw [hal.out]
        refine hcon.mono ?_
        rintro e2 w2 ⟨rfl, h1, h2⟩
        have HI2 := Lib.hid (HS6.out w2 h1 HF.out h2)
        clear h1 h2 HF HB5 hal HS6
        go_wp2
        go_roundw
        case rel => exact ⟨k + 1, by omega, by simp, HI2⟩
        case measure => simp [intOf]; omega
    · have hk2 : k = n := by omega
      subst hk2
      obtain ⟨bs, q1, q2, q3, q4, q5⟩ := GI.done hI.out
      have hcon := weigh_any w.heap.size k bs u ks wr hn hr.2 q1 q2 q3 (fun j hj => hk j hj (q4 j hj))
      have HQ : Hid (∀ w', PC k bs (Pt.wtd u ks) w' → PL w.heap.size k bs w' → Below (w.heap.size + 1) wr w' → GP k u ks okf w (.returned (.tuple #[.slice (some ⟨w.heap.size, 0, none⟩) k k, .bool true])) w') :=
        Lib.hid fun w' p1 p2 p3 => ⟨q5.trans (p3.mono (by omega)), Or.inr ⟨_, bs, rfl, Nat.le_refl _, hr, q4, p2, q2, p1⟩⟩
      clear hfill hk hI q1 q2 q3 q4 q5
      go_wp2_with fail
      refine hcon.mono ?_
      rintro e2 w2 ⟨rfl, h1, h2, h3⟩
      have HG := Lib.hid (HQ.out w2 h1 h2 h3)
      clear h1 h2 h3 HQ
      go_wp2
      go_ret2
      exact HG.out
end Go.Proofs.Ytabihimhenhnnaa
