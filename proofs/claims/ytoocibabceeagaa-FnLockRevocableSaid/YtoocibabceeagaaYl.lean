/-
  Drawing for chapter 10: lists of operations.
-/
import Derived.Test.YtoocibabceeagaaYk
import Derived.Test.YtoocibabceeagaaOw
import Derived.Laws.OwnMore
import Derived.OwnWalk
namespace Go.Proofs.Ytoocibabceeagaa
open Go.RowKit

theorem four_newL (W : World) (a b c d : Value) (t : TypeId) (B : Nat) (hB : B = W.heap.size) : ∀ j u, [a, b, c, d][j]? = some u → (W.alloc (.cells #[a, b, c, d] t (0, 0))).cell? ((⟨B, 0, none⟩ : Addr).add j) = some u := by
  subst hB
  intro j u hj
  have hadr : (⟨W.heap.size, 0, none⟩ : Addr).add j = ⟨W.heap.size, j, none⟩ := by unfold Addr.add; split <;> simp_all
  rw [hadr]
  exact (World.cell?_alloc_mark W #[a, b, c, d] t (0, 0) j).trans (by simpa using hj)
theorem gtrans_ownL {w a b : World} {B : Nat} {v : Value} (h : w.grownBy a (some B)) (k : a.grownBy b v.ownBlock) (hv : ∀ j, v.ownBlock = some j → w.heap.size ≤ j) : w.grownBy b (some B) :=
  ⟨k.os.trans h.os, k.tape.trans h.tape, k.output.trans h.output, Nat.le_trans h.size k.size, fun j hj hr => (k.block j (Nat.lt_of_lt_of_le hj h.size) (fun e => by have := hv j e.symm; omega)).trans (h.block j hj hr)⟩
/-- Drawing operations: a new block of them. -/
def OpsQ (B : Nat) (a : Option Addr) (len cap : Nat) (zs : List Int) (p : Nat) (w : World) (e : Ending) (w' : World) : Prop :=
  ∃ (g n cap2 : Nat) (l : List Jo) (q : Nat), e = .returned (.slice (some ⟨g, 0, none⟩) n cap2) ∧ w.heap.size ≤ g ∧ OL w' (some ⟨g, 0, none⟩) n l ∧ n ≤ 100 ∧ p ≤ q ∧ q ≤ p + 1000 ∧ Dw B a len cap zs w' q ∧ w.grownBy w' (some B)
/-- Drawing operations. -/
def OpsR (B : Nat) (a : Option Addr) (len cap : Nat) (zs : List Int) (p : Nat) (w : World) (e : Ending) (w' : World) : Prop :=
  ∃ (a2 : Option Addr) (n cap2 : Nat) (l : List Jo) (q : Nat), e = .returned (.slice a2 n cap2) ∧ OL w' a2 n l ∧ n ≤ 100 ∧ p ≤ q ∧ q ≤ p + 1000 ∧ Dw B a len cap zs w' q ∧ w.grownBy w' (some B)
set_option maxRecDepth 100000 in
set_option maxHeartbeats 3200000 in
theorem l91Ops_own (B : Nat) (a : Option Addr) (len cap : Nat) (zs : List Int) (p : Nat) (w : World) (hp : p ≤ 600000000) (hD0 : Dw B a len cap zs w p) :
    Calls Try.prog 81 #[.pointer (some ⟨B, 0, none⟩)] w (OpsQ B a len cap zs p w) := by
  obtain ⟨i0, hi, hz0, hz1, hz2⟩ := info_parts info_op
  have hBlt := hD0.lt
  go_enter Try.func81, Try.ntmps81
  go_wp2_with fail
  refine (pick_any B a len cap zs _ 12 _ (by omega) (by omega) (hD0.alloc (.cells #[] 54 (0, 0)))).mono ?_
  rintro e w1 ⟨v1, rfl, a1, b1, hD1, hG1⟩
  have hown1 : w1.ownsRow w.heap.size 54 4 (.slice (some ⟨w.heap.size, 0, none⟩) 0 0) 0 (Jo.cells []) :=
    (World.ownsRow_made (e := 54) (size := 4) w #[] 0 (Nat.le_refl _) (by decide) rfl).kept hG1 (.inr (by simp [Value.ownBlock]; omega))
  have hG := gtrans (World.grownBy_alloc w (.cells #[] 54 (0, 0)) (some B)) hG1
  have HO := Lib.hid hown1
  obtain ⟨m, rfl⟩ := Int.eq_ofNat_of_zero_le a1
  clear hG1 hD0 hown1
  go_wp2
  go_loopw [3, 4, 5] (fun v o i wr => ∃ (k op n : Nat) (l : List Jo) (q g cp : Nat), i = .int .i64 (k : Int) ∧ o = .int .i64 (op : Int) ∧ v = .slice (some ⟨g, 0, none⟩) n cp ∧ n + k ≤ 12 ∧ op + k ≤ 12 ∧ Hid (wr.ownsRow w.heap.size 54 4 (.slice (some ⟨g, 0, none⟩) n cp) n (Jo.cells l)) ∧ p ≤ q ∧ q + 70 * k ≤ p + 900 ∧ Dw B a len cap zs wr q ∧ w.grownBy wr (some B))
    (fun _ _ i _ => (intOf i).toNat)
  case atStart => exact ⟨m, 0, 0, [], p + 1, w.heap.size, 0, rfl, rfl, rfl, by omega, by omega, HO, by omega, by omega, hD1, hG⟩
  case round =>
    obtain ⟨k, op, n, l, q, g, cp, rfl, rfl, rfl, hnk, hok, HOWN, q0, q1, hD, hGr⟩ := hrel
    clear hD1 hG HO
    by_cases hlt : 0 < k
    · obtain ⟨k, rfl⟩ : ∃ j, k = j + 1 := ⟨k - 1, by omega⟩
      have hne : ∀ b, (.slice (some ⟨g, 0, none⟩) n cp : Value).ownBlock = some b → w.heap.size ≤ b := fun b e => (HOWN.out.lt _ e).1
      have hneB : (.slice (some ⟨g, 0, none⟩) n cp : Value).ownBlock ≠ some B := fun e => by have := hne B e; omega
      go_wp2_with fail
      refine (l91Op_any B a len cap zs _ _ (by omega) hD).mono ?_
      rintro e w2 ⟨C, A, D, t, q2, rfl, C0, C1, ht, p2, r2, hD2', hG2'⟩
      have vX2 := Bk.new w2 54 #[.int .i64 C, .int .i64 A, .int .i64 D, .string t]
      have hD2 := hD2'.alloc (.cells #[.int .i64 C, .int .i64 A, .int .i64 D, .string t] 54 (0, 0))
      have hG2 := gb_allocK (gtrans hGr hG2') (.cells #[.int .i64 C, .int .i64 A, .int .i64 D, .string t] 54 (0, 0))
      have hown2 := (HOWN.out.kept hG2' (.inr hneB)).alloc (.cells #[.int .i64 C, .int .i64 A, .int .i64 D, .string t] 54 (0, 0))
      have hw2B : w2.heap.size ≠ B := by have := hD2'.lt; omega
      obtain ⟨y0, y1, y2, y3⟩ := Bk.c4 vX2
      clear hD hGr hD2' hG2' HOWN hne
      by_cases k8 : C = 8
      · subst k8
        go_wp2_with fail
        refine (pick_any B a len cap zs _ 20 _ (by omega) (by omega) hD2).mono ?_
        rintro e w3 ⟨x, rfl, x0, x1, hD3, hG3'⟩
        have vX3 := vX2.gbK hG3' hw2B
        have hown3 := hown2.kept hG3' (.inr hneB)
        have hG3 := gtrans hG2 hG3'
        obtain ⟨j0, j1, j2, j3⟩ := Bk.c4 vX3
        clear hD2 hG2 hown2 vX2 hG3' y0 y1 y2 y3 vX3
        by_cases hx : 0 < x
        · by_cases hop : op = 0
          · subst hop
            have HO3 := Lib.hid hown3
            clear hown3
            go_wp2
            go_roundw
            case rel => exact ⟨k, 0, n, l, _, g, cp, by simp, by simp, rfl, by omega, by omega, HO3, by omega, by omega, hD3, hG3⟩
            case measure => first | (simp [intOf]; done) | (simp [intOf]; omega)
          · obtain ⟨op, rfl⟩ : ∃ j, op = j + 1 := ⟨op - 1, by omega⟩
            have hqo : (((op + 1 : Nat) : Int) == 0) = false := by simpa using fun e : ((op + 1 : Nat) : Int) = 0 => by omega
            have S1 := Lib.hid (four_newL (w3) (.int .i64 8) (.int .i64 A) (.int .i64 D) (.string t) 54 (w3.heap.size) (by simp))
            have hbase := hG3.size
            go_wp2_with (at_builtin; refine wpList_append_own _ rfl _ _ 39 rfl w.heap.size 54 i0 (.agg #[.int .i64 0, .int .i64 0, .int .i64 0, .string ⟨#[]⟩]) 4 40 Try.underlying39 hi hz0 hz1 hz2 rfl (by decide) _ _ _ rfl (hown3.alloc (.cells #[.int .i64 8, .int .i64 A, .int .i64 D, .string t] 54 (0, 0))) ⟨w3.heap.size, 0, none⟩ 1 1 [.int .i64 8, .int .i64 A, .int .i64 D, .string t] rfl rfl ?_ ?_ ?_ ?_ ?_ ?_)
            any_goals first | exact S1.out | (intro u hu; simp at hu; rcases hu with rfl | rfl | rfl | rfl <;> rfl) | (unfold maxLen; omega) | omega | exact Nat.le_trans hbase (by simp) | (simp; omega)
            intro v' w5 hown5 hgrow _
            have hD5 := (hD3.alloc (.cells #[.int .i64 8, .int .i64 A, .int .i64 D, .string t] 54 (0, 0))).of (w' := w5) (fun k hk => hgrow.block k (by have := hD3.lt; simp at this ⊢; omega) (fun e => by have := (hown3.lt k e.symm).1; omega))
            have hG5 := gtrans_ownL (gb_allocK hG3 (.cells #[.int .i64 8, .int .i64 A, .int .i64 D, .string t] 54 (0, 0))) hgrow (fun j he => (hown3.lt j he).1)
            obtain ⟨g5, cp5, rfl⟩ : ∃ g cp, v' = .slice (some ⟨g, 0, none⟩) (n + 1) cp := by
              rcases hown5.2 with ⟨h, h0⟩ | ⟨g, cap, cur, h, _⟩
              · omega
              · exact ⟨_, _, h⟩
            have hown6 : Hid (w5.ownsRow w.heap.size 54 4 (.slice (some ⟨g5, 0, none⟩) (n + 1) cp5) (n + 1) (Jo.cells (l ++ [(⟨8, A, D, t⟩ : Jo)]))) := Lib.hid (by
              rw [Jo.cells_append]
              exact hown5)
            clear hown5 hgrow S1 hbase hown3 hD3 hG3
            go_wp2
            go_roundw
            case rel => exact ⟨k, op, n + 1, _, _, g5, cp5, by simp, by simp, rfl, by omega, by omega, hown6, by omega, by omega, hD5, hG5⟩
            case measure => first | (simp [intOf]; done) | (simp [intOf]; omega)
        · have hx0 : x = 0 := by omega
          subst hx0
          have S1 := Lib.hid (four_newL (w3) (.int .i64 8) (.int .i64 A) (.int .i64 D) (.string t) 54 (w3.heap.size) (by simp))
          have hbase := hG3.size
          go_wp2_with (at_builtin; refine wpList_append_own _ rfl _ _ 39 rfl w.heap.size 54 i0 (.agg #[.int .i64 0, .int .i64 0, .int .i64 0, .string ⟨#[]⟩]) 4 40 Try.underlying39 hi hz0 hz1 hz2 rfl (by decide) _ _ _ rfl (hown3.alloc (.cells #[.int .i64 8, .int .i64 A, .int .i64 D, .string t] 54 (0, 0))) ⟨w3.heap.size, 0, none⟩ 1 1 [.int .i64 8, .int .i64 A, .int .i64 D, .string t] rfl rfl ?_ ?_ ?_ ?_ ?_ ?_)
          any_goals first | exact S1.out | (intro u hu; simp at hu; rcases hu with rfl | rfl | rfl | rfl <;> rfl) | (unfold maxLen; omega) | omega | exact Nat.le_trans hbase (by simp) | (simp; omega)
          intro v' w5 hown5 hgrow _
          have hD5 := (hD3.alloc (.cells #[.int .i64 8, .int .i64 A, .int .i64 D, .string t] 54 (0, 0))).of (w' := w5) (fun k hk => hgrow.block k (by have := hD3.lt; simp at this ⊢; omega) (fun e => by have := (hown3.lt k e.symm).1; omega))
          have hG5 := gtrans_ownL (gb_allocK hG3 (.cells #[.int .i64 8, .int .i64 A, .int .i64 D, .string t] 54 (0, 0))) hgrow (fun j he => (hown3.lt j he).1)
          obtain ⟨g5, cp5, rfl⟩ : ∃ g cp, v' = .slice (some ⟨g, 0, none⟩) (n + 1) cp := by
            rcases hown5.2 with ⟨h, h0⟩ | ⟨g, cap, cur, h, _⟩
            · omega
            · exact ⟨_, _, h⟩
          have hown6 : Hid (w5.ownsRow w.heap.size 54 4 (.slice (some ⟨g5, 0, none⟩) (n + 1) cp5) (n + 1) (Jo.cells (l ++ [(⟨8, A, D, t⟩ : Jo)]))) := Lib.hid (by
            rw [Jo.cells_append]
            exact hown5)
          clear hown5 hgrow S1 hbase hown3 hD3 hG3
          go_wp2
          go_roundw
          case rel => exact ⟨k, op, n + 1, _, _, g5, cp5, by simp, by simp, rfl, by omega, by omega, hown6, by omega, by omega, hD5, hG5⟩
          case measure => first | (simp [intOf]; done) | (simp [intOf]; omega)
      have q8 : (C == 8) = false := by simpa using k8
      by_cases k7 : C = 7
      · subst k7
        have hlast : ∀ W : World, W.ownsRow w.heap.size 54 4 (.slice (some ⟨g, 0, none⟩) n cp) n (Jo.cells l) → ∀ m, n = m + 1 → ∃ c : Int, W.cell? ⟨g, m * 4, none⟩ = some (.int .i64 c) := fun W hW m hm => by
          obtain ⟨b, off, he, _, hc⟩ := (OL.own hW).2.2 (by omega)
          cases he
          have h0 := (hc m (by omega)).1
          rw [Nat.zero_add] at h0
          exact ⟨_, h0⟩
        have HLAST := Lib.hid (hlast _ hown2)
        clear hlast
        by_cases hop : op = 0
        · subst hop
          go_wp2_with fail
          refine (pick_any B a len cap zs _ 20 _ (by omega) (by omega) hD2).mono ?_
          rintro e w3 ⟨x, rfl, x0, x1, hD3, hG3'⟩
          have vX3 := vX2.gbK hG3' hw2B
          have hown3 := hown2.kept hG3' (.inr hneB)
          have hG3 := gtrans hG2 hG3'
          obtain ⟨j0, j1, j2, j3⟩ := Bk.c4 vX3
          clear hD2 hG2 hown2 vX2 hG3' y0 y1 y2 y3 vX3 HLAST
          by_cases hx : 0 < x
          · have HO3 := Lib.hid hown3
            clear hown3
            go_wp2
            go_roundw
            case rel => exact ⟨k, 0, n, l, _, g, cp, by simp, by simp, rfl, by omega, by omega, HO3, by omega, by omega, hD3, hG3⟩
            case measure => first | (simp [intOf]; done) | (simp [intOf]; omega)
          · have hx0 : x = 0 := by omega
            subst hx0
            have S1 := Lib.hid (four_newL (w3) (.int .i64 7) (.int .i64 A) (.int .i64 D) (.string t) 54 (w3.heap.size) (by simp))
            have hbase := hG3.size
            go_wp2_with (at_builtin; refine wpList_append_own _ rfl _ _ 39 rfl w.heap.size 54 i0 (.agg #[.int .i64 0, .int .i64 0, .int .i64 0, .string ⟨#[]⟩]) 4 40 Try.underlying39 hi hz0 hz1 hz2 rfl (by decide) _ _ _ rfl (hown3.alloc (.cells #[.int .i64 7, .int .i64 A, .int .i64 D, .string t] 54 (0, 0))) ⟨w3.heap.size, 0, none⟩ 1 1 [.int .i64 7, .int .i64 A, .int .i64 D, .string t] rfl rfl ?_ ?_ ?_ ?_ ?_ ?_)
            any_goals first | exact S1.out | (intro u hu; simp at hu; rcases hu with rfl | rfl | rfl | rfl <;> rfl) | (unfold maxLen; omega) | omega | exact Nat.le_trans hbase (by simp) | (simp; omega)
            intro v' w5 hown5 hgrow _
            have hD5 := (hD3.alloc (.cells #[.int .i64 7, .int .i64 A, .int .i64 D, .string t] 54 (0, 0))).of (w' := w5) (fun k hk => hgrow.block k (by have := hD3.lt; simp at this ⊢; omega) (fun e => by have := (hown3.lt k e.symm).1; omega))
            have hG5 := gtrans_ownL (gb_allocK hG3 (.cells #[.int .i64 7, .int .i64 A, .int .i64 D, .string t] 54 (0, 0))) hgrow (fun j he => (hown3.lt j he).1)
            obtain ⟨g5, cp5, rfl⟩ : ∃ g cp, v' = .slice (some ⟨g, 0, none⟩) (n + 1) cp := by
              rcases hown5.2 with ⟨h, h0⟩ | ⟨g, cap, cur, h, _⟩
              · omega
              · exact ⟨_, _, h⟩
            have hown6 : Hid (w5.ownsRow w.heap.size 54 4 (.slice (some ⟨g5, 0, none⟩) (n + 1) cp5) (n + 1) (Jo.cells (l ++ [(⟨7, A, D, t⟩ : Jo)]))) := Lib.hid (by
              rw [Jo.cells_append]
              exact hown5)
            clear hown5 hgrow S1 hbase hown3 hD3 hG3
            go_wp2
            go_roundw
            case rel => exact ⟨k, 0, n + 1, _, _, g5, cp5, by simp, by simp, rfl, by omega, by omega, hown6, by omega, by omega, hD5, hG5⟩
            case measure => first | (simp [intOf]; done) | (simp [intOf]; omega)
        have hqo : ((op : Int) == 0) = false := by simpa using hop
        by_cases hn0 : n = 0
        · subst hn0
          clear vX2 HLAST
          have S1 := Lib.hid (four_newL (w2.alloc (.cells #[.int .i64 7, .int .i64 A, .int .i64 D, .string t] 54 (0, 0))) (.int .i64 7) (.int .i64 A) (.int .i64 D) (.string t) 54 (w2.heap.size + 1) (by simp))
          have hbase := hG2.size
          go_wp2_with (at_builtin; refine wpList_append_own _ rfl _ _ 39 rfl w.heap.size 54 i0 (.agg #[.int .i64 0, .int .i64 0, .int .i64 0, .string ⟨#[]⟩]) 4 40 Try.underlying39 hi hz0 hz1 hz2 rfl (by decide) _ _ _ rfl (hown2.alloc (.cells #[.int .i64 7, .int .i64 A, .int .i64 D, .string t] 54 (0, 0))) ⟨w2.heap.size + 1, 0, none⟩ 1 1 [.int .i64 7, .int .i64 A, .int .i64 D, .string t] rfl rfl ?_ ?_ ?_ ?_ ?_ ?_)
          any_goals first | exact S1.out | (intro u hu; simp at hu; rcases hu with rfl | rfl | rfl | rfl <;> rfl) | (unfold maxLen; omega) | omega | exact Nat.le_trans hbase (by simp) | (simp; omega)
          intro v' w5 hown5 hgrow _
          have hD5 := (hD2.alloc (.cells #[.int .i64 7, .int .i64 A, .int .i64 D, .string t] 54 (0, 0))).of (w' := w5) (fun k hk => hgrow.block k (by have := hD2.lt; simp at this ⊢; omega) (fun e => by have := (hown2.lt k e.symm).1; omega))
          have hG5 := gtrans_ownL (gb_allocK hG2 (.cells #[.int .i64 7, .int .i64 A, .int .i64 D, .string t] 54 (0, 0))) hgrow (fun j he => (hown2.lt j he).1)
          obtain ⟨g5, cp5, rfl⟩ : ∃ g cp, v' = .slice (some ⟨g, 0, none⟩) (0 + 1) cp := by
            rcases hown5.2 with ⟨h, h0⟩ | ⟨g, cap, cur, h, _⟩
            · omega
            · exact ⟨_, _, h⟩
          have hown6 : Hid (w5.ownsRow w.heap.size 54 4 (.slice (some ⟨g5, 0, none⟩) (0 + 1) cp5) (0 + 1) (Jo.cells (l ++ [(⟨7, A, D, t⟩ : Jo)]))) := Lib.hid (by
            rw [Jo.cells_append]
            exact hown5)
          clear hown5 hgrow S1 hbase hown2 hD2 hG2
          go_wp2
          go_roundw
          case rel => exact ⟨k, op, 1, _, _, g5, cp5, by simp, by simp, rfl, by omega, by omega, hown6, by omega, by omega, hD5, hG5⟩
          case measure => first | (simp [intOf]; done) | (simp [intOf]; omega)
        obtain ⟨n, rfl⟩ : ∃ j, n = j + 1 := ⟨n - 1, by omega⟩
        obtain ⟨lc, hlc⟩ := HLAST.out n rfl
        have hwn : IntKind.i64.wrap (((n + 1 : Nat) : Int) - 1) = (n : Int) := by rw [IntWalk.i64_in _ (by omega)]; omega
        clear HLAST
        by_cases hl7 : lc = 7
        · subst hl7
          go_wp2_with fail
          refine (pick_any B a len cap zs _ 20 _ (by omega) (by omega) hD2).mono ?_
          rintro e w3 ⟨x, rfl, x0, x1, hD3, hG3'⟩
          have vX3 := vX2.gbK hG3' hw2B
          have hown3 := hown2.kept hG3' (.inr hneB)
          have hG3 := gtrans hG2 hG3'
          obtain ⟨j0, j1, j2, j3⟩ := Bk.c4 vX3
          clear hD2 hG2 hown2 vX2 hG3' y0 y1 y2 y3 vX3 hlc
          by_cases hx : 0 < x
          · have HO3 := Lib.hid hown3
            clear hown3
            go_wp2
            go_roundw
            case rel => exact ⟨k, op, n + 1, l, _, g, cp, by simp, by simp, rfl, by omega, by omega, HO3, by omega, by omega, hD3, hG3⟩
            case measure => first | (simp [intOf]; done) | (simp [intOf]; omega)
          · have hx0 : x = 0 := by omega
            subst hx0
            have S1 := Lib.hid (four_newL (w3) (.int .i64 7) (.int .i64 A) (.int .i64 D) (.string t) 54 (w3.heap.size) (by simp))
            have hbase := hG3.size
            go_wp2_with (at_builtin; refine wpList_append_own _ rfl _ _ 39 rfl w.heap.size 54 i0 (.agg #[.int .i64 0, .int .i64 0, .int .i64 0, .string ⟨#[]⟩]) 4 40 Try.underlying39 hi hz0 hz1 hz2 rfl (by decide) _ _ _ rfl (hown3.alloc (.cells #[.int .i64 7, .int .i64 A, .int .i64 D, .string t] 54 (0, 0))) ⟨w3.heap.size, 0, none⟩ 1 1 [.int .i64 7, .int .i64 A, .int .i64 D, .string t] rfl rfl ?_ ?_ ?_ ?_ ?_ ?_)
            any_goals first | exact S1.out | (intro u hu; simp at hu; rcases hu with rfl | rfl | rfl | rfl <;> rfl) | (unfold maxLen; omega) | omega | exact Nat.le_trans hbase (by simp) | (simp; omega)
            intro v' w5 hown5 hgrow _
            have hD5 := (hD3.alloc (.cells #[.int .i64 7, .int .i64 A, .int .i64 D, .string t] 54 (0, 0))).of (w' := w5) (fun k hk => hgrow.block k (by have := hD3.lt; simp at this ⊢; omega) (fun e => by have := (hown3.lt k e.symm).1; omega))
            have hG5 := gtrans_ownL (gb_allocK hG3 (.cells #[.int .i64 7, .int .i64 A, .int .i64 D, .string t] 54 (0, 0))) hgrow (fun j he => (hown3.lt j he).1)
            obtain ⟨g5, cp5, rfl⟩ : ∃ g cp, v' = .slice (some ⟨g, 0, none⟩) (n + 1 + 1) cp := by
              rcases hown5.2 with ⟨h, h0⟩ | ⟨g, cap, cur, h, _⟩
              · omega
              · exact ⟨_, _, h⟩
            have hown6 : Hid (w5.ownsRow w.heap.size 54 4 (.slice (some ⟨g5, 0, none⟩) (n + 1 + 1) cp5) (n + 1 + 1) (Jo.cells (l ++ [(⟨7, A, D, t⟩ : Jo)]))) := Lib.hid (by
              rw [Jo.cells_append]
              exact hown5)
            clear hown5 hgrow S1 hbase hown3 hD3 hG3
            go_wp2
            go_roundw
            case rel => exact ⟨k, op, n + 1 + 1, _, _, g5, cp5, by simp, by simp, rfl, by omega, by omega, hown6, by omega, by omega, hD5, hG5⟩
            case measure => first | (simp [intOf]; done) | (simp [intOf]; omega)
        · have hq7 : (lc == 7) = false := by simpa using hl7
          clear vX2
          have S1 := Lib.hid (four_newL (w2.alloc (.cells #[.int .i64 7, .int .i64 A, .int .i64 D, .string t] 54 (0, 0))) (.int .i64 7) (.int .i64 A) (.int .i64 D) (.string t) 54 (w2.heap.size + 1) (by simp))
          have hbase := hG2.size
          go_wp2_with (at_builtin; refine wpList_append_own _ rfl _ _ 39 rfl w.heap.size 54 i0 (.agg #[.int .i64 0, .int .i64 0, .int .i64 0, .string ⟨#[]⟩]) 4 40 Try.underlying39 hi hz0 hz1 hz2 rfl (by decide) _ _ _ rfl (hown2.alloc (.cells #[.int .i64 7, .int .i64 A, .int .i64 D, .string t] 54 (0, 0))) ⟨w2.heap.size + 1, 0, none⟩ 1 1 [.int .i64 7, .int .i64 A, .int .i64 D, .string t] rfl rfl ?_ ?_ ?_ ?_ ?_ ?_)
          any_goals first | exact S1.out | (intro u hu; simp at hu; rcases hu with rfl | rfl | rfl | rfl <;> rfl) | (unfold maxLen; omega) | omega | exact Nat.le_trans hbase (by simp) | (simp; omega)
          intro v' w5 hown5 hgrow _
          have hD5 := (hD2.alloc (.cells #[.int .i64 7, .int .i64 A, .int .i64 D, .string t] 54 (0, 0))).of (w' := w5) (fun k hk => hgrow.block k (by have := hD2.lt; simp at this ⊢; omega) (fun e => by have := (hown2.lt k e.symm).1; omega))
          have hG5 := gtrans_ownL (gb_allocK hG2 (.cells #[.int .i64 7, .int .i64 A, .int .i64 D, .string t] 54 (0, 0))) hgrow (fun j he => (hown2.lt j he).1)
          obtain ⟨g5, cp5, rfl⟩ : ∃ g cp, v' = .slice (some ⟨g, 0, none⟩) (n + 1 + 1) cp := by
            rcases hown5.2 with ⟨h, h0⟩ | ⟨g, cap, cur, h, _⟩
            · omega
            · exact ⟨_, _, h⟩
          have hown6 : Hid (w5.ownsRow w.heap.size 54 4 (.slice (some ⟨g5, 0, none⟩) (n + 1 + 1) cp5) (n + 1 + 1) (Jo.cells (l ++ [(⟨7, A, D, t⟩ : Jo)]))) := Lib.hid (by
            rw [Jo.cells_append]
            exact hown5)
          clear hown5 hgrow S1 hbase hown2 hD2 hG2
          go_wp2
          go_roundw
          case rel => exact ⟨k, op, n + 1 + 1, _, _, g5, cp5, by simp, by simp, rfl, by omega, by omega, hown6, by omega, by omega, hD5, hG5⟩
          case measure => first | (simp [intOf]; done) | (simp [intOf]; omega)
      have q7 : (C == 7) = false := by simpa using k7
      by_cases k6 : C = 6
      · subst k6
        clear vX2
        have S1 := Lib.hid (four_newL (w2.alloc (.cells #[.int .i64 6, .int .i64 A, .int .i64 D, .string t] 54 (0, 0))) (.int .i64 6) (.int .i64 A) (.int .i64 D) (.string t) 54 (w2.heap.size + 1) (by simp))
        have hbase := hG2.size
        go_wp2_with (at_builtin; refine wpList_append_own _ rfl _ _ 39 rfl w.heap.size 54 i0 (.agg #[.int .i64 0, .int .i64 0, .int .i64 0, .string ⟨#[]⟩]) 4 40 Try.underlying39 hi hz0 hz1 hz2 rfl (by decide) _ _ _ rfl (hown2.alloc (.cells #[.int .i64 6, .int .i64 A, .int .i64 D, .string t] 54 (0, 0))) ⟨w2.heap.size + 1, 0, none⟩ 1 1 [.int .i64 6, .int .i64 A, .int .i64 D, .string t] rfl rfl ?_ ?_ ?_ ?_ ?_ ?_)
        any_goals first | exact S1.out | (intro u hu; simp at hu; rcases hu with rfl | rfl | rfl | rfl <;> rfl) | (unfold maxLen; omega) | omega | exact Nat.le_trans hbase (by simp) | (simp; omega)
        intro v' w5 hown5 hgrow _
        have hD5 := (hD2.alloc (.cells #[.int .i64 6, .int .i64 A, .int .i64 D, .string t] 54 (0, 0))).of (w' := w5) (fun k hk => hgrow.block k (by have := hD2.lt; simp at this ⊢; omega) (fun e => by have := (hown2.lt k e.symm).1; omega))
        have hG5 := gtrans_ownL (gb_allocK hG2 (.cells #[.int .i64 6, .int .i64 A, .int .i64 D, .string t] 54 (0, 0))) hgrow (fun j he => (hown2.lt j he).1)
        obtain ⟨g5, cp5, rfl⟩ : ∃ g cp, v' = .slice (some ⟨g, 0, none⟩) (n + 1) cp := by
          rcases hown5.2 with ⟨h, h0⟩ | ⟨g, cap, cur, h, _⟩
          · omega
          · exact ⟨_, _, h⟩
        have hown6 : Hid (w5.ownsRow w.heap.size 54 4 (.slice (some ⟨g5, 0, none⟩) (n + 1) cp5) (n + 1) (Jo.cells (l ++ [(⟨6, A, D, t⟩ : Jo)]))) := Lib.hid (by
          rw [Jo.cells_append]
          exact hown5)
        clear hown5 hgrow S1 hbase hown2 hD2 hG2
        go_wp2
        go_roundw
        case rel => exact ⟨k, op + 1, n + 1, _, _, g5, cp5, by simp, by simp, rfl, by omega, by omega, hown6, by omega, by omega, hD5, hG5⟩
        case measure => first | (simp [intOf]; done) | (simp [intOf]; omega)
      have q6 : (C == 6) = false := by simpa using k6
      clear vX2
      have S1 := Lib.hid (four_newL (w2.alloc (.cells #[.int .i64 C, .int .i64 A, .int .i64 D, .string t] 54 (0, 0))) (.int .i64 C) (.int .i64 A) (.int .i64 D) (.string t) 54 (w2.heap.size + 1) (by simp))
      have hbase := hG2.size
      go_wp2_with (at_builtin; refine wpList_append_own _ rfl _ _ 39 rfl w.heap.size 54 i0 (.agg #[.int .i64 0, .int .i64 0, .int .i64 0, .string ⟨#[]⟩]) 4 40 Try.underlying39 hi hz0 hz1 hz2 rfl (by decide) _ _ _ rfl (hown2.alloc (.cells #[.int .i64 C, .int .i64 A, .int .i64 D, .string t] 54 (0, 0))) ⟨w2.heap.size + 1, 0, none⟩ 1 1 [.int .i64 C, .int .i64 A, .int .i64 D, .string t] rfl rfl ?_ ?_ ?_ ?_ ?_ ?_)
      any_goals first | exact S1.out | (intro u hu; simp at hu; rcases hu with rfl | rfl | rfl | rfl <;> rfl) | (unfold maxLen; omega) | omega | exact Nat.le_trans hbase (by simp) | (simp; omega)
      intro v' w5 hown5 hgrow _
      have hD5 := (hD2.alloc (.cells #[.int .i64 C, .int .i64 A, .int .i64 D, .string t] 54 (0, 0))).of (w' := w5) (fun k hk => hgrow.block k (by have := hD2.lt; simp at this ⊢; omega) (fun e => by have := (hown2.lt k e.symm).1; omega))
      have hG5 := gtrans_ownL (gb_allocK hG2 (.cells #[.int .i64 C, .int .i64 A, .int .i64 D, .string t] 54 (0, 0))) hgrow (fun j he => (hown2.lt j he).1)
      obtain ⟨g5, cp5, rfl⟩ : ∃ g cp, v' = .slice (some ⟨g, 0, none⟩) (n + 1) cp := by
        rcases hown5.2 with ⟨h, h0⟩ | ⟨g, cap, cur, h, _⟩
        · omega
        · exact ⟨_, _, h⟩
      have hown6 : Hid (w5.ownsRow w.heap.size 54 4 (.slice (some ⟨g5, 0, none⟩) (n + 1) cp5) (n + 1) (Jo.cells (l ++ [(⟨C, A, D, t⟩ : Jo)]))) := Lib.hid (by
        rw [Jo.cells_append]
        exact hown5)
      clear hown5 hgrow S1 hbase hown2 hD2 hG2
      go_wp2
      go_roundw
      case rel => exact ⟨k, op, n + 1, _, _, g5, cp5, by simp, by simp, rfl, by omega, by omega, hown6, by omega, by omega, hD5, hG5⟩
      case measure => first | (simp [intOf]; done) | (simp [intOf]; omega)
    · have hq0 : ¬ (0 : Int) < (k : Int) := by omega
      have HQ := Lib.hid (And.intro q0 q1)
      have HNO := Lib.hid (And.intro hnk hok)
      clear hlt q0 q1 hnk hok
      have HG := Lib.hid hGr
      have HDD := Lib.hid hD
      clear hGr hD
      go_wp2
      go_loopw [3, 4] (fun v o wr => ∃ (op n : Nat) (l : List Jo) (g cp : Nat), o = .int .i64 (op : Int) ∧ v = .slice (some ⟨g, 0, none⟩) n cp ∧ n + op ≤ 24 ∧ Hid (wr.ownsRow w.heap.size 54 4 (.slice (some ⟨g, 0, none⟩) n cp) n (Jo.cells l)) ∧ Dw B a len cap zs wr q ∧ w.grownBy wr (some B))
        (fun _ o _ => (intOf o).toNat)
      case atStart => exact ⟨op, n, l, g, cp, rfl, rfl, by have := HNO.out; omega, HOWN, HDD.out, HG.out⟩
      case round =>
        clear HOWN HDD HG
        obtain ⟨op, n, l, g, cp, rfl, rfl, hno, HOWN, hD, hGr⟩ := hrel
        have hown2 := HOWN.out
        by_cases hlt2 : 0 < op
        · obtain ⟨op, rfl⟩ : ∃ j, op = j + 1 := ⟨op - 1, by omega⟩
          clear HOWN
          have S1 := Lib.hid (four_newL (wr) (.int .i64 8) (.int .i64 0) (.int .i64 0) (.string ⟨#[]⟩) 54 (wr.heap.size) (by simp))
          have hbase := hGr.size
          go_wp2_with (at_builtin; refine wpList_append_own _ rfl _ _ 39 rfl w.heap.size 54 i0 (.agg #[.int .i64 0, .int .i64 0, .int .i64 0, .string ⟨#[]⟩]) 4 40 Try.underlying39 hi hz0 hz1 hz2 rfl (by decide) _ _ _ rfl (hown2.alloc (.cells #[.int .i64 8, .int .i64 0, .int .i64 0, .string ⟨#[]⟩] 54 (0, 0))) ⟨wr.heap.size, 0, none⟩ 1 1 [.int .i64 8, .int .i64 0, .int .i64 0, .string ⟨#[]⟩] rfl rfl ?_ ?_ ?_ ?_ ?_ ?_)
          any_goals first | exact S1.out | (intro u hu; simp at hu; rcases hu with rfl | rfl | rfl | rfl <;> rfl) | (unfold maxLen; omega) | omega | exact Nat.le_trans hbase (by simp) | (simp; omega)
          intro v' w5 hown5 hgrow _
          have hD5 := (hD.alloc (.cells #[.int .i64 8, .int .i64 0, .int .i64 0, .string ⟨#[]⟩] 54 (0, 0))).of (w' := w5) (fun k hk => hgrow.block k (by have := hD.lt; simp at this ⊢; omega) (fun e => by have := (hown2.lt k e.symm).1; omega))
          have hG5 := gtrans_ownL (gb_allocK hGr (.cells #[.int .i64 8, .int .i64 0, .int .i64 0, .string ⟨#[]⟩] 54 (0, 0))) hgrow (fun j he => (hown2.lt j he).1)
          obtain ⟨g5, cp5, rfl⟩ : ∃ g cp, v' = .slice (some ⟨g, 0, none⟩) (n + 1) cp := by
            rcases hown5.2 with ⟨h, h0⟩ | ⟨g, cap, cur, h, _⟩
            · omega
            · exact ⟨_, _, h⟩
          have hown6 : Hid (w5.ownsRow w.heap.size 54 4 (.slice (some ⟨g5, 0, none⟩) (n + 1) cp5) (n + 1) (Jo.cells (l ++ [(⟨8, 0, 0, ⟨#[]⟩⟩ : Jo)]))) := Lib.hid (by
            rw [Jo.cells_append]
            exact hown5)
          clear hown5 hgrow S1 hbase hown2 hD hGr
          go_wp2
          go_roundw
          case rel => exact ⟨op, n + 1, _, g5, cp5, by simp, rfl, by omega, hown6, hD5, hG5⟩
          case measure => first | (simp [intOf]; done) | (simp [intOf]; omega)
        · obtain rfl : op = 0 := by omega
          have hol := Lib.hid (OL.own hown2).2
          have hgl := (hown2.lt g rfl).1
          clear hown2
          go_wp2
          go_ret
          exact ⟨g, n, cp, l, q, rfl, hgl, hol.out, by omega, by have := HQ.out; omega, by have := HQ.out; omega, hD, hGr⟩
theorem l91Ops_any (B : Nat) (a : Option Addr) (len cap : Nat) (zs : List Int) (p : Nat) (w : World) (hp : p ≤ 600000000) (hD0 : Dw B a len cap zs w p) :
    Calls Try.prog 81 #[.pointer (some ⟨B, 0, none⟩)] w (OpsR B a len cap zs p w) :=
  (l91Ops_own B a len cap zs p w hp hD0).mono fun _ _ ⟨g, n, cp, l, q, h, _, r⟩ => ⟨some ⟨g, 0, none⟩, n, cp, l, q, h, r⟩
/-- Drawing operations out of a code. -/
def DrawOps (w : World) (e : Ending) (w' : World) : Prop := ∃ (a2 : Option Addr) (n cap2 : Nat) (l : List Jo), e = .returned (.slice a2 n cap2) ∧ OL w' a2 n l ∧ n ≤ 100 ∧ Below w.heap.size w w'
end Go.Proofs.Ytoocibabceeagaa
