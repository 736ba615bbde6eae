import Derived.Test.YtoocibabceeagabGreatGk
import Derived.Test.YtoocibabceeagabGreatDr
import Derived.Deep.RegionWith
import Derived.Deep.DeepMust
import Derived.Test.YtoocibabceeagabGreatDs
import Derived.Test.YtoocibabceeagabGreatSm
import Derived.Test.YtoocibabceeagabGreatOw
/-
  Drawing for chapter 4: elements, scalars, secrets, keys.
-/
namespace Go.Proofs.YtoocibabceeagabGreat
open Go.RowKit

set_option maxRecDepth 100000 in
set_option maxHeartbeats 1600000 in
theorem l91Secret_any (B : Nat) (a : Option Addr) (len cap : Nat) (zs : List Int) (p : Nat) (w : World) (hp : p ≤ 800000000) (hD0 : Dw B a len cap zs w p) :
    Calls Tryz.prog 51 #[.pointer (some ⟨B, 0, none⟩)] w (NumR B a len cap zs p 3 (-1) 1073741789 w) := by
  go_enter Tryz.func51, Tryz.ntmps51
  go_wp2_with fail
  refine (pick_any B a len cap zs _ 30 _ (by omega) (by omega) hD0).mono ?_
  rintro e w1 ⟨v1, rfl, a1, b1, hD1, hG1⟩
  by_cases h0 : v1 = 0
  · have h1 : (v1 == 0) = true := by simpa using h0
    clear h0
    go_wp2_with fail
    have hD5 := hD1.alloc (.cells (([0, -1, 1073741789, 1073741788, 1] : List Int).map (Value.int .i64)).toArray 3)
    refine (pick_any B a len cap zs _ 5 _ (by omega) (by omega) hD5).mono ?_
    rintro e w5 ⟨v5, rfl, a5, b5, hD6, hG6⟩
    have hne : w1.heap.size ≠ B := by have := hD1.lt; omega
    have hcell : ∀ k, k < 5 → w5.cell? ⟨w1.heap.size, k, none⟩ = some (.int .i64 (([0, -1, 1073741789, 1073741788, 1] : List Int).getD k 0)) :=
      fun k hk => hG6.cell (lit_cell _ _ _ _ hk) (by simpa using hne)
    have hbd := getD_bd ([0, -1, 1073741789, 1073741788, 1] : List Int) (-1) 1073741789 (by simp)
    obtain ⟨k, rfl⟩ := Int.eq_ofNat_of_zero_le a5
    have hc := hcell k (by omega)
    have hb := hbd k (by simp; omega)
    generalize ([0, -1, 1073741789, 1073741788, 1] : List Int).getD k 0 = v at hc hb
    clear hcell hbd
    go_wp2
    go_ret
    exact ⟨_, _, rfl, hb.1, hb.2, by omega, by omega, hD6, gtrans hG1 (gtrans (World.grownBy_alloc _ _ _) hG6)⟩
  · have h1 : (v1 == 0) = false := by simpa using h0
    clear h0
    go_wp2_with fail
    refine (pick_any B a len cap zs _ 250 _ (by omega) (by omega) hD1).mono ?_
    rintro e w2 ⟨v2, rfl, a2, b2, hD2, hG2⟩
    go_wp2_with fail
    have hD5 := hD2.alloc (.cells (([11, 22, 33, 44, 55, 1 + v2] : List Int).map (Value.int .i64)).toArray 3)
    refine (pick_any B a len cap zs _ 6 _ (by omega) (by omega) hD5).mono ?_
    rintro e w5 ⟨v5, rfl, a5, b5, hD6, hG6⟩
    have hne : w2.heap.size ≠ B := by have := hD2.lt; omega
    have hcell : ∀ k, k < 6 → w5.cell? ⟨w2.heap.size, k, none⟩ = some (.int .i64 (([11, 22, 33, 44, 55, 1 + v2] : List Int).getD k 0)) :=
      fun k hk => hG6.cell (lit_cell _ _ _ _ hk) (by simpa using hne)
    have hbd := getD_bd ([11, 22, 33, 44, 55, 1 + v2] : List Int) (-1) 1073741789 (by simp; omega)
    obtain ⟨k, rfl⟩ := Int.eq_ofNat_of_zero_le a5
    have hc := hcell k (by omega)
    have hb := hbd k (by simp; omega)
    generalize ([11, 22, 33, 44, 55, 1 + v2] : List Int).getD k 0 = v at hc hb
    clear hcell hbd
    go_wp2
    go_ret
    exact ⟨_, _, rfl, hb.1, hb.2, by omega, by omega, hD6, gtrans (gtrans hG1 hG2) (gtrans (World.grownBy_alloc _ _ _) hG6)⟩
set_option maxRecDepth 100000 in
set_option maxHeartbeats 1600000 in
theorem l91Key_any (B : Nat) (a : Option Addr) (len cap : Nat) (zs : List Int) (p : Nat) (w : World) (hp : p ≤ 800000000) (hD0 : Dw B a len cap zs w p) :
    Calls Tryz.prog 82 #[.pointer (some ⟨B, 0, none⟩)] w (NumR B a len cap zs p 2 (-1) 2147483579 w) := by
  go_enter Tryz.func82, Tryz.ntmps82
  go_wp2_with fail
  refine (pick_any B a len cap zs _ 30 _ (by omega) (by omega) hD0).mono ?_
  rintro e w1 ⟨v1, rfl, a1, b1, hD1, hG1⟩
  by_cases h0 : v1 = 0
  · have h1 : (v1 == 0) = true := by simpa using h0
    clear h0
    go_wp2_with fail
    have hD5 := hD1.alloc (.cells (([0, 1, -1, 2, 2147483579, 2147483578] : List Int).map (Value.int .i64)).toArray 3)
    refine (pick_any B a len cap zs _ 6 _ (by omega) (by omega) hD5).mono ?_
    rintro e w5 ⟨v5, rfl, a5, b5, hD6, hG6⟩
    have hne : w1.heap.size ≠ B := by have := hD1.lt; omega
    have hcell : ∀ k, k < 6 → w5.cell? ⟨w1.heap.size, k, none⟩ = some (.int .i64 (([0, 1, -1, 2, 2147483579, 2147483578] : List Int).getD k 0)) :=
      fun k hk => hG6.cell (lit_cell _ _ _ _ hk) (by simpa using hne)
    have hbd := getD_bd ([0, 1, -1, 2, 2147483579, 2147483578] : List Int) (-1) 2147483579 (by simp)
    obtain ⟨k, rfl⟩ := Int.eq_ofNat_of_zero_le a5
    have hc := hcell k (by omega)
    have hb := hbd k (by simp; omega)
    generalize ([0, 1, -1, 2, 2147483579, 2147483578] : List Int).getD k 0 = v at hc hb
    clear hcell hbd
    go_wp2
    go_ret
    exact ⟨_, _, rfl, hb.1, hb.2, by omega, by omega, hD6, gtrans hG1 (gtrans (World.grownBy_alloc _ _ _) hG6)⟩
  · have h1 : (v1 == 0) = false := by simpa using h0
    clear h0
    go_wp2_with fail
    refine (pick_any B a len cap zs _ 60 _ (by omega) (by omega) hD1).mono ?_
    rintro e w2 ⟨v2, rfl, a2, b2, hD2, hG2⟩
    go_wp2_with fail
    refine (l4Base_any (1 + v2) _ (by omega)).mono ?_
    have HB := Gr.pw_bd 2147483579 4 (1 + v2) (by omega)
    generalize Gr.pw 2147483579 4 (1 + v2) = y at HB ⊢
    obtain ⟨y0, y1⟩ := HB
    rintro e w3 ⟨rfl, rfl⟩
    go_wp2
    go_ret
    exact ⟨_, _, rfl, by omega, by omega, by omega, by omega, hD2, gtrans hG1 hG2⟩
/-- Drawing two numbers out of a code. -/
def DrawNum2 (w : World) (e : Ending) (w' : World) : Prop := ∃ u v : Int, e = .returned (.tuple #[.int .i64 u, .int .i64 v]) ∧ -1 ≤ u ∧ u ≤ 4294967296 ∧ -1 ≤ v ∧ v ≤ 4294967296 ∧ Below w.heap.size w w'
end Go.Proofs.YtoocibabceeagabGreat

/-
  Drawing for chapter 7: lists of keys and of secrets.
-/
namespace Go.Proofs.YtoocibabceeagabGreat
open Go.RowKit

theorem info_int8 : (Tryz.prog.info? 3).map (fun i => (i.zero, i.size, i.bytes)) = some (some (.int .i64 0), 1, 8) := by kernel_rfl
/-- What drawing a list of numbers does. -/
def NumsK (B : Nat) (a : Option Addr) (len cap : Nat) (zs : List Int) (p c m : Nat) (lo hi : Int) (w : World) (e : Ending) (w' : World) : Prop :=
  ∃ (ws : List Int) (g cp q : Nat), e = .returned (.slice (some ⟨g, 0, none⟩) ws.length cp) ∧ ws.length ≤ m ∧ (∀ n ∈ ws, lo ≤ n ∧ n ≤ hi) ∧
    w'.ownsRow w.heap.size 3 1 (.slice (some ⟨g, 0, none⟩) ws.length cp) ws.length (ws.map (Value.int .i64)) ∧ p ≤ q ∧ q ≤ p + c ∧ Dw B a len cap zs w' q ∧ w.grownBy w' (some B)
set_option maxRecDepth 100000 in
set_option maxHeartbeats 1600000 in
theorem l91Secrets_any (B : Nat) (a : Option Addr) (len cap : Nat) (zs : List Int) (p : Nat) (m : Nat) (w : World) (hm : m ≤ 1000) (hp : p ≤ 700000000) (hD0 : Dw B a len cap zs w p) :
    Calls Tryz.prog 66 #[.pointer (some ⟨B, 0, none⟩), .int .i64 (m : Int)] w (NumsK B a len cap zs p (50 * (m + 1)) m (-1) 1073741789 w) := by
  obtain ⟨i0, hi, hz0, hz1, hz2⟩ := info_parts info_int8
  have hBw := hD0.lt
  go_enter Tryz.func66, Tryz.ntmps66
  go_wp2_with fail
  refine (pick_any B a len cap zs _ _ _ (by omega) (by omega) (hD0.alloc _)).mono ?_
  rintro e w1 ⟨v1, rfl, a1, b1, hD1, hG1⟩
  have hown1 : w1.ownsRow w.heap.size 3 1 (.slice (some ⟨w.heap.size, 0, none⟩) 0 0) 0 [] :=
    (World.ownsRow_made (e := 3) (size := 1) w #[] 0 (Nat.le_refl _) (by decide) rfl).kept hG1 (.inr (by simp [Value.ownBlock]; omega))
  have hG := gtrans (World.grownBy_alloc w (.cells #[] 3) (some B)) hG1
  clear hG1 hD0
  go_wp2
  go_loopw [5, 6] (fun lv i wr => ∃ (k : Nat) (ws : List Int) (q g cp : Nat), i = .int .i64 (k : Int) ∧ (k : Int) + ws.length = v1 ∧ lv = .slice (some ⟨g, 0, none⟩) ws.length cp ∧ (∀ n ∈ ws, -1 ≤ n ∧ n ≤ 1073741789) ∧ p + 1 ≤ q ∧ q ≤ p + 1 + 50 * ws.length ∧ Dw B a len cap zs wr q ∧ w.grownBy wr (some B) ∧
      wr.ownsRow w.heap.size 3 1 (.slice (some ⟨g, 0, none⟩) ws.length cp) ws.length (ws.map (Value.int .i64)))
    (fun _ i _ => (intOf i).toNat)
  case atStart => exact ⟨v1.toNat, [], p + 1, w.heap.size, 0, by rw [Int.toNat_of_nonneg a1], by simp; omega, rfl, fun s hs => absurd hs (by simp), by omega, by simp, hD1, hG, hown1⟩
  case round =>
    obtain ⟨k, ws, q, g, cp, rfl, hks, rfl, hsz, q0, q1, hD, hGr, hown⟩ := hrel
    clear hD1 hG hown1
    have hne := own_ne hown hBw
    have hbw := hGr.size
    by_cases hlt : 0 < k
    · go_wp2_with fail
      refine (l91Secret_any B a len cap zs _ _ (by omega) hD).mono ?_
      rintro e w2 ⟨x, q2, rfl, x0, x1, p2, r2, hD2, hG2⟩
      have hown2 := hown.kept hG2 hne
      have hGr2 := gtrans hGr hG2
      have hbw2 := hGr2.size
      clear hD hown hG2 hGr
      go_wp2_with (at_builtin; refine wpList_append_own _ rfl _ _ 41 rfl w.heap.size 3 i0 (.int .i64 0) 1 8 Tryz.underlying41 hi hz0 hz1 hz2 rfl (by decide) _ _ _ rfl (hown2.alloc (.cells #[.int .i64 x] 3 (0, 0))) ⟨w2.heap.size, 0, none⟩ 1 1 [.int .i64 x] rfl rfl ?c1 ?c2 ?c3 ?c4 ?c5 ?_)
      case c1 => exact one_new _ _ _
      case c2 => intro u hu; simp at hu; subst hu; rfl
      case c3 => unfold maxLen; omega
      case c4 => omega
      case c5 => simp; omega
      intro v' w5 hown5 hgrow _
      have hD5 : Dw B a len cap zs w5 q2 := (hD2.alloc (.cells #[.int .i64 x] 3 (0, 0))).of fun k hk => hgrow.block k (by have := hD2.lt; simp; omega) (fun e => by have := (hown2.lt _ e.symm).1; omega)
      have hG5 := gtrans_own (gtrans hGr2 (World.grownBy_alloc _ (.cells #[.int .i64 x] 3 (0, 0)) _)) hgrow (fun j he => (hown2.lt _ he).1)
      obtain ⟨g5, cp5, rfl⟩ : ∃ g cp, v' = .slice (some ⟨g, 0, none⟩) (ws.length + 1) cp := by
        rcases hown5.2 with ⟨h, h0⟩ | ⟨g, cap, cur, h, _⟩
        · omega
        · exact ⟨_, _, h⟩
      have hown6 : w5.ownsRow w.heap.size 3 1 (.slice (some ⟨g5, 0, none⟩) (ws ++ [x]).length cp5) (ws ++ [x]).length ((ws ++ [x]).map (Value.int .i64)) := by
        rw [List.length_append, List.map_append]
        exact hown5
      clear hown2 hgrow hGr2 hD2 hown5
      go_wp2
      go_roundw
      case rel =>
        refine ⟨k - 1, ws ++ [x], q2, g5, cp5, by rw [Int.ofNat_sub hlt]; rfl, by simp; omega, by simp, fun s hs => ?_, by omega, by simp; omega, hD5, hG5, hown6⟩
        rcases List.mem_append.1 hs with h | h
        · exact hsz s h
        · simp at h; subst h; omega
      case measure => simp [intOf]; omega
    · clear hne
      go_wp2
      go_ret
      exact ⟨ws, g, cp, q, rfl, by omega, hsz, hown, by omega, by omega, hD, hGr⟩
/-- Drawing a list of numbers out of a code. -/
def DrawNums (m : Nat) (lo hi : Int) (w : World) (e : Ending) (w' : World) : Prop :=
  ∃ (ws : List Int) (g cp : Nat), e = .returned (.slice (some ⟨g, 0, none⟩) ws.length cp) ∧ ws.length ≤ m ∧ (∀ n ∈ ws, lo ≤ n ∧ n ≤ hi) ∧ w'.ownsRow w.heap.size 3 1 (.slice (some ⟨g, 0, none⟩) ws.length cp) ws.length (ws.map (Value.int .i64)) ∧ Below w.heap.size w w'
/-- Drawing a list of numbers and a text out of a code. -/
def DrawNumsText (m : Nat) (lo hi : Int) (L : Nat) (w : World) (e : Ending) (w' : World) : Prop :=
  ∃ (ws : List Int) (g cp : Nat) (t : ByteArray), e = .returned (.tuple #[.slice (some ⟨g, 0, none⟩) ws.length cp, .string t]) ∧ ws.length ≤ m ∧ (∀ n ∈ ws, lo ≤ n ∧ n ≤ hi) ∧ t.size ≤ L ∧ w'.ownsRow w.heap.size 3 1 (.slice (some ⟨g, 0, none⟩) ws.length cp) ws.length (ws.map (Value.int .i64)) ∧ Below w.heap.size w w'
end Go.Proofs.YtoocibabceeagabGreat
