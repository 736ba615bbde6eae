/-
  Drawing for chapter 8: a list of shares.
-/
import Derived.Test.YtbhpealkhpginaaQt
import Derived.Test.YtbhpealkhpginaaDr
namespace Go.Proofs.Ytbhpealkhpginaa
open Go.RowKit

theorem info_int10 : (Try.prog.info? 3).map (fun i => (i.zero, i.size, i.bytes)) = some (some (.int .i64 0), 1, 8) := by kernel_rfl
theorem dw_of_growP {B : Nat} {a : Option Addr} {len cap : Nat} {zs : List Int} {w w' : World} {p : Nat} (h : Dw B a len cap zs w p) {g : Nat} (hg : w.grownBy w' (some g)) (hlt : B < g) : Dw B a len cap zs w' p :=
  h.of fun k hk => hg.block k (by have := h.lt; omega) (by simp; omega)
theorem dw_belowP {B : Nat} {a : Option Addr} {len cap : Nat} {zs : List Int} {w w' : World} {p : Nat} (h : Dw B a len cap zs w p) (hb : Below w.heap.size w w') : Dw B a len cap zs w' p :=
  h.of fun k hk => hb.block k (by have := h.lt; omega)
theorem below_gbP {w w' : World} (hb : Below w.heap.size w w') (B : Nat) : w.grownBy w' (some B) := ⟨hb.os, hb.tape, hb.output, hb.size, fun k hk _ => hb.block k hk⟩
theorem Po.cg_all (cs : List Int) : ∀ n, (∀ j, j < n → 0 ≤ cs.getD j 0 ∧ cs.getD j 0 ≤ 1073741788) → Po.cg cs n = true := by
  intro n
  induction n with
  | zero => intro _; rfl
  | succ n ih =>
    intro h
    unfold Po.cg
    rw [ih (fun j hj => h j (by omega)), (Po.inY_iff _).mpr (h n (by omega))]
    rfl
/-- Small shares. -/
def Po.Bd (l : List (Int × Int)) : Prop := ∀ j, j < l.length → (0 ≤ Po.X l j ∧ Po.X l j ≤ 50) ∧ -1 ≤ Po.Y l j ∧ Po.Y l j ≤ 1073741788
theorem Po.bd_nil : Po.Bd [] := fun j hj => absurd hj (by simp)
theorem Po.bd_app {l : List (Int × Int)} (h : Po.Bd l) {x y : Int} (x0 : 0 ≤ x) (x1 : x ≤ 50) (y0 : -1 ≤ y) (y1 : y ≤ 1073741788) : Po.Bd (l ++ [(x, y)]) := by
  intro j hj
  rw [Po.len_app] at hj
  by_cases hjl : j < l.length
  · rw [(Po.X_app l _ j hjl).1, (Po.X_app l _ j hjl).2]
    exact h j hjl
  · rw [show j = l.length by omega, (Po.X_end l _).1, (Po.X_end l _).2]
    exact ⟨⟨x0, x1⟩, y0, y1⟩
theorem Po.sh_bd (cs : List Int) (m : Nat) (hm : m ≤ 50) (j : Nat) (hj : j < m) : (0 ≤ Po.X (Po.sh cs (Po.to m)) j ∧ Po.X (Po.sh cs (Po.to m)) j ≤ 50) ∧ 0 ≤ Po.Y (Po.sh cs (Po.to m)) j ∧ Po.Y (Po.sh cs (Po.to m)) j ≤ 1073741788 := by
  have hl := Po.to_len m
  have h1 := (Po.sub_gro (fun _ => true) m).1.1 j (by have := hl; unfold Po.to at this; omega)
  rw [(Po.sh_X cs (Po.to m) j (by omega)).1, (Po.sh_X cs (Po.to m) j (by omega)).2]
  have h2 := Po.hv_bd ((Po.to m).getD j 0) cs
  have h3 : 1 ≤ (Po.to m).getD j 0 ∧ (Po.to m).getD j 0 ≤ (m : Int) := h1
  exact ⟨⟨by omega, by omega⟩, h2.1, by omega⟩
/-- What drawing a list of shares does. -/
def PtsR (B : Nat) (a : Option Addr) (len cap : Nat) (zs : List Int) (p c : Nat) (w : World) (e : Ending) (w' : World) : Prop :=
  ∃ (l : List (Int × Int)) (g cp q : Nat), e = .returned (.slice (some ⟨g, 0, none⟩) l.length cp) ∧ l.length ≤ 7 ∧ Po.Bd l ∧
    w'.ownsRow w.heap.size 35 2 (.slice (some ⟨g, 0, none⟩) l.length cp) l.length (Po.enc l) ∧ p ≤ q ∧ q ≤ p + c ∧ Dw B a len cap zs w' q ∧ w.grownBy w' (some B)
set_option maxRecDepth 100000 in
set_option maxHeartbeats 6400000 in
theorem l91Parts_any (B : Nat) (a : Option Addr) (len cap : Nat) (zs : List Int) (p : Nat) (w : World) (hp : p ≤ 700000000) (hD0 : Dw B a len cap zs w p) :
    Calls Try.prog 45 #[.pointer (some ⟨B, 0, none⟩)] w (PtsR B a len cap zs p 400 w) := by
  obtain ⟨i0, hi, hz0, hz1, hz2⟩ := info_parts info_int10
  obtain ⟨j0, hj, hy0, hy1, hy2⟩ := info_parts info_part
  have hBw := hD0.lt
  go_enter Try.func45, Try.ntmps45
  go_wp2_with fail
  refine (pick_any B a len cap zs _ 3 _ (by omega) (by omega) (hD0.alloc _)).mono ?_
  rintro e w1 ⟨v1, rfl, a1, b1, hD1, hG1⟩
  have hown1 : w1.ownsRow w.heap.size 3 1 (.slice (some ⟨w.heap.size, 0, none⟩) 0 0) 0 [] :=
    (World.ownsRow_made (e := 3) (size := 1) w #[] 0 (Nat.le_refl _) (by decide) rfl).kept hG1 (.inr (by simp [Value.ownBlock]; omega))
  have hG0 := gtrans (World.grownBy_alloc w (.cells #[] 3) (some B)) hG1
  clear hG1 hD0
  go_wp2
  go_loopw [3, 4] (fun lv i wr => ∃ (k : Nat) (ws : List Int) (q g cp : Nat), i = .int .i64 (k : Int) ∧ (k : Int) + ws.length = v1 ∧ lv = .slice (some ⟨g, 0, none⟩) ws.length cp ∧ (∀ n ∈ ws, 0 ≤ n ∧ n ≤ 1073741788) ∧ p + 1 ≤ q ∧ q ≤ p + 1 + 50 * ws.length ∧ Dw B a len cap zs wr q ∧ w.grownBy wr (some B) ∧
      wr.ownsRow w.heap.size 3 1 (.slice (some ⟨g, 0, none⟩) ws.length cp) ws.length (ws.map (Value.int .i64)))
    (fun _ i _ => (intOf i).toNat)
  case atStart => exact ⟨v1.toNat, [], p + 1, w.heap.size, 0, by rw [Int.toNat_of_nonneg a1], by simp; omega, rfl, fun s hs => absurd hs (by simp), by omega, by simp, hD1, hG0, hown1⟩
  case round =>
    obtain ⟨k, ws, q, g, cp, rfl, hks, rfl, hsz, q0, q1, hD, hGr, hown⟩ := hrel
    clear hD1 hG0 hown1
    have hne := own_ne hown hBw
    have hbw := hGr.size
    by_cases hlt : 0 < k
    · go_wp2_with fail
      refine (l91Digest_any B a len cap zs _ _ (by omega) hD).mono ?_
      rintro e w2 ⟨x, q2, rfl, x0, x1, p2, r2, hD2, hG2⟩
      have hown2 := hown.kept hG2 hne
      have hGr2 := gtrans hGr hG2
      have hbw2 := hGr2.size
      clear hD hown hG2 hGr
      go_wp2_with (at_builtin; refine wpList_append_own _ rfl _ _ 23 rfl w.heap.size 3 i0 (.int .i64 0) 1 8 Try.underlying23 hi hz0 hz1 hz2 rfl (by decide) _ _ _ rfl (hown2.alloc (.cells #[.int .i64 (x % 1073741789)] 3 (0, 0))) ⟨w2.heap.size, 0, none⟩ 1 1 [.int .i64 (x % 1073741789)] rfl rfl ?c1 ?c2 ?c3 ?c4 ?c5 ?_)
      case c1 => exact one_new _ _ _
      case c2 => intro u hu; simp at hu; subst hu; rfl
      case c3 => unfold maxLen; omega
      case c4 => omega
      case c5 => simp; omega
      intro v' w5 hown5 hgrow _
      have hD5 : Dw B a len cap zs w5 q2 := (hD2.alloc (.cells #[.int .i64 (x % 1073741789)] 3 (0, 0))).of fun k hk => hgrow.block k (by have := hD2.lt; simp; omega) (fun e => by have := (hown2.lt _ e.symm).1; omega)
      have hG5 := gtrans_own (gtrans hGr2 (World.grownBy_alloc _ (.cells #[.int .i64 (x % 1073741789)] 3 (0, 0)) _)) hgrow (fun j he => (hown2.lt _ he).1)
      obtain ⟨g5, cp5, rfl⟩ : ∃ g cp, v' = .slice (some ⟨g, 0, none⟩) (ws.length + 1) cp := by
        rcases hown5.2 with ⟨h, h0⟩ | ⟨g, cap, cur, h, _⟩
        · omega
        · exact ⟨_, _, h⟩
      have hown6 : w5.ownsRow w.heap.size 3 1 (.slice (some ⟨g5, 0, none⟩) (ws ++ [x % 1073741789]).length cp5) (ws ++ [x % 1073741789]).length ((ws ++ [x % 1073741789]).map (Value.int .i64)) := by
        rw [List.length_append, List.map_append]
        exact hown5
      clear hown2 hgrow hGr2 hD2 hown5
      go_wp2
      go_roundw
      case rel =>
        refine ⟨k - 1, ws ++ [x % 1073741789], q2, g5, cp5, by rw [Int.ofNat_sub hlt]; rfl, by simp; omega, by simp, fun s hs => ?_, by omega, by simp; omega, hD5, hG5, hown6⟩
        rcases List.mem_append.1 hs with h | h
        · exact hsz s h
        · simp at h; subst h; omega
      case measure => simp [intOf]; omega
    · have hwl : ws.length ≤ 2 := by omega
      have hk0 : ¬ (0 : Int) < (k : Int) := by omega
      go_wp2_with fail
      refine (l91Digest_any B a len cap zs _ _ (by omega) hD).mono ?_
      rintro e w2 ⟨x, q2, rfl, x0, x1, p2, r2, hD2, hG2⟩
      replace hown := hown.kept hG2 hne
      replace hGr := gtrans hGr hG2
      clear hD hG2
      go_wp2_with fail
      refine (pick_any B a len cap zs _ 4 _ (by omega) (by omega) hD2).mono ?_
      rintro e w3 ⟨v3, rfl, a3, b3, hD3, hG3⟩
      replace hown := hown.kept hG3 hne
      replace hGr := gtrans hGr hG3
      have hI := (IR.own hown).2
      have hsp : Po.spOk (x % 1073741789) ws (3 + v3) = true := (Po.spOk_iff _ _ _).mpr ⟨by omega, by omega, Po.cg_all _ _ fun j hj => by
        cases j with
        | zero => show 0 ≤ x % 1073741789 ∧ x % 1073741789 ≤ 1073741788; omega
        | succ j =>
          show 0 ≤ ws.getD j 0 ∧ ws.getD j 0 ≤ 1073741788
          exact hsz _ (getD_memI (by omega))⟩
      have hcon := specSplitSecret_any (x % 1073741789) (some ⟨g, 0, none⟩) ws.length cp ws (3 + v3) w3 hI (by omega)
      obtain ⟨S, hS⟩ : ∃ S, Hid (x % 1073741789 = S) := ⟨_, Lib.hid rfl⟩
      have hbw3 := hGr.size
      rw [hS.out] at hcon hsp
      clear hown hI hD2 hG3 hsz
      go_wp2_with fail
      rw [hS.out]
      refine hcon.mono ?_
      rintro e w4 ⟨hb4, ⟨hno, _⟩ | ⟨_, g2, cp2, m, hm, rfl, hown2⟩⟩
      · rw [hsp] at hno
        cases hno
      have hQ0 := (QR.own hown2).2
      have hlg := hown2.lt _ rfl
      have hD4 := dw_belowP hD3 hb4
      have hG4 := gtrans hGr (below_gbP hb4 B)
      have hm6 : m ≤ 6 := by omega
      have HSB : Hid (∀ j, j < m → (0 ≤ Po.X (Po.sh (S :: ws) (Po.to m)) j ∧ Po.X (Po.sh (S :: ws) (Po.to m)) j ≤ 50) ∧ 0 ≤ Po.Y (Po.sh (S :: ws) (Po.to m)) j ∧ Po.Y (Po.sh (S :: ws) (Po.to m)) j ≤ 1073741788) := Lib.hid (Po.sh_bd (S :: ws) m (by omega))
      obtain ⟨all, hall⟩ : ∃ all, Hid (Po.sh (S :: ws) (Po.to m) = all) := ⟨_, Lib.hid rfl⟩
      rw [hall.out] at hQ0 HSB
      have hown3 := World.ownsRow_made (e := 35) (size := 2) w4 #[] 0 (Nat.le_refl _) (by decide) rfl
      have hQ1 := hQ0.alloc (.cells #[] 35)
      have hD5 := hD4.alloc (.cells #[] 35)
      have hG5 := gtrans hG4 (World.grownBy_alloc w4 (.cells #[] 35) (some B))
      have hbw4 := hb4.size
      obtain ⟨B2, hB2⟩ : ∃ B, Hid (B = w4.heap.size) := ⟨_, Lib.hid rfl⟩
      rw [← hB2.out] at hown3 hlg hbw4
      clear hown2 hcon hQ0 hD3 hD4 hG4 hGr hb4 hall
      go_wp2
      go_loopw [7, 8] (fun lv i wr => ∃ (k : Nat) (l : List (Int × Int)) (q g3 cp3 : Nat), k ≤ m ∧ i = .int .i64 (k : Int) ∧ lv = .slice (some ⟨g3, 0, none⟩) l.length cp3 ∧ l.length ≤ k ∧ Po.Bd l ∧ p + 1 ≤ q ∧ q ≤ p + 200 + k ∧ Dw B a len cap zs wr q ∧ w.grownBy wr (some B) ∧ QR wr (some ⟨g2, 0, none⟩) m all ∧
          wr.ownsRow B2 35 2 (.slice (some ⟨g3, 0, none⟩) l.length cp3) l.length (Po.enc l))
        (fun _ i _ => m - (intOf i).toNat)
      case atStart => exact ⟨0, [], q2 + 1, B2, 0, by omega, rfl, by rw [hB2.out]; rfl, Nat.le_refl 0, Po.bd_nil, by omega, by omega, hD5, hG5, hQ1, hown3⟩
      case round =>
        clear hown3 hQ1 hD5 hG5
        obtain ⟨k2, l, q3, g3, cp3, hk2, rfl, rfl, hll, hbd, s0, s1, hD, hG, hQ, hown⟩ := hrel
        have hne3 := own_ne hown (show B < B2 by omega)
        by_cases hlm : k2 < m
        · go_wp2_with fail
          refine (pick_any B a len cap zs _ 3 _ (by omega) (by omega) hD).mono ?_
          rintro e w6 ⟨v6, rfl, a6, b6, hD6, hG6⟩
          replace hown := hown.kept hG6 hne3
          replace hG := gtrans hG hG6
          replace hQ := hQ.grown hG6 (fun _ b off he => by cases he; simp; omega)
          replace hD := hD6
          have hbw6 := hG.size
          clear hD6 hG6
          by_cases hv : 0 < v6
          · obtain ⟨b, off, he, hb, hc⟩ := hQ.2 (by omega)
            cases he
            obtain ⟨d0, d1⟩ := hc k2 hlm
            obtain ⟨⟨t0, t1⟩, t2, t3⟩ := HSB.out k2 hlm
            obtain ⟨X, hX⟩ : ∃ x, Hid (Po.X all k2 = x) := ⟨_, Lib.hid rfl⟩
            obtain ⟨Y, hY⟩ : ∃ x, Hid (Po.Y all k2 = x) := ⟨_, Lib.hid rfl⟩
            rw [hX.out] at d0 t0 t1
            rw [hY.out] at d1 t2 t3
            simp only [Nat.zero_add] at d0 d1
            clear hc hX hY hb
            have hlw := hown.lt _ rfl
            go_wp2_with (at_builtin; refine wpList_append_own _ rfl _ _ 26 rfl B2 35 j0 (.agg #[.int .i64 0, .int .i64 0]) 2 16 Try.underlying26 hj hy0 hy1 hy2 rfl (by decide) _ _ _ rfl (hown.alloc (.cells #[.int .i64 X, .int .i64 Y] 35 (0, 0))) ⟨w6.heap.size, 0, none⟩ 1 1 [.int .i64 X, .int .i64 Y] rfl rfl ?_ ?_ ?_ ?_ ?_ ?_)
            any_goals first | (exact two_new _ _ _ _ _ (by simp)) | (exact ⟨rfl, rfl⟩) | (intro u hu; simp at hu; rcases hu with h | h <;> (subst h; rfl)) | omega | (unfold maxLen; omega) | (simp; omega)
            intro v' w7 hownx hgrow _
            have hlo := hown.lt _ rfl
            have hD7 := dw_of_growP (hD.alloc (.cells #[.int .i64 X, .int .i64 Y] 35 (0, 0))) hgrow (by show B < g3; omega)
            have hG7 := gtrans_own (gtrans hG (World.grownBy_alloc _ (.cells #[.int .i64 X, .int .i64 Y] 35 (0, 0)) _)) hgrow (fun j he => by have := (hown.lt _ he).1; omega)
            have hQ7 := (hQ.alloc (.cells #[.int .i64 X, .int .i64 Y] 35 (0, 0))).grown hgrow (fun _ b off he => by cases he; show some g2 ≠ some g3; simp; omega)
            obtain ⟨g5, cp5, rfl⟩ : ∃ g cp, v' = .slice (some ⟨g, 0, none⟩) (l.length + 1) cp := by
              rcases hownx.2 with ⟨h, h0⟩ | ⟨g, cap, cur, h, _⟩
              · omega
              · exact ⟨_, _, h⟩
            have hown7 : w7.ownsRow B2 35 2 (.slice (some ⟨g5, 0, none⟩) (l ++ [(X, Y)]).length cp5) (l ++ [(X, Y)]).length (Po.enc (l ++ [(X, Y)])) := by
              rw [Po.len_app, Po.enc_append]
              exact hownx
            have hbd7 := Po.bd_app hbd (x := X) (y := Y) (by omega) (by omega) (by omega) (by omega)
            clear hownx hgrow hown hQ hD hG hbd
            go_wp2
            go_roundw
            case rel => exact ⟨k2 + 1, l ++ [(X, Y)], q3 + 1, g5, cp5, by omega, by simp, by rw [Po.len_app], by rw [Po.len_app]; omega, hbd7, by omega, by omega, hD7, hG7, hQ7, hown7⟩
            case measure => simp [intOf]; omega
          · go_wp2
            go_roundw
            case rel => exact ⟨k2 + 1, l, q3 + 1, g3, cp3, by omega, by simp, rfl, by omega, hbd, by omega, by omega, hD, hG, hQ, hown⟩
            case measure => simp [intOf]; omega
        · have hk4 : ¬ (k2 : Int) < (m : Int) := by omega
          go_wp2_with fail
          refine (pick_any B a len cap zs _ 16 _ (by omega) (by omega) hD).mono ?_
          rintro e w6 ⟨v6, rfl, a6, b6, hD6, hG6⟩
          replace hown := hown.kept hG6 hne3
          replace hG := gtrans hG hG6
          replace hQ := hQ.grown hG6 (fun _ b off he => by cases he; simp; omega)
          replace hD := hD6
          have hbw6 := hG.size
          clear hD6 hG6
          by_cases h0 : v6 = 0
          · have h01 : (v6 == 0) = true := by simp [h0]
            clear h0
            go_wp2_with fail
            refine (pick_any B a len cap zs _ 9 _ (by omega) (by omega) hD).mono ?_
            rintro e w8 ⟨v8, rfl, a8, b8, hD8, hG8⟩
            replace hown := hown.kept hG8 hne3
            replace hG := gtrans hG hG8
            replace hQ := hQ.grown hG8 (fun _ b off he => by cases he; simp; omega)
            replace hD := hD8
            have hbw8 := hG.size
            have hlw := hown.lt _ rfl
            clear hD8 hG8
            go_wp2_with (at_builtin; refine wpList_append_own _ rfl _ _ 26 rfl B2 35 j0 (.agg #[.int .i64 0, .int .i64 0]) 2 16 Try.underlying26 hj hy0 hy1 hy2 rfl (by decide) _ _ _ rfl (hown.alloc (.cells #[.int .i64 (1 + v8), .int .i64 5] 35 (0, 0))) ⟨w8.heap.size, 0, none⟩ 1 1 [.int .i64 (1 + v8), .int .i64 5] rfl rfl ?_ ?_ ?_ ?_ ?_ ?_)
            any_goals first | (exact two_new _ _ _ _ _ (by simp)) | (exact ⟨rfl, rfl⟩) | (intro u hu; simp at hu; rcases hu with h | h <;> (subst h; rfl)) | omega | (unfold maxLen; omega) | (simp; omega)
            intro v' w9 hownx hgrow _
            have hlo := hown.lt _ rfl
            have hD9 := dw_of_growP (hD.alloc (.cells #[.int .i64 (1 + v8), .int .i64 5] 35 (0, 0))) hgrow (by show B < g3; omega)
            have hG9 := gtrans_own (gtrans hG (World.grownBy_alloc _ (.cells #[.int .i64 (1 + v8), .int .i64 5] 35 (0, 0)) _)) hgrow (fun j he => by have := (hown.lt _ he).1; omega)
            have hQ9 := (hQ.alloc (.cells #[.int .i64 (1 + v8), .int .i64 5] 35 (0, 0))).grown hgrow (fun _ b off he => by cases he; show some g2 ≠ some g3; simp; omega)
            obtain ⟨g5, cp5, rfl⟩ : ∃ g cp, v' = .slice (some ⟨g, 0, none⟩) (l.length + 1) cp := by
              rcases hownx.2 with ⟨h, h0⟩ | ⟨g, cap, cur, h, _⟩
              · omega
              · exact ⟨_, _, h⟩
            have hown9 : w9.ownsRow B2 35 2 (.slice (some ⟨g5, 0, none⟩) (l ++ [((1 + v8), 5)]).length cp5) (l ++ [((1 + v8), 5)]).length (Po.enc (l ++ [((1 + v8), 5)])) := by
              rw [Po.len_app, Po.enc_append]
              exact hownx
            have hbd9 := Po.bd_app hbd (x := (1 + v8)) (y := 5) (by omega) (by omega) (by omega) (by omega)
            clear hownx hgrow hown hQ hD hG hbd
            have hown10 := ownsRow_base hown9 (show w.heap.size ≤ B2 by omega)
            go_wp2
            go_ret
            exact ⟨l ++ [(1 + v8, 5)], g5, cp5, q3 + 1 + 1, by rw [Po.len_app]; rfl, by rw [Po.len_app]; omega, hbd9, hown10, by omega, by omega, hD9, hG9⟩
          · by_cases h1 : v6 = 1
            · have h01 : (v6 == 0) = false := by simp [h0]
              have h11 : (v6 == 1) = true := by simp [h1]
              have hlw := hown.lt _ rfl
              clear h0 h1
              go_wp2_with (at_builtin; refine wpList_append_own _ rfl _ _ 26 rfl B2 35 j0 (.agg #[.int .i64 0, .int .i64 0]) 2 16 Try.underlying26 hj hy0 hy1 hy2 rfl (by decide) _ _ _ rfl (hown.alloc (.cells #[.int .i64 0, .int .i64 1] 35 (0, 0))) ⟨w6.heap.size, 0, none⟩ 1 1 [.int .i64 0, .int .i64 1] rfl rfl ?_ ?_ ?_ ?_ ?_ ?_)
              any_goals first | (exact two_new _ _ _ _ _ (by simp)) | (exact ⟨rfl, rfl⟩) | (intro u hu; simp at hu; rcases hu with h | h <;> (subst h; rfl)) | omega | (unfold maxLen; omega) | (simp; omega)
              intro v' w9 hownx hgrow _
              have hlo := hown.lt _ rfl
              have hD9 := dw_of_growP (hD.alloc (.cells #[.int .i64 0, .int .i64 1] 35 (0, 0))) hgrow (by show B < g3; omega)
              have hG9 := gtrans_own (gtrans hG (World.grownBy_alloc _ (.cells #[.int .i64 0, .int .i64 1] 35 (0, 0)) _)) hgrow (fun j he => by have := (hown.lt _ he).1; omega)
              have hQ9 := (hQ.alloc (.cells #[.int .i64 0, .int .i64 1] 35 (0, 0))).grown hgrow (fun _ b off he => by cases he; show some g2 ≠ some g3; simp; omega)
              obtain ⟨g5, cp5, rfl⟩ : ∃ g cp, v' = .slice (some ⟨g, 0, none⟩) (l.length + 1) cp := by
                rcases hownx.2 with ⟨h, h0⟩ | ⟨g, cap, cur, h, _⟩
                · omega
                · exact ⟨_, _, h⟩
              have hown9 : w9.ownsRow B2 35 2 (.slice (some ⟨g5, 0, none⟩) (l ++ [(0, 1)]).length cp5) (l ++ [(0, 1)]).length (Po.enc (l ++ [(0, 1)])) := by
                rw [Po.len_app, Po.enc_append]
                exact hownx
              have hbd9 := Po.bd_app hbd (x := 0) (y := 1) (by omega) (by omega) (by omega) (by omega)
              clear hownx hgrow hown hQ hD hG hbd
              have hown10 := ownsRow_base hown9 (show w.heap.size ≤ B2 by omega)
              go_wp2
              go_ret
              exact ⟨l ++ [(0, 1)], g5, cp5, q3 + 1, by rw [Po.len_app]; rfl, by rw [Po.len_app]; omega, hbd9, hown10, by omega, by omega, hD9, hG9⟩
            · by_cases h2 : v6 = 2
              · have h01 : (v6 == 0) = false := by simp [h0]
                have h11 : (v6 == 1) = false := by simp [h1]
                have h21 : (v6 == 2) = true := by simp [h2]
                have hlw := hown.lt _ rfl
                clear h0 h1 h2
                go_wp2_with (at_builtin; refine wpList_append_own _ rfl _ _ 26 rfl B2 35 j0 (.agg #[.int .i64 0, .int .i64 0]) 2 16 Try.underlying26 hj hy0 hy1 hy2 rfl (by decide) _ _ _ rfl (hown.alloc (.cells #[.int .i64 50, .int .i64 (-1)] 35 (0, 0))) ⟨w6.heap.size, 0, none⟩ 1 1 [.int .i64 50, .int .i64 (-1)] rfl rfl ?_ ?_ ?_ ?_ ?_ ?_)
                any_goals first | (exact two_new _ _ _ _ _ (by simp)) | (exact ⟨rfl, rfl⟩) | (intro u hu; simp at hu; rcases hu with h | h <;> (subst h; rfl)) | omega | (unfold maxLen; omega) | (simp; omega)
                intro v' w9 hownx hgrow _
                have hlo := hown.lt _ rfl
                have hD9 := dw_of_growP (hD.alloc (.cells #[.int .i64 50, .int .i64 (-1)] 35 (0, 0))) hgrow (by show B < g3; omega)
                have hG9 := gtrans_own (gtrans hG (World.grownBy_alloc _ (.cells #[.int .i64 50, .int .i64 (-1)] 35 (0, 0)) _)) hgrow (fun j he => by have := (hown.lt _ he).1; omega)
                have hQ9 := (hQ.alloc (.cells #[.int .i64 50, .int .i64 (-1)] 35 (0, 0))).grown hgrow (fun _ b off he => by cases he; show some g2 ≠ some g3; simp; omega)
                obtain ⟨g5, cp5, rfl⟩ : ∃ g cp, v' = .slice (some ⟨g, 0, none⟩) (l.length + 1) cp := by
                  rcases hownx.2 with ⟨h, h0⟩ | ⟨g, cap, cur, h, _⟩
                  · omega
                  · exact ⟨_, _, h⟩
                have hown9 : w9.ownsRow B2 35 2 (.slice (some ⟨g5, 0, none⟩) (l ++ [(50, (-1))]).length cp5) (l ++ [(50, (-1))]).length (Po.enc (l ++ [(50, (-1))])) := by
                  rw [Po.len_app, Po.enc_append]
                  exact hownx
                have hbd9 := Po.bd_app hbd (x := 50) (y := (-1)) (by omega) (by omega) (by omega) (by omega)
                clear hownx hgrow hown hQ hD hG hbd
                have hown10 := ownsRow_base hown9 (show w.heap.size ≤ B2 by omega)
                go_wp2
                go_ret
                exact ⟨l ++ [(50, -1)], g5, cp5, q3 + 1, by rw [Po.len_app]; rfl, by rw [Po.len_app]; omega, hbd9, hown10, by omega, by omega, hD9, hG9⟩
              · have h01 : (v6 == 0) = false := by simp [h0]
                have h11 : (v6 == 1) = false := by simp [h1]
                have h21 : (v6 == 2) = false := by simp [h2]
                have hown10 := ownsRow_base hown (show w.heap.size ≤ B2 by omega)
                go_wp2
                go_ret
                exact ⟨l, g3, cp3, q3 + 1, rfl, by omega, hbd, hown10, by omega, by omega, hD, hG⟩
end Go.Proofs.Ytbhpealkhpginaa
