/-
  Drawing for chapter 11: what Unlock is asked.
-/
import Derived.Test.YtdaffohimifecaaGreatZg
namespace Go.Proofs.YtdaffohimifecaaGreat
open Go.RowKit

/-- Drawing a lock, a witness and what a script is run with. -/
def UnlQ (B : Nat) (a : Option Addr) (len cap : Nat) (zs : List Int) (w : World) (e : Ending) (w' : World) : Prop :=
  ∃ (s : ByteArray) (ss : List ByteArray) (g cp : Nat) (T : ByteArray) (h k : Int) (q : Nat), e = .returned (.tuple #[.string s, .slice (some ⟨g, 0, none⟩) ss.length cp, .agg #[.string T, .int .i64 h, .int .i64 k]]) ∧ s.size ≤ 5000 ∧ ss.length ≤ 6 ∧ (∀ x ∈ ss, x.size ≤ 81) ∧ T.size ≤ 5 ∧
    0 ≤ h ∧ h < 32 ∧ -2 ≤ k ∧ k < 32 ∧ Dw B a len cap zs w' q ∧ w.grownBy w' (some B) ∧ SR w' (some ⟨g, 0, none⟩) ss.length ss ∧ w.heap.size ≤ g
set_option maxRecDepth 100000 in
set_option maxHeartbeats 6400000 in
theorem l93Unlock_any (B : Nat) (a : Option Addr) (len cap : Nat) (zs : List Int) (w : World) (hD0 : Dw B a len cap zs w 0) :
    Calls Tryz.prog 43 #[.pointer (some ⟨B, 0, none⟩)] w (UnlQ B a len cap zs w) := by
  have hBlt := hD0.lt
  have hRB : w.heap.size ≠ B := by omega
  have vR0 : Bk w.heap.size 26 #[.string ⟨#[]⟩, .int .i64 0, .int .i64 0] (w.alloc (.cells #[.string ⟨#[]⟩, .int .i64 0, .int .i64 0] 26 (0, 0))) := Bk.new _ _ _
  have hG0 : w.grownBy (w.alloc (.cells #[.string ⟨#[]⟩, .int .i64 0, .int .i64 0] 26 (0, 0))) (some B) := World.grownBy_alloc w _ (some B)
  go_enter Tryz.func43, Tryz.ntmps43
  go_wp2_with fail
  refine (l91Lock_any B a len cap zs _ _ (by omega) (hD0.alloc (.cells #[.string ⟨#[]⟩, .int .i64 0, .int .i64 0] 26 (0, 0)))).mono ?_
  rintro e W1 ⟨s, q1, rfl, hs, qa, qb, hD1, hG1'⟩
  have vR1 := vR0.gbK hG1' hRB
  have hG1 := gtrans hG0 hG1'
  clear vR0 hG0 hG1' hD0
  go_wp2_with fail
  refine (l91Env_any B a len cap zs _ _ (by omega) hD1).mono ?_
  rintro e W2 ⟨T, h, k, q2, rfl, t0, t1, t2, t3, t4, qa2, qb2, hD2, hG2'⟩
  have vR2 := ((vR1.gbK hG2' hRB).alloc (.cells #[.string T, .int .i64 h, .int .i64 k] 26 (0, 0))).drew
  have vE2 : Bk W2.heap.size 26 #[.string T, .int .i64 h, .int .i64 k] (W2.alloc (.cells #[.string T, .int .i64 h, .int .i64 k] 26 (0, 0))).drew := (Bk.new _ _ _).drew
  have hEB : W2.heap.size ≠ B := by have := hD2.lt; omega
  have hER : W2.heap.size ≠ w.heap.size := by have := (vR1.gbK hG2' hRB).lt; omega
  have hG2 : w.grownBy (W2.alloc (.cells #[.string T, .int .i64 h, .int .i64 k] 26 (0, 0))).drew (some B) := grownBy_drew (gb_allocK (gtrans hG1 hG2') (.cells #[.string T, .int .i64 h, .int .i64 k] 26 (0, 0)))
  have hDd : Dw B a len cap zs (W2.alloc (.cells #[.string T, .int .i64 h, .int .i64 k] 26 (0, 0))).drew q2 := (hD2.alloc _).of fun _ _ => rfl
  have hRlt := vR2.lt
  have hSof : ∀ W, Bk W2.heap.size 26 #[.string T, .int .i64 h, .int .i64 k] W → W.cell? ⟨W2.heap.size, 0, none⟩ = some (.string T) ∧ W.cell? ⟨W2.heap.size, 1, none⟩ = some (.int .i64 h) ∧ W.cell? ⟨W2.heap.size, 2, none⟩ = some (.int .i64 k) := fun W h => ⟨h.cell 0, h.cell 1, h.cell 2⟩
  have hS0 := hSof _ vE2
  clear vR1 hG1 hG2' hD1 hD2
  go_wp2_with fail
  go_region_held3 (fun W => W.cell? ⟨W2.heap.size, 0, none⟩ = some (.string T) ∧ W.cell? ⟨W2.heap.size, 1, none⟩ = some (.int .i64 h) ∧ W.cell? ⟨W2.heap.size, 2, none⟩ = some (.int .i64 k)) (first | with_reducible exact hS0 | with_reducible exact hS1 | with_reducible exact hS2)
    (first
      | (go_at_call 79; refine (l91Witness_any B a len cap zs q2 T _ (by omega) (by omega) hDd).mono ?_; rintro e W3 ⟨ss, q3, g, cp, rfl, hl, hsz, qa3, qb3, hD3, hG3', hown⟩; have hS1 := hSof _ (vE2.gbK hG3' hEB); have vR3 := vR2.gbK hG3' hRB; obtain ⟨r0, r1, r2⟩ := Bk.c3w vR3; have f0 := vR3.fro 0; have f1 := vR3.fro 1; have f2 := vR3.fro 2; have hS2 := hSof _ ((((vE2.gbK hG3' hEB).oset w.heap.size 0 (.string T) hER).oset w.heap.size 1 (.int .i64 h) hER).oset w.heap.size 2 (.int .i64 k) hER)))
  have hR := Bk.store3w vR3 (.string T) (.int .i64 h) (.int .i64 k)
  have hDz := ((hD3.osetK w.heap.size 0 (.string T) hBlt).osetK w.heap.size 1 (.int .i64 h) hBlt).osetK w.heap.size 2 (.int .i64 k) hBlt
  have hG3 := gtrans hG2 hG3'
  have hGz := gb_setK (gb_setK (gb_setK hG3 w.heap.size 0 (.string T) (Nat.le_refl _)) w.heap.size 1 (.int .i64 h) (Nat.le_refl _)) w.heap.size 2 (.int .i64 k) (Nat.le_refl _)
  have hgr : W3.grownBy (((W3.setCell ⟨w.heap.size, 0, none⟩ (.string T)).setCell ⟨w.heap.size, 1, none⟩ (.int .i64 h)).setCell ⟨w.heap.size, 2, none⟩ (.int .i64 k)) (some w.heap.size) := gtrans (gtrans (gb_set1 _ _ _ _) (gb_set1 _ _ _ _)) (gb_set1 _ _ _ _)
  have hgl := (hown.lt g rfl).1
  have hne : w.heap.size ≠ g := fun he => by subst he; exact absurd hgl (by omega)
  have hw0 : w.heap.size ≤ g := by omega
  have hsr := (SR.own hown).2.grown hgr (fun _ b off he => by cases he; simp; omega)
  clear hS0 hS1 hS2 r0 r1 r2 f0 f1 f2 hSof hG3' hG3 hG2 hown hgr vR2 vE2 hDd hD3
  go_wp2
  refine bodyPost_ret (results_ttc (P := Tryz.prog) rfl _ _ w.heap.size 26 _ (0, 0) _ rfl hR.held Tryz.underlying26 rfl (by kernel_rfl)) rfl ?_
  exact ⟨s, ss, g, cp, T, h, k, q3, rfl, hs, hl, hsz, t0, t1, t2, t3, t4, hDz, hGz, hsr, hw0⟩
/-- Drawing what Unlock is asked. -/
def DrawUnl (w : World) (e : Ending) (w' : World) : Prop :=
  ∃ (s : ByteArray) (ss : List ByteArray) (g cp : Nat) (T : ByteArray) (h k : Int), e = .returned (.tuple #[.string s, .slice (some ⟨g, 0, none⟩) ss.length cp, .agg #[.string T, .int .i64 h, .int .i64 k]]) ∧ s.size ≤ 5000 ∧ ss.length ≤ 6 ∧ (∀ x ∈ ss, x.size ≤ 81) ∧ T.size ≤ 5 ∧
    0 ≤ h ∧ h < 32 ∧ -2 ≤ k ∧ k < 32 ∧ SR w' (some ⟨g, 0, none⟩) ss.length ss ∧ Below w.heap.size w w'
set_option maxRecDepth 100000 in
set_option maxHeartbeats 3200000 in
theorem drawUnlock_any (a : Option Addr) (len cap : Nat) (zs : List Int) (w : World) (hr : IsRow .u8 w a len cap zs) (hlm : len ≤ 1048576) :
    Calls Tryz.prog 13 #[.slice a len cap] w (DrawUnl w) := by
  have vR0 : Bk w.heap.size 26 #[.string ⟨#[]⟩, .int .i64 0, .int .i64 0] (w.alloc (.cells #[.string ⟨#[]⟩, .int .i64 0, .int .i64 0] 26 (0, 0))) := Bk.new _ _ _
  have hb0 : Below w.heap.size w (w.alloc (.cells #[.string ⟨#[]⟩, .int .i64 0, .int .i64 0] 26 (0, 0))) := below_alloc (Below.refl _ _) _
  have hr1 := hr.below hb0
  clear hr
  go_enter Tryz.func13, Tryz.ntmps13
  go_wp2_with fail
  refine (l6Open_any a len cap zs _ hr1 hlm).mono ?_
  rintro e W1 ⟨B, a', l', c', zs', rfl, hB, hD, hb1⟩
  have vR1 := vR0.below hb1
  have hRB : w.heap.size ≠ B := by simp at hB; omega
  have hBw : w.heap.size ≤ B := by simp at hB; omega
  have hb1' := hb0.trans (hb1.mono hb0.size)
  have hRlt := vR1.lt
  clear hr1 vR0 hb0 hb1 hB
  go_wp2_with fail
  refine (l93Unlock_any B a' l' c' zs' _ hD).mono ?_
  rintro e W3 ⟨s, ss, g, cp, T, h, k, q, rfl, hs, hl, hsz, t0, t1, t2, t3, t4, hD3, hG3, hsr, hgl⟩
  have vR3 := vR1.gbK hG3 hRB
  have hbel := Below.grown hb1' hG3 hb1'.size (fun j hj => by cases hj; exact hBw)
  clear vR1 hG3 hb1' hD hD3
  obtain ⟨r0, r1, r2⟩ := Bk.c3w vR3
  have f0 := vR3.fro 0
  have f1 := vR3.fro 1
  have f2 := vR3.fro 2
  have hR := Bk.store3w vR3 (.string T) (.int .i64 h) (.int .i64 k)
  have hgr : W3.grownBy (((W3.setCell ⟨w.heap.size, 0, none⟩ (.string T)).setCell ⟨w.heap.size, 1, none⟩ (.int .i64 h)).setCell ⟨w.heap.size, 2, none⟩ (.int .i64 k)) (some w.heap.size) := gtrans (gtrans (gb_set1 _ _ _ _) (gb_set1 _ _ _ _)) (gb_set1 _ _ _ _)
  have HSR := Lib.hid (hsr.grown hgr (fun _ b off he => by cases he; simp; omega))
  have hbz := Below.grown hbel hgr hbel.size (fun j hj => by cases hj; exact Nat.le_refl _)
  have HSZ := Lib.hid hsz
  clear hsr hbel hgr hsz
  go_wp2
  refine bodyPost_ret (results_ttc (P := Tryz.prog) rfl _ _ w.heap.size 26 _ (0, 0) _ rfl hR.held Tryz.underlying26 rfl (by kernel_rfl)) rfl ?_
  exact ⟨s, ss, g, cp, T, h, k, rfl, hs, hl, HSZ.out, t0, t1, t2, t3, t4, HSR.out, hbz⟩
end Go.Proofs.YtdaffohimifecaaGreat
