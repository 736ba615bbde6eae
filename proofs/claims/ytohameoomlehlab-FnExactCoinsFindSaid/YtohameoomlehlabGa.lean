/-
  The program's coins: in order; found, added, spent, summed.
-/
import Derived.Test.YtohameoomlehlabCv
import Derived.Test.YtohameoomlehlabCz
import Derived.Test.YtohameoomlehlabCf
namespace Go.Proofs.Ytohameoomlehlab
open Go.RowKit Go.Maps

set_option maxHeartbeats 800000 in
theorem collect_any (Bm b nn : Nat) (cl : List Co) (w : World) (hBm : Bm < w.heap.size) (hm : w.cell? ⟨Bm, 0, none⟩ = some (.map (some b))) (hown : CM w b nn cl) (hlen : cl.length ≤ 1000) :
    Calls Try.prog 88 #[(Value.func (.func 90) #[] #[.pointer (some ⟨Bm, 0, none⟩)])] w fun e w' => ∃ v xs, e = .returned v ∧ Hid (List.Perm xs cl) ∧ Hid (OwnC w.heap.size w' v xs) ∧ Below w.heap.size w w' := by
  have hc := appendSeq_any Bm b nn cl w hBm hm hown hlen
  clear hm hown
  go_enter Try.func88, Try.ntmps88
  go_wp2_with fail
  refine hc.mono ?_
  rintro e w1 ⟨v, xs, rfl, HP, HO, hb⟩
  go_wp2
  go_ret
  exact ⟨v, xs, rfl, HP, HO, hb⟩
set_option maxHeartbeats 800000 in
theorem sorted_any (Bm b nn : Nat) (cl l : List Co) (w : World) (hBm : Bm < w.heap.size) (hm : w.cell? ⟨Bm, 0, none⟩ = some (.map (some b))) (hown : CM w b nn cl) (hg : Co.Good l) (hp : cl.Perm l) :
    Calls Try.prog 67 #[(Value.func (.func 90) #[] #[.pointer (some ⟨Bm, 0, none⟩)]), .func (.func 38) #[] #[]] w fun e w' => ∃ v, e = .returned v ∧ Hid (OwnC w.heap.size w' v l) ∧ Below w.heap.size w w' := by
  have hl := hp.length_eq
  have hl80 := hg.len
  have hc := collect_any Bm b nn cl w hBm hm hown (by omega)
  have HG := Lib.hid hg
  have HPL := Lib.hid hp
  clear hm hown hg hp hl hl80
  go_enter Try.func67, Try.ntmps67
  go_wp2_with fail
  refine hc.mono ?_
  rintro e w1 ⟨v, xs, rfl, HP, HO, hb⟩
  have hsc := sortCoins_any w.heap.size v xs l w1 HO.out HG.out (HP.out.trans HPL.out) hb.size
  clear hc
  go_wp2_with fail
  refine hsc.mono ?_
  rintro e w2 ⟨rfl, HO2, hb2⟩
  have hb3 := hb.trans hb2
  clear hsc hb hb2
  go_wp2
  go_ret
  exact ⟨v, rfl, HO2, hb3⟩
set_option maxHeartbeats 800000 in
theorem inOrder_any (b nn : Nat) (cl l : List Co) (w : World) (hown : CM w b nn cl) (hg : Co.Good l) (hp : cl.Perm l) :
    Calls Try.prog 44 #[.map (some b)] w fun e w' => ∃ v, e = .returned v ∧ Hid (OwnC w.heap.size w' v l) ∧ Below w.heap.size w w' := by
  have hv := values_any (some b) w
  have bM : (w.alloc (.cells #[.map (some b)] 56)).cell? ⟨w.heap.size, 0, none⟩ = some (.map (some b)) := (Bk.new w 56 #[.map (some b)]).cell 0
  have hs := sorted_any w.heap.size b nn cl l (w.alloc (.cells #[.map (some b)] 56)) (by simp) bM (hown.alloc _) hg hp
  have hb0 : Below w.heap.size w (w.alloc (.cells #[.map (some b)] 56)) := (Below.refl _ _).alloc (Nat.le_refl _) _
  clear hown hg hp bM
  go_enter Try.func44, Try.ntmps44
  go_wp2_with fail
  refine hv.mono ?_
  rintro e w1 ⟨rfl, rfl⟩
  go_wp2_with fail
  refine hs.mono ?_
  rintro e w2 ⟨v, rfl, HO, hb⟩
  have hb3 := hb0.trans (hb.mono hb0.size)
  have HO2 := Lib.hid (OwnC.base HO.out hb0.size)
  clear hs hv hb0 hb HO
  go_wp2
  go_ret
  exact ⟨v, rfl, HO2, hb3⟩
theorem CoA.mk {c : Co} {ok : Bool} {w : World} {e : Ending} {w' : World} (h : e = .returned (.tuple #[.agg #[.int .i64 c.tx, .int .i64 c.out, .int .i64 c.amt, .string c.lock, .int .i64 c.ht, .bool c.rew], .bool ok])) (hb : Below w.heap.size w w') : CoA c ok w e w' := ⟨h, hb⟩
set_option maxRecDepth 100000 in
set_option maxHeartbeats 800000 in
theorem implCoinsFind_any (lo : Nat) (a : Option Addr) (n c : Nat) (l : List Co) (t o : Int) (w : World) (h : CoL lo w a n l) (hcap : n ≤ c) (hn : n ≤ 1048576) (hs : ∀ x ∈ l, x.lock.size ≤ 1048576) (hi : Co.In t o) :
    Calls Try.prog 17 #[.slice a n c, .int .i64 t, .int .i64 o] w (CoA (Co.get (Co.find l t o)) (Co.find l t o).isSome w) := by
  have hb0 : Below w.heap.size w (w.alloc (.cells #[.int .i64 0, .int .i64 0, .int .i64 0, .string ⟨#[]⟩, .int .i64 0, .bool false] 30 (0, 0))) := (Below.refl _ _).alloc (Nat.le_refl _) _
  have v0 : Bk w.heap.size 30 #[.int .i64 0, .int .i64 0, .int .i64 0, .string ⟨#[]⟩, .int .i64 0, .bool false] (w.alloc (.cells #[.int .i64 0, .int .i64 0, .int .i64 0, .string ⟨#[]⟩, .int .i64 0, .bool false] 30 (0, 0))) := Bk.new _ _ _
  cases hl : Co.lok l with
  | false =>
    rw [Co.find_no1 hl]
    have hc := coinMapOf_no lo a n c l _ (h.alloc (.cells #[.int .i64 0, .int .i64 0, .int .i64 0, .string ⟨#[]⟩, .int .i64 0, .bool false] 30 (0, 0))) hcap hn hs hl
    clear h hs hl hcap
    go_enter Try.func17, Try.ntmps17
    go_wp2_with fail
    refine hc.mono ?_
    rintro e w1 ⟨rfl, hx⟩
    have v1 := v0.below hx
    have hb1 := hb0.trans (hx.mono hb0.size)
    have hR := v1.store6 (.int .i64 0) (.int .i64 0) (.int .i64 0) (.string ⟨#[]⟩) (.int .i64 0) (.bool false)
    have hb2 := below_set6 hb1 (B := w.heap.size) (Nat.le_refl _) (.int .i64 0) (.int .i64 0) (.int .i64 0) (.string ⟨#[]⟩) (.int .i64 0) (.bool false)
    obtain ⟨c0, c1, c2, c3, c4, c5⟩ := Bk.c6 v1
    obtain ⟨f0, f1, f2, f3, f4, f5⟩ := Bk.f6 v1
    clear hc v0 hb0 hx hb1
    go_wp2
    refine bodyPost_ret (results_cell_rowC (P := Try.prog) rfl _ _ w.heap.size 30 _ (0, 0) _ rfl hR.held Try.underlying30 rfl (by kernel_rfl)) rfl ?_
    exact ⟨rfl, hb2⟩
  | true =>
    have hpf := Co.pick_find hl t o
    have hc := coinMapOf_yes lo a n c l _ (h.alloc (.cells #[.int .i64 0, .int .i64 0, .int .i64 0, .string ⟨#[]⟩, .int .i64 0, .bool false] 30 (0, 0))) hcap hn hs hl
    rw [← hpf]
    clear h hs hl hcap hpf
    go_enter Try.func17, Try.ntmps17
    go_wp2_with fail
    refine hc.mono ?_
    rintro e w1 ⟨B, rfl, hB, HM, hx⟩
    have v1 := v0.below hx
    have hb1 := hb0.trans (hx.mono hb0.size)
    have hlk := HM.out.look hi
    have HY : Hid (∀ y, (Co.pick l t o).getD ⟨0, 0, 0, ⟨#[]⟩, 0, false⟩ = y → Co.get (Co.pick l t o) = y) := Lib.hid (fun y h => h)
    obtain ⟨y, hy⟩ : ∃ y : Co, (Co.pick l t o).getD ⟨0, 0, 0, ⟨#[]⟩, 0, false⟩ = y := ⟨_, rfl⟩
    have HY2 := Lib.hid (HY.out y hy)
    rw [hy] at hlk
    obtain ⟨p, hp⟩ : ∃ p, Hid ((Co.pick l t o).isSome = p) := ⟨_, Lib.hid rfl⟩
    rw [hp.out] at hlk
    obtain ⟨y0, y1, y2, y3, y4, y5⟩ := y
    simp only [Co.kv, Co.val] at hlk
    have v2 := v1.alloc (.cells #[.int .i64 y0, .int .i64 y1, .int .i64 y2, .string y3, .int .i64 y4, .bool y5] 30 (0, 0))
    have u2 := Bk.new w1 30 #[.int .i64 y0, .int .i64 y1, .int .i64 y2, .string y3, .int .i64 y4, .bool y5]
    have hb2 := hb1.alloc hb1.size (.cells #[.int .i64 y0, .int .i64 y1, .int .i64 y2, .string y3, .int .i64 y4, .bool y5] 30 (0, 0))
    have hR := v2.store6 (.int .i64 y0) (.int .i64 y1) (.int .i64 y2) (.string y3) (.int .i64 y4) (.bool y5)
    have hb3 := below_set6 hb2 (B := w.heap.size) (Nat.le_refl _) (.int .i64 y0) (.int .i64 y1) (.int .i64 y2) (.string y3) (.int .i64 y4) (.bool y5)
    obtain ⟨c0, c1, c2, c3, c4, c5⟩ := Bk.c6 v2
    obtain ⟨f0, f1, f2, f3, f4, f5⟩ := Bk.f6 v2
    obtain ⟨d0, d1, d2, d3, d4, d5⟩ := Bk.c6 u2
    have hne : w.heap.size ≠ w1.heap.size := by have := v1.lt; omega
    clear hc v0 v1 v2 u2 hb0 hx hb1 hb2 hy HY hB
    go_wp2
    refine bodyPost_ret (results_cell_rowC (P := Try.prog) rfl _ _ w.heap.size 30 _ (0, 0) _ rfl hR.held Try.underlying30 rfl (by kernel_rfl)) rfl ?_
    rw [HY2.out, hp.out]
    exact ⟨rfl, hb3⟩
end Go.Proofs.Ytohameoomlehlab
