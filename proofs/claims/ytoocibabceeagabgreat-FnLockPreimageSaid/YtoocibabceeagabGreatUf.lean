import Derived.Test.YtoocibabceeagabGreatUc
import Derived.Test.YtoocibabceeagabGreatYf
import Derived.Laws.EntriesVeiled
import Derived.Shelf.Abstract
/-
  Contracts of the program: names of locks.
-/
namespace Go.Proofs.YtoocibabceeagabGreat
open Go.RowKit

set_option maxRecDepth 100000 in
set_option maxHeartbeats 3200000 in
theorem termsDigest_any (a : Option Addr) (n cap : Nat) (ds : List Int) (num : Int) (i : Nat) (w : World) (hd : IR w a n ds) (hn : n ≤ 100) (hi : i ≤ 5) :
    Calls Tryz.prog 120 #[.agg #[.slice a n cap, .int .i64 num], .int .i64 (i : Int)] w fun e w' => e = .returned (.int .i64 (ds.getD i (-1))) ∧ Below w.heap.size w w' := by
  have HX : Bk w.heap.size 105 #[.slice a n cap, .int .i64 num] (w.alloc (.cells #[.slice a n cap, .int .i64 num] 105 (0, 0))) := Bk.new _ _ _
  have hb0 : Below w.heap.size w (w.alloc (.cells #[.slice a n cap, .int .i64 num] 105 (0, 0))) := (Below.refl _ _).alloc (Nat.le_refl _) _
  have hl := hd.1
  by_cases h : i < n
  · obtain ⟨b, off, rfl, _, hc⟩ := (hd.alloc (.cells #[.slice a n cap, .int .i64 num] 105 (0, 0))).2 (by omega)
    have hck := hc i h
    have e : ds.getD i (-1) = ds.getD i 0 := by
      rw [List.getD_eq_getElem?_getD, List.getD_eq_getElem?_getD, List.getElem?_eq_getElem (by omega)]
      rfl
    rw [e]
    obtain ⟨x, HXX⟩ : ∃ x, Hid (ds.getD i 0 = x) := ⟨_, Lib.hid rfl⟩
    rw [HXX.out] at hck ⊢
    obtain ⟨c0, c1⟩ := Bk.c2 HX
    clear hc e hl hd
    go_enter Tryz.func120, Tryz.ntmps120
    go_wp2
    go_ret
    exact ⟨rfl, hb0⟩
  · have e : ds.getD i (-1) = -1 := by
      rw [List.getD_eq_getElem?_getD, List.getElem?_eq_none (by omega)]
      rfl
    rw [e]
    obtain ⟨c0, c1⟩ := Bk.c2 HX
    clear e hl hd
    go_enter Tryz.func120, Tryz.ntmps120
    go_wp2
    go_ret
    exact ⟨rfl, hb0⟩
def Lk.dsN (l : List Jo) (k : Nat) : List Int := Lk.ds (l.take k)
theorem Lk.ds_le (l : List Jo) : (Lk.ds l).length ≤ l.length := by
  unfold Lk.ds
  rw [List.length_map]
  exact List.length_filter_le _ _
theorem Jo.take_at {l : List Jo} {k : Nat} (h : k < l.length) : l.take (k + 1) = l.take k ++ [Jo.at_ l k] := by
  rw [List.take_add_one, Jo.at_get h]
  rfl
theorem info_int : (Tryz.prog.info? 3).map (fun i => (i.zero, i.size, i.bytes)) = some (some (.int .i64 0), 1, 8) := by kernel_rfl
theorem one_newI (W : World) (a : Value) (t : TypeId) : ∀ j u, [a][j]? = some u → (W.alloc (.cells #[a] t (0, 0))).cell? ((⟨W.heap.size, 0, none⟩ : Addr).add j) = some u := by
  intro j u hj
  have hadr : (⟨W.heap.size, 0, none⟩ : Addr).add j = ⟨W.heap.size, j, none⟩ := by unfold Addr.add; split <;> simp_all
  rw [hadr]
  exact (World.cell?_alloc_mark W #[a] t (0, 0) j).trans (by simpa using hj)
set_option maxRecDepth 100000 in
set_option maxHeartbeats 3200000 in
theorem termsOf_any (a : Option Addr) (len cap : Nat) (l : List Jo) (w : World) (hO : OL w a len l) (hm : len ≤ 100) :
    Calls Tryz.prog 80 #[.slice a len cap] w fun e w' => ∃ g c, e = .returned (.agg #[.slice g (Lk.ds l).length c, .int .i64 (Lk.num l)]) ∧ IR w' g (Lk.ds l).length (Lk.ds l) ∧ Below w.heap.size w w' := by
  obtain ⟨i0, hi, hz0, hz1, hz2⟩ := info_parts info_int
  have HL := Lib.hid hO.1
  have HO := Lib.hid hO
  have vR0 : Bk w.heap.size 105 #[.slice none 0 0, .int .i64 0] ((w.alloc (.cells #[.slice none 0 0, .int .i64 0] 105 (0, 0))).alloc (.cells #[.slice none 0 0, .int .i64 0] 105 (0, 0))) := (Bk.new _ _ _).alloc _
  have vT0 : Bk (w.heap.size + 1) 105 #[.slice none 0 0, .int .i64 0] ((w.alloc (.cells #[.slice none 0 0, .int .i64 0] 105 (0, 0))).alloc (.cells #[.slice none 0 0, .int .i64 0] 105 (0, 0))) := Bk.new' _ _ _ _ (by simp)
  have hb0 : Below w.heap.size w ((w.alloc (.cells #[.slice none 0 0, .int .i64 0] 105 (0, 0))).alloc (.cells #[.slice none 0 0, .int .i64 0] 105 (0, 0))) := below_alloc (below_alloc (Below.refl _ _) _) _
  clear hO
  go_enter Tryz.func80, Tryz.ntmps80
  go_wp2
  go_loopw [10] (fun i wr => ∃ (k : Nat) (v : Value), k ≤ len ∧ i = .int .i64 (k : Int) ∧ Hid (Bk w.heap.size 105 #[.slice none 0 0, .int .i64 0] wr) ∧ Hid (Bk (w.heap.size + 1) 105 #[v, .int .i64 (Lk.num (l.take k))] wr) ∧ Hid (wr.ownsRow w.heap.size 3 1 v (Lk.dsN l k).length ((Lk.dsN l k).map (Value.int .i64))) ∧ Below w.heap.size w wr)
    (fun i _ => len - (intOf i).toNat)
  case atStart => exact ⟨0, _, by omega, rfl, Lib.hid vR0, Lib.hid vT0, Lib.hid (World.ownsRow_nil _ _ _ _), hb0⟩
  case round =>
    obtain ⟨k, v, hk, rfl, HR, HT, HOWN, hbel⟩ := hrel
    clear vR0 vT0 hb0
    obtain ⟨nm, HNM⟩ : ∃ x, Hid (Lk.num (l.take k) = x) := ⟨_, Lib.hid rfl⟩
    obtain ⟨dk, HDK⟩ : ∃ x, Hid (Lk.dsN l k = x) := ⟨_, Lib.hid rfl⟩
    rw [HNM.out] at HT
    rw [HDK.out] at HOWN
    have hdl : dk.length ≤ 100 := by
      rw [← HDK.out]
      have h1 := Lk.ds_le (l.take k)
      have h2 := HL.out
      rw [List.length_take] at h1
      unfold Lk.dsN
      omega
    obtain ⟨dn, HDN⟩ : ∃ x, Hid (dk.length = x) := ⟨_, Lib.hid rfl⟩
    rw [HDN.out] at hdl HOWN
    obtain ⟨va, vc, rfl⟩ : ∃ va vc, v = .slice va dn vc := by
      rcases HOWN.out.2 with ⟨h1, h2⟩ | ⟨g, cap', cur, h1, _⟩
      · exact ⟨none, 0, by rw [h1, h2]⟩
      · exact ⟨_, _, h1⟩
    by_cases hlt : k < len
    · obtain ⟨b, off, rfl, _, hc⟩ := (HO.out.below hbel).2 (by omega)
      obtain ⟨p0, p1, p2, p3⟩ := hc k hlt
      obtain ⟨yc, ya, yb, yt, HY⟩ : ∃ c a b t, Hid (Jo.at_ l k = ⟨c, a, b, t⟩) := ⟨_, _, _, _, Lib.hid rfl⟩
      rw [HY.out] at p0 p1 p2 p3
      simp only at p0 p1 p2 p3
      have HTK := Lib.hid (Jo.take_at (l := l) (k := k) (by rw [HL.out]; exact hlt))
      have HDS : Hid (Lk.dsN l (k + 1) = if Lk.has ⟨yc, ya, yb, yt⟩ = true then dk ++ [Dg.num yt] else dk) := Lib.hid (by
        unfold Lk.dsN
        rw [HTK.out, Lk.ds_snoc, HY.out, ← HDK.out]
        rfl)
      have HNU : Hid (Lk.num (l.take (k + 1)) = if Lk.sets ⟨yc, ya, yb, yt⟩ = true then ya else nm) := Lib.hid (by
        rw [HTK.out, Lk.num_snoc, HY.out, ← HNM.out])
      have hsz := hbel.size
      have HB2 := hbel.alloc hsz (.cells #[.int .i64 yc, .int .i64 ya, .int .i64 yb, .string yt] 77 (0, 0))
      have vO : Bk wr.heap.size 77 #[.int .i64 yc, .int .i64 ya, .int .i64 yb, .string yt] (wr.alloc (.cells #[.int .i64 yc, .int .i64 ya, .int .i64 yb, .string yt] 77 (0, 0))) := Bk.new _ _ _
      have HR2 := Lib.hid (HR.out.alloc (.cells #[.int .i64 yc, .int .i64 ya, .int .i64 yb, .string yt] 77 (0, 0)))
      have HT2 := Lib.hid (HT.out.alloc (.cells #[.int .i64 yc, .int .i64 ya, .int .i64 yb, .string yt] 77 (0, 0)))
      have HOWN2 := Lib.hid (HOWN.out.alloc (.cells #[.int .i64 yc, .int .i64 ya, .int .i64 yb, .string yt] 77 (0, 0)))
      obtain ⟨y0, y1, y2, y3⟩ := Bk.c4 vO
      clear hc HTK
      by_cases hc0 : yc = 0
      · subst hc0
        have HN2 : Hid (Lk.num (l.take (k + 1)) = nm) := Lib.hid (by rw [HNU.out, if_neg (by unfold Lk.sets; simp)])
        by_cases h4 : yt.size = 4
        · have HD2 : Hid (Lk.dsN l (k + 1) = dk ++ [Dg.num yt]) := Lib.hid (by rw [HDS.out, if_pos (by unfold Lk.has; simp [h4])])
          have hcon := fun W => implBytesDigest_ok yt W h4
          obtain ⟨d, HDD⟩ : ∃ d, Hid (Dg.num yt = d) := ⟨_, Lib.hid rfl⟩
          rw [HDD.out] at hcon HD2
          clear HDD HDS HNU h4
          go_wp2_with fail
          refine (hcon _).mono ?_
          rintro e w2 ⟨rfl, hb2⟩
          have HR3 := Lib.hid (HR2.out.below hb2)
          have HT3 := HT2.out.below hb2
          have hown3 := HOWN2.out.kept (row := none) ⟨hb2.os, hb2.tape, hb2.output, hb2.size, fun k hk _ => hb2.block k hk⟩ (Classical.em _)
          have hb3 := HB2.trans (hb2.mono HB2.size)
          have hsz3 := hb3.size
          obtain ⟨t0, t1⟩ := Bk.c2 HT3
          have HT4 := Lib.hid HT3
          have S1 := Lib.hid (one_newI w2 (.int .i64 d) 3)
          clear hcon hb2 HB2 vO y0 y1 y2 y3 HR2 HT2 HOWN2 p0 p1 p2 p3 HT3
          go_wp2_with (at_builtin; refine wpList_append_own _ rfl _ _ 41 rfl w.heap.size 3 i0 (.int .i64 0) 1 8 Tryz.underlying41 hi hz0 hz1 hz2 rfl (by decide) _ _ _ rfl (hown3.alloc (.cells #[.int .i64 d] 3 (0, 0))) ⟨w2.heap.size, 0, none⟩ 1 1 [.int .i64 d] rfl rfl ?_ ?_ ?_ ?_ ?_ ?_)
          any_goals first | exact S1.out | (intro u hu; simp at hu; rcases hu with rfl; rfl) | (unfold maxLen; omega) | omega | exact Nat.le_trans hsz3 (by simp) | (simp; omega)
          intro v' w5 hown5 hgrow _
          obtain ⟨va2, vc2, hv2⟩ : ∃ va2 vc2, v' = .slice va2 (dn + 1) vc2 := by
            rcases hown5.2 with ⟨h1, h2⟩ | ⟨g, cap', cur, h1, _⟩
            · omega
            · exact ⟨_, _, h1⟩
          subst hv2
          have hneT : (.slice va dn vc : Value).ownBlock ≠ some (w.heap.size + 1) := own_type hown3 (by decide) HT4.out.held
          have hneR : (.slice va dn vc : Value).ownBlock ≠ some w.heap.size := own_type hown3 (by decide) HR3.out.held
          have HT5 := (HT4.out.alloc (.cells #[.int .i64 d] 3 (0, 0))).gbY hgrow (fun h => hneT h.symm)
          have HR5 := (HR3.out.alloc (.cells #[.int .i64 d] 3 (0, 0))).gbY hgrow (fun h => hneR h.symm)
          have hb5 := Below.grown (below_alloc hb3 (.cells #[.int .i64 d] 3 (0, 0))) hgrow (below_alloc hb3 (.cells #[.int .i64 d] 3 (0, 0))).size (fun j he => (hown3.lt j he).1)
          have hneT5 : (.slice va2 (dn + 1) vc2 : Value).ownBlock ≠ some (w.heap.size + 1) := own_type hown5 (by decide) HT5.held
          have HR6 := Lib.hid (HR5.oset (w.heap.size + 1) 0 (.slice va2 (dn + 1) vc2) (by omega))
          have HT6 : Hid (Bk (w.heap.size + 1) 105 #[.slice va2 (dn + 1) vc2, .int .i64 (Lk.num (l.take (k + 1)))] (w5.setCell ⟨w.heap.size + 1, 0, none⟩ (.slice va2 (dn + 1) vc2))) := Lib.hid (by
            rw [HN2.out]
            exact HT5.set 0 (.slice va2 (dn + 1) vc2))
          have HOWN6 : Hid ((w5.setCell ⟨w.heap.size + 1, 0, none⟩ (.slice va2 (dn + 1) vc2)).ownsRow w.heap.size 3 1 (.slice va2 (dn + 1) vc2) (Lk.dsN l (k + 1)).length ((Lk.dsN l (k + 1)).map (Value.int .i64))) := Lib.hid (by
            rw [HD2.out, List.length_append, HDN.out, List.map_append]
            exact own_set hown5 (w.heap.size + 1) 0 (.slice va2 (dn + 1) vc2) hneT5)
          have hb6 := hb5.setCell (p := ⟨w.heap.size + 1, 0, none⟩) (show w.heap.size ≤ w.heap.size + 1 by omega) (.slice va2 (dn + 1) vc2)
          obtain ⟨t50, t51⟩ := Bk.c2 HT5
          obtain ⟨f50, f51⟩ := HT5.f2
          clear hown3 hown5 hgrow hneT hneR hneT5 HT5 HR5 hb5 hb3 t0 t1 HT4 HR3 S1
          go_wp2
          go_roundw
          case rel => exact ⟨k + 1, _, by omega, by simp, HR6, HT6, HOWN6, hb6⟩
          case measure => simp [intOf]; omega
        · have HD2 : Hid (Lk.dsN l (k + 1) = dk) := Lib.hid (by rw [HDS.out, if_neg (by unfold Lk.has; simp [h4])])
          have hcon := fun W => implBytesDigest_no yt W h4
          clear HDS HNU h4
          go_wp2_with fail
          refine (hcon _).mono ?_
          rintro e w2 ⟨rfl, hb2⟩
          have HR3 := Lib.hid (HR2.out.below hb2)
          have HT3 : Hid (Bk (w.heap.size + 1) 105 #[.slice va dn vc, .int .i64 (Lk.num (l.take (k + 1)))] w2) := Lib.hid (by rw [HN2.out]; exact HT2.out.below hb2)
          have HOWN3 : Hid (w2.ownsRow w.heap.size 3 1 (.slice va dn vc) (Lk.dsN l (k + 1)).length ((Lk.dsN l (k + 1)).map (Value.int .i64))) := Lib.hid (by
            rw [HD2.out, HDN.out]
            exact HOWN2.out.kept (row := none) ⟨hb2.os, hb2.tape, hb2.output, hb2.size, fun k hk _ => hb2.block k hk⟩ (Classical.em _))
          have hb3 := HB2.trans (hb2.mono HB2.size)
          clear hcon hb2 HB2 vO y0 y1 y2 y3 HR2 HT2 HOWN2 p0 p1 p2 p3
          go_wp2
          go_roundw
          case rel => exact ⟨k + 1, _, by omega, by simp, HR3, HT3, HOWN3, hb3⟩
          case measure => simp [intOf]; omega
      have hq0 : (yc == 0) = false := by simpa using hc0
      have HD2 : Hid (Lk.dsN l (k + 1) = dk) := Lib.hid (by rw [HDS.out, if_neg (by unfold Lk.has; simp [hc0])])
      have HOWN3 : Hid ((wr.alloc (.cells #[.int .i64 yc, .int .i64 ya, .int .i64 yb, .string yt] 77 (0, 0))).ownsRow w.heap.size 3 1 (.slice va dn vc) (Lk.dsN l (k + 1)).length ((Lk.dsN l (k + 1)).map (Value.int .i64))) := Lib.hid (by
        rw [HD2.out, HDN.out]
        exact HOWN2.out)
      by_cases hs : Lk.sets ⟨yc, ya, yb, yt⟩ = true
      · have HN2 : Hid (Lk.num (l.take (k + 1)) = ya) := Lib.hid (by rw [HNU.out, if_pos hs])
        have hcc : yc = 12 ∨ yc = 13 ∨ yc = 14 := by
          unfold Lk.sets at hs
          simpa using hs
        have hne : (.slice va dn vc : Value).ownBlock ≠ some (w.heap.size + 1) := own_type HOWN2.out (by decide) HT2.out.held
        have HR6 := Lib.hid (HR2.out.oset (w.heap.size + 1) 1 (.int .i64 ya) (by omega))
        have HT6 : Hid (Bk (w.heap.size + 1) 105 #[.slice va dn vc, .int .i64 (Lk.num (l.take (k + 1)))] ((wr.alloc (.cells #[.int .i64 yc, .int .i64 ya, .int .i64 yb, .string yt] 77 (0, 0))).setCell ⟨w.heap.size + 1, 1, none⟩ (.int .i64 ya))) := Lib.hid (by
          rw [HN2.out]
          exact HT2.out.set 1 (.int .i64 ya))
        have HOWN6 : Hid (((wr.alloc (.cells #[.int .i64 yc, .int .i64 ya, .int .i64 yb, .string yt] 77 (0, 0))).setCell ⟨w.heap.size + 1, 1, none⟩ (.int .i64 ya)).ownsRow w.heap.size 3 1 (.slice va dn vc) (Lk.dsN l (k + 1)).length ((Lk.dsN l (k + 1)).map (Value.int .i64))) := Lib.hid (by
          rw [HD2.out, HDN.out]
          exact own_set HOWN2.out (w.heap.size + 1) 1 _ hne)
        have hb6 := HB2.setCell (p := ⟨w.heap.size + 1, 1, none⟩) (show w.heap.size ≤ w.heap.size + 1 by omega) (.int .i64 ya)
        obtain ⟨t0, t1⟩ := Bk.c2 HT.out
        obtain ⟨f0, f1⟩ := HT.out.f2
        obtain ⟨t20, t21⟩ := Bk.c2 HT2.out
        obtain ⟨f20, f21⟩ := HT2.out.f2
        clear HDS HNU hs hne HB2 HR2 HT2 HOWN2 HR HT HOWN hbel
        rcases hcc with rfl | rfl | rfl
        all_goals
          go_wp2
          go_roundw
          case rel => exact ⟨k + 1, _, by omega, by simp, HR6, HT6, HOWN6, hb6⟩
          case measure => simp [intOf]; omega
      · have HN2 : Hid (Lk.num (l.take (k + 1)) = nm) := Lib.hid (by rw [HNU.out, if_neg hs])
        obtain ⟨h12, h13, h14⟩ : yc ≠ 12 ∧ yc ≠ 13 ∧ yc ≠ 14 := by
          unfold Lk.sets at hs
          simpa using hs
        have hq1 : (yc == 12) = false := by simpa using h12
        have hq2 : (yc == 13) = false := by simpa using h13
        have hq3 : (yc == 14) = false := by simpa using h14
        have HT3 : Hid (Bk (w.heap.size + 1) 105 #[.slice va dn vc, .int .i64 (Lk.num (l.take (k + 1)))] (wr.alloc (.cells #[.int .i64 yc, .int .i64 ya, .int .i64 yb, .string yt] 77 (0, 0)))) := Lib.hid (by rw [HN2.out]; exact HT2.out)
        clear HDS HNU hs h12 h13 h14 hc0 HT2 HOWN2 HR HT HOWN hbel
        go_wp2
        go_roundw
        case rel => exact ⟨k + 1, _, by omega, by simp, HR2, HT3, HOWN3, HB2⟩
        case measure => simp [intOf]; omega
    · obtain rfl : k = len := by omega
      have HTK : Hid (l.take k = l) := Lib.hid (List.take_of_length_le (by rw [HL.out]; exact Nat.le_refl _))
      have HE1 : Hid (Lk.num l = nm) := Lib.hid (by have := HNM.out; rw [HTK.out] at this; exact this)
      have HE2 : Hid (Lk.ds l = dk) := Lib.hid (by rw [← HDK.out]; unfold Lk.dsN; rw [HTK.out])
      obtain ⟨t0, t1⟩ := Bk.c2 HT.out
      obtain ⟨r0, r1⟩ := Bk.c2 HR.out
      obtain ⟨f0, f1⟩ := HR.out.f2
      have vR9 := HR.out.store2 (.slice va dn vc) (.int .i64 nm)
      have hneR : (.slice va dn vc : Value).ownBlock ≠ some w.heap.size := own_type HOWN.out (by decide) HR.out.held
      have hir := (IR.own (own_set (own_set HOWN.out w.heap.size 0 (.slice va dn vc) hneR) w.heap.size 1 (.int .i64 nm) hneR)).2
      have hb9 := below_store2 hbel w.heap.size (Nat.le_refl _) (.slice va dn vc) (.int .i64 nm)
      have HIR := Lib.hid hir
      clear HR HT HOWN hbel hneR hir
      go_wp2
      refine bodyPost_ret (results_cell_row (P := Tryz.prog) rfl _ _ w.heap.size 105 _ (0, 0) _ rfl vR9.held Tryz.underlying105 rfl (by kernel_rfl)) rfl ?_
      exact ⟨va, vc, by rw [HE1.out, HE2.out, HDN.out], by rw [HE2.out, HDN.out]; exact HIR.out, hb9⟩
end Go.Proofs.YtoocibabceeagabGreat

/-
  Contracts of the program: the kinds of locks, LockName.
-/
namespace Go.Proofs.YtoocibabceeagabGreat
open Go.RowKit

set_option maxRecDepth 100000 in
set_option maxHeartbeats 3200000 in
theorem lockKinds1_any (a : Option Addr) (n cap : Nat) (ds : List Int) (num : Int) (w : World) (hd : IR w a n ds) (hn : n ≤ 100) :
    Calls Tryz.prog 119 #[.agg #[.slice a n cap, .int .i64 num]] w (LkQ (Lk.okk 0 ds num) (Lk.mk 0 ds num) w) := by
  have HX : Bk w.heap.size 105 #[.slice a n cap, .int .i64 num] (w.alloc (.cells #[.slice a n cap, .int .i64 num] 105 (0, 0))) := Bk.new _ _ _
  have hb0 : Below w.heap.size w (w.alloc (.cells #[.slice a n cap, .int .i64 num] 105 (0, 0))) := (Below.refl _ _).alloc (Nat.le_refl _) _
  have HD := Lib.hid (hd.alloc (.cells #[.slice a n cap, .int .i64 num] 105 (0, 0)))
  have HC : Hid (∀ W x, ds.getD 0 (-1) = x → Calls Tryz.prog 16 #[.int .i64 x] W (LkQ (Lk.okk 0 ds num) (Lk.mk 0 ds num) W)) := Lib.hid fun W x hx => by
    subst hx
    exact implLockKey_any _ W
  unfold LkQ at HC
  unfold LkQ
  obtain ⟨ok, HOK⟩ : ∃ x, Hid (Lk.okk 0 ds num = x) := ⟨_, Lib.hid rfl⟩
  rw [HOK.out] at HC ⊢
  obtain ⟨S, HS⟩ : ∃ x, Hid (Lk.s ok (Lk.mk 0 ds num) = x) := ⟨_, Lib.hid rfl⟩
  rw [HS.out] at HC ⊢
  have HT0 := Lib.hid (fun W h => termsDigest_any a n cap ds num 0 W h hn (by decide))
  obtain ⟨x0, HX0⟩ : ∃ x, Hid (ds.getD 0 (-1) = x) := ⟨_, Lib.hid rfl⟩
  rw [HX0.out] at HT0
  obtain ⟨c0, c1⟩ := Bk.c2 HX
  clear hd
  go_enter Tryz.func119, Tryz.ntmps119
  go_wp2_with fail
  refine (HT0.out _ HD.out).mono ?_
  rintro e w1 ⟨rfl, hb1⟩
  have hb2 := below_aft9 hb0 hb1
  clear hb1
  go_wp2_with fail
  refine (HC.out _ _ HX0.out).mono ?_
  rintro e w2 ⟨rfl, hb3⟩
  have hb4 := below_aft9 hb2 hb3
  go_wp2
  go_ret2
  exact ⟨rfl, hb4⟩
set_option maxRecDepth 100000 in
set_option maxHeartbeats 3200000 in
theorem lockKinds2_any (a : Option Addr) (n cap : Nat) (ds : List Int) (num : Int) (w : World) (hd : IR w a n ds) (hn : n ≤ 100) :
    Calls Tryz.prog 121 #[.agg #[.slice a n cap, .int .i64 num]] w (LkQ (Lk.okk 1 ds num) (Lk.mk 1 ds num) w) := by
  have HX : Bk w.heap.size 105 #[.slice a n cap, .int .i64 num] (w.alloc (.cells #[.slice a n cap, .int .i64 num] 105 (0, 0))) := Bk.new _ _ _
  have hb0 : Below w.heap.size w (w.alloc (.cells #[.slice a n cap, .int .i64 num] 105 (0, 0))) := (Below.refl _ _).alloc (Nat.le_refl _) _
  have HD := Lib.hid (hd.alloc (.cells #[.slice a n cap, .int .i64 num] 105 (0, 0)))
  have HC : Hid (∀ W x, ds.getD 0 (-1) = x → Calls Tryz.prog 122 #[.int .i64 x] W (LkQ (Lk.okk 1 ds num) (Lk.mk 1 ds num) W)) := Lib.hid fun W x hx => by
    subst hx
    exact implLockDigest_any _ W
  unfold LkQ at HC
  unfold LkQ
  obtain ⟨ok, HOK⟩ : ∃ x, Hid (Lk.okk 1 ds num = x) := ⟨_, Lib.hid rfl⟩
  rw [HOK.out] at HC ⊢
  obtain ⟨S, HS⟩ : ∃ x, Hid (Lk.s ok (Lk.mk 1 ds num) = x) := ⟨_, Lib.hid rfl⟩
  rw [HS.out] at HC ⊢
  have HT0 := Lib.hid (fun W h => termsDigest_any a n cap ds num 0 W h hn (by decide))
  obtain ⟨x0, HX0⟩ : ∃ x, Hid (ds.getD 0 (-1) = x) := ⟨_, Lib.hid rfl⟩
  rw [HX0.out] at HT0
  obtain ⟨c0, c1⟩ := Bk.c2 HX
  clear hd
  go_enter Tryz.func121, Tryz.ntmps121
  go_wp2_with fail
  refine (HT0.out _ HD.out).mono ?_
  rintro e w1 ⟨rfl, hb1⟩
  have hb2 := below_aft9 hb0 hb1
  clear hb1
  go_wp2_with fail
  refine (HC.out _ _ HX0.out).mono ?_
  rintro e w2 ⟨rfl, hb3⟩
  have hb4 := below_aft9 hb2 hb3
  go_wp2
  go_ret2
  exact ⟨rfl, hb4⟩
set_option maxRecDepth 100000 in
set_option maxHeartbeats 3200000 in
theorem lockKinds3_any (a : Option Addr) (n cap : Nat) (ds : List Int) (num : Int) (w : World) (hd : IR w a n ds) (hn : n ≤ 100) :
    Calls Tryz.prog 123 #[.agg #[.slice a n cap, .int .i64 num]] w (LkQ (Lk.okk 2 ds num) (Lk.mk 2 ds num) w) := by
  have HX : Bk w.heap.size 105 #[.slice a n cap, .int .i64 num] (w.alloc (.cells #[.slice a n cap, .int .i64 num] 105 (0, 0))) := Bk.new _ _ _
  have hb0 : Below w.heap.size w (w.alloc (.cells #[.slice a n cap, .int .i64 num] 105 (0, 0))) := (Below.refl _ _).alloc (Nat.le_refl _) _
  have HD := Lib.hid (hd.alloc (.cells #[.slice a n cap, .int .i64 num] 105 (0, 0)))
  have HC : Hid (∀ W, IR W a n ds → Calls Tryz.prog 23 #[.int .i64 num, .slice a n cap] W (LkQ (Lk.okk 2 ds num) (Lk.mk 2 ds num) W)) := Lib.hid fun W h => implLockMany_any num a n cap ds W h (by omega)
  unfold LkQ at HC
  unfold LkQ
  obtain ⟨ok, HOK⟩ : ∃ x, Hid (Lk.okk 2 ds num = x) := ⟨_, Lib.hid rfl⟩
  rw [HOK.out] at HC ⊢
  obtain ⟨S, HS⟩ : ∃ x, Hid (Lk.s ok (Lk.mk 2 ds num) = x) := ⟨_, Lib.hid rfl⟩
  rw [HS.out] at HC ⊢
  obtain ⟨c0, c1⟩ := Bk.c2 HX
  clear hd
  go_enter Tryz.func123, Tryz.ntmps123
  go_wp2_with fail
  refine (HC.out _ HD.out).mono ?_
  rintro e w2 ⟨rfl, hb3⟩
  have hb4 := below_aft9 hb0 hb3
  go_wp2
  go_ret2
  exact ⟨rfl, hb4⟩
set_option maxRecDepth 100000 in
set_option maxHeartbeats 3200000 in
theorem lockKinds4_any (a : Option Addr) (n cap : Nat) (ds : List Int) (num : Int) (w : World) (hd : IR w a n ds) (hn : n ≤ 100) :
    Calls Tryz.prog 124 #[.agg #[.slice a n cap, .int .i64 num]] w (LkQ (Lk.okk 3 ds num) (Lk.mk 3 ds num) w) := by
  have HX : Bk w.heap.size 105 #[.slice a n cap, .int .i64 num] (w.alloc (.cells #[.slice a n cap, .int .i64 num] 105 (0, 0))) := Bk.new _ _ _
  have hb0 : Below w.heap.size w (w.alloc (.cells #[.slice a n cap, .int .i64 num] 105 (0, 0))) := (Below.refl _ _).alloc (Nat.le_refl _) _
  have HD := Lib.hid (hd.alloc (.cells #[.slice a n cap, .int .i64 num] 105 (0, 0)))
  have HC : Hid (∀ W x0 x1 x2, ds.getD 0 (-1) = x0 → ds.getD 1 (-1) = x1 → ds.getD 2 (-1) = x2 → Calls Tryz.prog 27 #[.int .i64 x0, .int .i64 x1, .int .i64 num, .int .i64 x2] W (LkQ (Lk.okk 3 ds num) (Lk.mk 3 ds num) W)) := Lib.hid fun W x0 x1 x2 h0 h1 h2 => by
    subst h0 h1 h2
    exact implLockTimed_any _ _ num _ W
  unfold LkQ at HC
  unfold LkQ
  obtain ⟨ok, HOK⟩ : ∃ x, Hid (Lk.okk 3 ds num = x) := ⟨_, Lib.hid rfl⟩
  rw [HOK.out] at HC ⊢
  obtain ⟨S, HS⟩ : ∃ x, Hid (Lk.s ok (Lk.mk 3 ds num) = x) := ⟨_, Lib.hid rfl⟩
  rw [HS.out] at HC ⊢
  have HT0 := Lib.hid (fun W h => termsDigest_any a n cap ds num 0 W h hn (by decide))
  obtain ⟨x0, HX0⟩ : ∃ x, Hid (ds.getD 0 (-1) = x) := ⟨_, Lib.hid rfl⟩
  rw [HX0.out] at HT0
  have HT1 := Lib.hid (fun W h => termsDigest_any a n cap ds num 1 W h hn (by decide))
  obtain ⟨x1, HX1⟩ : ∃ x, Hid (ds.getD 1 (-1) = x) := ⟨_, Lib.hid rfl⟩
  rw [HX1.out] at HT1
  have HT2 := Lib.hid (fun W h => termsDigest_any a n cap ds num 2 W h hn (by decide))
  obtain ⟨x2, HX2⟩ : ∃ x, Hid (ds.getD 2 (-1) = x) := ⟨_, Lib.hid rfl⟩
  rw [HX2.out] at HT2
  have hSof : ∀ W, Bk w.heap.size 105 #[.slice a n cap, .int .i64 num] W → W.cell? ⟨w.heap.size, 0, none⟩ = some (.slice a n cap) ∧ W.cell? ⟨w.heap.size, 1, none⟩ = some (.int .i64 num) := fun W h => ⟨h.cell 0, h.cell 1⟩
  have HXD := Lib.hid HX.drew
  have HDD := Lib.hid (HD.out.below (Below.refl _ _).drew)
  have hbd := hb0.drew
  have hS0 := hSof _ HXD.out
  clear hd HX hb0
  go_enter Tryz.func124, Tryz.ntmps124
  go_wp2_with fail
  go_region_held3 (fun W => W.cell? ⟨w.heap.size, 0, none⟩ = some (.slice a n cap) ∧ W.cell? ⟨w.heap.size, 1, none⟩ = some (.int .i64 num)) (first | with_reducible exact hS0 | with_reducible exact hS1 | with_reducible exact hS2 | with_reducible exact hS3 | with_reducible exact hS4)
    (first
      | (go_at_call_of 120 (Value.int .i64 0); refine (HT0.out _ HDD.out).mono ?_; rintro e W1 ⟨rfl, hx⟩; have hb1 := hbd.trans (hx.mono hbd.size); have HX1w := Lib.hid (HXD.out.below hx); have HD1w := Lib.hid (HDD.out.below hx); have hS1 := hSof _ HX1w.out; clear hx)
      | (go_at_call_of 120 (Value.int .i64 1); refine (HT1.out _ HD1w.out).mono ?_; rintro e W2 ⟨rfl, hx⟩; have hb2 := hb1.trans (hx.mono hb1.size); have HX2w := Lib.hid (HX1w.out.below hx); have HD2w := Lib.hid (HD1w.out.below hx); have hS2 := hSof _ HX2w.out; clear hx)
      | (go_at_call_of 120 (Value.int .i64 2); refine (HT2.out _ HD2w.out).mono ?_; rintro e W3 ⟨rfl, hx⟩; have hb3 := hb2.trans (hx.mono hb2.size); have HX3w := Lib.hid (HX2w.out.below hx); have HD3w := Lib.hid (HD2w.out.below hx); have hS3 := hSof _ HX3w.out; clear hx)
      | (go_at_call 27; refine (HC.out _ _ _ _ HX0.out HX1.out HX2.out).mono ?_; rintro e W4 ⟨rfl, hx⟩; have hbz := hb3.trans (hx.mono hb3.size); have HXz := Lib.hid (HX3w.out.below hx); have hS4 := hSof _ HXz.out; clear hx))
  go_wp2
  go_ret2
  exact ⟨rfl, hbz⟩
set_option maxRecDepth 100000 in
set_option maxHeartbeats 3200000 in
theorem lockKinds5_any (a : Option Addr) (n cap : Nat) (ds : List Int) (num : Int) (w : World) (hd : IR w a n ds) (hn : n ≤ 100) :
    Calls Tryz.prog 125 #[.agg #[.slice a n cap, .int .i64 num]] w (LkQ (Lk.okk 4 ds num) (Lk.mk 4 ds num) w) := by
  have HX : Bk w.heap.size 105 #[.slice a n cap, .int .i64 num] (w.alloc (.cells #[.slice a n cap, .int .i64 num] 105 (0, 0))) := Bk.new _ _ _
  have hb0 : Below w.heap.size w (w.alloc (.cells #[.slice a n cap, .int .i64 num] 105 (0, 0))) := (Below.refl _ _).alloc (Nat.le_refl _) _
  have HD := Lib.hid (hd.alloc (.cells #[.slice a n cap, .int .i64 num] 105 (0, 0)))
  have HC : Hid (∀ W x0 x1, ds.getD 0 (-1) = x0 → ds.getD 1 (-1) = x1 → Calls Tryz.prog 33 #[.int .i64 x0, .int .i64 num, .int .i64 x1] W (LkQ (Lk.okk 4 ds num) (Lk.mk 4 ds num) W)) := Lib.hid fun W x0 x1 h0 h1 => by
    subst h0 h1
    exact implLockRevocable_any _ num _ W
  unfold LkQ at HC
  unfold LkQ
  obtain ⟨ok, HOK⟩ : ∃ x, Hid (Lk.okk 4 ds num = x) := ⟨_, Lib.hid rfl⟩
  rw [HOK.out] at HC ⊢
  obtain ⟨S, HS⟩ : ∃ x, Hid (Lk.s ok (Lk.mk 4 ds num) = x) := ⟨_, Lib.hid rfl⟩
  rw [HS.out] at HC ⊢
  have HT0 := Lib.hid (fun W h => termsDigest_any a n cap ds num 0 W h hn (by decide))
  obtain ⟨x0, HX0⟩ : ∃ x, Hid (ds.getD 0 (-1) = x) := ⟨_, Lib.hid rfl⟩
  rw [HX0.out] at HT0
  have HT1 := Lib.hid (fun W h => termsDigest_any a n cap ds num 1 W h hn (by decide))
  obtain ⟨x1, HX1⟩ : ∃ x, Hid (ds.getD 1 (-1) = x) := ⟨_, Lib.hid rfl⟩
  rw [HX1.out] at HT1
  have hSof : ∀ W, Bk w.heap.size 105 #[.slice a n cap, .int .i64 num] W → W.cell? ⟨w.heap.size, 0, none⟩ = some (.slice a n cap) ∧ W.cell? ⟨w.heap.size, 1, none⟩ = some (.int .i64 num) := fun W h => ⟨h.cell 0, h.cell 1⟩
  have HXD := Lib.hid HX.drew
  have HDD := Lib.hid (HD.out.below (Below.refl _ _).drew)
  have hbd := hb0.drew
  have hS0 := hSof _ HXD.out
  clear hd HX hb0
  go_enter Tryz.func125, Tryz.ntmps125
  go_wp2_with fail
  go_region_held3 (fun W => W.cell? ⟨w.heap.size, 0, none⟩ = some (.slice a n cap) ∧ W.cell? ⟨w.heap.size, 1, none⟩ = some (.int .i64 num)) (first | with_reducible exact hS0 | with_reducible exact hS1 | with_reducible exact hS2 | with_reducible exact hS3)
    (first
      | (go_at_call_of 120 (Value.int .i64 0); refine (HT0.out _ HDD.out).mono ?_; rintro e W1 ⟨rfl, hx⟩; have hb1 := hbd.trans (hx.mono hbd.size); have HX1w := Lib.hid (HXD.out.below hx); have HD1w := Lib.hid (HDD.out.below hx); have hS1 := hSof _ HX1w.out; clear hx)
      | (go_at_call_of 120 (Value.int .i64 1); refine (HT1.out _ HD1w.out).mono ?_; rintro e W2 ⟨rfl, hx⟩; have hb2 := hb1.trans (hx.mono hb1.size); have HX2w := Lib.hid (HX1w.out.below hx); have HD2w := Lib.hid (HD1w.out.below hx); have hS2 := hSof _ HX2w.out; clear hx)
      | (go_at_call 33; refine (HC.out _ _ _ HX0.out HX1.out).mono ?_; rintro e W3 ⟨rfl, hx⟩; have hbz := hb2.trans (hx.mono hb2.size); have HXz := Lib.hid (HX2w.out.below hx); have hS3 := hSof _ HXz.out; clear hx))
  go_wp2
  go_ret2
  exact ⟨rfl, hbz⟩
def Lk.fnum (k : Nat) : Nat := match k with
  | 0 => 119
  | 1 => 121
  | 2 => 123
  | 3 => 124
  | _ => 125
def Lk.fn (k : Nat) : Value := .func (Fn.func (Lk.fnum k)) #[] #[]
def Lk.tab : Array Value := #[.string (Lk.nm 0), Lk.fn 0, .string (Lk.nm 1), Lk.fn 1, .string (Lk.nm 2), Lk.fn 2, .string (Lk.nm 3), Lk.fn 3, .string (Lk.nm 4), Lk.fn 4]
theorem Lk.tab_get (k : Nat) (h : k < 5) : Lk.tab[k * 2]? = some (.string (Lk.nm k)) ∧ Lk.tab[k * 2 + 1]? = some (.func (Fn.func (Lk.fnum k)) #[] #[]) := by
  match k, h with
  | 0, _ => exact ⟨rfl, rfl⟩
  | 1, _ => exact ⟨rfl, rfl⟩
  | 2, _ => exact ⟨rfl, rfl⟩
  | 3, _ => exact ⟨rfl, rfl⟩
  | 4, _ => exact ⟨rfl, rfl⟩
theorem enters_kind (k : Nat) (h : k < 5) : ∀ args w, (callFunc (Lk.fnum k) args).run Tryz.prog w = .ok (.enter (Lk.fnum k) args) w := by
  match k, h with
  | 0, _ => exact enters_of Tryz.func119 (by kernel_rfl) rfl
  | 1, _ => exact enters_of Tryz.func121 (by kernel_rfl) rfl
  | 2, _ => exact enters_of Tryz.func123 (by kernel_rfl) rfl
  | 3, _ => exact enters_of Tryz.func124 (by kernel_rfl) rfl
  | 4, _ => exact enters_of Tryz.func125 (by kernel_rfl) rfl
theorem kind_any (k : Nat) (hk : k < 5) (a : Option Addr) (n cap : Nat) (ds : List Int) (num : Int) (w : World) (hd : IR w a n ds) (hn : n ≤ 100) :
    Calls Tryz.prog (Lk.fnum k) #[.agg #[.slice a n cap, .int .i64 num]] w (LkQ (Lk.okk k ds num) (Lk.mk k ds num) w) := by
  match k, hk with
  | 0, _ => exact lockKinds1_any a n cap ds num w hd hn
  | 1, _ => exact lockKinds2_any a n cap ds num w hd hn
  | 2, _ => exact lockKinds3_any a n cap ds num w hd hn
  | 3, _ => exact lockKinds4_any a n cap ds num w hd hn
  | 4, _ => exact lockKinds5_any a n cap ds num w hd hn
set_option maxRecDepth 100000 in
set_option maxHeartbeats 3200000 in
theorem lockKinds_any (w : World) : Calls Tryz.prog 81 #[] w fun e w' => e = .returned (.slice (some ⟨w.heap.size, 0, none⟩) 5 5) ∧ w' = w.alloc (.cells Lk.tab 111 (0, 0)) := by
  go_enter Tryz.func81, Tryz.ntmps81
  go_wp2
  go_ret
  exact ⟨rfl, rfl⟩
set_option maxRecDepth 100000 in
set_option maxHeartbeats 3200000 in
theorem implLockName_any (s : ByteArray) (w : World) (hs : s.size ≤ 1048576) :
    Calls Tryz.prog 40 #[.string s] w fun e w' => e = .returned (.string (Lk.nameS s)) ∧ Below w.heap.size w w' := by
  have hrd := implScriptRead_any s w hs
  cases hr : Jo.read s with
  | none =>
    have HQ : Hid (Lk.nameS s = ⟨#[]⟩) := Lib.hid (by unfold Lk.nameS; rw [hr])
    have hrd2 : Calls Tryz.prog 61 #[.string s] w fun e w' => e = .returned (.tuple #[.slice none 0 0, .bool false]) ∧ Below w.heap.size w w' :=
      hrd.mono fun e w' h => by
        rcases h with ⟨_, h1, h2⟩ | ⟨l, _, _, h1, _⟩
        · exact ⟨h1, h2⟩
        · rw [hr] at h1; cases h1
    rw [HQ.out]
    clear hrd hr hs
    go_enter Tryz.func40, Tryz.ntmps40
    go_wp2_with fail
    refine hrd2.mono ?_
    rintro e w1 ⟨rfl, hb1⟩
    go_wp2
    go_ret
    exact ⟨rfl, hb1⟩
  | some l =>
    obtain ⟨hby, hok⟩ := Jo.bytes_read hr
    have hbs : Jo.bs l = s := by rw [Jo.bs_ok hok]; exact hby
    have hll : l.length ≤ 40 := ((Jo.ok_iff l).1 hok).1
    have HQ : Hid (Lk.nameS s = Lk.name l) := Lib.hid (by unfold Lk.nameS; rw [hr])
    obtain ⟨ll, HLL⟩ : ∃ k, Hid (l.length = k) := ⟨_, Lib.hid rfl⟩
    have hrd2 : Calls Tryz.prog 61 #[.string s] w fun e w' => ∃ a cap, e = .returned (.tuple #[.slice a ll cap, .bool true]) ∧ OL w' a ll l ∧ Below w.heap.size w w' :=
      hrd.mono fun e w' h => by
        rcases h with ⟨h1, _⟩ | ⟨l', a, cap, h1, h2, h3, h4⟩
        · rw [hr] at h1; cases h1
        · rw [hr] at h1; cases h1
          rw [HLL.out] at h2 h3
          exact ⟨a, cap, h2, (OL.own h3).2, h4⟩
    rw [HLL.out] at hll
    rw [HQ.out]
    have hdl : (Lk.ds l).length ≤ 100 := by
      have := Lk.ds_le l
      have := HLL.out
      omega
    obtain ⟨R, HR⟩ : ∃ x, Hid (Lk.name l = x) := ⟨_, Lib.hid rfl⟩
    rw [HR.out]
    have HFIRST : Hid (∀ k, k < 5 → Lk.t k l = true → (∀ j, j < k → Lk.t j l = false) → R = Lk.nm k) := Lib.hid fun k hk h hn => by rw [← HR.out]; exact Lk.name_first hk h hn
    have HNONE : Hid ((∀ j, j < 5 → Lk.t j l = false) → R = ⟨#[]⟩) := Lib.hid fun h => by rw [← HR.out]; exact Lk.name_none h
    have HTV : Hid (∀ k, Lk.t k l = (Lk.okk k (Lk.ds l) (Lk.num l) && decide (Lk.s (Lk.okk k (Lk.ds l) (Lk.num l)) (Lk.mk k (Lk.ds l) (Lk.num l)) = s))) := Lib.hid fun k => by rw [← hbs]; rfl
    have HTO := Lib.hid (fun W a cap h => termsOf_any a ll cap l W h (by omega))
    have HKA := Lib.hid (fun k hk a cap W h => kind_any k hk a (Lk.ds l).length cap (Lk.ds l) (Lk.num l) W h hdl)
    unfold LkQ at HKA
    obtain ⟨ds, HDS⟩ : ∃ x, Hid (Lk.ds l = x) := ⟨_, Lib.hid rfl⟩
    obtain ⟨num, HNU⟩ : ∃ x, Hid (Lk.num l = x) := ⟨_, Lib.hid rfl⟩
    rw [HDS.out, HNU.out] at HTV HTO HKA
    rw [HDS.out] at hdl
    obtain ⟨n, HDN⟩ : ∃ x, Hid (ds.length = x) := ⟨_, Lib.hid rfl⟩
    rw [HDN.out] at HTO HKA hdl
    clear hrd hr hby hok hbs HQ HR HDS HNU HLL
    go_enter Tryz.func40, Tryz.ntmps40
    go_wp2_with fail
    refine hrd2.mono ?_
    rintro e w1 ⟨a, cap, rfl, hO, hb1⟩
    go_wp2_with fail
    refine (HTO.out _ _ _ hO).mono ?_
    rintro e w2 ⟨g, c, rfl, hir, hx⟩
    have hb2 := below_aft9 hb1 hx
    clear hx hb1 hO
    have vT := (Bk.new w2 105 #[.slice g n c, .int .i64 num]).alloc (.cells Lk.tab 111 (0, 0))
    have vG : Bk (w2.heap.size + 1) 111 Lk.tab ((w2.alloc (.cells #[.slice g n c, .int .i64 num] 105 (0, 0))).alloc (.cells Lk.tab 111 (0, 0))) := Bk.new' _ _ _ _ (by simp)
    have HIR := Lib.hid ((hir.alloc (.cells #[.slice g n c, .int .i64 num] 105 (0, 0))).alloc (.cells Lk.tab 111 (0, 0)))
    have hb3 := below_alloc (below_alloc hb2 (.cells #[.slice g n c, .int .i64 num] 105 (0, 0))) (.cells Lk.tab 111 (0, 0))
    have VT := Lib.hid vT
    have VG := Lib.hid vG
    clear hir vT vG
    go_wp2_with fail
    refine (lockKinds_any _).mono ?_
    rintro e w3' ⟨rfl, hw3⟩
    obtain ⟨w3, HW3⟩ : ∃ x, Hid (w3' = x) := ⟨_, Lib.hid rfl⟩
    rw [hw3] at HW3
    rw [HW3.out] at VT VG HIR hb3
    rw [hw3, HW3.out]
    have hG : (w2.alloc (.cells #[.slice g n c, .int .i64 num] 105 (0, 0))).heap.size = w2.heap.size + 1 := by simp
    rw [hG]
    clear hw3 HW3 hG hb2
    go_wp2
    go_loopw [21] (fun i wr => ∃ (k : Nat), k ≤ 5 ∧ i = .int .i64 (k : Int) ∧ Hid (∀ j, j < k → Lk.t j l = false) ∧ Below w3.heap.size w3 wr)
      (fun i _ => 5 - (intOf i).toNat)
    case atStart => exact ⟨0, by omega, rfl, Lib.hid (fun j hj => absurd hj (by omega)), Below.refl _ _⟩
    case round =>
      obtain ⟨k, hk, rfl, HV, hbel⟩ := hrel
      by_cases hlt : k < 5
      · have vT := VT.out.below hbel
        have vG := VG.out.below hbel
        have p0 := (vG.cell (k * 2)).trans (Lk.tab_get k hlt).1
        have p1 := (vG.cell (k * 2 + 1)).trans (Lk.tab_get k hlt).2
        have he := enters_kind k hlt
        obtain ⟨nk, HNK⟩ : ∃ x, Hid (Lk.nm k = x) := ⟨_, Lib.hid rfl⟩
        rw [HNK.out] at p0
        obtain ⟨fk, HFK⟩ : ∃ x, Hid (Lk.fnum k = x) := ⟨_, Lib.hid rfl⟩
        have HC := Lib.hid (fun W h => HKA.out k hlt g c W h)
        rw [HFK.out] at p1 he HC
        have HT1 := Lib.hid (HTV.out k)
        obtain ⟨ok, HOK⟩ : ∃ x, Hid (Lk.okk k ds num = x) := ⟨_, Lib.hid rfl⟩
        rw [HOK.out] at HC HT1
        obtain ⟨S, HS⟩ : ∃ x, Hid (Lk.s ok (Lk.mk k ds num) = x) := ⟨_, Lib.hid rfl⟩
        rw [HS.out] at HC HT1
        have vV : Bk wr.heap.size 111 #[.string nk, .func (Fn.func fk) #[] #[]] (wr.alloc (.cells #[.string nk, .func (Fn.func fk) #[] #[]] 111 (0, 0))) := Bk.new _ _ _
        have hir2 := Lib.hid ((HIR.out.below hbel).alloc (.cells #[.string nk, .func (Fn.func fk) #[] #[]] 111 (0, 0)))
        have hba := hbel.alloc hbel.size (.cells #[.string nk, .func (Fn.func fk) #[] #[]] 111 (0, 0))
        obtain ⟨v0, v1⟩ := Bk.c2 vV
        obtain ⟨t0, t1⟩ := Bk.c2 (vT.alloc (.cells #[.string nk, .func (Fn.func fk) #[] #[]] 111 (0, 0)))
        obtain ⟨tt0, tt1⟩ := Bk.c2 vT
        have VV := Lib.hid vV
        clear vT vG vV HFK HOK HS
        go_wp2_with fail
        refine (HC.out _ hir2.out).mono ?_
        rintro e w4 ⟨rfl, hx⟩
        have hb4 := hba.trans (hx.mono hba.size)
        obtain ⟨y0, y1⟩ := Bk.c2 (VV.out.below hx)
        clear hx v0 v1 t0 t1 tt0 tt1 p0 p1 he hba hir2
        cases ok
        · have HV2 : Hid (∀ j, j < k + 1 → Lk.t j l = false) := Lib.hid fun j hj => by
            by_cases hjk : j = k
            · rw [hjk, HT1.out, Bool.false_and]
            · exact HV.out j (by omega)
          go_wp2
          go_roundw
          case rel => exact ⟨k + 1, by omega, by simp, HV2, hb4⟩
          case measure => simp [intOf]; omega
        by_cases hS : S = s
        · have hR : R = nk := by
            rw [← HNK.out]
            exact HFIRST.out k hlt (by rw [HT1.out, decide_eq_true hS]; rfl) HV.out
          subst hR
          subst hS
          have hq : (S.toList == S.toList) = true := by simp
          go_wp2
          go_ret
          exact ⟨rfl, hb3.trans (hb4.mono hb3.size)⟩
        · have hq : (S.toList == s.toList) = false := by
            rw [beq_eq_false_iff_ne]
            intro e
            rw [ByteArray.toList_eq, ByteArray.toList_eq] at e
            exact hS (ByteArray.ext (Array.toList_inj.1 e))
          have HV2 : Hid (∀ j, j < k + 1 → Lk.t j l = false) := Lib.hid fun j hj => by
            by_cases hjk : j = k
            · rw [hjk, HT1.out, decide_eq_false hS]; rfl
            · exact HV.out j (by omega)
          clear hS
          go_wp2
          go_roundw
          case rel => exact ⟨k + 1, by omega, by simp, HV2, hb4⟩
          case measure => simp [intOf]; omega
      · obtain rfl : k = 5 := by omega
        have hR : R = ⟨#[]⟩ := HNONE.out HV.out
        subst hR
        go_wp2
        go_ret
        exact ⟨rfl, hb3.trans (hbel.mono hb3.size)⟩
end Go.Proofs.YtoocibabceeagabGreat
