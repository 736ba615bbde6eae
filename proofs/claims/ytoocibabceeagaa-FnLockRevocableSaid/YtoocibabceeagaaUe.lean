/-
  Contracts of the program: names of locks.
-/
import Derived.Test.YtoocibabceeagaaUc
import Derived.Test.YtoocibabceeagaaYf
import Derived.Laws.EntriesVeiled
import Derived.Shelf.Abstract
namespace Go.Proofs.Ytoocibabceeagaa
open Go.RowKit

set_option maxRecDepth 100000 in
set_option maxHeartbeats 3200000 in
theorem termsDigest_any (a : Option Addr) (n cap : Nat) (ds : List Int) (num : Int) (i : Nat) (w : World) (hd : IR w a n ds) (hn : n ≤ 100) (hi : i ≤ 5) :
    Calls Try.prog 75 #[.agg #[.slice a n cap, .int .i64 num], .int .i64 (i : Int)] w fun e w' => e = .returned (.int .i64 (ds.getD i (-1))) ∧ Below w.heap.size w w' := by
  have HX : Bk w.heap.size 57 #[.slice a n cap, .int .i64 num] (w.alloc (.cells #[.slice a n cap, .int .i64 num] 57 (0, 0))) := Bk.new _ _ _
  have hb0 : Below w.heap.size w (w.alloc (.cells #[.slice a n cap, .int .i64 num] 57 (0, 0))) := (Below.refl _ _).alloc (Nat.le_refl _) _
  have hl := hd.1
  by_cases h : i < n
  · obtain ⟨b, off, rfl, _, hc⟩ := (hd.alloc (.cells #[.slice a n cap, .int .i64 num] 57 (0, 0))).2 (by omega)
    have hck := hc i h
    have e : ds.getD i (-1) = ds.getD i 0 := by
      rw [List.getD_eq_getElem?_getD, List.getD_eq_getElem?_getD, List.getElem?_eq_getElem (by omega)]
      rfl
    rw [e]
    obtain ⟨x, HXX⟩ : ∃ x, Hid (ds.getD i 0 = x) := ⟨_, Lib.hid rfl⟩
    rw [HXX.out] at hck ⊢
    obtain ⟨c0, c1⟩ := Bk.c2 HX
    clear hc e hl hd
    go_enter Try.func75, Try.ntmps75
    go_wp2
    go_ret
    exact ⟨rfl, hb0⟩
  · have e : ds.getD i (-1) = -1 := by
      rw [List.getD_eq_getElem?_getD, List.getElem?_eq_none (by omega)]
      rfl
    rw [e]
    obtain ⟨c0, c1⟩ := Bk.c2 HX
    clear e hl hd
    go_enter Try.func75, Try.ntmps75
    go_wp2
    go_ret
    exact ⟨rfl, hb0⟩
def Lk.dsN (l : List Jo) (k : Nat) : List Int := Lk.ds (l.take k)
theorem Lk.ds_le (l : List Jo) : (Lk.ds l).length ≤ l.length := by
  unfold Lk.ds
  rw [List.length_map]
  exact List.length_filter_le _ _
theorem Jo.take_at {l : List Jo} {k : Nat} (h : k < l.length) : l.take (k + 1) = l.take k ++ [Jo.at_ l k] := by
  rw [List.take_add_one, Jo.at_get h]
  rfl
theorem info_int : (Try.prog.info? 3).map (fun i => (i.zero, i.size, i.bytes)) = some (some (.int .i64 0), 1, 8) := by kernel_rfl
theorem one_newI (W : World) (a : Value) (t : TypeId) : ∀ j u, [a][j]? = some u → (W.alloc (.cells #[a] t (0, 0))).cell? ((⟨W.heap.size, 0, none⟩ : Addr).add j) = some u := by
  intro j u hj
  have hadr : (⟨W.heap.size, 0, none⟩ : Addr).add j = ⟨W.heap.size, j, none⟩ := by unfold Addr.add; split <;> simp_all
  rw [hadr]
  exact (World.cell?_alloc_mark W #[a] t (0, 0) j).trans (by simpa using hj)
set_option maxRecDepth 100000 in
set_option maxHeartbeats 3200000 in
theorem termsOf_any (a : Option Addr) (len cap : Nat) (l : List Jo) (w : World) (hO : OL w a len l) (hm : len ≤ 100) :
    Calls Try.prog 45 #[.slice a len cap] w fun e w' => ∃ g c, e = .returned (.agg #[.slice g (Lk.ds l).length c, .int .i64 (Lk.num l)]) ∧ IR w' g (Lk.ds l).length (Lk.ds l) ∧ Below w.heap.size w w' := by
  obtain ⟨i0, hi, hz0, hz1, hz2⟩ := info_parts info_int
  have HL := Lib.hid hO.1
  have HO := Lib.hid hO
  have vR0 : Bk w.heap.size 57 #[.slice none 0 0, .int .i64 0] ((w.alloc (.cells #[.slice none 0 0, .int .i64 0] 57 (0, 0))).alloc (.cells #[.slice none 0 0, .int .i64 0] 57 (0, 0))) := (Bk.new _ _ _).alloc _
  have vT0 : Bk (w.heap.size + 1) 57 #[.slice none 0 0, .int .i64 0] ((w.alloc (.cells #[.slice none 0 0, .int .i64 0] 57 (0, 0))).alloc (.cells #[.slice none 0 0, .int .i64 0] 57 (0, 0))) := Bk.new' _ _ _ _ (by simp)
  have hb0 : Below w.heap.size w ((w.alloc (.cells #[.slice none 0 0, .int .i64 0] 57 (0, 0))).alloc (.cells #[.slice none 0 0, .int .i64 0] 57 (0, 0))) := below_alloc (below_alloc (Below.refl _ _) _) _
  clear hO
  go_enter Try.func45, Try.ntmps45
  go_wp2
  go_loopw [10] (fun i wr => ∃ (k : Nat) (v : Value), k ≤ len ∧ i = .int .i64 (k : Int) ∧ Hid (Bk w.heap.size 57 #[.slice none 0 0, .int .i64 0] wr) ∧ Hid (Bk (w.heap.size + 1) 57 #[v, .int .i64 (Lk.num (l.take k))] wr) ∧ Hid (wr.ownsRow w.heap.size 3 1 v (Lk.dsN l k).length ((Lk.dsN l k).map (Value.int .i64))) ∧ Below w.heap.size w wr)
    (fun i _ => len - (intOf i).toNat)
  case atStart => exact ⟨0, _, by omega, rfl, Lib.hid vR0, Lib.hid vT0, Lib.hid (World.ownsRow_nil _ _ _ _), hb0⟩
  case round =>
    obtain ⟨k, v, hk, rfl, HR, HT, HOWN, hbel⟩ := hrel
    clear vR0 vT0 hb0
    obtain ⟨nm, HNM⟩ : ∃ x, Hid (Lk.num (l.take k) = x) := ⟨_, Lib.hid rfl⟩
    obtain ⟨dk, HDK⟩ : ∃ x, Hid (Lk.dsN l k = x) := ⟨_, Lib.hid rfl⟩
    rw [HNM.out] at HT
    rw [HDK.out] at HOWN
    have hdl : dk.length ≤ 100 := by
      rw [← HDK.out]
      have h1 := Lk.ds_le (l.take k)
      have h2 := HL.out
      rw [List.length_take] at h1
      unfold Lk.dsN
      omega
    obtain ⟨dn, HDN⟩ : ∃ x, Hid (dk.length = x) := ⟨_, Lib.hid rfl⟩
    rw [HDN.out] at hdl HOWN
    obtain ⟨va, vc, rfl⟩ : ∃ va vc, v = .slice va dn vc := by
      rcases HOWN.out.2 with ⟨h1, h2⟩ | ⟨g, cap', cur, h1, _⟩
      · exact ⟨none, 0, by rw [h1, h2]⟩
      · exact ⟨_, _, h1⟩
    by_cases hlt : k < len
    · obtain ⟨b, off, rfl, _, hc⟩ := (HO.out.below hbel).2 (by omega)
      obtain ⟨p0, p1, p2, p3⟩ := hc k hlt
      obtain ⟨yc, ya, yb, yt, HY⟩ : ∃ c a b t, Hid (Jo.at_ l k = ⟨c, a, b, t⟩) := ⟨_, _, _, _, Lib.hid rfl⟩
      rw [HY.out] at p0 p1 p2 p3
      simp only at p0 p1 p2 p3
      have HTK := Lib.hid (Jo.take_at (l := l) (k := k) (by rw [HL.out]; exact hlt))
      have HDS : Hid (Lk.dsN l (k + 1) = if Lk.has ⟨yc, ya, yb, yt⟩ = true then dk ++ [Dg.num yt] else dk) := Lib.hid (by
        unfold Lk.dsN
        rw [HTK.out, Lk.ds_snoc, HY.out, ← HDK.out]
        rfl)
      have HNU : Hid (Lk.num (l.take (k + 1)) = if Lk.sets ⟨yc, ya, yb, yt⟩ = true then ya else nm) := Lib.hid (by
        rw [HTK.out, Lk.num_snoc, HY.out, ← HNM.out])
      have hsz := hbel.size
      have HB2 := hbel.alloc hsz (.cells #[.int .i64 yc, .int .i64 ya, .int .i64 yb, .string yt] 54 (0, 0))
      have vO : Bk wr.heap.size 54 #[.int .i64 yc, .int .i64 ya, .int .i64 yb, .string yt] (wr.alloc (.cells #[.int .i64 yc, .int .i64 ya, .int .i64 yb, .string yt] 54 (0, 0))) := Bk.new _ _ _
      have HR2 := Lib.hid (HR.out.alloc (.cells #[.int .i64 yc, .int .i64 ya, .int .i64 yb, .string yt] 54 (0, 0)))
      have HT2 := Lib.hid (HT.out.alloc (.cells #[.int .i64 yc, .int .i64 ya, .int .i64 yb, .string yt] 54 (0, 0)))
      have HOWN2 := Lib.hid (HOWN.out.alloc (.cells #[.int .i64 yc, .int .i64 ya, .int .i64 yb, .string yt] 54 (0, 0)))
      obtain ⟨y0, y1, y2, y3⟩ := Bk.c4 vO
      clear hc HTK
      by_cases hc0 : yc = 0
      · subst hc0
        have HN2 : Hid (Lk.num (l.take (k + 1)) = nm) := Lib.hid (by rw [HNU.out, if_neg (by unfold Lk.sets; simp)])
        by_cases h4 : yt.size = 4
        · have HD2 : Hid (Lk.dsN l (k + 1) = dk ++ [Dg.num yt]) := Lib.hid (by rw [HDS.out, if_pos (by unfold Lk.has; simp [h4])])
          have hcon := fun W => implBytesDigest_ok yt W h4
          obtain ⟨d, HDD⟩ : ∃ d, Hid (Dg.num yt = d) := ⟨_, Lib.hid rfl⟩
          rw [HDD.out] at hcon HD2
          clear HDD HDS HNU h4
          go_wp2_with fail
          refine (hcon _).mono ?_
          rintro e w2 ⟨rfl, hb2⟩
          have HR3 := Lib.hid (HR2.out.below hb2)
          have HT3 := HT2.out.below hb2
          have hown3 := HOWN2.out.kept (row := none) ⟨hb2.os, hb2.tape, hb2.output, hb2.size, fun k hk _ => hb2.block k hk⟩ (Classical.em _)
          have hb3 := HB2.trans (hb2.mono HB2.size)
          have hsz3 := hb3.size
          obtain ⟨t0, t1⟩ := Bk.c2 HT3
          have HT4 := Lib.hid HT3
          have S1 := Lib.hid (one_newI w2 (.int .i64 d) 3)
          clear hcon hb2 HB2 vO y0 y1 y2 y3 HR2 HT2 HOWN2 p0 p1 p2 p3 HT3
          go_wp2_with (at_builtin; refine wpList_append_own _ rfl _ _ 28 rfl w.heap.size 3 i0 (.int .i64 0) 1 8 Try.underlying28 hi hz0 hz1 hz2 rfl (by decide) _ _ _ rfl (hown3.alloc (.cells #[.int .i64 d] 3 (0, 0))) ⟨w2.heap.size, 0, none⟩ 1 1 [.int .i64 d] rfl rfl ?_ ?_ ?_ ?_ ?_ ?_)
          any_goals first | exact S1.out | (intro u hu; simp at hu; rcases hu with rfl; rfl) | (unfold maxLen; omega) | omega | exact Nat.le_trans hsz3 (by simp) | (simp; omega)
          intro v' w5 hown5 hgrow _
          obtain ⟨va2, vc2, hv2⟩ : ∃ va2 vc2, v' = .slice va2 (dn + 1) vc2 := by
            rcases hown5.2 with ⟨h1, h2⟩ | ⟨g, cap', cur, h1, _⟩
            · omega
            · exact ⟨_, _, h1⟩
          subst hv2
          have hneT : (.slice va dn vc : Value).ownBlock ≠ some (w.heap.size + 1) := own_type hown3 (by decide) HT4.out.held
          have hneR : (.slice va dn vc : Value).ownBlock ≠ some w.heap.size := own_type hown3 (by decide) HR3.out.held
          have HT5 := (HT4.out.alloc (.cells #[.int .i64 d] 3 (0, 0))).gbY hgrow (fun h => hneT h.symm)
          have HR5 := (HR3.out.alloc (.cells #[.int .i64 d] 3 (0, 0))).gbY hgrow (fun h => hneR h.symm)
          have hb5 := Below.grown (below_alloc hb3 (.cells #[.int .i64 d] 3 (0, 0))) hgrow (below_alloc hb3 (.cells #[.int .i64 d] 3 (0, 0))).size (fun j he => (hown3.lt j he).1)
          have hneT5 : (.slice va2 (dn + 1) vc2 : Value).ownBlock ≠ some (w.heap.size + 1) := own_type hown5 (by decide) HT5.held
          have HR6 := Lib.hid (HR5.oset (w.heap.size + 1) 0 (.slice va2 (dn + 1) vc2) (by omega))
          have HT6 : Hid (Bk (w.heap.size + 1) 57 #[.slice va2 (dn + 1) vc2, .int .i64 (Lk.num (l.take (k + 1)))] (w5.setCell ⟨w.heap.size + 1, 0, none⟩ (.slice va2 (dn + 1) vc2))) := Lib.hid (by
            rw [HN2.out]
            exact HT5.set 0 (.slice va2 (dn + 1) vc2))
          have HOWN6 : Hid ((w5.setCell ⟨w.heap.size + 1, 0, none⟩ (.slice va2 (dn + 1) vc2)).ownsRow w.heap.size 3 1 (.slice va2 (dn + 1) vc2) (Lk.dsN l (k + 1)).length ((Lk.dsN l (k + 1)).map (Value.int .i64))) := Lib.hid (by
            rw [HD2.out, List.length_append, HDN.out, List.map_append]
            exact own_set hown5 (w.heap.size + 1) 0 (.slice va2 (dn + 1) vc2) hneT5)
          have hb6 := hb5.setCell (p := ⟨w.heap.size + 1, 0, none⟩) (show w.heap.size ≤ w.heap.size + 1 by omega) (.slice va2 (dn + 1) vc2)
          obtain ⟨t50, t51⟩ := Bk.c2 HT5
          obtain ⟨f50, f51⟩ := HT5.f2
          clear hown3 hown5 hgrow hneT hneR hneT5 HT5 HR5 hb5 hb3 t0 t1 HT4 HR3 S1
          go_wp2
          go_roundw
          case rel => exact ⟨k + 1, _, by omega, by simp, HR6, HT6, HOWN6, hb6⟩
          case measure => simp [intOf]; omega
        · have HD2 : Hid (Lk.dsN l (k + 1) = dk) := Lib.hid (by rw [HDS.out, if_neg (by unfold Lk.has; simp [h4])])
          have hcon := fun W => implBytesDigest_no yt W h4
          clear HDS HNU h4
          go_wp2_with fail
          refine (hcon _).mono ?_
          rintro e w2 ⟨rfl, hb2⟩
          have HR3 := Lib.hid (HR2.out.below hb2)
          have HT3 : Hid (Bk (w.heap.size + 1) 57 #[.slice va dn vc, .int .i64 (Lk.num (l.take (k + 1)))] w2) := Lib.hid (by rw [HN2.out]; exact HT2.out.below hb2)
          have HOWN3 : Hid (w2.ownsRow w.heap.size 3 1 (.slice va dn vc) (Lk.dsN l (k + 1)).length ((Lk.dsN l (k + 1)).map (Value.int .i64))) := Lib.hid (by
            rw [HD2.out, HDN.out]
            exact HOWN2.out.kept (row := none) ⟨hb2.os, hb2.tape, hb2.output, hb2.size, fun k hk _ => hb2.block k hk⟩ (Classical.em _))
          have hb3 := HB2.trans (hb2.mono HB2.size)
          clear hcon hb2 HB2 vO y0 y1 y2 y3 HR2 HT2 HOWN2 p0 p1 p2 p3
          go_wp2
          go_roundw
          case rel => exact ⟨k + 1, _, by omega, by simp, HR3, HT3, HOWN3, hb3⟩
          case measure => simp [intOf]; omega
      have hq0 : (yc == 0) = false := by simpa using hc0
      have HD2 : Hid (Lk.dsN l (k + 1) = dk) := Lib.hid (by rw [HDS.out, if_neg (by unfold Lk.has; simp [hc0])])
      have HOWN3 : Hid ((wr.alloc (.cells #[.int .i64 yc, .int .i64 ya, .int .i64 yb, .string yt] 54 (0, 0))).ownsRow w.heap.size 3 1 (.slice va dn vc) (Lk.dsN l (k + 1)).length ((Lk.dsN l (k + 1)).map (Value.int .i64))) := Lib.hid (by
        rw [HD2.out, HDN.out]
        exact HOWN2.out)
      by_cases hs : Lk.sets ⟨yc, ya, yb, yt⟩ = true
      · have HN2 : Hid (Lk.num (l.take (k + 1)) = ya) := Lib.hid (by rw [HNU.out, if_pos hs])
        have hcc : yc = 12 ∨ yc = 13 ∨ yc = 14 := by
          unfold Lk.sets at hs
          simpa using hs
        have hne : (.slice va dn vc : Value).ownBlock ≠ some (w.heap.size + 1) := own_type HOWN2.out (by decide) HT2.out.held
        have HR6 := Lib.hid (HR2.out.oset (w.heap.size + 1) 1 (.int .i64 ya) (by omega))
        have HT6 : Hid (Bk (w.heap.size + 1) 57 #[.slice va dn vc, .int .i64 (Lk.num (l.take (k + 1)))] ((wr.alloc (.cells #[.int .i64 yc, .int .i64 ya, .int .i64 yb, .string yt] 54 (0, 0))).setCell ⟨w.heap.size + 1, 1, none⟩ (.int .i64 ya))) := Lib.hid (by
          rw [HN2.out]
          exact HT2.out.set 1 (.int .i64 ya))
        have HOWN6 : Hid (((wr.alloc (.cells #[.int .i64 yc, .int .i64 ya, .int .i64 yb, .string yt] 54 (0, 0))).setCell ⟨w.heap.size + 1, 1, none⟩ (.int .i64 ya)).ownsRow w.heap.size 3 1 (.slice va dn vc) (Lk.dsN l (k + 1)).length ((Lk.dsN l (k + 1)).map (Value.int .i64))) := Lib.hid (by
          rw [HD2.out, HDN.out]
          exact own_set HOWN2.out (w.heap.size + 1) 1 _ hne)
        have hb6 := HB2.setCell (p := ⟨w.heap.size + 1, 1, none⟩) (show w.heap.size ≤ w.heap.size + 1 by omega) (.int .i64 ya)
        obtain ⟨t0, t1⟩ := Bk.c2 HT.out
        obtain ⟨f0, f1⟩ := HT.out.f2
        obtain ⟨t20, t21⟩ := Bk.c2 HT2.out
        obtain ⟨f20, f21⟩ := HT2.out.f2
        clear HDS HNU hs hne HB2 HR2 HT2 HOWN2 HR HT HOWN hbel
        rcases hcc with rfl | rfl | rfl
        all_goals
          go_wp2
          go_roundw
          case rel => exact ⟨k + 1, _, by omega, by simp, HR6, HT6, HOWN6, hb6⟩
          case measure => simp [intOf]; omega
      · have HN2 : Hid (Lk.num (l.take (k + 1)) = nm) := Lib.hid (by rw [HNU.out, if_neg hs])
        obtain ⟨h12, h13, h14⟩ : yc ≠ 12 ∧ yc ≠ 13 ∧ yc ≠ 14 := by
          unfold Lk.sets at hs
          simpa using hs
        have hq1 : (yc == 12) = false := by simpa using h12
        have hq2 : (yc == 13) = false := by simpa using h13
        have hq3 : (yc == 14) = false := by simpa using h14
        have HT3 : Hid (Bk (w.heap.size + 1) 57 #[.slice va dn vc, .int .i64 (Lk.num (l.take (k + 1)))] (wr.alloc (.cells #[.int .i64 yc, .int .i64 ya, .int .i64 yb, .string yt] 54 (0, 0)))) := Lib.hid (by rw [HN2.out]; exact HT2.out)
        clear HDS HNU hs h12 h13 h14 hc0 HT2 HOWN2 HR HT HOWN hbel
        go_wp2
        go_roundw
        case rel => exact ⟨k + 1, _, by omega, by simp, HR2, HT3, HOWN3, HB2⟩
        case measure => simp [intOf]; omega
    · obtain rfl : k = len := by omega
      have HTK : Hid (l.take k = l) := Lib.hid (List.take_of_length_le (by rw [HL.out]; exact Nat.le_refl _))
      have HE1 : Hid (Lk.num l = nm) := Lib.hid (by have := HNM.out; rw [HTK.out] at this; exact this)
      have HE2 : Hid (Lk.ds l = dk) := Lib.hid (by rw [← HDK.out]; unfold Lk.dsN; rw [HTK.out])
      obtain ⟨t0, t1⟩ := Bk.c2 HT.out
      obtain ⟨r0, r1⟩ := Bk.c2 HR.out
      obtain ⟨f0, f1⟩ := HR.out.f2
      have vR9 := HR.out.store2 (.slice va dn vc) (.int .i64 nm)
      have hneR : (.slice va dn vc : Value).ownBlock ≠ some w.heap.size := own_type HOWN.out (by decide) HR.out.held
      have hir := (IR.own (own_set (own_set HOWN.out w.heap.size 0 (.slice va dn vc) hneR) w.heap.size 1 (.int .i64 nm) hneR)).2
      have hb9 := below_store2 hbel w.heap.size (Nat.le_refl _) (.slice va dn vc) (.int .i64 nm)
      have HIR := Lib.hid hir
      clear HR HT HOWN hbel hneR hir
      go_wp2
      refine bodyPost_ret (results_cell_row (P := Try.prog) rfl _ _ w.heap.size 57 _ (0, 0) _ rfl vR9.held Try.underlying57 rfl (by kernel_rfl)) rfl ?_
      exact ⟨va, vc, by rw [HE1.out, HE2.out, HDN.out], by rw [HE2.out, HDN.out]; exact HIR.out, hb9⟩
end Go.Proofs.Ytoocibabceeagaa
