/-
  Contracts of the model: l13With, l13Copy, WithWitness.
-/
import Derived.Test.YtcbpdibkindnfaaTm
import Derived.Test.YtcbpdibkindnfaaTp
import Derived.Test.YtcbpdibkindnfaaTh
import Derived.Deep.RegionWith
import Derived.Deep.RegionLaw
namespace Go.Proofs.Ytcbpdibkindnfaa
open Go.RowKit

theorem cell_belQ {W W' : World} {g o : Nat} {v : Value} (h : Below W.heap.size W W') (hc : W.cell? ⟨g, o, none⟩ = some v) : W'.cell? ⟨g, o, none⟩ = some v :=
  (⟨h.os, h.tape, h.output, h.size, fun k hk _ => h.block k hk⟩ : W.grownBy W' none).cell hc (by simp)
theorem own_grownQ {w w' : World} {base k n X : Nat} {e t : TypeId} {v : Value} {xs : List Value} {cs : Array Value} (h : w.ownsRow base e k v n xs) (hX : Bk X t cs w) (he : t ≠ e) (hg : w.grownBy w' (some X)) : w'.ownsRow base e k v n xs :=
  h.kept hg (.inr (fun h2 => own_bk13 h hX he h2.symm))
theorem own_belQ {w w' : World} {base k n : Nat} {e : TypeId} {v : Value} {xs : List Value} (h : w.ownsRow base e k v n xs) (hb : Below w.heap.size w w') : w'.ownsRow base e k v n xs :=
  h.kept (row := none) ⟨hb.os, hb.tape, hb.output, hb.size, fun k hk _ => hb.block k hk⟩ (by cases v.ownBlock <;> simp)
theorem set4_grown (w : World) (X : Nat) (u0 u1 u2 u3 : Value) : w.grownBy ((((w.setCell ⟨X, 0, none⟩ u0).setCell ⟨X, 1, none⟩ u1).setCell ⟨X, 2, none⟩ u2).setCell ⟨X, 3, none⟩ u3) (some X) :=
  grownBy_trans' (grownBy_trans' (grownBy_trans' (grownBy_set _ _ _ _) (grownBy_set _ _ _ _)) (grownBy_set _ _ _ _)) (grownBy_set _ _ _ _)
/-- A row of inputs whose witnesses are held anywhere. -/
def AnyI (w : World) (l : List (Tr.In × Value)) : Prop := ∀ x ∈ l, ∃ wa wc, x.2 = .slice wa x.1.wit.length wc ∧ SR w wa x.1.wit.length x.1.wit
theorem AnyI.below {w w' : World} {l : List (Tr.In × Value)} (h : AnyI w l) (hb : Below w.heap.size w w') : AnyI w' l := fun x hx => by
  obtain ⟨wa, wc, he, hs⟩ := h x hx
  exact ⟨wa, wc, he, hs.below hb⟩
theorem AnyI.push {w : World} {l : List (Tr.In × Value)} {x : Tr.In} {wa : Option Addr} {wc : Nat} (h : AnyI w l) (hs : SR w wa x.wit.length x.wit) : AnyI w (l ++ [(x, .slice wa x.wit.length wc)]) := fun y hy => by
  rcases List.mem_append.1 hy with hy | hy
  · exact h y hy
  · rw [List.mem_singleton] at hy
    subst hy
    exact ⟨wa, wc, rfl, hs⟩
theorem any_inL {w : World} {base : Nat} {a : Option Addr} {n c : Nat} {l : List (Tr.In × Value)} (h : w.ownsRow base 45 3 (.slice a n c) l.length (Tr.ics l)) (hl : l.length = n) (ha : AnyI w l) : InL 0 w a n (l.map Prod.fst) := by
  subst hl
  refine ⟨by simp, fun h0 => ?_⟩
  rcases h.2 with ⟨he, hz⟩ | ⟨g, cap, cur, he, hg, hh, hn, _, _, _⟩
  · omega
  · cases he
    refine ⟨g, 0, rfl, Nat.zero_le _, lt_of_block hh, fun j hj => ?_⟩
    obtain ⟨e0, e1, e2⟩ := Tr.ics_get l j hj
    have hadr : ∀ i, (⟨g, 0, none⟩ : Addr).add i = ⟨g, 0 + i, none⟩ := fun i => by unfold Addr.add; split <;> simp_all
    have f0 := h.cells (g := g) rfl _ _ e0
    have f1 := h.cells (g := g) rfl _ _ e1
    have f2 := h.cells (g := g) rfl _ _ e2
    rw [hadr] at f0 f1 f2
    obtain ⟨wa, wc, hv, hs⟩ := ha l[j] (List.getElem_mem hj)
    have hx : Tr.inAt (l.map Prod.fst) j = l[j].1 := by
      unfold Tr.inAt
      rw [List.getD_eq_getElem?_getD, List.getElem?_map, List.getElem?_eq_getElem hj]
      rfl
    rw [hx]
    rw [hv] at f2
    exact ⟨wa, wc, ⟨f0, f1, f2, hs, fun _ _ _ _ => Nat.zero_le _⟩⟩

theorem own_drewQ {w : World} {base k n : Nat} {e : TypeId} {v : Value} {xs : List Value} (h : w.ownsRow base e k v n xs) : w.drew.ownsRow base e k v n xs := h
theorem one_newQ (W : World) (x : Value) (t : TypeId) (B : Nat) (hB : B = W.heap.size) : ∀ j u, [x][j]? = some u → (W.alloc (.cells #[x] t (0, 0))).cell? ((⟨B, 0, none⟩ : Addr).add j) = some u := by
  subst hB
  intro j u hj
  have hadr : (⟨W.heap.size, 0, none⟩ : Addr).add j = ⟨W.heap.size, j, none⟩ := by unfold Addr.add; split <;> simp_all
  rw [hadr]
  exact (World.cell?_alloc_mark W #[x] t (0, 0) j).trans (by simpa using hj)
theorem two_newQ (W : World) (x y : Value) (t : TypeId) (B : Nat) (hB : B = W.heap.size) : ∀ j u, [x, y][j]? = some u → (W.alloc (.cells #[x, y] t (0, 0))).cell? ((⟨B, 0, none⟩ : Addr).add j) = some u := by
  subst hB
  intro j u hj
  have hadr : (⟨W.heap.size, 0, none⟩ : Addr).add j = ⟨W.heap.size, j, none⟩ := by unfold Addr.add; split <;> simp_all
  rw [hadr]
  exact (World.cell?_alloc_mark W #[x, y] t (0, 0) j).trans (by simpa using hj)
theorem c3q {B : Nat} {t : TypeId} {u0 u1 u2 : Value} {w : World} (h : Bk B t #[u0, u1, u2] w) : w.cell? ⟨B, 0, none⟩ = some u0 ∧ w.cell? ⟨B, 1, none⟩ = some u1 ∧ w.cell? ⟨B, 2, none⟩ = some u2 := ⟨h.cell 0, h.cell 1, h.cell 2⟩
set_option maxRecDepth 100000 in
set_option maxHeartbeats 3200000 in
theorem l13With_any (lo : Nat) (a : Option Addr) (n c : Nat) (b : Option Addr) (m d : Nat) (t : Tr) (i : Int) (sa : Option Addr) (sc : Nat) (ss : List ByteArray) (w : World) (h : TrR lo w a n b m t) (hn : n ≤ 1048576) (hs : SR w sa ss.length ss) :
    Calls Try.prog 55 #[.agg #[.slice a n c, .slice b m d, .int .i64 t.after, .string t.note], .int .i64 i, .slice sa ss.length sc] w fun e w' => ∃ a2 c2, e = .returned (.agg #[.slice a2 n c2, .slice b m d, .int .i64 t.after, .string t.note]) ∧ TrR 0 w' a2 n b m (t.with_ i ss) ∧ Below w.heap.size w w' := by
  obtain ⟨i0, hi, hz0, hz1, hz2⟩ := info_parts info_in13
  have HL := Lib.hid h.ins.1
  have HH := Lib.hid h
  have HSS := Lib.hid hs
  have vT0 : Bk w.heap.size 26 #[.slice a n c, .slice b m d, .int .i64 t.after, .string t.note] (((w.alloc (.cells #[.slice a n c, .slice b m d, .int .i64 t.after, .string t.note] 26 (0, 0))).alloc (.cells #[.slice none 0 0, .slice none 0 0, .int .i64 0, .string ⟨#[]⟩] 26 (0, 0))).alloc (.cells #[.slice none 0 0, .slice b m d, .int .i64 t.after, .string t.note] 26 (0, 0))) := ((Bk.new _ _ _).alloc _).alloc _
  have vT1 : Bk (w.heap.size + 1) 26 #[.slice none 0 0, .slice none 0 0, .int .i64 0, .string ⟨#[]⟩] (((w.alloc (.cells #[.slice a n c, .slice b m d, .int .i64 t.after, .string t.note] 26 (0, 0))).alloc (.cells #[.slice none 0 0, .slice none 0 0, .int .i64 0, .string ⟨#[]⟩] 26 (0, 0))).alloc (.cells #[.slice none 0 0, .slice b m d, .int .i64 t.after, .string t.note] 26 (0, 0))) := (Bk.new' _ _ _ _ (by simp)).alloc _
  have vT2 : Bk (w.heap.size + 1 + 1) 26 #[.slice none 0 0, .slice b m d, .int .i64 t.after, .string t.note] (((w.alloc (.cells #[.slice a n c, .slice b m d, .int .i64 t.after, .string t.note] 26 (0, 0))).alloc (.cells #[.slice none 0 0, .slice none 0 0, .int .i64 0, .string ⟨#[]⟩] 26 (0, 0))).alloc (.cells #[.slice none 0 0, .slice b m d, .int .i64 t.after, .string t.note] 26 (0, 0))) := Bk.new' _ _ _ _ (by simp)
  have hb0 : Below w.heap.size w (((w.alloc (.cells #[.slice a n c, .slice b m d, .int .i64 t.after, .string t.note] 26 (0, 0))).alloc (.cells #[.slice none 0 0, .slice none 0 0, .int .i64 0, .string ⟨#[]⟩] 26 (0, 0))).alloc (.cells #[.slice none 0 0, .slice b m d, .int .i64 t.after, .string t.note] 26 (0, 0))) := (((Below.refl _ _).alloc (Nat.le_refl _) _).alloc (by simp) _).alloc (by simp; omega) _
  obtain ⟨q, hq⟩ : ∃ q, Hid (ss.length = q) := ⟨_, Lib.hid rfl⟩
  rw [hq.out] at hs
  rw [hq.out]
  clear h hs
  go_enter Try.func55, Try.ntmps55
  go_wp2
  go_loopw [8] (fun iv wr => ∃ k : Nat, k ≤ n ∧ iv = .int .i64 (k : Int) ∧ (∃ (l : List (Tr.In × Value)) (a2 : Option Addr) (c2 : Nat), Hid (l.map Prod.fst = (Tr.putW i ss t.ins).take k) ∧ l.length = k ∧ Hid (AnyI w l) ∧ Hid (wr.ownsRow w.heap.size 45 3 (.slice a2 k c2) k (Tr.ics l)) ∧ Bk (w.heap.size + 1 + 1) 26 #[.slice a2 k c2, .slice b m d, .int .i64 t.after, .string t.note] wr) ∧ Bk w.heap.size 26 #[.slice a n c, .slice b m d, .int .i64 t.after, .string t.note] wr ∧ Bk (w.heap.size + 1) 26 #[.slice none 0 0, .slice none 0 0, .int .i64 0, .string ⟨#[]⟩] wr ∧ Below w.heap.size w wr)
    (fun iv _ => n - (intOf iv).toNat)
  case atStart => exact ⟨0, by omega, rfl, ⟨[], none, 0, Lib.hid rfl, rfl, Lib.hid (by intro x hx; cases hx), Lib.hid ⟨rfl, .inl ⟨rfl, rfl⟩⟩, vT2⟩, vT0, vT1, hb0⟩
  case round =>
    obtain ⟨k, hk, rfl, ⟨l, a2, c2, hfst, hll, hany, how, vD⟩, vB, vR, hbel⟩ := hrel
    clear vT0 vT1 vT2 hb0
    have vT2 := vD
    have vT0 := vB
    have vT1 := vR
    obtain ⟨d0, d1, d2, d3⟩ := Bk.c4 vB
    clear vD vB vR
    by_cases hlt : k < n
    · obtain ⟨g, off, rfl, _, _, hc⟩ := HH.out.ins.2 (by omega)
      obtain ⟨wa, wc, q0, q1, q2, q3, _⟩ := hc k hlt
      have e0 := cell_belQ hbel q0
      have e1 := cell_belQ hbel q1
      have e2 := cell_belQ hbel q2
      have hkl : k < t.ins.length := by have := HL.out; omega
      have HTK0 : Hid (∀ x, Tr.inAt (Tr.putW i ss t.ins) k = x → (Tr.putW i ss t.ins).take (k + 1) = (Tr.putW i ss t.ins).take k ++ [x]) := Lib.hid fun x hx => by
        rw [List.take_add_one, Tr.inAt_get (by rw [Tr.putW_length]; exact hkl), hx]
        rfl
      have HAT := Lib.hid (Tr.putW_at i ss t.ins k hkl)
      obtain ⟨x, HX⟩ : ∃ x, Hid (Tr.inAt t.ins k = x) := ⟨_, Lib.hid rfl⟩
      rw [HX.out] at e0 e1 e2 q2 q3 HAT
      obtain ⟨tx, out, wit⟩ := x
      simp only at e0 e1 e2 q2 q3 HAT
      clear hc q0 q1 q2
      obtain ⟨r, hr⟩ : ∃ r, Hid (wit.length = r) := ⟨_, Lib.hid rfl⟩
      rw [hr.out] at e2 q3
      by_cases hki : (k : Int) = i
      · have hkb : ((k : Int) == i) = true := by simpa using hki
        have HTK := Lib.hid (HTK0.out ⟨tx, out, ss⟩ (by rw [HAT.out, if_pos hki]))
        clear HTK0 HAT hki
        have vX : Bk wr.heap.size 45 #[.int .i64 tx, .int .i64 out, .slice sa q sc] (wr.alloc (.cells #[.int .i64 tx, .int .i64 out, .slice sa q sc] 45 (0, 0))) := Bk.new _ _ _
        have u0 := vT0.alloc (.cells #[.int .i64 tx, .int .i64 out, .slice sa q sc] 45 (0, 0))
        have u1 := vT1.alloc (.cells #[.int .i64 tx, .int .i64 out, .slice sa q sc] 45 (0, 0))
        have u2 := vT2.alloc (.cells #[.int .i64 tx, .int .i64 out, .slice sa q sc] 45 (0, 0))
        have hb1 := hbel.alloc hbel.size (.cells #[.int .i64 tx, .int .i64 out, .slice sa q sc] 45 (0, 0))
        have how1 := how.out.alloc (.cells #[.int .i64 tx, .int .i64 out, .slice sa q sc] 45 (0, 0))
        have hsz := hbel.size
        obtain ⟨x0, x1, x2⟩ := c3q vX
        obtain ⟨y0, y1, y2, y3⟩ := Bk.c4 u2
        obtain ⟨z0, z1, z2, z3⟩ := Bk.c4 u0
        clear vT0 vT1 vT2
        go_wp2_with (at_builtin; refine wpList_append_own _ rfl _ _ 23 rfl w.heap.size 45 i0 (.agg #[.int .i64 0, .int .i64 0, .slice none 0 0]) 3 40 Try.underlying23 hi hz0 hz1 hz2 rfl (by decide) _ _ _ rfl (how1.alloc _) ⟨wr.heap.size + 1, 0, none⟩ 1 1 [.int .i64 tx, .int .i64 out, .slice sa q sc] rfl rfl ?_ ?_ ?_ ?_ ?_ ?_)
        any_goals first
          | exact three_new13 _ _ _ _ _ _ (by simp)
          | (intro u hu; simp at hu; rcases hu with rfl | rfl | rfl <;> rfl)
          | (unfold maxLen; omega)
          | omega
          | (simp; omega)
        intro v' w5 hown5 hg5 _
        obtain ⟨a5, c5, rfl⟩ := own_shape13 hown5
        have hbw : w.heap.size ≤ (wr.alloc (.cells #[.int .i64 tx, .int .i64 out, .slice sa q sc] 45 (0, 0))).heap.size := hb1.size
        have v0 := (u0.alloc (.cells #[.int .i64 tx, .int .i64 out, .slice sa q sc] 45)).gb13 hg5 (own_bk13 how1 u0 (by decide))
        have v1 := (u1.alloc (.cells #[.int .i64 tx, .int .i64 out, .slice sa q sc] 45)).gb13 hg5 (own_bk13 how1 u1 (by decide))
        have v2 := (u2.alloc (.cells #[.int .i64 tx, .int .i64 out, .slice sa q sc] 45)).gb13 hg5 (own_bk13 how1 u2 (by decide))
        have hb5 := Below.grown (hb1.alloc hbw (.cells #[.int .i64 tx, .int .i64 out, .slice sa q sc] 45)) hg5 (by simp; omega) (fun j he => (how1.lt j he).1)
        have q0 := v0.oset (w.heap.size + 1 + 1) 0 (.slice a5 (k + 1) c5) (by omega)
        have q1 := v1.oset (w.heap.size + 1 + 1) 0 (.slice a5 (k + 1) c5) (by omega)
        have q2 := v2.set 0 (.slice a5 (k + 1) c5)
        have hb6 := hb5.setCell (p := ⟨w.heap.size + 1 + 1, 0, none⟩) (by simp only; omega) (.slice a5 (k + 1) c5)
        have HOW2 : Hid ((w5.setCell ⟨w.heap.size + 1 + 1, 0, none⟩ (.slice a5 (k + 1) c5)).ownsRow w.heap.size 45 3 (.slice a5 (k + 1) c5) (k + 1) (Tr.ics (l ++ [((⟨tx, out, ss⟩ : Tr.In), Value.slice sa q sc)]))) := Lib.hid (by
          rw [Tr.ics_append]
          exact own_grownQ hown5 v2 (by decide) (grownBy_set _ _ _ _))
        have HF2 : Hid ((l ++ [((⟨tx, out, ss⟩ : Tr.In), Value.slice sa q sc)]).map Prod.fst = (Tr.putW i ss t.ins).take (k + 1)) := Lib.hid (by
          rw [List.map_append, hfst.out, HTK.out]
          rfl)
        have HA2 : Hid (AnyI w (l ++ [((⟨tx, out, ss⟩ : Tr.In), Value.slice sa q sc)])) := Lib.hid (by have hp := AnyI.push (x := ⟨tx, out, ss⟩) (wa := sa) (wc := sc) hany.out HSS.out; simp only [hq.out] at hp; exact hp)
        have hll2 : (l ++ [((⟨tx, out, ss⟩ : Tr.In), Value.slice sa q sc)]).length = k + 1 := by rw [List.length_append, hll]; rfl
        obtain ⟨g0, g1, g2, g3⟩ := Bk.c4 v2
        obtain ⟨f0, f1, f2, f3⟩ := Bk.f4 v2
        clear u0 u1 u2 hb1 how1 hown5 hg5 v0 v1 v2 hb5 hbw hfst hany how hbel x0 x1 x2 y0 y1 y2 y3 z0 z1 z2 z3 HTK e0 e1 e2 q3
        go_wp2
        go_roundw
        case rel => exact ⟨k + 1, by omega, by simp, ⟨l ++ [((⟨tx, out, ss⟩ : Tr.In), Value.slice sa q sc)], a5, c5, HF2, hll2, HA2, HOW2, q2⟩, q0, q1, hb6⟩
        case measure => simp [intOf]; omega
      · have hkb : ((k : Int) == i) = false := by simpa using hki
        have HTK := Lib.hid (HTK0.out ⟨tx, out, wit⟩ (by rw [HAT.out, if_neg hki]))
        clear HTK0 HAT hki
        have vX : Bk wr.heap.size 45 #[.int .i64 tx, .int .i64 out, .slice wa r wc] (wr.alloc (.cells #[.int .i64 tx, .int .i64 out, .slice wa r wc] 45 (0, 0))) := Bk.new _ _ _
        have u0 := vT0.alloc (.cells #[.int .i64 tx, .int .i64 out, .slice wa r wc] 45 (0, 0))
        have u1 := vT1.alloc (.cells #[.int .i64 tx, .int .i64 out, .slice wa r wc] 45 (0, 0))
        have u2 := vT2.alloc (.cells #[.int .i64 tx, .int .i64 out, .slice wa r wc] 45 (0, 0))
        have hb1 := hbel.alloc hbel.size (.cells #[.int .i64 tx, .int .i64 out, .slice wa r wc] 45 (0, 0))
        have how1 := how.out.alloc (.cells #[.int .i64 tx, .int .i64 out, .slice wa r wc] 45 (0, 0))
        have hsz := hbel.size
        obtain ⟨x0, x1, x2⟩ := c3q vX
        obtain ⟨y0, y1, y2, y3⟩ := Bk.c4 u2
        obtain ⟨z0, z1, z2, z3⟩ := Bk.c4 u0
        clear vT0 vT1 vT2
        go_wp2_with (at_builtin; refine wpList_append_own _ rfl _ _ 23 rfl w.heap.size 45 i0 (.agg #[.int .i64 0, .int .i64 0, .slice none 0 0]) 3 40 Try.underlying23 hi hz0 hz1 hz2 rfl (by decide) _ _ _ rfl (how1.alloc _) ⟨wr.heap.size + 1, 0, none⟩ 1 1 [.int .i64 tx, .int .i64 out, .slice wa r wc] rfl rfl ?_ ?_ ?_ ?_ ?_ ?_)
        any_goals first
          | exact three_new13 _ _ _ _ _ _ (by simp)
          | (intro u hu; simp at hu; rcases hu with rfl | rfl | rfl <;> rfl)
          | (unfold maxLen; omega)
          | omega
          | (simp; omega)
        intro v' w5 hown5 hg5 _
        obtain ⟨a5, c5, rfl⟩ := own_shape13 hown5
        have hbw : w.heap.size ≤ (wr.alloc (.cells #[.int .i64 tx, .int .i64 out, .slice wa r wc] 45 (0, 0))).heap.size := hb1.size
        have v0 := (u0.alloc (.cells #[.int .i64 tx, .int .i64 out, .slice wa r wc] 45)).gb13 hg5 (own_bk13 how1 u0 (by decide))
        have v1 := (u1.alloc (.cells #[.int .i64 tx, .int .i64 out, .slice wa r wc] 45)).gb13 hg5 (own_bk13 how1 u1 (by decide))
        have v2 := (u2.alloc (.cells #[.int .i64 tx, .int .i64 out, .slice wa r wc] 45)).gb13 hg5 (own_bk13 how1 u2 (by decide))
        have hb5 := Below.grown (hb1.alloc hbw (.cells #[.int .i64 tx, .int .i64 out, .slice wa r wc] 45)) hg5 (by simp; omega) (fun j he => (how1.lt j he).1)
        have q0 := v0.oset (w.heap.size + 1 + 1) 0 (.slice a5 (k + 1) c5) (by omega)
        have q1 := v1.oset (w.heap.size + 1 + 1) 0 (.slice a5 (k + 1) c5) (by omega)
        have q2 := v2.set 0 (.slice a5 (k + 1) c5)
        have hb6 := hb5.setCell (p := ⟨w.heap.size + 1 + 1, 0, none⟩) (by simp only; omega) (.slice a5 (k + 1) c5)
        have HOW2 : Hid ((w5.setCell ⟨w.heap.size + 1 + 1, 0, none⟩ (.slice a5 (k + 1) c5)).ownsRow w.heap.size 45 3 (.slice a5 (k + 1) c5) (k + 1) (Tr.ics (l ++ [((⟨tx, out, wit⟩ : Tr.In), Value.slice wa r wc)]))) := Lib.hid (by
          rw [Tr.ics_append]
          exact own_grownQ hown5 v2 (by decide) (grownBy_set _ _ _ _))
        have HF2 : Hid ((l ++ [((⟨tx, out, wit⟩ : Tr.In), Value.slice wa r wc)]).map Prod.fst = (Tr.putW i ss t.ins).take (k + 1)) := Lib.hid (by
          rw [List.map_append, hfst.out, HTK.out]
          rfl)
        have HA2 : Hid (AnyI w (l ++ [((⟨tx, out, wit⟩ : Tr.In), Value.slice wa r wc)])) := Lib.hid (by have hp := AnyI.push (x := ⟨tx, out, wit⟩) (wa := wa) (wc := wc) hany.out (by simp only; rw [hr.out]; exact q3); simp only [hr.out] at hp; exact hp)
        have hll2 : (l ++ [((⟨tx, out, wit⟩ : Tr.In), Value.slice wa r wc)]).length = k + 1 := by rw [List.length_append, hll]; rfl
        obtain ⟨g0, g1, g2, g3⟩ := Bk.c4 v2
        obtain ⟨f0, f1, f2, f3⟩ := Bk.f4 v2
        clear u0 u1 u2 hb1 how1 hown5 hg5 v0 v1 v2 hb5 hbw hfst hany how hbel x0 x1 x2 y0 y1 y2 y3 z0 z1 z2 z3 HTK e0 e1 e2 q3
        go_wp2
        go_roundw
        case rel => exact ⟨k + 1, by omega, by simp, ⟨l ++ [((⟨tx, out, wit⟩ : Tr.In), Value.slice wa r wc)], a5, c5, HF2, hll2, HA2, HOW2, q2⟩, q0, q1, hb6⟩
        case measure => simp [intOf]; omega
    · have hk2 : k = n := by omega
      subst hk2
      have hR := vT1.store4 (.slice a2 k c2) (.slice b m d) (.int .i64 t.after) (.string t.note)
      have hgr := set4_grown wr (w.heap.size + 1) (.slice a2 k c2) (.slice b m d) (.int .i64 t.after) (.string t.note)
      have hbF := below_store4 hbel (w.heap.size + 1) (by omega) (.slice a2 k c2) (.slice b m d) (.int .i64 t.after) (.string t.note)
      have HT : Hid (TrR 0 ((((wr.setCell ⟨w.heap.size + 1, 0, none⟩ (.slice a2 k c2)).setCell ⟨w.heap.size + 1, 1, none⟩ (.slice b m d)).setCell ⟨w.heap.size + 1, 2, none⟩ (.int .i64 t.after)).setCell ⟨w.heap.size + 1, 3, none⟩ (.string t.note)) a2 k b m (t.with_ i ss)) := Lib.hid (by
        have h1 := any_inL (by rw [hll]; exact own_grownQ how.out vT1 (by decide) hgr) hll (hany.out.below hbF)
        rw [hfst.out, List.take_of_length_le (by rw [Tr.putW_length, HL.out]; exact Nat.le_refl _)] at h1
        refine ⟨h1, ?_⟩
        have h2 := HH.out.outs.below hbF
        exact ⟨h2.1, fun h0 => by obtain ⟨g, off, he, _, hlt, hcc⟩ := h2.2 h0; exact ⟨g, off, he, Nat.zero_le _, hlt, hcc⟩⟩)
      have HR := Lib.hid hR
      have HB := Lib.hid hbF
      obtain ⟨x0, x1, x2, x3⟩ := Bk.c4 vT2
      obtain ⟨y0, y1, y2, y3⟩ := Bk.c4 vT1
      obtain ⟨f0, f1, f2, f3⟩ := Bk.f4 vT1
      clear hR hgr hbF hfst hany how vT0 vT1 vT2
      go_wp2
      refine bodyPost_ret (results_cell_row (P := Try.prog) rfl _ _ (w.heap.size + 1) 26 _ (0, 0) _ rfl HR.out.held Try.underlying26 rfl (by kernel_rfl)) rfl ?_
      exact ⟨a2, c2, rfl, HT.out, HB.out⟩

end Go.Proofs.Ytcbpdibkindnfaa
