/-
  The laws' own helpers for lists of coins.
-/
import Derived.Test.YtohameoomlehlabCb
import Derived.Lib.SmallJoins
import Derived.OpenShut
import Derived.Deep.RegionHeld3
namespace Go.Proofs.Ytohameoomlehlab
open Go.RowKit Go.Joins Go.WideShapes Go.ChangeShapes Go.Deep

section
variable {H : Type} {enc : TypeId × Value → H} {P : Program} {w : World} {base : Nat} {spare : Nat → Bool} {held : Bool}
theorem trod_coin {t : TypeId} {f0 f1 f2 f3 f4 f5 : Field} {fuel : Nat} {cs : List Value} {x : DataW H × List MemPlace} (ht : P.underlying t = some (.struct #[f0, f1, f2, f3, f4, f5])) (h : DataW.trod enc P w base spare held fuel t cs = some x) :
    ∃ y0 y1 y2 y3 y4 y5 n, x = (.agg [y0.1, y1.1, y2.1, y3.1, y4.1, y5.1], y0.2 ++ (y1.2 ++ (y2.2 ++ (y3.2 ++ (y4.2 ++ y5.2))))) ∧ cs.length = P.cellsOf t ∧ DataW.trod enc P w base spare held n f0.type ((cs.drop f0.offset).take (P.cellsOf f0.type)) = some y0 ∧ DataW.trod enc P w base spare held n f1.type ((cs.drop f1.offset).take (P.cellsOf f1.type)) = some y1 ∧ DataW.trod enc P w base spare held n f2.type ((cs.drop f2.offset).take (P.cellsOf f2.type)) = some y2 ∧ DataW.trod enc P w base spare held n f3.type ((cs.drop f3.offset).take (P.cellsOf f3.type)) = some y3 ∧ DataW.trod enc P w base spare held n f4.type ((cs.drop f4.offset).take (P.cellsOf f4.type)) = some y4 ∧ DataW.trod enc P w base spare held n f5.type ((cs.drop f5.offset).take (P.cellsOf f5.type)) = some y5 := by
  obtain ⟨xs, n, _, rfl, hl, hlen, hf⟩ := DataW.trod_struct ht h
  match xs, hlen with
  | [y0, y1, y2, y3, y4, y5], _ => exact ⟨y0, y1, y2, y3, y4, y5, n, by simp, hl, by simpa using hf 0 f0 rfl, by simpa using hf 1 f1 rfl, by simpa using hf 2 f2 rfl, by simpa using hf 3 f3 rfl, by simpa using hf 4 f4 rfl, by simpa using hf 5 f5 rfl⟩
end
/-- What came in as a list of coins. -/
def IsCoin (w : World) (a : Option Addr) (len cap : Nat) (l : List Co) : Prop := len ≤ cap ∧ cap ≤ 9223372036854775807 ∧ CoL 0 w a len l ∧ ∀ j, j < len → (Co.nth l j).lock.size ≤ 9223372036854775807
section
variable {H : Type} {enc : TypeId × Value → H} {W : World} {base : Nat} {spare : Nat → Bool} {held : Bool}
set_option maxRecDepth 100000 in
theorem open_coin_cells {fuel : Nat} {cs : List Value} {x : DataW H × List MemPlace} (h : DataW.trod enc Try.prog W base spare held fuel 35 cs = some x) :
    ∃ (x0 : Int) (x1 : Int) (x2 : Int) (x3 : ByteArray) (x4 : Int) (x5 : Bool), cs = [.int .i64 x0, .int .i64 x1, .int .i64 x2, .string x3, .int .i64 x4, .bool x5] ∧ (Lit.int .i64 x0).wf = true ∧ (Lit.int .i64 x1).wf = true ∧ (Lit.int .i64 x2).wf = true ∧ x3.size ≤ maxLen ∧ (Lit.int .i64 x4).wf = true ∧ x5 = x5 := by
  obtain ⟨y0, y1, y2, y3, y4, y5, n, rfl, hl, h0, h1, h2, h3, h4, h5⟩ := trod_coin Try.underlying35 h
  obtain ⟨a0, e0, rfl, q0⟩ := DataW.trod_int Try.underlying3 h0
  obtain ⟨a1, e1, rfl, q1⟩ := DataW.trod_int Try.underlying3 h1
  obtain ⟨a2, e2, rfl, q2⟩ := DataW.trod_int Try.underlying3 h2
  obtain ⟨a3, e3, rfl, q3⟩ := DataW.trod_string Try.underlying9 h3
  obtain ⟨a4, e4, rfl, q4⟩ := DataW.trod_int Try.underlying3 h4
  obtain ⟨a5, e5, rfl⟩ := DataW.trod_bool Try.underlying4 h5
  have hC : Try.prog.cellsOf 35 = 6 := by kernel_rfl
  have hC1 : Try.prog.cellsOf 3 = 1 := by kernel_rfl
  have hC2 : Try.prog.cellsOf 9 = 1 := by kernel_rfl
  have hC3 : Try.prog.cellsOf 4 = 1 := by kernel_rfl
  rw [hC] at hl
  obtain ⟨c0, c1, c2, c3, c4, c5, rfl⟩ : ∃ c0 c1 c2 c3 c4 c5, cs = [c0, c1, c2, c3, c4, c5] := by
    rcases cs with _ | ⟨c0, _ | ⟨c1, _ | ⟨c2, _ | ⟨c3, _ | ⟨c4, _ | ⟨c5, _ | ⟨c6, r⟩⟩⟩⟩⟩⟩⟩ <;> simp at hl
    exact ⟨c0, c1, c2, c3, c4, c5, rfl⟩
  simp [hC1, hC2, hC3] at e0 e1 e2 e3 e4 e5
  subst e0 e1 e2 e3 e4 e5
  exact ⟨a0, a1, a2, a3, a4, a5, rfl, q0, q1, q2, q3, q4, rfl⟩
set_option maxRecDepth 100000 in
theorem open_coin {r : Reach} {b0 : Nat} {v : Value} {d : DataW H} {p : List MemPlace} (hv : Value.okWide Try.prog W r b0 35 v) (h : DataW.Trod enc Try.prog W base spare held 35 v d p) :
    ∃ (x0 : Int) (x1 : Int) (x2 : Int) (x3 : ByteArray) (x4 : Int) (x5 : Bool), v = .agg #[.int .i64 x0, .int .i64 x1, .int .i64 x2, .string x3, .int .i64 x4, .bool x5] ∧ (Lit.int .i64 x0).wf = true ∧ (Lit.int .i64 x1).wf = true ∧ (Lit.int .i64 x2).wf = true ∧ x3.size ≤ maxLen ∧ (Lit.int .i64 x4).wf = true ∧ x5 = x5 := by
  obtain ⟨cs, rfl, hsz⟩ := okWide_struct Try.underlying35 hv
  obtain ⟨fuel, hf⟩ := h
  obtain ⟨x0, x1, x2, x3, x4, x5, e, hw⟩ := open_coin_cells hf
  refine ⟨x0, x1, x2, x3, x4, x5, ?_, hw⟩
  congr 1
  apply Array.toList_inj.mp
  simpa [Value.cells] using e
set_option maxRecDepth 100000 in
theorem open_coins {fuel : Nat} {a : Option Addr} {len cap : Nat} {x : DataW H × List MemPlace} (h : DataW.trod enc Try.prog W base spare held fuel 22 [.slice a len cap] = some x) : ∃ l, IsCoin W a len cap l := by
  rcases DataW.trod_slice Try.underlying22 h with ⟨h0, _⟩ | ⟨a', len', cap', elems, rest, n, _, hcs, _, hb, hl, hm, hlen, hel, _, _⟩
  · simp at h0
    obtain ⟨rfl, rfl, rfl⟩ := h0
    exact ⟨[], by omega, by omega, ⟨rfl, fun h => absurd h (by omega)⟩, fun j hj => absurd hj (by omega)⟩
  · simp at hcs
    obtain ⟨rfl, rfl, rfl⟩ := hcs
    have hC : Try.prog.cellsOf 35 = 6 := by kernel_rfl
    rw [hC] at hel
    have each : ∀ i, ∃ y : Co, i < len → y.lock.size ≤ 9223372036854775807 ∧ W.cell? (a'.add (i * 6)) = some (.int .i64 (y.tx)) ∧ W.cell? ((a'.add (i * 6)).add 1) = some (.int .i64 (y.out)) ∧ W.cell? ((a'.add (i * 6)).add 2) = some (.int .i64 (y.amt)) ∧ W.cell? ((a'.add (i * 6)).add 3) = some (.string (y.lock)) ∧ W.cell? ((a'.add (i * 6)).add 4) = some (.int .i64 (y.ht)) ∧ W.cell? ((a'.add (i * 6)).add 5) = some (.bool (y.rew)) := by
      intro i
      by_cases hi : i < len
      · have hh := hel i hi
        rw [List.getElem?_eq_getElem (by omega), Option.bind_eq_some_iff] at hh
        obtain ⟨cs, hcs, hy⟩ := hh
        obtain ⟨x0, x1, x2, x3, x4, x5, rfl, _, _, _, w3, _, _⟩ := open_coin_cells hy
        obtain ⟨_, _, hc⟩ := World.cells?_some hcs
        have hz : ∀ b : Addr, b.add 0 = b := fun b => by simp [Addr.add]
        have e0 := hc 0 (by omega)
        rw [hz] at e0
        unfold maxLen at w3
        exact ⟨⟨x0, x1, x2, x3, x4, x5⟩, fun _ => ⟨by simp only; omega, e0, hc 1 (by omega), hc 2 (by omega), hc 3 (by omega), hc 4 (by omega), hc 5 (by omega)⟩⟩
      · exact ⟨Co.z, fun h => absurd h hi⟩
    obtain ⟨f, hf⟩ := Classical.skolem.1 each
    have hget : ∀ j, j < len → Co.nth ((List.range len).map f) j = f j := fun j hj => by
      unfold Co.nth
      rw [List.getD_eq_getElem?_getD, List.getElem?_map, List.getElem?_range hj]; rfl
    refine ⟨(List.range len).map f, hl, by unfold maxLen at hm; omega, ⟨by simp, fun h0 => ?_⟩, fun j hj => ?_⟩
    · obtain ⟨b, off, spot⟩ := a'
      have hspot : spot = none := by
        have := World.cell?_spot (hf 0 h0).2.1
        simpa [Addr.add] using this
      subst hspot
      refine ⟨b, off, rfl, Nat.zero_le _, ?_, fun j hj => ?_⟩
      · have := (hf 0 h0).2.1
        rw [Go.WideShapes.add_plain] at this
        exact World.block_lt_of_cell? W _ this
      · rw [hget j hj]
        obtain ⟨_, c0, c1, c2, c3, c4, c5⟩ := hf j hj
        rw [Go.WideShapes.add_plain] at c0
        rw [Go.WideShapes.add_plain, Go.WideShapes.add_plain] at c1 c2 c3 c4 c5
        exact ⟨c0, c1, c2, c3, c4, c5⟩
    · rw [hget j hj]
      exact (hf j hj).1
end
set_option maxRecDepth 100000 in
set_option maxHeartbeats 1600000 in
theorem toCoin_any (x0 : Int) (x1 : Int) (x2 : Int) (x3 : ByteArray) (x4 : Int) (x5 : Bool) (w : World) :
    Calls Try.prog 21 #[.agg #[.int .i64 x0, .int .i64 x1, .int .i64 x2, .string x3, .int .i64 x4, .bool x5]] w fun e w' => e = .returned (.agg #[.int .i64 x0, .int .i64 x1, .int .i64 x2, .string x3, .int .i64 x4, .bool x5]) ∧ Below w.heap.size w w' := by
  have HX : ∀ U Y, Bk (w.heap.size + 1) 30 #[.int .i64 x0, .int .i64 x1, .int .i64 x2, .string x3, .int .i64 x4, .bool x5] (((w.alloc U).alloc (.cells #[.int .i64 x0, .int .i64 x1, .int .i64 x2, .string x3, .int .i64 x4, .bool x5] 30 (0, 0))).alloc Y) := fun U Y => (Bk.new' _ _ _ _ (by simp)).alloc Y
  go_enter Try.func21, Try.ntmps21
  go_wp2
  refine bodyPost_ret (results_cell_row (P := Try.prog) rfl _ _ (w.heap.size + 1) 30 _ (0, 0) _ rfl (HX _ _).held Try.underlying30 rfl (by kernel_rfl)) rfl ?_
  exact ⟨rfl, (((Below.refl _ _).alloc (Nat.le_refl _) _).alloc (by simp) _).alloc (by simp; omega) _⟩
set_option maxRecDepth 100000 in
set_option maxHeartbeats 1600000 in
theorem szCoin_any (x0 : Int) (x1 : Int) (x2 : Int) (x3 : ByteArray) (x4 : Int) (x5 : Bool) (left : Int) (w : World) (l0 : 0 ≤ left) (l1 : left ≤ 1048576) (ht : x3.size ≤ 9223372036854775807) :
    Calls Try.prog 19 #[.agg #[.int .i64 x0, .int .i64 x1, .int .i64 x2, .string x3, .int .i64 x4, .bool x5], .int .i64 left] w fun e w' => ∃ v : Int, e = .returned (.int .i64 v) ∧ (v < 0 ∨ (v = left - x3.size ∧ (x3.size : Int) ≤ left)) ∧ Below w.heap.size w w' := by
  by_cases h : left - (x3.size : Int) < 0
  · go_enter Try.func19, Try.ntmps19
    go_wp2
    go_ret
    exact ⟨-1, rfl, .inl (by decide), (Below.refl _ _).alloc (Nat.le_refl _) _⟩
  · go_enter Try.func19, Try.ntmps19
    go_wp2
    go_ret
    exact ⟨_, rfl, .inr ⟨rfl, by omega⟩, (Below.refl _ _).alloc (Nat.le_refl _) _⟩
set_option maxRecDepth 100000 in
set_option maxHeartbeats 1600000 in
theorem szCoinS_any (lo : Nat) (a : Option Addr) (len cap : Nat) (l : List Co) (left : Int) (w : World) (hs : CoL lo w a len l) (hlen : len ≤ 9223372036854775807) (l0 : 0 ≤ left) (l1 : left ≤ 1048576) (ht : ∀ j, j < len → (Co.nth l j).lock.size ≤ 9223372036854775807) :
    Calls Try.prog 11 #[.slice a len cap, .int .i64 left] w fun e w' => ∃ v : Int, e = .returned (.int .i64 v) ∧ (v < 0 ∨ ((0 ≤ v ∧ v ≤ 1048576) ∧ len ≤ 1048576 ∧ ∀ j, j < len → (Co.nth l j).lock.size ≤ 1048576)) ∧ Below w.heap.size w w' := by
  by_cases h0 : left - (len : Int) < 0
  · go_enter Try.func11, Try.ntmps11
    go_wp2
    go_ret
    exact ⟨-1, rfl, .inl (by decide), Below.refl _ _⟩
  have hlen2 : len ≤ 1048576 := by omega
  have HT := Lib.hid ht
  clear ht
  go_enter Try.func11, Try.ntmps11
  go_wp2
  go_loopw [1, 5] (fun v i wr => ∃ (k : Nat) (u : Int), k ≤ len ∧ i = .int .i64 (k : Int) ∧ v = .int .i64 u ∧ 0 ≤ u ∧ u ≤ 1048576 ∧ Hid (∀ j, j < k → (Co.nth l j).lock.size ≤ 1048576) ∧ Below w.heap.size w wr)
    (fun _ i _ => len - (intOf i).toNat)
  case atStart => exact ⟨0, _, by omega, rfl, rfl, by omega, by omega, Lib.hid (fun j hj => absurd hj (by omega)), Below.refl _ _⟩
  case round =>
    obtain ⟨k, u, hk, rfl, rfl, u0, u1, hsm, hbel⟩ := hrel
    by_cases hlt : k < len
    · obtain ⟨b, off, rfl, _, hb, hc⟩ := (hs.below hbel).2 (by omega)
      obtain ⟨c0, c1, c2, c3, c4, c5⟩ := hc k hlt
      have htt := HT.out k hlt
      have hstep : ∀ x, Hid (Co.nth l k = x) → x.lock.size ≤ 1048576 → Hid (∀ j, j < k + 1 → (Co.nth l j).lock.size ≤ 1048576) := fun x hx hv => Lib.hid fun j hj => by
        by_cases hjk : j = k
        · rw [hjk, hx.out]; exact hv
        · exact hsm.out j (by omega)
      obtain ⟨x, hx⟩ : ∃ x, Hid (Co.nth l k = x) := ⟨_, Lib.hid rfl⟩
      replace hstep := hstep x hx
      rw [hx.out] at c0 c1 c2 c3 c4 c5 htt
      obtain ⟨x0, x1, x2, x3, x4, x5⟩ := x
      simp only at c0 c1 c2 c3 c4 c5 htt
      clear hx hc hb hs
      go_wp2_with fail
      refine (szCoin_any x0 x1 x2 x3 x4 x5 u _ u0 u1 htt).mono ?_
      rintro e w1 ⟨v, rfl, hv, hb1⟩
      have hbel1 := below_aftC hbel hb1
      by_cases hn : v < 0
      · clear hv hstep
        go_wp2
        go_ret
        exact ⟨-1, rfl, .inl (by decide), hbel1⟩
      · obtain ⟨e1, e2⟩ := hv.resolve_left hn
        have v0 : 0 ≤ v := by omega
        have v1 : v ≤ 1048576 := by omega
        have hst := hstep (by omega)
        clear hv e1 e2 hstep
        go_wp2
        go_roundw
        case rel => exact ⟨k + 1, v, by omega, by simp, rfl, v0, v1, hst, hbel1⟩
        case measure => simp [intOf]; omega
    · have hk2 : k = len := by omega
      subst hk2
      go_wp2
      go_ret
      exact ⟨u, rfl, .inr ⟨⟨u0, u1⟩, hlen2, hsm.out⟩, hbel⟩
set_option maxRecDepth 100000 in
set_option maxHeartbeats 1600000 in
theorem eqCoin_any (x0 : Int) (x1 : Int) (x2 : Int) (x3 : ByteArray) (x4 : Int) (x5 : Bool) (w : World) :
    Calls Try.prog 18 #[.agg #[.int .i64 x0, .int .i64 x1, .int .i64 x2, .string x3, .int .i64 x4, .bool x5], .agg #[.int .i64 x0, .int .i64 x1, .int .i64 x2, .string x3, .int .i64 x4, .bool x5]] w fun e w' => e = .returned (.bool true) ∧ Below w.heap.size w w' := by
  have hc := ((Below.refl w.heap.size w).alloc (Nat.le_refl _) (.cells #[.int .i64 x0, .int .i64 x1, .int .i64 x2, .string x3, .int .i64 x4, .bool x5] 30 (0, 0))).alloc (by simp) (.cells #[.int .i64 x0, .int .i64 x1, .int .i64 x2, .string x3, .int .i64 x4, .bool x5] 30 (0, 0))
  have hq : (x3.toList == x3.toList) = true := by simp
  go_enter Try.func18, Try.ntmps18
  go_wp2
  go_ret
  exact ⟨rfl, hc⟩
set_option maxRecDepth 100000 in
set_option maxHeartbeats 3200000 in
theorem eqCoinS_any (lo lo' : Nat) (a b : Option Addr) (len cap cap' : Nat) (l : List Co) (w : World) (ha : CoL lo w a len l) (hb : CoL lo' w b len l) (hlen : len ≤ 9223372036854775807) :
    Calls Try.prog 15 #[.slice a len cap, .slice b len cap'] w fun e w' => e = .returned (.bool true) ∧ Below w.heap.size w w' := by
  have HA := Lib.hid ha
  have HB := Lib.hid hb
  clear ha hb
  go_enter Try.func15, Try.ntmps15
  go_wp2
  go_loopw [5] (fun i wr => ∃ k : Nat, k ≤ len ∧ i = .int .i64 (k : Int) ∧ Below w.heap.size w wr)
    (fun i _ => len - (intOf i).toNat)
  case atStart => exact ⟨0, by omega, rfl, Below.refl _ _⟩
  case round =>
    obtain ⟨k, hk, rfl, hbel⟩ := hrel
    by_cases hlt : k < len
    · obtain ⟨g, off, rfl, _, hg1, hc⟩ := HA.out.2 (by omega)
      obtain ⟨c0, c1, c2, c3, c4, c5⟩ := hc k hlt
      obtain ⟨g2, off2, rfl, _, hg2, hd⟩ := HB.out.2 (by omega)
      obtain ⟨d0, d1, d2, d3, d4, d5⟩ := hd k hlt
      obtain ⟨x, hx⟩ : ∃ x, Hid (Co.nth l k = x) := ⟨_, Lib.hid rfl⟩
      rw [hx.out] at c0 c1 c2 c3 c4 c5 d0 d1 d2 d3 d4 d5
      obtain ⟨x0, x1, x2, x3, x4, x5⟩ := x
      simp only at c0 c1 c2 c3 c4 c5 d0 d1 d2 d3 d4 d5
      have hSof : ∀ W, Below w.heap.size w W → ((W.cell? ⟨g, off + k * 6, none⟩ = some (.int .i64 x0) ∧ W.cell? ⟨g, off + k * 6 + 1, none⟩ = some (.int .i64 x1) ∧ W.cell? ⟨g, off + k * 6 + 2, none⟩ = some (.int .i64 x2) ∧ W.cell? ⟨g, off + k * 6 + 3, none⟩ = some (.string x3) ∧ W.cell? ⟨g, off + k * 6 + 4, none⟩ = some (.int .i64 x4) ∧ W.cell? ⟨g, off + k * 6 + 5, none⟩ = some (.bool x5)) ∧ (W.cell? ⟨g2, off2 + k * 6, none⟩ = some (.int .i64 x0) ∧ W.cell? ⟨g2, off2 + k * 6 + 1, none⟩ = some (.int .i64 x1) ∧ W.cell? ⟨g2, off2 + k * 6 + 2, none⟩ = some (.int .i64 x2) ∧ W.cell? ⟨g2, off2 + k * 6 + 3, none⟩ = some (.string x3) ∧ W.cell? ⟨g2, off2 + k * 6 + 4, none⟩ = some (.int .i64 x4) ∧ W.cell? ⟨g2, off2 + k * 6 + 5, none⟩ = some (.bool x5))) := fun W h => ⟨⟨cell_belC h hg1 c0, cell_belC h hg1 c1, cell_belC h hg1 c2, cell_belC h hg1 c3, cell_belC h hg1 c4, cell_belC h hg1 c5⟩, cell_belC h hg2 d0, cell_belC h hg2 d1, cell_belC h hg2 d2, cell_belC h hg2 d3, cell_belC h hg2 d4, cell_belC h hg2 d5⟩
      have hS0 := hSof wr.drew hbel.drew
      clear c0 c1 c2 c3 c4 c5 d0 d1 d2 d3 d4 d5 hc hd hx
      go_wp2
      go_region_held3 (fun W => ((W.cell? ⟨g, off + k * 6, none⟩ = some (.int .i64 x0) ∧ W.cell? ⟨g, off + k * 6 + 1, none⟩ = some (.int .i64 x1) ∧ W.cell? ⟨g, off + k * 6 + 2, none⟩ = some (.int .i64 x2) ∧ W.cell? ⟨g, off + k * 6 + 3, none⟩ = some (.string x3) ∧ W.cell? ⟨g, off + k * 6 + 4, none⟩ = some (.int .i64 x4) ∧ W.cell? ⟨g, off + k * 6 + 5, none⟩ = some (.bool x5)) ∧ (W.cell? ⟨g2, off2 + k * 6, none⟩ = some (.int .i64 x0) ∧ W.cell? ⟨g2, off2 + k * 6 + 1, none⟩ = some (.int .i64 x1) ∧ W.cell? ⟨g2, off2 + k * 6 + 2, none⟩ = some (.int .i64 x2) ∧ W.cell? ⟨g2, off2 + k * 6 + 3, none⟩ = some (.string x3) ∧ W.cell? ⟨g2, off2 + k * 6 + 4, none⟩ = some (.int .i64 x4) ∧ W.cell? ⟨g2, off2 + k * 6 + 5, none⟩ = some (.bool x5)))) (first | with_reducible exact hS0 | with_reducible exact hS1)
        (first | (go_at_call 18; refine (eqCoin_any x0 x1 x2 x3 x4 x5 _).mono ?_; rintro e w1 ⟨rfl, hb1⟩; have hb2 := below_aftC hbel.drew hb1; have hS1 := hSof w1 hb2))
      go_wp2
      go_roundw
      case rel => exact ⟨k + 1, by omega, by simp, hb2⟩
      case measure => simp [intOf]; omega
    · go_wp2
      go_ret
      exact ⟨rfl, hbel⟩
/-- The block g has room for len coins, the first k of which are those of l. -/
def CB (g len k : Nat) (l : List Co) (w : World) : Prop :=
  ∃ cs : Array Value, w.heap[g]? = some (.cells cs 30 (0, 0)) ∧ len * 6 ≤ cs.size ∧ ∀ j, j < k → cs[j * 6]? = some (.int .i64 (Co.nth l j).tx) ∧ cs[j * 6 + 1]? = some (.int .i64 (Co.nth l j).out) ∧ cs[j * 6 + 2]? = some (.int .i64 (Co.nth l j).amt) ∧ cs[j * 6 + 3]? = some (.string (Co.nth l j).lock) ∧ cs[j * 6 + 4]? = some (.int .i64 (Co.nth l j).ht) ∧ cs[j * 6 + 5]? = some (.bool (Co.nth l j).rew)
theorem CB.at_ {g len k : Nat} {l : List Co} {w w2 : World} (h : CB g len k l w) (hk : k < len) (hb : w2.heap[g]? = ((((((w.setCell ⟨g, k * 6, none⟩ (.int .i64 (Co.nth l k).tx)).setCell ⟨g, k * 6 + 1, none⟩ (.int .i64 (Co.nth l k).out)).setCell ⟨g, k * 6 + 2, none⟩ (.int .i64 (Co.nth l k).amt)).setCell ⟨g, k * 6 + 3, none⟩ (.string (Co.nth l k).lock)).setCell ⟨g, k * 6 + 4, none⟩ (.int .i64 (Co.nth l k).ht)).setCell ⟨g, k * 6 + 5, none⟩ (.bool (Co.nth l k).rew)).heap[g]?) : CB g len (k + 1) l w2 := by
  obtain ⟨cs, h1, h2, h3⟩ := h
  refine ⟨_, hb.trans (block_setCell (block_setCell (block_setCell (block_setCell (block_setCell (block_setCell h1 (k * 6) _) (k * 6 + 1) _) (k * 6 + 2) _) (k * 6 + 3) _) (k * 6 + 4) _) (k * 6 + 5) _), by simpa using h2, fun j hj => ?_⟩
  by_cases hjk : j = k
  · subst hjk
    refine ⟨?_, ?_, ?_, ?_, ?_, ?_⟩ <;> simp [Array.getElem?_setIfInBounds] <;> omega
  · obtain ⟨c0, c1, c2, c3, c4, c5⟩ := h3 j (by omega)
    refine ⟨?_, ?_, ?_, ?_, ?_, ?_⟩ <;> simp only [Array.getElem?_setIfInBounds] <;> (repeat rw [if_neg (by omega)]) <;> assumption
theorem CB.slot {g len k : Nat} {l : List Co} {w : World} (h : CB g len k l w) (i : Nat) (hi : i < len * 6) : ∃ u, w.cell? ⟨g, i, none⟩ = some u := by
  obtain ⟨cs, h1, h2, _⟩ := h
  exact ⟨cs[i]'(by omega), by simp [World.cell?, h1, show i < cs.size by omega]⟩
theorem CB.fro {g len k : Nat} {l : List Co} {w : World} (h : CB g len k l w) (i : Nat) : w.frozen? ⟨g, i, none⟩ = false := by
  obtain ⟨cs, h1, _, _⟩ := h
  simp [World.frozen?, h1]
theorem CB.below {g len k : Nat} {l : List Co} {w w' : World} (h : CB g len k l w) (hb : Below w.heap.size w w') : CB g len k l w' := by
  obtain ⟨cs, h1, h2, h3⟩ := h
  exact ⟨cs, (hb.block g (lt_of_block h1)).trans h1, h2, h3⟩
theorem CB.set {g len k : Nat} {l : List Co} {w : World} (h : CB g len k l w) (i : Nat) (v : Value) (hi : k * 6 ≤ i) : CB g len k l (w.setCell ⟨g, i, none⟩ v) := by
  obtain ⟨cs, h1, h2, h3⟩ := h
  refine ⟨_, block_setCell h1 i v, by simpa using h2, fun j hj => ?_⟩
  obtain ⟨c0, c1, c2, c3, c4, c5⟩ := h3 j hj
  refine ⟨?_, ?_, ?_, ?_, ?_, ?_⟩ <;> simp only [Array.getElem?_setIfInBounds] <;> (repeat rw [if_neg (by omega)]) <;> assumption
theorem CB.kept {g len k : Nat} {l : List Co} {w w' : World} (h : CB g len k l w) (hb : w'.heap[g]? = w.heap[g]?) : CB g len k l w' := by
  obtain ⟨cs, h1, h2, h3⟩ := h
  exact ⟨cs, hb.trans h1, h2, h3⟩
theorem CB.room {g len k : Nat} {l l' : List Co} {w : World} (h : CB g len k l w) : CB g len 0 l' w := by
  obtain ⟨cs, h1, h2, _⟩ := h
  exact ⟨cs, h1, h2, fun j hj => absurd hj (Nat.not_lt_zero _)⟩
theorem CB.lt {g len k : Nat} {l : List Co} {w : World} (h : CB g len k l w) : g < w.heap.size := by
  obtain ⟨cs, h1, _, _⟩ := h
  exact lt_of_block h1
theorem CB.ol {g len : Nat} {l : List Co} {w : World} (h : CB g len len l w) (hl : l.length = len) {lo : Nat} (hlo : lo ≤ g) : CoL lo w (some ⟨g, 0, Option.none⟩) len l := by
  obtain ⟨cs, h1, h2, h3⟩ := h
  refine ⟨hl, fun _ => ⟨g, 0, rfl, hlo, lt_of_block h1, fun j hj => ?_⟩⟩
  obtain ⟨c0, c1, c2, c3, c4, c5⟩ := h3 j hj
  have hc : ∀ i, w.cell? ⟨g, i, Option.none⟩ = cs[i]? := fun i => by simp [World.cell?, h1]
  have hz : ∀ i, 0 + j * 6 + i = j * 6 + i := fun i => by omega
  exact ⟨by rw [Nat.zero_add]; exact (hc _).trans c0, by rw [hz]; exact (hc _).trans c1, by rw [hz]; exact (hc _).trans c2, by rw [hz]; exact (hc _).trans c3, by rw [hz]; exact (hc _).trans c4, by rw [hz]; exact (hc _).trans c5⟩
theorem CB.of_own {w : World} {base g cap n : Nat} {xs : List Value} (l : List Co) (h : w.ownsRow base 30 6 (.slice (some ⟨g, 0, Option.none⟩) n cap) n xs) : CB g n 0 l w := by
  rcases h.2 with ⟨he, h0⟩ | ⟨g', cap', cur, he, hg, hh, hn, hm, hs, _⟩
  · cases he
  · cases he
    exact ⟨cur, hh, by rw [hs]; exact Nat.mul_le_mul_right 6 hn, fun j hj => absurd hj (by omega)⟩
set_option maxRecDepth 100000 in
set_option maxHeartbeats 3200000 in
theorem toCoinS_any (lo : Nat) (a : Option Addr) (len cap : Nat) (l : List Co) (w : World) (hs : CoL lo w a len l) (hlen : len ≤ 1048576) :
    Calls Try.prog 13 #[.slice a len cap] w fun e w' => e = .returned (.slice (some ⟨w.heap.size, 0, none⟩) len len) ∧ Hid (CB w.heap.size len len l w') ∧ Below w.heap.size w w' := by
  obtain ⟨i0, hi, hz0, hz1, hz2⟩ := info_parts info_coin
  have hmk : ∀ W : World, (Instr.makeSlice 25 (.int .i64 (len : Int)) (.int .i64 (len : Int))).run Try.prog W = .ok (.slice (some ⟨W.heap.size, 0, none⟩) len len) (W.alloc (.cells (madeCells #[.int .i64 0, .int .i64 0, .int .i64 0, .string (⟨#[]⟩), .int .i64 0, .bool false] (len * 6)) 30)) := fun W => by
    have := run_make (P := Try.prog) W 25 30 i0 _ Try.underlying25 hi hz0 .i64 .i64 (len : Int) (len : Int) (by omega) (by omega) (by rw [hz2]; omega) (by omega)
    rw [hz1] at this
    simpa [Value.cells] using this
  clear hi hz0 hz1 hz2
  have HS := Lib.hid hs
  clear hs
  go_enter Try.func13, Try.ntmps13
  go_wp2
  go_loopw [4] (fun i wr => ∃ k : Nat, k ≤ len ∧ i = .int .i64 (k : Int) ∧ Hid (CB w.heap.size len k l wr) ∧ w.heap.size < wr.heap.size ∧ Below w.heap.size w wr)
    (fun i _ => len - (intOf i).toNat)
  case atStart => exact ⟨0, by omega, rfl, Lib.hid ⟨_, heap_alloc_new _ _, Nat.le_of_eq (size_madeCells _ _).symm, fun j hj => absurd hj (by omega)⟩, by simp, (Below.refl _ _).alloc (Nat.le_refl _) _⟩
  case round =>
    obtain ⟨k, hk, rfl, hblk, hlt0, hbel⟩ := hrel
    by_cases hlt : k < len
    · obtain ⟨b, off, rfl, _, hb, hc⟩ := (HS.out.below hbel).2 (by omega)
      obtain ⟨c0, c1, c2, c3, c4, c5⟩ := hc k hlt
      have hstep : ∀ W, Hid (CB w.heap.size len k l W) → ∀ x0 x1 x2 x3 x4 x5, Hid (Co.nth l k = ⟨x0, x1, x2, x3, x4, x5⟩) → Hid (CB w.heap.size len (k + 1) l ((((((W.setCell ⟨w.heap.size, k * 6, none⟩ (.int .i64 x0)).setCell ⟨w.heap.size, k * 6 + 1, none⟩ (.int .i64 x1)).setCell ⟨w.heap.size, k * 6 + 2, none⟩ (.int .i64 x2)).setCell ⟨w.heap.size, k * 6 + 3, none⟩ (.string x3)).setCell ⟨w.heap.size, k * 6 + 4, none⟩ (.int .i64 x4)).setCell ⟨w.heap.size, k * 6 + 5, none⟩ (.bool x5))) := fun W hW x0 x1 x2 x3 x4 x5 hx => Lib.hid (hW.out.at_ hlt (by rw [hx.out]))
      obtain ⟨x, hx⟩ : ∃ x, Hid (Co.nth l k = x) := ⟨_, Lib.hid rfl⟩
      rw [hx.out] at c0 c1 c2 c3 c4 c5
      obtain ⟨x0, x1, x2, x3, x4, x5⟩ := x
      simp only at c0 c1 c2 c3 c4 c5
      clear hc hb
      go_wp2_with fail
      refine (toCoin_any x0 x1 x2 x3 x4 x5 _).mono ?_
      rintro e w1 ⟨rfl, hb1⟩
      have hblk1 := Lib.hid (hblk.out.below hb1)
      have hbel1 := below_aftC hbel hb1
      have hlt1 : w.heap.size < w1.heap.size := Nat.lt_of_lt_of_le hlt0 hb1.size
      obtain ⟨z0, s0⟩ := hblk1.out.slot (k * 6) (by omega)
      have f0 := hblk1.out.fro (k * 6)
      obtain ⟨z1, s1⟩ := hblk1.out.slot (k * 6 + 1) (by omega)
      have f1 := hblk1.out.fro (k * 6 + 1)
      obtain ⟨z2, s2⟩ := hblk1.out.slot (k * 6 + 2) (by omega)
      have f2 := hblk1.out.fro (k * 6 + 2)
      obtain ⟨z3, s3⟩ := hblk1.out.slot (k * 6 + 3) (by omega)
      have f3 := hblk1.out.fro (k * 6 + 3)
      obtain ⟨z4, s4⟩ := hblk1.out.slot (k * 6 + 4) (by omega)
      have f4 := hblk1.out.fro (k * 6 + 4)
      obtain ⟨z5, s5⟩ := hblk1.out.slot (k * 6 + 5) (by omega)
      have f5 := hblk1.out.fro (k * 6 + 5)
      have hblk2 := hstep _ hblk1 x0 x1 x2 x3 x4 x5 hx
      have hbel2 := ((((((hbel1).setCell (p := ⟨w.heap.size, k * 6, none⟩) (Nat.le_refl _) (.int .i64 x0)).setCell (p := ⟨w.heap.size, k * 6 + 1, none⟩) (Nat.le_refl _) (.int .i64 x1)).setCell (p := ⟨w.heap.size, k * 6 + 2, none⟩) (Nat.le_refl _) (.int .i64 x2)).setCell (p := ⟨w.heap.size, k * 6 + 3, none⟩) (Nat.le_refl _) (.string x3)).setCell (p := ⟨w.heap.size, k * 6 + 4, none⟩) (Nat.le_refl _) (.int .i64 x4)).setCell (p := ⟨w.heap.size, k * 6 + 5, none⟩) (Nat.le_refl _) (.bool x5)
      clear hstep hblk hx hblk1 hbel1 hbel hb1 c0 c1 c2 c3 c4 c5
      go_wp2
      go_roundw
      case rel => exact ⟨k + 1, by omega, by simp, hblk2, by simpa [World.setCell] using hlt1, hbel2⟩
      case measure => simp [intOf]; omega
    · have hk2 : k = len := by omega
      subst hk2
      clear HS
      go_wp2
      go_ret
      exact ⟨rfl, hblk, hbel⟩
end Go.Proofs.Ytohameoomlehlab
