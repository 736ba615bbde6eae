/-
  The laws' own helpers once more, with what the laws of chapter 11 ask of them.
-/
import Derived.Test.YtdaffohimifecaaGreatYg
import Derived.Test.YtdaffohimifecaaGreatSm
import Derived.Test.YtdaffohimifecaaGreatOb
import Derived.Test.YtdaffohimifecaaGreatWb
import Derived.Deep.Strs
import Derived.WideShapes
import Derived.OpenShut
import Derived.ChangeSame
import Derived.Lib.SmallJoins
namespace Go.Proofs.YtdaffohimifecaaGreat
open Go.RowKit Go.Joins Go.WideShapes Go.ChangeShapes Go.Deep
set_option maxRecDepth 100000 in
set_option maxHeartbeats 1600000 in
theorem szOpS_top (a : Option Addr) (len cap : Nat) (l : List Jo) (w : World) (hs : OL w a len l) (hlen : len ≤ 9223372036854775807) (ht : ∀ j, j < len → (Jo.at_ l j).t.size ≤ 9223372036854775807) :
    Calls Tryz.prog 19 #[.slice a len cap, .int .i64 1048576] w fun e w' => ∃ v : Int, e = .returned (.int .i64 v) ∧ (v < 0 ∨ (v ≤ 1048576 ∧ len ≤ 1048576 ∧ ∀ j, j < len → (Jo.at_ l j).t.size ≤ 1048576)) ∧ Below w.heap.size w w' := by
  by_cases h0 : (1048576 : Int) - (len : Int) < 0
  · go_enter Tryz.func19, Tryz.ntmps19
    go_wp2
    go_ret
    exact ⟨-1, rfl, .inl (by decide), Below.refl _ _⟩
  have hlen2 : len ≤ 1048576 := by omega
  have HT := Lib.hid ht
  clear ht
  go_enter Tryz.func19, Tryz.ntmps19
  go_wp2
  go_loopw [1, 5] (fun v i wr => ∃ (k : Nat) (u : Int), k ≤ len ∧ i = .int .i64 (k : Int) ∧ v = .int .i64 u ∧ 0 ≤ u ∧ u ≤ 1048576 ∧ Hid (∀ j, j < k → (Jo.at_ l j).t.size ≤ 1048576) ∧ Below w.heap.size w wr)
    (fun _ i _ => len - (intOf i).toNat)
  case atStart => exact ⟨0, _, by omega, rfl, rfl, by omega, by omega, Lib.hid (fun j hj => absurd hj (by omega)), Below.refl _ _⟩
  case round =>
    obtain ⟨k, u, hk, rfl, rfl, u0, u1, hsm, hbel⟩ := hrel
    by_cases hlt : k < len
    · obtain ⟨b, off, rfl, hb, hc⟩ := (hs.below hbel).2 (by omega)
      obtain ⟨c0, c1, c2, c3⟩ := hc k hlt
      have htt := HT.out k hlt
      have hstep : ∀ x, Hid (Jo.at_ l k = x) → x.t.size ≤ 1048576 → Hid (∀ j, j < k + 1 → (Jo.at_ l j).t.size ≤ 1048576) := fun x hx hv => Lib.hid fun j hj => by
        by_cases hjk : j = k
        · rw [hjk, hx.out]; exact hv
        · exact hsm.out j (by omega)
      obtain ⟨x, hx⟩ : ∃ x, Hid (Jo.at_ l k = x) := ⟨_, Lib.hid rfl⟩
      replace hstep := hstep x hx
      rw [hx.out] at c0 c1 c2 c3 htt
      obtain ⟨C, A, B, t⟩ := x
      simp only at c0 c1 c2 c3 htt
      clear hx hc hb hs
      go_wp2_with fail
      refine (szOp_any C A B u t _ u0 u1 htt).mono ?_
      rintro e w1 ⟨v, rfl, hv, hb1⟩
      have hbel1 := below_aft9 hbel hb1
      by_cases hn : v < 0
      · clear hv hstep
        go_wp2
        go_ret
        exact ⟨-1, rfl, .inl (by decide), hbel1⟩
      · obtain ⟨e1, e2⟩ := hv.resolve_left hn
        have v0 : 0 ≤ v := by omega
        have v1 : v ≤ 1048576 := by omega
        have hst := hstep (by omega)
        clear hv e1 e2 hstep
        go_wp2
        go_roundw
        case rel => exact ⟨k + 1, v, by omega, by simp, rfl, v0, v1, hst, hbel1⟩
        case measure => simp [intOf]; omega
    · have hk2 : k = len := by omega
      subst hk2
      go_wp2
      go_ret
      exact ⟨u, rfl, .inr ⟨by omega, hlen2, hsm.out⟩, hbel⟩
set_option maxRecDepth 100000 in
set_option maxHeartbeats 1600000 in
theorem toOpS_own (a : Option Addr) (len cap : Nat) (l : List Jo) (w : World) (hs : OL w a len l) (hlen : len ≤ 1048576) :
    Calls Tryz.prog 22 #[.slice a len cap] w fun e w' => ∃ b, e = .returned (.slice (some ⟨b, 0, none⟩) len len) ∧ OL w' (some ⟨b, 0, none⟩) len l ∧ Below w.heap.size w w' ∧ OB b len 0 (marksO len) w' ∧ w.heap.size ≤ b := by
  obtain ⟨i0, hi, hz0, hz1, hz2⟩ := info_parts info_op
  have hmk : ∀ W : World, (Instr.makeSlice 23 (.int .i64 (len : Int)) (.int .i64 (len : Int))).run Tryz.prog W = .ok (.slice (some ⟨W.heap.size, 0, none⟩) len len) (W.alloc (.cells (madeCells #[.int .i64 0, .int .i64 0, .int .i64 0, .string ⟨#[]⟩] (len * 4)) 69)) := fun W => by
    have := run_make (P := Tryz.prog) W 23 69 i0 _ Tryz.underlying23 hi hz0 .i64 .i64 (len : Int) (len : Int) (by omega) (by omega) (by rw [hz2]; omega) (by omega)
    rw [hz1] at this
    simpa [Value.cells] using this
  have hl1 := hs.1
  clear hi hz0 hz1 hz2
  go_enter Tryz.func22, Tryz.ntmps22
  go_wp2
  go_loopw [4] (fun i wr => ∃ k : Nat, k ≤ len ∧ i = .int .i64 (k : Int) ∧ Hid (OB w.heap.size len k l wr) ∧ w.heap.size < wr.heap.size ∧ Below w.heap.size w wr)
    (fun i _ => len - (intOf i).toNat)
  case atStart => exact ⟨0, by omega, rfl, Lib.hid ⟨_, heap_alloc_new _ _, Nat.le_of_eq (size_madeCells _ _).symm, fun j hj => absurd hj (by omega)⟩, by simp, (Below.refl _ _).alloc (Nat.le_refl _) _⟩
  case round =>
    obtain ⟨k, hk, rfl, hblk, hlt0, hbel⟩ := hrel
    by_cases hlt : k < len
    · obtain ⟨b, off, rfl, hb, hc⟩ := (hs.below hbel).2 (by omega)
      obtain ⟨c0, c1, c2, c3⟩ := hc k hlt
      have hstep : ∀ W, Hid (OB w.heap.size len k l W) → ∀ C A B t, Hid (Jo.at_ l k = ⟨C, A, B, t⟩) → Hid (OB w.heap.size len (k + 1) l (((((W).setCell ⟨w.heap.size, k * 4, none⟩ (.int .i64 C)).setCell ⟨w.heap.size, k * 4 + 1, none⟩ (.int .i64 A)).setCell ⟨w.heap.size, k * 4 + 2, none⟩ (.int .i64 B)).setCell ⟨w.heap.size, k * 4 + 3, none⟩ (.string t))) := fun W hW C A B t hx => Lib.hid (by
        have := hW.out.step hlt
        rw [hx.out] at this
        exact this)
      obtain ⟨x, hx⟩ : ∃ x, Hid (Jo.at_ l k = x) := ⟨_, Lib.hid rfl⟩
      rw [hx.out] at c0 c1 c2 c3
      obtain ⟨C, A, B, t⟩ := x
      simp only at c0 c1 c2 c3
      clear hc hb hs
      go_wp2_with fail
      refine (toOp_any C A B t _).mono ?_
      rintro e w1 ⟨rfl, hb1⟩
      have hblk1 := Lib.hid (hblk.out.below hb1)
      have hbel1 := below_aft9 hbel hb1
      have hlt1 : w.heap.size < w1.heap.size := Nat.lt_of_lt_of_le hlt0 hb1.size
      obtain ⟨z0, s0⟩ := hblk1.out.slot (k * 4) (by omega)
      obtain ⟨z1, s1⟩ := hblk1.out.slot (k * 4 + 1) (by omega)
      obtain ⟨z2, s2⟩ := hblk1.out.slot (k * 4 + 2) (by omega)
      obtain ⟨z3, s3⟩ := hblk1.out.slot (k * 4 + 3) (by omega)
      have f0 := hblk1.out.fro (k * 4)
      have f1 := hblk1.out.fro (k * 4 + 1)
      have f2 := hblk1.out.fro (k * 4 + 2)
      have f3 := hblk1.out.fro (k * 4 + 3)
      have hblk2 := hstep _ hblk1 C A B t hx
      have hbel2 := ((((hbel1).setCell (p := ⟨w.heap.size, k * 4, none⟩) (Nat.le_refl _) (.int .i64 C)).setCell (p := ⟨w.heap.size, k * 4 + 1, none⟩) (Nat.le_refl _) (.int .i64 A)).setCell (p := ⟨w.heap.size, k * 4 + 2, none⟩) (Nat.le_refl _) (.int .i64 B)).setCell (p := ⟨w.heap.size, k * 4 + 3, none⟩) (Nat.le_refl _) (.string t)
      clear hstep hblk hx hblk1 hbel1 hbel hb1
      go_wp2
      go_roundw
      case rel => exact ⟨k + 1, by omega, by simp, hblk2, by simpa [World.setCell] using hlt1, hbel2⟩
      case measure => simp [intOf]; omega
    · have hk2 : k = len := by omega
      subst hk2
      clear hs
      go_wp2
      go_ret
      exact ⟨_, rfl, hblk.out.ol hl1, hbel, by obtain ⟨cs, p1, p2, _⟩ := hblk.out; exact ⟨cs, p1, p2, fun j hj => absurd hj (by omega)⟩, Nat.le_refl _⟩
set_option maxRecDepth 100000 in
set_option maxHeartbeats 800000 in
theorem szStringS_top (a : Option Addr) (len cap : Nat) (ss : List ByteArray) (left : Int) (w : World) (hs : SR w a len ss) (h0 : 0 ≤ left) (h1 : left ≤ 1048576) (hlen : len ≤ 9223372036854775807) (hsz : ∀ s ∈ ss, s.size ≤ 9223372036854775807) :
    Calls Tryz.prog 20 #[.slice a len cap, .int .i64 left] w fun e w' => ∃ v, e = .returned (.int .i64 v) ∧ (v < 0 ∨ (0 ≤ v ∧ v ≤ left ∧ (len : Int) ≤ left ∧ ∀ s ∈ ss, (s.size : Int) ≤ left)) ∧ Below w.heap.size w w' := by
  by_cases hbig : left < (len : Int)
  · go_enter Tryz.func20, Tryz.ntmps20
    go_wp2
    go_ret
    exact ⟨_, rfl, .inl (by omega), Below.refl _ _⟩
  have hss := hs.1
  go_enter Tryz.func20, Tryz.ntmps20
  go_wp2
  go_loopw [1, 5] (fun v i wr => ∃ (k : Nat) (L : Int), k ≤ len ∧ i = .int .i64 (k : Int) ∧ v = .int .i64 L ∧ 0 ≤ L ∧ L ≤ left - len ∧ (∀ j, j < k → ((ss.getD j ByteArray.empty).size : Int) ≤ left) ∧ Below w.heap.size w wr)
    (fun _ i _ => len - (intOf i).toNat)
  case atStart => exact ⟨0, _, by omega, rfl, rfl, by omega, by omega, fun j hj => absurd hj (by omega), Below.refl _ _⟩
  case round =>
    obtain ⟨k, L, hk, rfl, rfl, hL0, hL1, hsm, hbel⟩ := hrel
    by_cases hlt : k < len
    · have hsz1 := hsz _ (getD_mem (ss := ss) (i := k) (by omega))
      have hsr := hs.below hbel
      obtain ⟨b, off, rfl, hb, hc⟩ := hsr.2 (by omega)
      have hck := hc k hlt
      clear hc hsr hsz hs
      obtain ⟨t, HT⟩ : ∃ t, Hid (ss.getD k ByteArray.empty = t) := ⟨_, Lib.hid rfl⟩
      rw [HT.out] at hck hsz1
      by_cases hneg : L < (t.size : Int)
      · go_wp2
        go_ret
        exact ⟨_, rfl, .inl (by omega), hbel⟩
      · go_wp2
        go_roundw
        case rel =>
          refine ⟨k + 1, _, by omega, by simp, rfl, by omega, by omega, fun j hj => ?_, hbel⟩
          by_cases hjk : j < k
          · exact hsm j hjk
          · have : j = k := by omega
            rw [this, HT.out]
            omega
        case measure => simp [intOf]; omega
    · have HS := Lib.hid hsm
      clear hsm hsz
      go_wp2
      go_ret
      refine ⟨_, rfl, .inr ⟨by omega, by omega, by omega, fun s hsin => ?_⟩, hbel⟩
      obtain ⟨j, hj, rfl⟩ := List.getElem_of_mem hsin
      have := HS.out j (by omega)
      rwa [List.getD_eq_getElem?_getD, List.getElem?_eq_getElem hj] at this
set_option maxRecDepth 100000 in
set_option maxHeartbeats 800000 in
theorem markStringS_big (a : Option Addr) (g len cap : Nat) (k : Int) (w : World) (ha : 0 < len → a = some ⟨g, 0, none⟩) (hg : 0 < len → g < w.heap.size) (hc : ∀ j, j < len → (w.cell? ⟨g, j, none⟩).isSome = true ∧ w.frozen? ⟨g, j, none⟩ = false)
    (h0 : 1 ≤ k) (h1 : k ≤ 100000000) (hlen : len ≤ 1048576) :
    Calls Tryz.prog 28 #[.slice a len cap, .int .i64 k] w fun e w' => e = .returned (.int .i64 (k + len)) ∧ w.grownBy w' (some g) ∧ ∀ j, j < len → w'.cell? ⟨g, j, none⟩ = some (.string (Mk.mark (k + j))) := by
  go_enter Tryz.func28, Tryz.ntmps28
  go_wp2
  go_loopw [1, 5] (fun v i wr => ∃ n : Nat, n ≤ len ∧ i = .int .i64 (n : Int) ∧ v = .int .i64 (k + n) ∧ w.grownBy wr (some g) ∧ (∀ j, j < n → wr.cell? ⟨g, j, none⟩ = some (.string (Mk.mark (k + j)))) ∧ (∀ j, j < len → (wr.cell? ⟨g, j, none⟩).isSome = true ∧ wr.frozen? ⟨g, j, none⟩ = false))
    (fun _ i _ => len - (intOf i).toNat)
  case atStart => exact ⟨0, by omega, rfl, by simp, World.grownBy.refl _ _, fun j hj => absurd hj (by omega), hc⟩
  case round =>
    obtain ⟨n, hn, rfl, rfl, hgr, hms, hfr⟩ := hrel
    by_cases hlt : n < len
    · obtain rfl := ha (by omega)
      have hgw := Nat.lt_of_lt_of_le (hg (by omega)) hgr.size
      have HF := Lib.hid hfr
      have HC := Lib.hid hms
      have HG := Lib.hid hg
      clear hfr hms hc hg ha
      go_wp2_with fail
      refine (markText_any (k + n) _ (by omega) (by omega)).mono ?_
      rintro e w2 ⟨rfl, hb2⟩
      have hcell : ∀ j, w2.cell? ⟨g, j, none⟩ = wr.cell? ⟨g, j, none⟩ := fun j => World.cell?_of_block (w := wr) (a := ⟨g, j, none⟩) (hb2.block g hgw)
      have hfroz : ∀ j, w2.frozen? ⟨g, j, none⟩ = wr.frozen? ⟨g, j, none⟩ := fun j => by unfold World.frozen?; rw [hb2.block g hgw]
      obtain ⟨u0, hu0⟩ : ∃ u, w2.cell? ⟨g, n, none⟩ = some u := Option.isSome_iff_exists.1 (by rw [hcell]; exact (HF.out n hlt).1)
      have hf : w2.frozen? ⟨g, n, none⟩ = false := by rw [hfroz]; exact (HF.out n hlt).2
      have HCE := Lib.hid hcell
      have HFE := Lib.hid hfroz
      clear hcell hfroz
      have hgr2 : w.grownBy w2 (some g) := hgr.trans ⟨hb2.os, hb2.tape, hb2.output, hb2.size, fun q hq _ => hb2.block q hq⟩
      clear hgr hb2
      go_wp2
      go_roundw
      case rel =>
        refine ⟨n + 1, by omega, by simp, by simp; omega, hgr2.trans ⟨rfl, rfl, rfl, by simp [World.setCell], fun j _ hr => Below.heap_setCell _ _ _ _ (fun e => hr (by simp [e]))⟩, fun j hj => ?_, fun j hj => ⟨?_, by rw [World.frozen?_setCell, HFE.out]; exact (HF.out j hj).2⟩⟩
        · by_cases hjk : j = n
          · subst hjk
            exact World.cell?_setCell_same _ _ _ hu0
          · exact (World.cell?_setCell_other _ _ _ _ (by intro e; cases e; exact hjk rfl)).trans ((HCE.out j).trans (HC.out j (by omega)))
        · by_cases hjk : j = n
          · subst hjk
            rw [World.cell?_setCell_same _ _ _ hu0]
            rfl
          · exact (congrArg Option.isSome ((World.cell?_setCell_other _ _ _ _ (by intro e; cases e; exact hjk rfl)).trans (HCE.out j))).trans (HF.out j hj).1
      case measure => simp [intOf]; omega
    · have hn2 : n = len := by omega
      subst hn2
      have HC := Lib.hid hms
      clear hfr hms hc hg ha
      go_wp2
      go_ret
      exact ⟨rfl, hgr, HC.out⟩
theorem toEnv_any (T : ByteArray) (h a : Int) (w : World) :
    Calls Tryz.prog 24 #[.agg #[.string T, .int .i64 h, .int .i64 a]] w fun e w' => e = .returned (.agg #[.string T, .int .i64 h, .int .i64 a]) ∧ Below w.heap.size w w' := by
  have HX : ∀ X Y, Bk (w.heap.size + 1) 26 #[.string T, .int .i64 h, .int .i64 a] (((w.alloc X).alloc (.cells #[.string T, .int .i64 h, .int .i64 a] 26 (0, 0))).alloc Y) := fun X Y => (Bk.new' _ _ _ _ (by simp)).alloc Y
  go_enter Tryz.func24, Tryz.ntmps24
  go_wp2
  refine bodyPost_ret (results_cell_row (P := Tryz.prog) rfl _ _ (w.heap.size + 1) 26 _ (0, 0) _ rfl (HX _ _).held Tryz.underlying26 rfl (by kernel_rfl)) rfl ?_
  exact ⟨rfl, (((Below.refl _ _).alloc (Nat.le_refl _) _).alloc (by simp) _).alloc (by simp; omega) _⟩
theorem szEnv_any (T : ByteArray) (h a left : Int) (w : World) (l0 : 0 ≤ left) (l1 : left ≤ 1048576) (ht : T.size ≤ 9223372036854775807) :
    Calls Tryz.prog 21 #[.agg #[.string T, .int .i64 h, .int .i64 a], .int .i64 left] w fun e w' => ∃ v : Int, e = .returned (.int .i64 v) ∧ (v < 0 ∨ (0 ≤ v ∧ (T.size : Int) ≤ left)) ∧ Below w.heap.size w w' := by
  by_cases hn : left - (T.size : Int) < 0
  · go_enter Tryz.func21, Tryz.ntmps21
    go_wp2
    go_ret
    exact ⟨-1, rfl, .inl (by decide), (Below.refl _ _).alloc (Nat.le_refl _) _⟩
  · go_enter Tryz.func21, Tryz.ntmps21
    go_wp2
    go_ret
    exact ⟨_, rfl, .inr ⟨by omega, by omega⟩, (Below.refl _ _).alloc (Nat.le_refl _) _⟩
theorem SR.ne {w : World} {a : Option Addr} {n g : Nat} {zs : List ByteArray} (h : SR w a n zs) (hg : w.heap.size ≤ g) : 0 < n → ∀ b off, a = some ⟨b, off, none⟩ → some b ≠ some g := by
  intro h0 b off he hbg
  obtain ⟨b', off', he', hb', _⟩ := h.2 h0
  rw [he] at he'
  cases he'
  cases hbg
  omega
theorem SR.lt0 {w : World} {a : Option Addr} {n : Nat} {zs : List ByteArray} (h : SR w a n zs) : ∀ b off, 0 < n → a = some ⟨b, off, none⟩ → b < w.heap.size := by
  intro b off h0 he
  obtain ⟨b', off', he', hb', _⟩ := h.2 h0
  rw [he] at he'
  cases he'
  exact hb'
/-- The strings that markStringS writes. -/
def marksT (n : Nat) (k : Int) : List ByteArray := (List.range n).map fun (j : Nat) => Mk.mark (k + (j : Int))
theorem marksT_getD (n : Nat) (k : Int) : ∀ j, j < n → (marksT n k).getD j ByteArray.empty = Mk.mark (k + j) := by
  intro j hj
  unfold marksT
  rw [List.getD_eq_getElem?_getD, List.getElem?_map, List.getElem?_range hj]
  rfl
section
variable {H : Type} {enc : TypeId × Value → H} {W : World} {base : Nat} {spare : Nat → Bool} {held : Bool}
set_option maxRecDepth 100000 in
theorem open_env_cells {fuel : Nat} {cs : List Value} {x : DataW H × List MemPlace} (h : DataW.trod enc Tryz.prog W base spare held fuel 42 cs = some x) :
    ∃ (T : ByteArray) (h a : Int), cs = [.string T, .int .i64 h, .int .i64 a] ∧ x = (.agg [.lit (.string T.data.toList), .lit (.int .i64 h), .lit (.int .i64 a)], []) ∧ T.size ≤ maxLen ∧ (Lit.int .i64 h).wf = true ∧ (Lit.int .i64 a).wf = true := by
  obtain ⟨y0, y1, y2, n, rfl, hl, h0, h1, h2⟩ := trod_struct3 Tryz.underlying42 h
  obtain ⟨s, e0, rfl, ws⟩ := DataW.trod_string Tryz.underlying9 h0
  obtain ⟨b, e1, rfl, wb⟩ := DataW.trod_int Tryz.underlying3 h1
  obtain ⟨c, e2, rfl, wc⟩ := DataW.trod_int Tryz.underlying3 h2
  have hC : Tryz.prog.cellsOf 42 = 3 := by kernel_rfl
  have hC1 : Tryz.prog.cellsOf 3 = 1 := by kernel_rfl
  have hC2 : Tryz.prog.cellsOf 9 = 1 := by kernel_rfl
  rw [hC] at hl
  obtain ⟨x0, x1, x2, rfl⟩ : ∃ x0 x1 x2, cs = [x0, x1, x2] := by
    rcases cs with _ | ⟨x0, _ | ⟨x1, _ | ⟨x2, _ | ⟨x3, r⟩⟩⟩⟩ <;> simp at hl
    exact ⟨x0, x1, x2, rfl⟩
  simp [hC1, hC2] at e0 e1 e2
  subst e0 e1 e2
  exact ⟨s, b, c, rfl, by simp, ws, wb, wc⟩
set_option maxRecDepth 100000 in
theorem open_env {r : Reach} {b0 : Nat} {v : Value} {d : DataW H} {p : List MemPlace} (hv : Value.okWide Tryz.prog W r b0 42 v) (h : DataW.Trod enc Tryz.prog W base spare held 42 v d p) :
    ∃ (T : ByteArray) (h a : Int), v = .agg #[.string T, .int .i64 h, .int .i64 a] ∧ d = .agg [.lit (.string T.data.toList), .lit (.int .i64 h), .lit (.int .i64 a)] ∧ p = [] ∧ T.size ≤ maxLen ∧ (Lit.int .i64 h).wf = true ∧ (Lit.int .i64 a).wf = true := by
  obtain ⟨cs, rfl, hsz⟩ := okWide_struct Tryz.underlying42 hv
  obtain ⟨fuel, hf⟩ := h
  obtain ⟨T, h, a, e, hx, w1, w2, w3⟩ := open_env_cells hf
  simp only [Prod.mk.injEq] at hx
  refine ⟨T, h, a, ?_, hx.1, hx.2, w1, w2, w3⟩
  congr 1
  apply Array.toList_inj.mp
  simpa [Value.cells] using e
set_option maxRecDepth 100000 in
theorem shut_env (T : ByteArray) (h a : Int) (w1 : T.size ≤ maxLen) (w2 : (Lit.int .i64 h).wf = true) (w3 : (Lit.int .i64 a).wf = true) :
    DataW.Trod enc Tryz.prog W base spare held 42 (.agg #[.string T, .int .i64 h, .int .i64 a]) (.agg [.lit (.string T.data.toList), .lit (.int .i64 h), .lit (.int .i64 a)]) [] := by
  have hC1 : Tryz.prog.cellsOf 3 = 1 := by kernel_rfl
  have hC2 : Tryz.prog.cellsOf 9 = 1 := by kernel_rfl
  have := trod_struct3_mk (enc := enc) (w := W) (base := base) (spare := spare) (held := held) (n := 1) (cs := [.string T, .int .i64 h, .int .i64 a]) (y0 := (.lit (.string T.data.toList), [])) (y1 := (.lit (.int .i64 h), [])) (y2 := (.lit (.int .i64 a), [])) Tryz.underlying42 (by kernel_rfl)
    (by simp [hC2, DataW.trod, Tryz.underlying9, w1]) (by simp [hC1, DataW.trod, Tryz.underlying3, w2]) (by simp [hC1, DataW.trod, Tryz.underlying3, w3])
  exact ⟨2, by simpa [Value.cells] using this⟩
end
end Go.Proofs.YtdaffohimifecaaGreat
