/-
  The laws' own helpers once more, with what the laws of chapter 11 ask of them.
-/
import Derived.Test.YtoocibabceeagabGreatYg
import Derived.Test.YtoocibabceeagabGreatSm
import Derived.Test.YtoocibabceeagabGreatOb
import Derived.Test.YtoocibabceeagabGreatWb
import Derived.Deep.Strs
import Derived.WideShapes
import Derived.OpenShut
import Derived.ChangeSame
import Derived.Lib.SmallJoins
namespace Go.Proofs.YtoocibabceeagabGreat
open Go.RowKit Go.Joins Go.WideShapes Go.ChangeShapes Go.Deep
set_option maxRecDepth 100000 in
set_option maxHeartbeats 800000 in
theorem szStringS_top (a : Option Addr) (len cap : Nat) (ss : List ByteArray) (left : Int) (w : World) (hs : SR w a len ss) (h0 : 0 ≤ left) (h1 : left ≤ 1048576) (hlen : len ≤ 9223372036854775807) (hsz : ∀ s ∈ ss, s.size ≤ 9223372036854775807) :
    Calls Tryz.prog 45 #[.slice a len cap, .int .i64 left] w fun e w' => ∃ v, e = .returned (.int .i64 v) ∧ (v < 0 ∨ (0 ≤ v ∧ v ≤ left ∧ (len : Int) ≤ left ∧ ∀ s ∈ ss, (s.size : Int) ≤ left)) ∧ Below w.heap.size w w' := by
  by_cases hbig : left < (len : Int)
  · go_enter Tryz.func45, Tryz.ntmps45
    go_wp2
    go_ret
    exact ⟨_, rfl, .inl (by omega), Below.refl _ _⟩
  have hss := hs.1
  go_enter Tryz.func45, Tryz.ntmps45
  go_wp2
  go_loopw [1, 5] (fun v i wr => ∃ (k : Nat) (L : Int), k ≤ len ∧ i = .int .i64 (k : Int) ∧ v = .int .i64 L ∧ 0 ≤ L ∧ L ≤ left - len ∧ (∀ j, j < k → ((ss.getD j ByteArray.empty).size : Int) ≤ left) ∧ Below w.heap.size w wr)
    (fun _ i _ => len - (intOf i).toNat)
  case atStart => exact ⟨0, _, by omega, rfl, rfl, by omega, by omega, fun j hj => absurd hj (by omega), Below.refl _ _⟩
  case round =>
    obtain ⟨k, L, hk, rfl, rfl, hL0, hL1, hsm, hbel⟩ := hrel
    by_cases hlt : k < len
    · have hsz1 := hsz _ (getD_mem (ss := ss) (i := k) (by omega))
      have hsr := hs.below hbel
      obtain ⟨b, off, rfl, hb, hc⟩ := hsr.2 (by omega)
      have hck := hc k hlt
      clear hc hsr hsz hs
      obtain ⟨t, HT⟩ : ∃ t, Hid (ss.getD k ByteArray.empty = t) := ⟨_, Lib.hid rfl⟩
      rw [HT.out] at hck hsz1
      by_cases hneg : L < (t.size : Int)
      · go_wp2
        go_ret
        exact ⟨_, rfl, .inl (by omega), hbel⟩
      · go_wp2
        go_roundw
        case rel =>
          refine ⟨k + 1, _, by omega, by simp, rfl, by omega, by omega, fun j hj => ?_, hbel⟩
          by_cases hjk : j < k
          · exact hsm j hjk
          · have : j = k := by omega
            rw [this, HT.out]
            omega
        case measure => simp [intOf]; omega
    · have HS := Lib.hid hsm
      clear hsm hsz
      go_wp2
      go_ret
      refine ⟨_, rfl, .inr ⟨by omega, by omega, by omega, fun s hsin => ?_⟩, hbel⟩
      obtain ⟨j, hj, rfl⟩ := List.getElem_of_mem hsin
      have := HS.out j (by omega)
      rwa [List.getD_eq_getElem?_getD, List.getElem?_eq_getElem hj] at this
theorem toEnv_any (T : ByteArray) (h a : Int) (w : World) :
    Calls Tryz.prog 48 #[.agg #[.string T, .int .i64 h, .int .i64 a]] w fun e w' => e = .returned (.agg #[.string T, .int .i64 h, .int .i64 a]) ∧ Below w.heap.size w w' := by
  have HX : ∀ X Y, Bk (w.heap.size + 1) 35 #[.string T, .int .i64 h, .int .i64 a] (((w.alloc X).alloc (.cells #[.string T, .int .i64 h, .int .i64 a] 35 (0, 0))).alloc Y) := fun X Y => (Bk.new' _ _ _ _ (by simp)).alloc Y
  go_enter Tryz.func48, Tryz.ntmps48
  go_wp2
  refine bodyPost_ret (results_cell_row (P := Tryz.prog) rfl _ _ (w.heap.size + 1) 35 _ (0, 0) _ rfl (HX _ _).held Tryz.underlying35 rfl (by kernel_rfl)) rfl ?_
  exact ⟨rfl, (((Below.refl _ _).alloc (Nat.le_refl _) _).alloc (by simp) _).alloc (by simp; omega) _⟩
theorem szEnv_any (T : ByteArray) (h a left : Int) (w : World) (l0 : 0 ≤ left) (l1 : left ≤ 1048576) (ht : T.size ≤ 9223372036854775807) :
    Calls Tryz.prog 46 #[.agg #[.string T, .int .i64 h, .int .i64 a], .int .i64 left] w fun e w' => ∃ v : Int, e = .returned (.int .i64 v) ∧ (v < 0 ∨ (0 ≤ v ∧ (T.size : Int) ≤ left)) ∧ Below w.heap.size w w' := by
  by_cases hn : left - (T.size : Int) < 0
  · go_enter Tryz.func46, Tryz.ntmps46
    go_wp2
    go_ret
    exact ⟨-1, rfl, .inl (by decide), (Below.refl _ _).alloc (Nat.le_refl _) _⟩
  · go_enter Tryz.func46, Tryz.ntmps46
    go_wp2
    go_ret
    exact ⟨_, rfl, .inr ⟨by omega, by omega⟩, (Below.refl _ _).alloc (Nat.le_refl _) _⟩
theorem SR.ne {w : World} {a : Option Addr} {n g : Nat} {zs : List ByteArray} (h : SR w a n zs) (hg : w.heap.size ≤ g) : 0 < n → ∀ b off, a = some ⟨b, off, none⟩ → some b ≠ some g := by
  intro h0 b off he hbg
  obtain ⟨b', off', he', hb', _⟩ := h.2 h0
  rw [he] at he'
  cases he'
  cases hbg
  omega
theorem SR.lt0 {w : World} {a : Option Addr} {n : Nat} {zs : List ByteArray} (h : SR w a n zs) : ∀ b off, 0 < n → a = some ⟨b, off, none⟩ → b < w.heap.size := by
  intro b off h0 he
  obtain ⟨b', off', he', hb', _⟩ := h.2 h0
  rw [he] at he'
  cases he'
  exact hb'
/-- The strings that markStringS writes. -/
def marksT (n : Nat) (k : Int) : List ByteArray := (List.range n).map fun (j : Nat) => Mk.mark (k + (j : Int))
theorem marksT_getD (n : Nat) (k : Int) : ∀ j, j < n → (marksT n k).getD j ByteArray.empty = Mk.mark (k + j) := by
  intro j hj
  unfold marksT
  rw [List.getD_eq_getElem?_getD, List.getElem?_map, List.getElem?_range hj]
  rfl
section
variable {H : Type} {enc : TypeId × Value → H} {W : World} {base : Nat} {spare : Nat → Bool} {held : Bool}
set_option maxRecDepth 100000 in
theorem open_env_cells {fuel : Nat} {cs : List Value} {x : DataW H × List MemPlace} (h : DataW.trod enc Tryz.prog W base spare held fuel 61 cs = some x) :
    ∃ (T : ByteArray) (h a : Int), cs = [.string T, .int .i64 h, .int .i64 a] ∧ x = (.agg [.lit (.string T.data.toList), .lit (.int .i64 h), .lit (.int .i64 a)], []) ∧ T.size ≤ maxLen ∧ (Lit.int .i64 h).wf = true ∧ (Lit.int .i64 a).wf = true := by
  obtain ⟨y0, y1, y2, n, rfl, hl, h0, h1, h2⟩ := trod_struct3 Tryz.underlying61 h
  obtain ⟨s, e0, rfl, ws⟩ := DataW.trod_string Tryz.underlying9 h0
  obtain ⟨b, e1, rfl, wb⟩ := DataW.trod_int Tryz.underlying3 h1
  obtain ⟨c, e2, rfl, wc⟩ := DataW.trod_int Tryz.underlying3 h2
  have hC : Tryz.prog.cellsOf 61 = 3 := by kernel_rfl
  have hC1 : Tryz.prog.cellsOf 3 = 1 := by kernel_rfl
  have hC2 : Tryz.prog.cellsOf 9 = 1 := by kernel_rfl
  rw [hC] at hl
  obtain ⟨x0, x1, x2, rfl⟩ : ∃ x0 x1 x2, cs = [x0, x1, x2] := by
    rcases cs with _ | ⟨x0, _ | ⟨x1, _ | ⟨x2, _ | ⟨x3, r⟩⟩⟩⟩ <;> simp at hl
    exact ⟨x0, x1, x2, rfl⟩
  simp [hC1, hC2] at e0 e1 e2
  subst e0 e1 e2
  exact ⟨s, b, c, rfl, by simp, ws, wb, wc⟩
set_option maxRecDepth 100000 in
theorem open_env {r : Reach} {b0 : Nat} {v : Value} {d : DataW H} {p : List MemPlace} (hv : Value.okWide Tryz.prog W r b0 61 v) (h : DataW.Trod enc Tryz.prog W base spare held 61 v d p) :
    ∃ (T : ByteArray) (h a : Int), v = .agg #[.string T, .int .i64 h, .int .i64 a] ∧ d = .agg [.lit (.string T.data.toList), .lit (.int .i64 h), .lit (.int .i64 a)] ∧ p = [] ∧ T.size ≤ maxLen ∧ (Lit.int .i64 h).wf = true ∧ (Lit.int .i64 a).wf = true := by
  obtain ⟨cs, rfl, hsz⟩ := okWide_struct Tryz.underlying61 hv
  obtain ⟨fuel, hf⟩ := h
  obtain ⟨T, h, a, e, hx, w1, w2, w3⟩ := open_env_cells hf
  simp only [Prod.mk.injEq] at hx
  refine ⟨T, h, a, ?_, hx.1, hx.2, w1, w2, w3⟩
  congr 1
  apply Array.toList_inj.mp
  simpa [Value.cells] using e
set_option maxRecDepth 100000 in
theorem shut_env (T : ByteArray) (h a : Int) (w1 : T.size ≤ maxLen) (w2 : (Lit.int .i64 h).wf = true) (w3 : (Lit.int .i64 a).wf = true) :
    DataW.Trod enc Tryz.prog W base spare held 61 (.agg #[.string T, .int .i64 h, .int .i64 a]) (.agg [.lit (.string T.data.toList), .lit (.int .i64 h), .lit (.int .i64 a)]) [] := by
  have hC1 : Tryz.prog.cellsOf 3 = 1 := by kernel_rfl
  have hC2 : Tryz.prog.cellsOf 9 = 1 := by kernel_rfl
  have := trod_struct3_mk (enc := enc) (w := W) (base := base) (spare := spare) (held := held) (n := 1) (cs := [.string T, .int .i64 h, .int .i64 a]) (y0 := (.lit (.string T.data.toList), [])) (y1 := (.lit (.int .i64 h), [])) (y2 := (.lit (.int .i64 a), [])) Tryz.underlying61 (by kernel_rfl)
    (by simp [hC2, DataW.trod, Tryz.underlying9, w1]) (by simp [hC1, DataW.trod, Tryz.underlying3, w2]) (by simp [hC1, DataW.trod, Tryz.underlying3, w3])
  exact ⟨2, by simpa [Value.cells] using this⟩
end
end Go.Proofs.YtoocibabceeagabGreat
