/-
  Contracts of chapter 8: SplitSecret; of the program.
-/
import Derived.Test.YtbhpealkhpginaaRn
import Derived.Test.YtbhpealkhpginaaQt
namespace Go.Proofs.Ytbhpealkhpginaa
open Go.RowKit

/-- The block g has room for just len shares, the first k of which are those of l. -/
def SBk (g len k : Nat) (l : List (Int × Int)) (w : World) : Prop :=
  ∃ cs : Array Value, w.heap[g]? = some (.cells cs 35 (0, 0)) ∧ cs.size = len * 2 ∧ ∀ j, j < k → cs[j * 2]? = some (.int .i64 (Po.X l j)) ∧ cs[j * 2 + 1]? = some (.int .i64 (Po.Y l j))
theorem SBk.step {g len k : Nat} {l : List (Int × Int)} {w : World} (h : SBk g len k l w) (hk : k < len) : SBk g len (k + 1) l ((w.setCell ⟨g, k * 2, none⟩ (.int .i64 (Po.X l k))).setCell ⟨g, k * 2 + 1, none⟩ (.int .i64 (Po.Y l k))) := by
  obtain ⟨cs, h1, h2, h3⟩ := h
  refine ⟨_, block_setCell (block_setCell h1 (k * 2) _) (k * 2 + 1) _, by simpa using h2, fun j hj => ?_⟩
  by_cases hjk : j = k
  · subst hjk
    refine ⟨?_, ?_⟩ <;> simp [Array.getElem?_setIfInBounds, h2] <;> omega
  · obtain ⟨c0, c1⟩ := h3 j (by omega)
    refine ⟨?_, ?_⟩ <;> simp only [Array.getElem?_setIfInBounds] <;> (repeat rw [if_neg (by omega)]) <;> assumption
theorem SBk.slot {g len k : Nat} {l : List (Int × Int)} {w : World} (h : SBk g len k l w) (i : Nat) (hi : i < len * 2) : ∃ u, w.cell? ⟨g, i, none⟩ = some u := by
  obtain ⟨cs, h1, h2, _⟩ := h
  exact ⟨cs[i]'(by omega), by simp [World.cell?, h1, show i < cs.size by omega]⟩
theorem SBk.fro {g len k : Nat} {l : List (Int × Int)} {w : World} (h : SBk g len k l w) (i : Nat) : w.frozen? ⟨g, i, none⟩ = false := by
  obtain ⟨cs, h1, _, _⟩ := h
  simp [World.frozen?, h1]
theorem SBk.lt {g len k : Nat} {l : List (Int × Int)} {w : World} (h : SBk g len k l w) : g < w.heap.size := by
  obtain ⟨cs, h1, _, _⟩ := h
  exact lt_of_block h1
theorem SBk.below {g len k : Nat} {l : List (Int × Int)} {w w' : World} (h : SBk g len k l w) (hb : Below w.heap.size w w') : SBk g len k l w' := by
  obtain ⟨cs, h1, h2, h3⟩ := h
  exact ⟨cs, (hb.block g (lt_of_block h1)).trans h1, h2, h3⟩
theorem SBk.own {g len base : Nat} {l : List (Int × Int)} {w : World} (h : SBk g len len l w) (hl : l.length = len) (hb : base ≤ g) (hm : len ≤ maxLen) : w.ownsRow base 35 2 (.slice (some ⟨g, 0, none⟩) len len) len (Po.enc l) := by
  obtain ⟨cs, h1, h2, h3⟩ := h
  refine ⟨by rw [Po.enc_length, hl], .inr ⟨g, len, cs, rfl, hb, h1, Nat.le_refl _, hm, h2, ?_⟩⟩
  apply List.ext_getElem?
  intro j
  by_cases hj : j < len * 2
  · rw [List.getElem?_take_of_lt hj, Array.getElem?_toList]
    obtain ⟨q, hq⟩ : ∃ q, q = j / 2 := ⟨_, rfl⟩
    obtain ⟨e0, e1⟩ := Po.enc_get l q (by omega)
    obtain ⟨c0, c1⟩ := h3 q (by omega)
    rcases Nat.mod_two_eq_zero_or_one j with h | h
    · rw [show j = q * 2 by omega, e0, c0]
    · rw [show j = q * 2 + 1 by omega, e1, c1]
  · rw [List.getElem?_eq_none (by rw [List.length_take]; omega), List.getElem?_eq_none (by rw [Po.enc_length]; omega)]
theorem Po.to_get (m : Nat) : ∀ k, k < m → (Po.to m).getD k 0 = (k : Int) + 1 := by
  induction m with
  | zero => intro k hk; omega
  | succ m ih =>
    intro k hk
    rw [Po.to_succ, List.getD_eq_getElem?_getD]
    by_cases h : k < m
    · rw [List.getElem?_append_left (by rw [Po.to_len]; exact h), ← List.getD_eq_getElem?_getD]
      exact ih k h
    · have h2 : k = m := by omega
      subst h2
      rw [List.getElem?_append_right (by rw [Po.to_len]; exact Nat.le_refl _), Po.to_len, Nat.sub_self]
      rfl
set_option maxRecDepth 100000 in
set_option maxHeartbeats 3200000 in
theorem implSplitSecret_any (s : Int) (a : Option Addr) (len cap : Nat) (cs : List Int) (n : Int) (w : World) (h : IR w a len cs) (hm : len ≤ 9223372036854775807) :
    Calls Try.prog 13 #[.int .i64 s, .slice a len cap, .int .i64 n] w fun e w' => SP s cs n w e w' := by
  have hl := h.1
  have hcon := coefficients_any s a len cap cs w h
  by_cases hn1 : n < 1
  · have HN : Hid (Po.spOk s cs n = false) := Lib.hid (Po.spOk_no fun h => by omega)
    clear h
    go_enter Try.func13, Try.ntmps13
    go_wp2_with fail
    refine hcon.mono ?_
    rintro e1 w1 ⟨Bs, Bc, rfl, _, _, _, hb1⟩
    go_wp2
    go_ret2
    exact SP.no hb1 HN.out
  by_cases hn8 : 8 < n
  · have HN : Hid (Po.spOk s cs n = false) := Lib.hid (Po.spOk_no fun h => by omega)
    clear h
    go_enter Try.func13, Try.ntmps13
    go_wp2_with fail
    refine hcon.mono ?_
    rintro e1 w1 ⟨Bs, Bc, rfl, _, _, _, hb1⟩
    go_wp2
    go_ret2
    exact SP.no hb1 HN.out
  by_cases hle : n ≤ (len : Int)
  · have HN : Hid (Po.spOk s cs n = false) := Lib.hid (Po.spOk_no fun h => by have := h.2.1; omega)
    clear h
    go_enter Try.func13, Try.ntmps13
    go_wp2_with fail
    refine hcon.mono ?_
    rintro e1 w1 ⟨Bs, Bc, rfl, _, _, _, hb1⟩
    go_wp2
    go_ret2
    exact SP.no hb1 HN.out
  have HCE : Hid (Po.cg (s :: cs) (len + 1) = Po.cg (s :: cs) (cs.length + 1)) := Lib.hid (by rw [hl])
  obtain ⟨m, rfl⟩ := Int.eq_ofNat_of_zero_le (show 0 ≤ n by omega)
  have hm8 : m ≤ 8 := by omega
  have hm1 : 1 ≤ m := by omega
  have hm9 : len < m := by omega
  have hd1 : decide ((m : Int) < 1) = false := by simp; omega
  have hd2 : decide ((8 : Int) < (m : Int)) = false := by simp; omega
  have hd3 : decide ((m : Int) ≤ (len : Int)) = false := by simp; omega
  have hd4 : decide (m ≤ len) = false := by simp; omega
  clear hn1 hn8 hle
  go_enter Try.func13, Try.ntmps13
  go_wp2_with fail
  refine hcon.mono ?_
  rintro e1 w1 ⟨Bs, Bc, rfl, hPV, _, _, hb1⟩
  have hcon2 := areScalars_any Bs Bc s a len cap cs w1 hPV hm
  clear hcon h
  cases hcg : Po.cg (s :: cs) (len + 1)
  · have HN : Hid (Po.spOk s cs (m : Int) = false) := Lib.hid (Po.spOk_no fun h => by rw [← HCE.out, hcg] at h; exact absurd h.2.2 (by simp))
    rw [hcg] at hcon2
    clear HCE hcg hPV
    go_wp2_with fail
    refine hcon2.mono ?_
    rintro e2 w2 ⟨rfl, hb2⟩
    have hc2 := below_after hb1 hb2
    go_wp2
    go_ret2
    exact SP.no hc2 HN.out
  · have HS : Hid (Po.spOk s cs (m : Int) = true) := Lib.hid ((Po.spOk_iff s cs (m : Int)).mpr ⟨by omega, by omega, by rw [← HCE.out]; exact hcg⟩)
    have HC := Lib.hid (Po.cg_at (s :: cs) (len + 1) hcg)
    rw [hcg] at hcon2
    obtain ⟨i0, hi, hz0, hz1, hz2⟩ := info_parts info_part
    have hmk : ∀ W : World, (Instr.makeSlice 26 (.int .i64 (m : Int)) (.int .i64 (m : Int))).run Try.prog W = .ok (.slice (some ⟨W.heap.size, 0, none⟩) m m) (W.alloc (.cells (madeCells #[.int .i64 0, .int .i64 0] (m * 2)) 35)) := fun W => by
      have := run_make (P := Try.prog) W 26 35 i0 _ Try.underlying26 hi hz0 .i64 .i64 (m : Int) (m : Int) (by omega) (by omega) (by rw [hz2]; omega) (by omega)
      rw [hz1] at this
      simpa [Value.cells] using this
    clear hi hz0 hz1 hz2 HCE hcg
    go_wp2_with fail
    refine hcon2.mono ?_
    rintro e2 w2 ⟨rfl, hb2⟩
    have hc2 := below_after hb1 hb2
    have hPV2 := hPV.below hb2
    have hle2 := hc2.size
    have hA3 := below_alloc (Below.refl w2.heap.size w2) (.cells (madeCells #[.int .i64 0, .int .i64 0] (m * 2)) 35)
    have hS3 : SBk w2.heap.size m 0 (Po.sh (s :: cs) (Po.to m)) (w2.alloc (.cells (madeCells #[.int .i64 0, .int .i64 0] (m * 2)) 35)) := ⟨_, heap_alloc_new _ _, size_madeCells _ _, fun j hj => absurd hj (by omega)⟩
    clear hcon2 hb1 hb2 hPV
    go_wp2
    go_loopw [35] (fun i wr => ∃ k : Nat, k ≤ m ∧ i = .int .i64 (k : Int) ∧ Hid (SBk w2.heap.size m k (Po.sh (s :: cs) (Po.to m)) wr) ∧ Below w2.heap.size w2 wr)
      (fun i _ => m - (intOf i).toNat)
    case atStart => exact ⟨0, by omega, rfl, Lib.hid hS3, hA3⟩
    case round =>
      clear hS3 hA3
      obtain ⟨k, hk, rfl, hS, hbel⟩ := hrel
      have hlt0 := hS.out.lt
      by_cases hlt : k < m
      · have hcon3 := pointOf_any Bs Bc s ((k : Int) + 1) a len cap cs wr (hPV2.below hbel) hm HC.out (by omega) (by omega)
        obtain ⟨e0, e1⟩ := Po.sh_X (s :: cs) (Po.to m) k (by rw [Po.to_len]; exact hlt)
        rw [Po.to_get m k hlt] at e0 e1
        have hst : ∀ W, Hid (SBk w2.heap.size m k (Po.sh (s :: cs) (Po.to m)) W) → Hid (SBk w2.heap.size m (k + 1) (Po.sh (s :: cs) (Po.to m)) ((W.setCell ⟨w2.heap.size, k * 2, none⟩ (.int .i64 ((k : Int) + 1))).setCell ⟨w2.heap.size, k * 2 + 1, none⟩ (.int .i64 (Po.hv (s :: cs) ((k : Int) + 1))))) := fun W hW => Lib.hid (by
          have := hW.out.step hlt
          rwa [e0, e1] at this)
        obtain ⟨V, HV⟩ : ∃ K, Hid (Po.hv (s :: cs) ((k : Int) + 1) = K) := ⟨_, Lib.hid rfl⟩
        rw [HV.out] at hcon3 hst
        clear e0 e1 HV HC HS hPV2 hc2
        go_wp2_with fail
        refine hcon3.mono ?_
        rintro e3 w3 ⟨rfl, hb3⟩
        have hS4 := Lib.hid (hS.out.below hb3)
        have hbel4 := hbel.trans (hb3.mono (Nat.le_of_lt hlt0))
        obtain ⟨z0, s0⟩ := hS4.out.slot (k * 2) (by omega)
        obtain ⟨z1, s1⟩ := hS4.out.slot (k * 2 + 1) (by omega)
        have f0 := hS4.out.fro (k * 2)
        have f1 := hS4.out.fro (k * 2 + 1)
        have hS5 := hst _ hS4
        have hbel5 := (hbel4.setCell (p := ⟨w2.heap.size, k * 2, none⟩) (Nat.le_refl _) (.int .i64 ((k : Int) + 1))).setCell (p := ⟨w2.heap.size, k * 2 + 1, none⟩) (Nat.le_refl _) (.int .i64 V)
        clear hst hS hS4 hbel4 hbel hb3 hcon3
        go_wp2
        go_roundw
        case rel => exact ⟨k + 1, by omega, by simp, hS5, hbel5⟩
        case measure => simp [intOf]; omega
      · have hk2 : k = m := by omega
        subst hk2
        have hown := hS.out.own (by rw [Po.sh_len, Po.to_len]) hle2 (by unfold maxLen; omega)
        have hc5 := below_after hc2 hbel
        clear hS hbel hPV2 hc2 HC
        go_wp2
        go_ret2
        exact ⟨hc5, Or.inr ⟨HS.out, w2.heap.size, k, k, rfl, rfl, hown⟩⟩
end Go.Proofs.Ytbhpealkhpginaa
