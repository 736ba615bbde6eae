/-
  Drawing for chapter 5: lists of signed messages.
-/
import Derived.Test.YtimajobbkemdbabDf
import Derived.Test.YtimajobbkemdbabVb
import Derived.Laws.AppendOwn
namespace Go.Proofs.Ytimajobbkemdbab
open Go.RowKit

/-- The cells of a list of signed messages. -/
def Sg.enc : List Sg.It → List Value
  | [] => []
  | x :: l => .int .i64 x.key :: .string x.text :: .int .i64 x.r :: .int .i64 x.s :: Sg.enc l
theorem Sg.enc_append (l m : List Sg.It) : Sg.enc (l ++ m) = Sg.enc l ++ Sg.enc m := by
  induction l with
  | nil => rfl
  | cons x l ih => simp [Sg.enc, ih]
theorem Sg.enc_get (l : List Sg.It) : ∀ j, j < l.length → (Sg.enc l)[j * 4]? = some (.int .i64 (l.getD j Sg.it0).key) ∧ (Sg.enc l)[j * 4 + 1]? = some (.string (l.getD j Sg.it0).text) ∧ (Sg.enc l)[j * 4 + 2]? = some (.int .i64 (l.getD j Sg.it0).r) ∧ (Sg.enc l)[j * 4 + 3]? = some (.int .i64 (l.getD j Sg.it0).s) := by
  induction l with
  | nil => intro j hj; simp at hj
  | cons x l ih =>
    intro j hj
    cases j with
    | zero => simp [Sg.enc]
    | succ j =>
      have g : ∀ i, (Sg.enc (x :: l))[i + 4]? = (Sg.enc l)[i]? := fun i => by
        show ([.int .i64 x.key, .string x.text, .int .i64 x.r, .int .i64 x.s] ++ Sg.enc l)[i + 4]? = _
        rw [List.getElem?_append_right (by simp)]
        rfl
      have := ih j (by simpa using hj)
      rw [show (j + 1) * 4 = j * 4 + 4 by omega, show j * 4 + 4 + 1 = j * 4 + 1 + 4 by omega, show j * 4 + 4 + 2 = j * 4 + 2 + 4 by omega, show j * 4 + 4 + 3 = j * 4 + 3 + 4 by omega, g, g, g, g]
      exact this
theorem Sg.enc_length (l : List Sg.It) : (Sg.enc l).length = l.length * 4 := by
  induction l with
  | nil => rfl
  | cons x l ih => simp [Sg.enc, ih]; omega
/-- Signed messages that the call owns. -/
theorem GR.own {w : World} {base : Nat} {e : TypeId} {a : Option Addr} {len cap n : Nat} {l : List Sg.It} (h : w.ownsRow base e 4 (.slice a len cap) n (Sg.enc l)) : len = n ∧ GR w a len l := by
  have hl : l.length = n := by have := h.1; rw [Sg.enc_length] at this; omega
  rcases h.2 with ⟨he, h0⟩ | ⟨g, cap', cur, he, hg, hh, hn, _, _, _⟩
  · cases he
    exact ⟨h0.symm, by omega, fun h => absurd h (by omega)⟩
  · cases he
    refine ⟨rfl, hl, fun h0 => ⟨g, 0, rfl, lt_of_block hh, fun j hj => ?_⟩⟩
    obtain ⟨e0, e1, e2, e3⟩ := Sg.enc_get l j (by omega)
    have hadr : ∀ i, (⟨g, 0, none⟩ : Addr).add i = ⟨g, 0 + i, none⟩ := fun i => by unfold Addr.add; split <;> simp_all
    have f0 := h.cells (g := g) rfl _ _ e0
    have f1 := h.cells (g := g) rfl _ _ e1
    have f2 := h.cells (g := g) rfl _ _ e2
    have f3 := h.cells (g := g) rfl _ _ e3
    rw [hadr] at f0 f1 f2 f3
    exact ⟨f0, f1, f2, f3⟩
/-- Two lists of different elements lie apart. -/
theorem own_apart {w : World} {b1 b2 s1 s2 n1 n2 g1 g2 l1 l2 c1 c2 : Nat} {e1 e2 : TypeId} {xs ys : List Value} (h : w.ownsRow b1 e1 s1 (.slice (some ⟨g1, 0, none⟩) l1 c1) n1 xs) (k : w.ownsRow b2 e2 s2 (.slice (some ⟨g2, 0, none⟩) l2 c2) n2 ys) (he : e1 ≠ e2) : g1 ≠ g2 := by
  rintro rfl
  rcases h.2 with ⟨h0, _⟩ | ⟨g, cap, cur, h0, _, hh, _⟩
  · cases h0
  · rcases k.2 with ⟨k0, _⟩ | ⟨g', cap', cur', k0, _, kk, _⟩
    · cases k0
    · cases h0; cases k0
      rw [hh] at kk
      cases kk
      exact he rfl
theorem info_signed : (Try.prog.info? 42).map (fun i => (i.zero, i.size, i.bytes)) = some (some (.agg #[.int .i64 0, .string ⟨#[]⟩, .int .i64 0, .int .i64 0]), 4, 40) := by kernel_rfl
theorem info_int5 : (Try.prog.info? 3).map (fun i => (i.zero, i.size, i.bytes)) = some (some (.int .i64 0), 1, 8) := by kernel_rfl
theorem four_new (w : World) (n : Nat) (x0 x1 x2 x3 : Value) (t : TypeId) (hn : n = w.heap.size) : ∀ j u, [x0, x1, x2, x3][j]? = some u → (w.alloc (.cells #[x0, x1, x2, x3] t)).cell? ((⟨n, 0, none⟩ : Addr).add j) = some u := by
  subst hn
  intro j u hj
  have hadr : (⟨w.heap.size, 0, none⟩ : Addr).add j = ⟨w.heap.size, j, none⟩ := by unfold Addr.add; split <;> simp_all
  rw [hadr]
  exact (World.cell?_alloc_mark w _ _ _ j).trans (by simpa using hj)
/-- What drawing a signed message does. -/
def SignedR (B : Nat) (a : Option Addr) (len cap : Nat) (zs : List Int) (p : Nat) (c : Nat) (w : World) (e : Ending) (w' : World) : Prop :=
  ∃ (K R S : Int) (t : ByteArray) (q : Nat), e = .returned (.agg #[.int .i64 K, .string t, .int .i64 R, .int .i64 S]) ∧ t.size ≤ 5 ∧ p ≤ q ∧ q ≤ p + c ∧ Dw B a len cap zs w' q ∧ w.grownBy w' (some B)
set_option maxRecDepth 100000 in
set_option maxHeartbeats 3200000 in
theorem l91Signed_any (B : Nat) (a : Option Addr) (len cap : Nat) (zs : List Int) (p : Nat) (w : World) (hp : p ≤ 600000000) (hD : Dw B a len cap zs w p) :
    Calls Try.prog 79 #[.pointer (some ⟨B, 0, none⟩)] w (SignedR B a len cap zs p 20 w) := by
  have hBlt := hD.lt
  have hX : Bk w.heap.size 42 #[.int .i64 0, .string ⟨#[]⟩, .int .i64 0, .int .i64 0] (w.alloc (.cells #[.int .i64 0, .string ⟨#[]⟩, .int .i64 0, .int .i64 0] 42 (0, 0))) := Bk.new _ _ _
  replace hD := hD.alloc (.cells #[.int .i64 0, .string ⟨#[]⟩, .int .i64 0, .int .i64 0] 42 (0, 0))
  have hG : w.grownBy (w.alloc (.cells #[.int .i64 0, .string ⟨#[]⟩, .int .i64 0, .int .i64 0] 42 (0, 0))) (some B) := World.grownBy_alloc _ _ _
  go_enter Try.func79, Try.ntmps79
  go_wp2_with fail
  have hE := hD.alloc (.cells (([11, 22, 33] : List Int).map (Value.int .i64)).toArray 3)
  replace hX := hX.alloc (.cells (([11, 22, 33] : List Int).map (Value.int .i64)).toArray 3)
  refine (pick_any B a len cap zs _ 3 _ (by omega) (by omega) hE).mono ?_
  rintro e w1 ⟨v1, rfl, a1, b1, hD1, hG1⟩
  have hne : (w.alloc (.cells #[.int .i64 0, .string ⟨#[]⟩, .int .i64 0, .int .i64 0] 42 (0, 0))).heap.size ≠ B := by have := hD.lt; omega
  obtain ⟨k, rfl⟩ := Int.eq_ofNat_of_zero_le a1
  have hc := hG1.cell (lit_cell [11, 22, 33] 3 (w.alloc (.cells #[.int .i64 0, .string ⟨#[]⟩, .int .i64 0, .int .i64 0] 42 (0, 0))) k (by simp; omega)) (by simpa using hne)
  have hb := getD_bd ([11, 22, 33] : List Int) 11 33 (by simp) k (by simp; omega)
  generalize ([11, 22, 33] : List Int).getD k 0 = x at hc hb
  replace hX := hX.gb hG1 (by omega)
  replace hG := gtrans (gtrans hG (World.grownBy_alloc _ _ _)) hG1
  simp at hc
  clear hE hD hG1
  go_wp2_with fail
  refine (l91Word_any B a len cap zs _ _ (by omega) hD1).mono ?_
  rintro e w2 ⟨t, q2, rfl, ht, p2, r2, hD2, hG2⟩
  replace hX := hX.gb hG2 (by omega)
  replace hG := gtrans hG hG2
  clear hD1 hG2
  go_wp2_with fail
  refine (l4Base_any x _ (by omega)).mono ?_
  obtain ⟨K, HK⟩ : ∃ K, Hid (Gr.pw 2147483579 4 x = K) := ⟨_, Lib.hid rfl⟩
  rw [HK.out]
  rintro e w3 ⟨rfl, rfl⟩
  go_wp2_with fail
  refine (l91Sig_any B a len cap zs _ x t _ (by omega) hD2 (by omega) (by omega) (by omega)).mono ?_
  rintro e w4 ⟨R, S, q4, rfl, _, _, _, _, p4, r4, hD4, hG4⟩
  replace hX := hX.gb hG4 (by omega)
  replace hG := gtrans hG hG4
  clear hD2 hG4
  obtain ⟨c0, c1, c2, c3⟩ := Bk.c4 hX
  obtain ⟨f0, f1, f2, f3⟩ := hX.f4
  have hX9 := Bk.store4 hX (.int .i64 K) (.string t) (.int .i64 R) (.int .i64 S)
  have hD9 := (((hD4.oset w.heap.size 0 (.int .i64 K) (by omega)).oset w.heap.size 1 (.string t) (by omega)).oset w.heap.size 2 (.int .i64 R) (by omega)).oset w.heap.size 3 (.int .i64 S) (by omega)
  have hG9 := gb_set (gb_set (gb_set (gb_set hG w.heap.size 0 (.int .i64 K) (by omega)) w.heap.size 1 (.string t) (by omega)) w.heap.size 2 (.int .i64 R) (by omega)) w.heap.size 3 (.int .i64 S) (by omega)
  clear hX hD4 hG
  go_wp2
  refine bodyPost_ret (results_cell_row (P := Try.prog) rfl _ _ w.heap.size 42 _ (0, 0) _ rfl hX9.held Try.underlying42 rfl (by kernel_rfl)) rfl ?_
  exact ⟨_, _, _, _, _, rfl, ht, by omega, by omega, hD9, hG9⟩
theorem dw_of_grow {B : Nat} {a : Option Addr} {len cap : Nat} {zs : List Int} {w w' : World} {p : Nat} (h : Dw B a len cap zs w p) {g : Nat} (hg : w.grownBy w' (some g)) (hlt : B < g) : Dw B a len cap zs w' p :=
  h.of fun k hk => hg.block k (by have := h.lt; omega) (by simp; omega)
/-- What drawing signed messages and weights does. -/
def BatchR (B : Nat) (a : Option Addr) (len cap : Nat) (zs : List Int) (p : Nat) (c : Nat) (w : World) (e : Ending) (w' : World) : Prop :=
  ∃ (l : List Sg.It) (ws : List Int) (g cp g' cp' q : Nat), e = .returned (.tuple #[.slice (some ⟨g, 0, none⟩) l.length cp, .slice (some ⟨g', 0, none⟩) ws.length cp']) ∧ l.length ≤ 5 ∧ ws.length ≤ 6 ∧ (∀ x ∈ l, x.text.size ≤ 5) ∧ (∀ n ∈ ws, -1 ≤ n ∧ n ≤ 4294967296) ∧
    w'.ownsRow w.heap.size 42 4 (.slice (some ⟨g, 0, none⟩) l.length cp) l.length (Sg.enc l) ∧ w'.ownsRow w.heap.size 3 1 (.slice (some ⟨g', 0, none⟩) ws.length cp') ws.length (ws.map (Value.int .i64)) ∧ p ≤ q ∧ q ≤ p + c ∧ Dw B a len cap zs w' q ∧ w.grownBy w' (some B)
set_option maxRecDepth 100000 in
set_option maxHeartbeats 3200000 in
theorem l91Batch_any (B : Nat) (a : Option Addr) (len cap : Nat) (zs : List Int) (p : Nat) (w : World) (hp : p ≤ 500000000) (hD : Dw B a len cap zs w p) :
    Calls Try.prog 57 #[.pointer (some ⟨B, 0, none⟩)] w (BatchR B a len cap zs p 600 w) := by
  obtain ⟨i0, hi, hz0, hz1, hz2⟩ := info_parts info_signed
  obtain ⟨j0, hj, hy0, hy1, hy2⟩ := info_parts info_int5
  have hBw := hD.lt
  go_enter Try.func57, Try.ntmps57
  go_wp2_with fail
  refine (pick_any B a len cap zs _ 6 _ (by omega) (by omega) ((hD.alloc (.cells #[] 42)).alloc (.cells #[] 3))).mono ?_
  rintro e w1 ⟨v1, rfl, a1, b1, hD1, hG1⟩
  have h1 : w1.ownsRow w.heap.size 42 4 (.slice (some ⟨w.heap.size, 0, none⟩) 0 0) 0 [] :=
    ((World.ownsRow_made (e := 42) (size := 4) w #[] 0 (Nat.le_refl _) (by decide) rfl).alloc (.cells #[] 3)).kept hG1 (.inr (by simp [Value.ownBlock]; omega))
  have h2 : w1.ownsRow w.heap.size 3 1 (.slice (some ⟨w.heap.size + 1, 0, none⟩) 0 0) 0 [] := by
    have := (World.ownsRow_made (e := 3) (size := 1) (w.alloc (.cells #[] 42)) #[] 0 (Nat.le_refl _) (by decide) rfl).kept hG1 (.inr (by simp [Value.ownBlock]; omega))
    exact ownsRow_base (by simpa using this) (by simp)
  have hG := gtrans (gtrans (World.grownBy_alloc w (.cells #[] 42) (some B)) (World.grownBy_alloc _ (.cells #[] 3) (some B))) hG1
  clear hG1 hD
  go_wp2
  go_loopw [4, 5, 6] (fun lv wv i wr => ∃ (n : Nat) (l : List Sg.It) (ws : List Int) (q g cp g' cp' : Nat), i = .int .i64 (n : Int) ∧ (n : Int) + l.length = v1 ∧ lv = .slice (some ⟨g, 0, none⟩) l.length cp ∧ wv = .slice (some ⟨g', 0, none⟩) ws.length cp' ∧ ws.length = l.length ∧ (∀ x ∈ l, x.text.size ≤ 5) ∧ (∀ n ∈ ws, -1 ≤ n ∧ n ≤ 4294967296) ∧ p ≤ q ∧ q ≤ p + 1 + 100 * l.length ∧ Dw B a len cap zs wr q ∧ w.grownBy wr (some B) ∧ wr.ownsRow w.heap.size 42 4 (.slice (some ⟨g, 0, none⟩) l.length cp) l.length (Sg.enc l) ∧ wr.ownsRow w.heap.size 3 1 (.slice (some ⟨g', 0, none⟩) ws.length cp') ws.length (ws.map (Value.int .i64)))
    (fun _ _ i _ => (intOf i).toNat)
  case atStart => exact ⟨v1.toNat, [], [], p + 1, w.heap.size, 0, w.heap.size + 1, 0, by rw [Int.toNat_of_nonneg a1], by simp; omega, rfl, rfl, rfl, fun x hx => absurd hx (by simp), fun x hx => absurd hx (by simp), by omega, by simp, hD1, hG, h1, h2⟩
  case round =>
    clear hD1 hG h1 h2
    obtain ⟨n, l, ws, q, g, cp, g', cp', rfl, hnl, rfl, rfl, hlw, htx, hwb, q0, q1, hD, hG, h1, h2⟩ := hrel
    have hne1 := own_ne h1 hBw
    have hne2 := own_ne h2 hBw
    have hap := own_apart h1 h2 (by decide)
    have hbw := hG.size
    have hlw5 : ws.length ≤ 5 := by omega
    have HLW := Lib.hid hlw
    clear hlw
    by_cases hlt : 0 < n
    · go_wp2_with fail
      refine (l91Word_any B a len cap zs _ _ (by omega) hD).mono ?_
      rintro e w2 ⟨t, q2, rfl, ht, p2, r2, hD2, hG2⟩
      replace h1 := h1.kept hG2 hne1
      replace h2 := h2.kept hG2 hne2
      replace hG := gtrans hG hG2
      replace hD := hD2
      clear hD2 hG2
      have lx1 := (h1.lt _ rfl).2
      have lx2 := (h2.lt _ rfl).2
      have lx3 := hD.lt
      have lx4 := hG.size
      have hX : Bk w2.heap.size 42 #[.int .i64 0, .string t, .int .i64 0, .int .i64 0] (w2.alloc (.cells #[.int .i64 0, .string t, .int .i64 0, .int .i64 0] 42 (0, 0))) := Bk.new _ _ _
      replace h1 := h1.alloc (.cells #[.int .i64 0, .string t, .int .i64 0, .int .i64 0] 42 (0, 0))
      replace h2 := h2.alloc (.cells #[.int .i64 0, .string t, .int .i64 0, .int .i64 0] 42 (0, 0))
      replace hD := hD.alloc (.cells #[.int .i64 0, .string t, .int .i64 0, .int .i64 0] 42 (0, 0))
      replace hG := gtrans hG (World.grownBy_alloc w2 (.cells #[.int .i64 0, .string t, .int .i64 0, .int .i64 0] 42 (0, 0)) (some B))
      go_wp2_with fail
      refine (pick_any B a len cap zs _ 3 _ (by omega) (by omega) hD).mono ?_
      rintro e w3 ⟨v3, rfl, a3, b3, hD3, hG3⟩
      replace hX := hX.gb hG3 (by omega)
      replace h1 := h1.kept hG3 hne1
      replace h2 := h2.kept hG3 hne2
      replace hG := gtrans hG hG3
      replace hD := hD3
      clear hD3 hG3
      obtain ⟨x, hx⟩ : ∃ x, 11 * (1 + v3) = x := ⟨_, rfl⟩
      obtain ⟨K, HK⟩ : ∃ K, Hid (Gr.pw 2147483579 4 x = K) := ⟨_, Lib.hid rfl⟩
      have hconS := fun W => l5Sign_any x t W (by omega) (by omega) (by omega)
      obtain ⟨R, HR⟩ : ∃ R, Hid (Sg.sr x t = R) := ⟨_, Lib.hid rfl⟩
      obtain ⟨S, HS⟩ : ∃ S, Hid (Sg.ss x t = S) := ⟨_, Lib.hid rfl⟩
      rw [HR.out, HS.out] at hconS
      obtain ⟨c0, c1, c2, c3⟩ := Bk.c4 hX
      obtain ⟨f0, f1, f2, f3⟩ := hX.f4
      go_wp2_with fail
      refine (l4Base_any x _ (by omega)).mono ?_
      rw [HK.out]
      rintro e wk ⟨rfl, rfl⟩
      replace hX : Bk w2.heap.size 42 #[.int .i64 K, .string t, .int .i64 0, .int .i64 0] _ := hX.set 0 (.int .i64 K)
      replace h1 := h1.kept (grownBy_set' _ w2.heap.size 0 (.int .i64 K)) (.inr (by simp [Value.ownBlock]; omega))
      replace h2 := h2.kept (grownBy_set' _ w2.heap.size 0 (.int .i64 K)) (.inr (by simp [Value.ownBlock]; omega))
      replace hD := hD.oset w2.heap.size 0 (.int .i64 K) (by omega)
      replace hG := gb_set hG w2.heap.size 0 (.int .i64 K) (by omega)
      obtain ⟨c0, c1, c2, c3⟩ := Bk.c4 hX
      obtain ⟨f0, f1, f2, f3⟩ := hX.f4
      go_wp2_with fail
      refine (hconS _).mono ?_
      rintro e w4 ⟨rfl, hb4⟩
      replace hX := hX.below hb4
      replace h1 := h1.kept (below_gb hb4 B) hne1
      replace h2 := h2.kept (below_gb hb4 B) hne2
      replace hD := hD.below hb4
      replace hG := gtrans hG (below_gb hb4 B)
      clear c0 c1 c2 c3 f0 f1 f2 f3 hb4
      obtain ⟨c0, c1, c2, c3⟩ := Bk.c4 hX
      obtain ⟨f0, f1, f2, f3⟩ := hX.f4
      replace hX : Bk w2.heap.size 42 #[.int .i64 K, .string t, .int .i64 R, .int .i64 0] _ := hX.set 2 (.int .i64 R)
      replace h1 := h1.kept (grownBy_set' _ w2.heap.size 2 (.int .i64 R)) (.inr (by simp [Value.ownBlock]; omega))
      replace h2 := h2.kept (grownBy_set' _ w2.heap.size 2 (.int .i64 R)) (.inr (by simp [Value.ownBlock]; omega))
      replace hD := hD.oset w2.heap.size 2 (.int .i64 R) (by omega)
      replace hG := gb_set hG w2.heap.size 2 (.int .i64 R) (by omega)
      replace hX : Bk w2.heap.size 42 #[.int .i64 K, .string t, .int .i64 R, .int .i64 S] _ := hX.set 3 (.int .i64 S)
      replace h1 := h1.kept (grownBy_set' _ w2.heap.size 3 (.int .i64 S)) (.inr (by simp [Value.ownBlock]; omega))
      replace h2 := h2.kept (grownBy_set' _ w2.heap.size 3 (.int .i64 S)) (.inr (by simp [Value.ownBlock]; omega))
      replace hD := hD.oset w2.heap.size 3 (.int .i64 S) (by omega)
      replace hG := gb_set hG w2.heap.size 3 (.int .i64 S) (by omega)
      go_wp2_with fail
      refine (pick_any B a len cap zs _ 8 _ (by omega) (by omega) hD).mono ?_
      rintro e w5 ⟨v5, rfl, a5, b5, hD5, hG5⟩
      replace hX := hX.gb hG5 (by omega)
      replace h1 := h1.kept hG5 hne1
      replace h2 := h2.kept hG5 hne2
      replace hG := gtrans hG hG5
      replace hD := hD5
      clear hD5 hG5 c0 c1 c2 c3 f0 f1 f2 f3 HK HR HS hconS hx
      by_cases k0 : v5 = 0
      · have k1 : (v5 == 0) = true := by simpa using k0
        clear k0
        obtain ⟨c0, c1, c2, c3⟩ := Bk.c4 hX
        obtain ⟨f0, f1, f2, f3⟩ := hX.f4
        go_wp2_with fail
        refine (l91Signed_any B a len cap zs _ _ (by omega) hD).mono ?_
        rintro e w6 ⟨K2, R2, S2, t2, q6, rfl, ht2, p6, r6, hD6, hG6⟩
        replace hX := hX.gb hG6 (by omega)
        replace h1 := h1.kept hG6 hne1
        replace h2 := h2.kept hG6 hne2
        replace hG := gtrans hG hG6
        replace hD := hD6
        clear hD6 hG6 c0 c1 c2 c3 f0 f1 f2 f3
        obtain ⟨c0, c1, c2, c3⟩ := Bk.c4 hX
        obtain ⟨f0, f1, f2, f3⟩ := hX.f4
        replace hX : Bk w2.heap.size 42 #[.int .i64 K2, .string t, .int .i64 R, .int .i64 S] _ := hX.set 0 (.int .i64 K2)
        replace h1 := h1.kept (grownBy_set' _ w2.heap.size 0 (.int .i64 K2)) (.inr (by simp [Value.ownBlock]; omega))
        replace h2 := h2.kept (grownBy_set' _ w2.heap.size 0 (.int .i64 K2)) (.inr (by simp [Value.ownBlock]; omega))
        replace hD := hD.oset w2.heap.size 0 (.int .i64 K2) (by omega)
        replace hG := gb_set hG w2.heap.size 0 (.int .i64 K2) (by omega)
        replace hX : Bk w2.heap.size 42 #[.int .i64 K2, .string t2, .int .i64 R, .int .i64 S] _ := hX.set 1 (.string t2)
        replace h1 := h1.kept (grownBy_set' _ w2.heap.size 1 (.string t2)) (.inr (by simp [Value.ownBlock]; omega))
        replace h2 := h2.kept (grownBy_set' _ w2.heap.size 1 (.string t2)) (.inr (by simp [Value.ownBlock]; omega))
        replace hD := hD.oset w2.heap.size 1 (.string t2) (by omega)
        replace hG := gb_set hG w2.heap.size 1 (.string t2) (by omega)
        replace hX : Bk w2.heap.size 42 #[.int .i64 K2, .string t2, .int .i64 R2, .int .i64 S] _ := hX.set 2 (.int .i64 R2)
        replace h1 := h1.kept (grownBy_set' _ w2.heap.size 2 (.int .i64 R2)) (.inr (by simp [Value.ownBlock]; omega))
        replace h2 := h2.kept (grownBy_set' _ w2.heap.size 2 (.int .i64 R2)) (.inr (by simp [Value.ownBlock]; omega))
        replace hD := hD.oset w2.heap.size 2 (.int .i64 R2) (by omega)
        replace hG := gb_set hG w2.heap.size 2 (.int .i64 R2) (by omega)
        replace hX : Bk w2.heap.size 42 #[.int .i64 K2, .string t2, .int .i64 R2, .int .i64 S2] _ := hX.set 3 (.int .i64 S2)
        replace h1 := h1.kept (grownBy_set' _ w2.heap.size 3 (.int .i64 S2)) (.inr (by simp [Value.ownBlock]; omega))
        replace h2 := h2.kept (grownBy_set' _ w2.heap.size 3 (.int .i64 S2)) (.inr (by simp [Value.ownBlock]; omega))
        replace hD := hD.oset w2.heap.size 3 (.int .i64 S2) (by omega)
        replace hG := gb_set hG w2.heap.size 3 (.int .i64 S2) (by omega)
        obtain ⟨c0, c1, c2, c3⟩ := Bk.c4 hX
        obtain ⟨f0, f1, f2, f3⟩ := hX.f4
        have hlc := h1.lt _ rfl
        have hsz := hG.size
        go_wp2_with (at_builtin; refine wpList_append_own _ rfl _ _ 37 rfl w.heap.size 42 i0 (.agg #[.int .i64 0, .string ⟨#[]⟩, .int .i64 0, .int .i64 0]) 4 40 Try.underlying37 hi hz0 hz1 hz2 rfl (by decide) _ _ _ rfl (h1.alloc (.cells #[.int .i64 K2, .string t2, .int .i64 R2, .int .i64 S2] 42 (0, 0))) ⟨w6.heap.size, 0, none⟩ 1 1 [.int .i64 K2, .string t2, .int .i64 R2, .int .i64 S2] rfl rfl ?c1 ?c2 ?c3 ?c4 ?c5 ?_)
        case c1 => exact four_new _ _ _ _ _ _ _ (by simp)
        case c2 => intro u hu; simp at hu; rcases hu with h | h | h | h <;> (subst h; rfl)
        case c3 => unfold maxLen; omega
        case c4 => omega
        case c5 => simp at hsz ⊢; omega
        intro v' w7 hown7 hgrow _
        replace h2 := (h2.alloc (.cells #[.int .i64 K2, .string t2, .int .i64 R2, .int .i64 S2] 42 (0, 0))).kept hgrow (.inr (by simp [Value.ownBlock]; omega))
        replace hD := dw_of_grow (hD.alloc (.cells #[.int .i64 K2, .string t2, .int .i64 R2, .int .i64 S2] 42 (0, 0))) hgrow (by show B < g; omega)
        replace hG := gtrans_own (gtrans hG (World.grownBy_alloc _ (.cells #[.int .i64 K2, .string t2, .int .i64 R2, .int .i64 S2] 42 (0, 0)) _)) hgrow (fun j he => (h1.lt _ he).1)
        obtain ⟨g5, cp5, rfl⟩ : ∃ g cp, v' = .slice (some ⟨g, 0, none⟩) (l.length + 1) cp := by
          rcases hown7.2 with ⟨h, h0⟩ | ⟨g, cap, cur, h, _⟩
          · omega
          · exact ⟨_, _, h⟩
        replace h1 : w7.ownsRow w.heap.size 42 4 (.slice (some ⟨g5, 0, none⟩) (l ++ [Sg.It.mk K2 t2 R2 S2]).length cp5) (l ++ [Sg.It.mk K2 t2 R2 S2]).length (Sg.enc (l ++ [Sg.It.mk K2 t2 R2 S2])) := by
          rw [List.length_append, Sg.enc_append]
          exact hown7
        clear hX hown7 hgrow c0 c1 c2 c3 f0 f1 f2 f3 hap
        replace hne1 := own_ne h1 hBw
        have hap := own_apart h1 h2 (by decide)
        go_wp2_with fail
        refine (l91Scalar_any B a len cap zs _ _ (by omega) hD).mono ?_
        rintro e w8 ⟨v8, q8, rfl, a8, b8, p8, r8, hD8, hG8⟩
        replace h1 := h1.kept hG8 hne1
        replace h2 := h2.kept hG8 hne2
        replace hG := gtrans hG hG8
        replace hD := hD8
        clear hG8 hD8
        go_wp2_with fail
        refine (l91Digest_any B a len cap zs _ _ (by omega) hD).mono ?_
        rintro e w9 ⟨v9, q9, rfl, a9, b9, p9, r9, hD9, hG9⟩
        replace h1 := h1.kept hG9 hne1
        replace h2 := h2.kept hG9 hne2
        replace hG := gtrans hG hG9
        replace hD := hD9
        clear hG9 hD9
        go_wp2_with fail
        have hBd := hD.lt
        have hE := hD.alloc (.cells (([v8, 1, 2, v9 % 1073741789] : List Int).map (Value.int .i64)).toArray 3)
        refine (pick_any B a len cap zs _ 4 _ (by omega) (by omega) hE).mono ?_
        rintro e wa ⟨va, rfl, aa, ba, hDa, hGa⟩
        obtain ⟨kk, rfl⟩ := Int.eq_ofNat_of_zero_le aa
        have hc := hGa.cell (lit_cell [v8, 1, 2, v9 % 1073741789] 3 w9 kk (by simp; omega)) (by simp; omega)
        have hbd := getD_bd ([v8, 1, 2, v9 % 1073741789] : List Int) (-1) 4294967296 (by simp; omega) kk (by simp; omega)
        generalize ([v8, 1, 2, v9 % 1073741789] : List Int).getD kk 0 = y at hc hbd
        replace h1 := (h1.alloc (.cells (([v8, 1, 2, v9 % 1073741789] : List Int).map (Value.int .i64)).toArray 3)).kept hGa hne1
        replace h2 := (h2.alloc (.cells (([v8, 1, 2, v9 % 1073741789] : List Int).map (Value.int .i64)).toArray 3)).kept hGa hne2
        replace hG := gtrans (gtrans hG (World.grownBy_alloc w9 (.cells (([v8, 1, 2, v9 % 1073741789] : List Int).map (Value.int .i64)).toArray 3) _)) hGa
        replace hD := hDa
        clear hE hDa hGa
        have hlc2 := h2.lt _ rfl
        have hsz2 := hG.size
        go_wp2_with (at_builtin; refine wpList_append_own _ rfl _ _ 23 rfl w.heap.size 3 j0 (.int .i64 0) 1 8 Try.underlying23 hj hy0 hy1 hy2 rfl (by decide) _ _ _ rfl (h2.alloc (.cells #[.int .i64 y] 3 (0, 0))) ⟨wa.heap.size, 0, none⟩ 1 1 [.int .i64 y] rfl rfl ?c1 ?c2 ?c3 ?c4 ?c5 ?_)
        case c1 => exact one_new _ _ _
        case c2 => intro u hu; simp at hu; subst hu; rfl
        case c3 => unfold maxLen; omega
        case c4 => omega
        case c5 => simp; omega
        intro v' wb hownb hgrow _
        replace h1 := (h1.alloc (.cells #[.int .i64 y] 3 (0, 0))).kept hgrow (.inr (by simp [Value.ownBlock]; omega))
        replace hD := dw_of_grow (hD.alloc (.cells #[.int .i64 y] 3 (0, 0))) hgrow (by show B < g'; omega)
        replace hG := gtrans_own (gtrans hG (World.grownBy_alloc _ (.cells #[.int .i64 y] 3 (0, 0)) _)) hgrow (fun j he => (h2.lt _ he).1)
        obtain ⟨g6, cp6, rfl⟩ : ∃ g cp, v' = .slice (some ⟨g, 0, none⟩) (ws.length + 1) cp := by
          rcases hownb.2 with ⟨h, h0⟩ | ⟨g, cap, cur, h, _⟩
          · omega
          · exact ⟨_, _, h⟩
        replace h2 : wb.ownsRow w.heap.size 3 1 (.slice (some ⟨g6, 0, none⟩) (ws ++ [y]).length cp6) (ws ++ [y]).length ((ws ++ [y]).map (Value.int .i64)) := by
          rw [List.length_append, List.map_append]
          exact hownb
        clear hownb hgrow hc
        go_wp2
        go_roundw
        case rel =>
          refine ⟨n - 1, l ++ [Sg.It.mk K2 t2 R2 S2], ws ++ [y], _, g5, cp5, g6, cp6, by rw [Int.ofNat_sub hlt]; rfl, by simp; omega, by simp, by simp, by simp [HLW.out], fun x hx => ?_, fun x hx => ?_, ?_, ?_, hD, hG, h1, h2⟩
          · rcases List.mem_append.1 hx with h | h
            · exact htx x h
            · simp at h; subst h; exact ht2
          · rcases List.mem_append.1 hx with h | h
            · exact hwb x h
            · simp at h; subst h; exact hbd
          · omega
          · simp; omega
        case measure => simp [intOf]; omega
      · have k1 : (v5 == 0) = false := by simpa using k0
        clear k0
        obtain ⟨c0, c1, c2, c3⟩ := Bk.c4 hX
        obtain ⟨f0, f1, f2, f3⟩ := hX.f4
        have hlc := h1.lt _ rfl
        have hsz := hG.size
        go_wp2_with (at_builtin; refine wpList_append_own _ rfl _ _ 37 rfl w.heap.size 42 i0 (.agg #[.int .i64 0, .string ⟨#[]⟩, .int .i64 0, .int .i64 0]) 4 40 Try.underlying37 hi hz0 hz1 hz2 rfl (by decide) _ _ _ rfl (h1.alloc (.cells #[.int .i64 K, .string t, .int .i64 R, .int .i64 S] 42 (0, 0))) ⟨w5.heap.size, 0, none⟩ 1 1 [.int .i64 K, .string t, .int .i64 R, .int .i64 S] rfl rfl ?c1 ?c2 ?c3 ?c4 ?c5 ?_)
        case c1 => exact four_new _ _ _ _ _ _ _ (by simp)
        case c2 => intro u hu; simp at hu; rcases hu with h | h | h | h <;> (subst h; rfl)
        case c3 => unfold maxLen; omega
        case c4 => omega
        case c5 => simp at hsz ⊢; omega
        intro v' w7 hown7 hgrow _
        replace h2 := (h2.alloc (.cells #[.int .i64 K, .string t, .int .i64 R, .int .i64 S] 42 (0, 0))).kept hgrow (.inr (by simp [Value.ownBlock]; omega))
        replace hD := dw_of_grow (hD.alloc (.cells #[.int .i64 K, .string t, .int .i64 R, .int .i64 S] 42 (0, 0))) hgrow (by show B < g; omega)
        replace hG := gtrans_own (gtrans hG (World.grownBy_alloc _ (.cells #[.int .i64 K, .string t, .int .i64 R, .int .i64 S] 42 (0, 0)) _)) hgrow (fun j he => (h1.lt _ he).1)
        obtain ⟨g5, cp5, rfl⟩ : ∃ g cp, v' = .slice (some ⟨g, 0, none⟩) (l.length + 1) cp := by
          rcases hown7.2 with ⟨h, h0⟩ | ⟨g, cap, cur, h, _⟩
          · omega
          · exact ⟨_, _, h⟩
        replace h1 : w7.ownsRow w.heap.size 42 4 (.slice (some ⟨g5, 0, none⟩) (l ++ [Sg.It.mk K t R S]).length cp5) (l ++ [Sg.It.mk K t R S]).length (Sg.enc (l ++ [Sg.It.mk K t R S])) := by
          rw [List.length_append, Sg.enc_append]
          exact hown7
        clear hX hown7 hgrow c0 c1 c2 c3 f0 f1 f2 f3 hap
        replace hne1 := own_ne h1 hBw
        have hap := own_apart h1 h2 (by decide)
        go_wp2_with fail
        refine (l91Scalar_any B a len cap zs _ _ (by omega) hD).mono ?_
        rintro e w8 ⟨v8, q8, rfl, a8, b8, p8, r8, hD8, hG8⟩
        replace h1 := h1.kept hG8 hne1
        replace h2 := h2.kept hG8 hne2
        replace hG := gtrans hG hG8
        replace hD := hD8
        clear hG8 hD8
        go_wp2_with fail
        refine (l91Digest_any B a len cap zs _ _ (by omega) hD).mono ?_
        rintro e w9 ⟨v9, q9, rfl, a9, b9, p9, r9, hD9, hG9⟩
        replace h1 := h1.kept hG9 hne1
        replace h2 := h2.kept hG9 hne2
        replace hG := gtrans hG hG9
        replace hD := hD9
        clear hG9 hD9
        go_wp2_with fail
        have hBd := hD.lt
        have hE := hD.alloc (.cells (([v8, 1, 2, v9 % 1073741789] : List Int).map (Value.int .i64)).toArray 3)
        refine (pick_any B a len cap zs _ 4 _ (by omega) (by omega) hE).mono ?_
        rintro e wa ⟨va, rfl, aa, ba, hDa, hGa⟩
        obtain ⟨kk, rfl⟩ := Int.eq_ofNat_of_zero_le aa
        have hc := hGa.cell (lit_cell [v8, 1, 2, v9 % 1073741789] 3 w9 kk (by simp; omega)) (by simp; omega)
        have hbd := getD_bd ([v8, 1, 2, v9 % 1073741789] : List Int) (-1) 4294967296 (by simp; omega) kk (by simp; omega)
        generalize ([v8, 1, 2, v9 % 1073741789] : List Int).getD kk 0 = y at hc hbd
        replace h1 := (h1.alloc (.cells (([v8, 1, 2, v9 % 1073741789] : List Int).map (Value.int .i64)).toArray 3)).kept hGa hne1
        replace h2 := (h2.alloc (.cells (([v8, 1, 2, v9 % 1073741789] : List Int).map (Value.int .i64)).toArray 3)).kept hGa hne2
        replace hG := gtrans (gtrans hG (World.grownBy_alloc w9 (.cells (([v8, 1, 2, v9 % 1073741789] : List Int).map (Value.int .i64)).toArray 3) _)) hGa
        replace hD := hDa
        clear hE hDa hGa
        have hlc2 := h2.lt _ rfl
        have hsz2 := hG.size
        go_wp2_with (at_builtin; refine wpList_append_own _ rfl _ _ 23 rfl w.heap.size 3 j0 (.int .i64 0) 1 8 Try.underlying23 hj hy0 hy1 hy2 rfl (by decide) _ _ _ rfl (h2.alloc (.cells #[.int .i64 y] 3 (0, 0))) ⟨wa.heap.size, 0, none⟩ 1 1 [.int .i64 y] rfl rfl ?c1 ?c2 ?c3 ?c4 ?c5 ?_)
        case c1 => exact one_new _ _ _
        case c2 => intro u hu; simp at hu; subst hu; rfl
        case c3 => unfold maxLen; omega
        case c4 => omega
        case c5 => simp; omega
        intro v' wb hownb hgrow _
        replace h1 := (h1.alloc (.cells #[.int .i64 y] 3 (0, 0))).kept hgrow (.inr (by simp [Value.ownBlock]; omega))
        replace hD := dw_of_grow (hD.alloc (.cells #[.int .i64 y] 3 (0, 0))) hgrow (by show B < g'; omega)
        replace hG := gtrans_own (gtrans hG (World.grownBy_alloc _ (.cells #[.int .i64 y] 3 (0, 0)) _)) hgrow (fun j he => (h2.lt _ he).1)
        obtain ⟨g6, cp6, rfl⟩ : ∃ g cp, v' = .slice (some ⟨g, 0, none⟩) (ws.length + 1) cp := by
          rcases hownb.2 with ⟨h, h0⟩ | ⟨g, cap, cur, h, _⟩
          · omega
          · exact ⟨_, _, h⟩
        replace h2 : wb.ownsRow w.heap.size 3 1 (.slice (some ⟨g6, 0, none⟩) (ws ++ [y]).length cp6) (ws ++ [y]).length ((ws ++ [y]).map (Value.int .i64)) := by
          rw [List.length_append, List.map_append]
          exact hownb
        clear hownb hgrow hc
        go_wp2
        go_roundw
        case rel =>
          refine ⟨n - 1, l ++ [Sg.It.mk K t R S], ws ++ [y], _, g5, cp5, g6, cp6, by rw [Int.ofNat_sub hlt]; rfl, by simp; omega, by simp, by simp, by simp [HLW.out], fun x hx => ?_, fun x hx => ?_, ?_, ?_, hD, hG, h1, h2⟩
          · rcases List.mem_append.1 hx with h | h
            · exact htx x h
            · simp at h; subst h; exact ht
          · rcases List.mem_append.1 hx with h | h
            · exact hwb x h
            · simp at h; subst h; exact hbd
          · omega
          · simp; omega
        case measure => simp [intOf]; omega
    · go_wp2_with fail
      refine (pick_any B a len cap zs _ 12 _ (by omega) (by omega) hD).mono ?_
      rintro e w2 ⟨v2, rfl, a2, b2, hD2, hG2⟩
      replace h1 := h1.kept hG2 hne1
      replace h2 := h2.kept hG2 hne2
      replace hG := gtrans hG hG2
      replace hD := hD2
      clear hD2 hG2
      by_cases k0 : v2 = 0
      · have k1 : (v2 == 0) = true := by simpa using k0
        clear k0
        have hlc2 := h2.lt _ rfl
        have hsz2 := hG.size
        go_wp2_with (at_builtin; refine wpList_append_own _ rfl _ _ 23 rfl w.heap.size 3 j0 (.int .i64 0) 1 8 Try.underlying23 hj hy0 hy1 hy2 rfl (by decide) _ _ _ rfl (h2.alloc (.cells #[.int .i64 1] 3 (0, 0))) ⟨w2.heap.size, 0, none⟩ 1 1 [.int .i64 1] rfl rfl ?c1 ?c2 ?c3 ?c4 ?c5 ?_)
        case c1 => exact one_new _ _ _
        case c2 => intro u hu; simp at hu; subst hu; rfl
        case c3 => unfold maxLen; omega
        case c4 => omega
        case c5 => simp; omega
        intro v' wb hownb hgrow _
        replace h1 := (h1.alloc (.cells #[.int .i64 1] 3 (0, 0))).kept hgrow (.inr (by simp [Value.ownBlock]; omega))
        replace hD := dw_of_grow (hD.alloc (.cells #[.int .i64 1] 3 (0, 0))) hgrow (by show B < g'; omega)
        replace hG := gtrans_own (gtrans hG (World.grownBy_alloc _ (.cells #[.int .i64 1] 3 (0, 0)) _)) hgrow (fun j he => (h2.lt _ he).1)
        obtain ⟨g6, cp6, rfl⟩ : ∃ g cp, v' = .slice (some ⟨g, 0, none⟩) (ws.length + 1) cp := by
          rcases hownb.2 with ⟨h, h0⟩ | ⟨g, cap, cur, h, _⟩
          · omega
          · exact ⟨_, _, h⟩
        replace h2 : wb.ownsRow w.heap.size 3 1 (.slice (some ⟨g6, 0, none⟩) (ws ++ [1]).length cp6) (ws ++ [1]).length ((ws ++ [1]).map (Value.int .i64)) := by
          rw [List.length_append, List.map_append]
          exact hownb
        clear hownb hgrow
        go_wp2
        go_ret2
        exact ⟨l, ws ++ [1], g, cp, g6, cp6, _, by simp, by omega, by simp; omega, htx, fun x hx => by
          rcases List.mem_append.1 hx with h | h
          · exact hwb x h
          · simp at h; subst h; omega, h1, h2, by omega, by omega, hD, hG⟩
      · have k1 : (v2 == 0) = false := by simpa using k0
        clear k0
        go_wp2
        go_ret2
        exact ⟨l, ws, g, cp, g', cp', _, rfl, by omega, by omega, htx, hwb, h1, h2, by omega, by omega, hD, hG⟩
/-- Drawing signed messages and weights. -/
def DrawBatch (w : World) (e : Ending) (w' : World) : Prop :=
  ∃ (l : List Sg.It) (ws : List Int) (g cp g' cp' : Nat), e = .returned (.tuple #[.slice (some ⟨g, 0, none⟩) l.length cp, .slice (some ⟨g', 0, none⟩) ws.length cp']) ∧ l.length ≤ 5 ∧ ws.length ≤ 6 ∧ (∀ x ∈ l, x.text.size ≤ 5) ∧ (∀ n ∈ ws, -1 ≤ n ∧ n ≤ 4294967296) ∧
    w'.ownsRow w.heap.size 42 4 (.slice (some ⟨g, 0, none⟩) l.length cp) l.length (Sg.enc l) ∧ w'.ownsRow w.heap.size 3 1 (.slice (some ⟨g', 0, none⟩) ws.length cp') ws.length (ws.map (Value.int .i64)) ∧ Below w.heap.size w w'
set_option maxRecDepth 100000 in
set_option maxHeartbeats 3200000 in
theorem drawVerifyBatch_any (a : Option Addr) (len cap : Nat) (zs : List Int) (w : World) (hr : IsRow .u8 w a len cap zs) (hlm : len ≤ 1048576) :
    Calls Try.prog 18 #[.slice a len cap] w (DrawBatch w) := by
  go_enter Try.func18, Try.ntmps18
  go_wp2_with fail
  refine (l6Open_any a len cap zs _ hr hlm).mono ?_
  rintro e w0 ⟨B, a', l', c', zs', rfl, hB, hD0, hb0⟩
  clear hr
  go_wp2_with fail
  refine (l91Batch_any B a' l' c' zs' _ _ (by omega) hD0).mono ?_
  rintro e w1 ⟨l, ws, g, cp, g', cp', q1, rfl, n0, n1, n2, n3, h1, h2, p1, p2, hD1, hG1⟩
  have hle := hb0.size
  go_wp2
  go_ret2
  exact ⟨l, ws, g, cp, g', cp', rfl, n0, n1, n2, n3, ownsRow_base h1 hle, ownsRow_base h2 hle, Below.grown hb0 hG1 hb0.size (fun j hj => by cases hj; exact hB)⟩
end Go.Proofs.Ytimajobbkemdbab
