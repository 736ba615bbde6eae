/-
  Contracts of the model: CoinsFind, the sum, the bytes, the digest.
-/
import Derived.Test.YtohameoomlehlabCc
import Derived.Test.YtohameoomlehlabTx
import Derived.Test.YtohameoomlehlabDg
namespace Go.Proofs.Ytohameoomlehlab
open Go.RowKit Go.Deep

theorem Bk.store6 {B : Nat} {t : TypeId} {u0 u1 u2 u3 u4 u5 : Value} {w : World} (h : Bk B t #[u0, u1, u2, u3, u4, u5] w) (v0 v1 v2 v3 v4 v5 : Value) : Bk B t #[v0, v1, v2, v3, v4, v5] ((((((w.setCell ⟨B, 0, none⟩ v0).setCell ⟨B, 1, none⟩ v1).setCell ⟨B, 2, none⟩ v2).setCell ⟨B, 3, none⟩ v3).setCell ⟨B, 4, none⟩ v4).setCell ⟨B, 5, none⟩ v5) := by
  have h0 : Bk B t #[v0, u1, u2, u3, u4, u5] (w.setCell ⟨B, 0, none⟩ v0) := h.set 0 v0
  have h1 : Bk B t #[v0, v1, u2, u3, u4, u5] ((w.setCell ⟨B, 0, none⟩ v0).setCell ⟨B, 1, none⟩ v1) := h0.set 1 v1
  have h2 : Bk B t #[v0, v1, v2, u3, u4, u5] (((w.setCell ⟨B, 0, none⟩ v0).setCell ⟨B, 1, none⟩ v1).setCell ⟨B, 2, none⟩ v2) := h1.set 2 v2
  have h3 : Bk B t #[v0, v1, v2, v3, u4, u5] ((((w.setCell ⟨B, 0, none⟩ v0).setCell ⟨B, 1, none⟩ v1).setCell ⟨B, 2, none⟩ v2).setCell ⟨B, 3, none⟩ v3) := h2.set 3 v3
  have h4 : Bk B t #[v0, v1, v2, v3, v4, u5] (((((w.setCell ⟨B, 0, none⟩ v0).setCell ⟨B, 1, none⟩ v1).setCell ⟨B, 2, none⟩ v2).setCell ⟨B, 3, none⟩ v3).setCell ⟨B, 4, none⟩ v4) := h3.set 4 v4
  exact h4.set 5 v5
theorem below_set6 {n : Nat} {w w' : World} (h : Below n w w') {B : Nat} (hB : n ≤ B) (v0 v1 v2 v3 v4 v5 : Value) : Below n w ((((((w'.setCell ⟨B, 0, none⟩ v0).setCell ⟨B, 1, none⟩ v1).setCell ⟨B, 2, none⟩ v2).setCell ⟨B, 3, none⟩ v3).setCell ⟨B, 4, none⟩ v4).setCell ⟨B, 5, none⟩ v5) :=
  (((((h.setCell (p := ⟨B, 0, none⟩) hB v0).setCell (p := ⟨B, 1, none⟩) hB v1).setCell (p := ⟨B, 2, none⟩) hB v2).setCell (p := ⟨B, 3, none⟩) hB v3).setCell (p := ⟨B, 4, none⟩) hB v4).setCell (p := ⟨B, 5, none⟩) hB v5
theorem results_cell_rowC {P : Program} {fn : Func} {p u : Tmp} {ty : TypeId} (h : fn.results = #[.cell p ty, .tmp u]) (tmps : Array Value) (w : World) (g : Nat) (t : TypeId) (cs : Array Value) (fr : Nat × Nat) (d : TypeDesc)
    (hp : tmps.getD p undef = .pointer (some ⟨g, 0, none⟩)) (hg : w.heap[g]? = some (.cells cs t fr))
    (hu : P.underlying ty = some d) (hd : (match d with | .struct _ | .array _ _ => true | _ => false) = true) (hi : (P.info? ty).map (·.size) = some cs.size) :
    (results fn tmps).run P w = .ok (.tuple #[.agg cs, tmps.getD u undef]) w := by
  rw [results_cell_tmp h]
  have hp' : tmps[p]?.getD undef = .pointer (some ⟨g, 0, none⟩) := by simpa using hp
  simp [Result.andThen, hp', asAddr, run_loadVar_row w g t ty cs fr d hg hu hd hi]
/-- What a call answers that hands back a coin. -/
def CoA (c : Co) (ok : Bool) (w : World) (e : Ending) (w' : World) : Prop :=
  e = .returned (.tuple #[.agg #[.int .i64 c.tx, .int .i64 c.out, .int .i64 c.amt, .string c.lock, .int .i64 c.ht, .bool c.rew], .bool ok]) ∧ Below w.heap.size w w'
def Co.get (o : Option Co) : Co := o.getD ⟨0, 0, 0, ⟨#[]⟩, 0, false⟩
theorem Co.find_no1 {l : List Co} {t o : Int} (h : Co.lok l = false) : Co.find l t o = none := by
  unfold Co.find
  rw [if_neg (by rw [h]; decide)]
theorem Co.find_no2 {l : List Co} {t o : Int} (h : Co.has l t o = false) : Co.find l t o = none := by
  unfold Co.find
  split
  · rw [if_neg (by rw [h]; decide)]
  · rfl
theorem Co.find_yes {l : List Co} {t o : Int} (h : Co.lok l = true) (h2 : Co.has l t o = true) : Co.find l t o = some (Co.nth l (Co.at_ l t o)) := by
  unfold Co.find
  rw [if_pos h, if_pos h2]
set_option maxRecDepth 100000 in
set_option maxHeartbeats 3200000 in
theorem CoinsFind_any (lo : Nat) (a : Option Addr) (n c : Nat) (l : List Co) (t o : Int) (w : World) (h : CoL lo w a n l) (hn : n ≤ 9223372036854775807) :
    Calls Try.prog 16 #[.slice a n c, .int .i64 t, .int .i64 o] w (CoA (Co.get (Co.find l t o)) (Co.find l t o).isSome w) := by
  have v0 : Bk w.heap.size 30 #[.int .i64 0, .int .i64 0, .int .i64 0, .string ⟨#[]⟩, .int .i64 0, .bool false] (w.alloc (.cells #[.int .i64 0, .int .i64 0, .int .i64 0, .string ⟨#[]⟩, .int .i64 0, .bool false] 30 (0, 0))) := Bk.new _ _ _
  have hb0 : Below w.heap.size w (w.alloc (.cells #[.int .i64 0, .int .i64 0, .int .i64 0, .string ⟨#[]⟩, .int .i64 0, .bool false] 30 (0, 0))) := (Below.refl _ _).alloc (Nat.le_refl _) _
  have HH := Lib.hid h
  have HO := Lib.hid (fun W (hW : Below w.heap.size w W) => CoinsOk_any lo a n c l W (h.below hW) hn)
  have HHAS := Lib.hid (fun W (hW : Below w.heap.size w W) => l14Has_any lo a n c l t o W (h.below hW) hn)
  have HAT := Lib.hid (fun W (hW : Below w.heap.size w W) => l14At_any lo a n c l t o W (h.below hW) hn)
  have HF1 := Lib.hid (@Co.find_no1 l t o)
  have HF2 := Lib.hid (@Co.find_no2 l t o)
  have HF3 := Lib.hid (@Co.find_yes l t o)
  have HI := Lib.hid (Co.has_iff l t o).1
  have HL := Lib.hid h.1
  obtain ⟨K, hK⟩ : ∃ x, Co.lok l = x := ⟨_, rfl⟩
  obtain ⟨B, hB⟩ : ∃ x, Co.has l t o = x := ⟨_, rfl⟩
  obtain ⟨k, hk⟩ : ∃ x, Co.at_ l t o = x := ⟨_, rfl⟩
  obtain ⟨F, hF⟩ : ∃ x, Co.find l t o = x := ⟨_, rfl⟩
  rw [hK] at HF1 HF3
  simp only [hK] at HO
  rw [hB] at HF2 HF3 HI
  simp only [hB] at HHAS
  rw [hk] at HF3 HI
  simp only [hk] at HAT
  rw [hF] at HF1 HF2 HF3 ⊢
  clear h hK hB hk hF
  have hcs := HO.out _ hb0
  go_enter Try.func16, Try.ntmps16
  go_wp2_with fail
  refine hcs.mono ?_
  rintro e w1 ⟨rfl, hx⟩
  have v1 := v0.below hx
  have hb1 := hb0.trans (hx.mono hb0.size)
  clear hx hcs v0 hb0
  cases K
  · have hFn := HF1.out (by first | trivial | rfl)
    subst hFn
    have hR := Bk.store6 v1 (.int .i64 0) (.int .i64 0) (.int .i64 0) (.string ⟨#[]⟩) (.int .i64 0) (.bool false)
    have hbz := below_set6 hb1 (Nat.le_refl w.heap.size) (.int .i64 0) (.int .i64 0) (.int .i64 0) (.string ⟨#[]⟩) (.int .i64 0) (.bool false)
    obtain ⟨c0, c1, c2, c3, c4, c5⟩ := Bk.c6 v1
    obtain ⟨f0, f1, f2, f3, f4, f5⟩ := Bk.f6 v1
    clear HO HHAS HAT HF1 HF2 HF3 HI HL HH v1 hb1
    go_wp2
    refine bodyPost_ret (results_cell_rowC (P := Try.prog) rfl _ _ w.heap.size 30 _ (0, 0) _ rfl hR.held Try.underlying30 rfl (by kernel_rfl)) rfl ?_
    exact ⟨rfl, hbz⟩
  have hcs := HHAS.out _ hb1
  go_wp2_with fail
  refine hcs.mono ?_
  rintro e w2 ⟨rfl, hx⟩
  have v2 := v1.below hx
  have hb2 := hb1.trans (hx.mono hb1.size)
  clear hx hcs v1 hb1
  cases B
  · have hFn := HF2.out (by first | trivial | rfl)
    subst hFn
    have hR := Bk.store6 v2 (.int .i64 0) (.int .i64 0) (.int .i64 0) (.string ⟨#[]⟩) (.int .i64 0) (.bool false)
    have hbz := below_set6 hb2 (Nat.le_refl w.heap.size) (.int .i64 0) (.int .i64 0) (.int .i64 0) (.string ⟨#[]⟩) (.int .i64 0) (.bool false)
    obtain ⟨c0, c1, c2, c3, c4, c5⟩ := Bk.c6 v2
    obtain ⟨f0, f1, f2, f3, f4, f5⟩ := Bk.f6 v2
    clear HO HHAS HAT HF1 HF2 HF3 HI HL HH v2 hb2
    go_wp2
    refine bodyPost_ret (results_cell_rowC (P := Try.prog) rfl _ _ w.heap.size 30 _ (0, 0) _ rfl hR.held Try.underlying30 rfl (by kernel_rfl)) rfl ?_
    exact ⟨rfl, hbz⟩
  have hFn := HF3.out (by first | trivial | rfl) (by first | trivial | rfl)
  have hlt : k < n := by have := (HI.out (by first | trivial | rfl)).1; rw [HL.out] at this; exact this
  subst hFn
  have hcs := HAT.out _ hb2
  go_wp2_with fail
  refine hcs.mono ?_
  rintro e w3 ⟨rfl, hx⟩
  have v3 := v2.below hx
  have hb3 := hb2.trans (hx.mono hb2.size)
  clear hx hcs v2 hb2 HO HHAS HAT HF1 HF2 HF3 HI
  obtain ⟨g, off, rfl, _, _, hc⟩ := (HH.out.below hb3).2 (by omega)
  obtain ⟨e0, e1, e2, e3, e4, e5⟩ := hc k hlt
  have HG : Hid (Co.get (some (Co.nth l k)) = Co.nth l k) := Lib.hid rfl
  obtain ⟨x, HX⟩ : ∃ x, Hid (Co.nth l k = x) := ⟨_, Lib.hid rfl⟩
  rw [HX.out] at e0 e1 e2 e3 e4 e5
  obtain ⟨tx, out, amt, lock, ht, rew⟩ := x
  simp only at e0 e1 e2 e3 e4 e5
  have hR := Bk.store6 v3 (.int .i64 tx) (.int .i64 out) (.int .i64 amt) (.string lock) (.int .i64 ht) (.bool rew)
  have hbz := below_set6 hb3 (Nat.le_refl w.heap.size) (.int .i64 tx) (.int .i64 out) (.int .i64 amt) (.string lock) (.int .i64 ht) (.bool rew)
  obtain ⟨c0, c1, c2, c3, c4, c5⟩ := Bk.c6 v3
  obtain ⟨f0, f1, f2, f3, f4, f5⟩ := Bk.f6 v3
  clear hc HH HL v3 hb3
  go_wp2
  refine bodyPost_ret (results_cell_rowC (P := Try.prog) rfl _ _ w.heap.size 30 _ (0, 0) _ rfl hR.held Try.underlying30 rfl (by kernel_rfl)) rfl ?_
  refine ⟨?_, hbz⟩
  rw [HG.out, HX.out]
  rfl
set_option maxRecDepth 100000 in
set_option maxHeartbeats 1600000 in
theorem l14Sum_any (lo : Nat) (a : Option Addr) (n c : Nat) (l : List Co) (w : World) (h : CoL lo w a n l) (hg : ∀ x ∈ l, 1 ≤ x.amt ∧ x.amt ≤ 1000000) (hn : n ≤ 1000000) :
    Calls Try.prog 48 #[.slice a n c] w fun e w' => e = .returned (.int .i64 (Co.sum l)) ∧ Below w.heap.size w w' := by
  have HL := Lib.hid h.1
  have HH := Lib.hid h
  have HG := Lib.hid hg
  have HT : Hid (Co.sum (l.take n) = Co.sum l) := Lib.hid (by rw [← h.1, List.take_length])
  clear h hg
  rw [← HT.out]
  go_enter Try.func48, Try.ntmps48
  go_wp2
  go_loopw [3, 4] (fun s i wr => ∃ k : Nat, k ≤ n ∧ i = .int .i64 (k : Int) ∧ s = .int .i64 (Co.sum (l.take k)) ∧ Below w.heap.size w wr)
    (fun _ i _ => n - (intOf i).toNat)
  case atStart => exact ⟨0, by omega, rfl, by simp [Co.sum], Below.refl _ _⟩
  case round =>
    obtain ⟨k, hk, rfl, rfl, hbel⟩ := hrel
    by_cases hlt : k < n
    · obtain ⟨g, off, rfl, _, _, hc⟩ := (HH.out.below hbel).2 (by omega)
      obtain ⟨_, _, e2, _, _, _⟩ := hc k hlt
      have hkl : k < l.length := by rw [HL.out]; exact hlt
      have HS := Lib.hid (Co.sum_take hkl)
      have hx := HG.out _ (Co.nth_mem hkl)
      have hs := Co.sum_bd (l := l.take k) (fun x hx => HG.out x (List.mem_of_mem_take hx))
      rw [List.length_take, Nat.min_eq_left (Nat.le_of_lt hkl)] at hs
      obtain ⟨x, HX⟩ : ∃ x, Hid ((Co.nth l k).amt = x) := ⟨_, Lib.hid rfl⟩
      rw [HX.out] at e2 hx
      obtain ⟨S, HSS⟩ : ∃ x, Hid (Co.sum (l.take k) = x) := ⟨_, Lib.hid rfl⟩
      rw [HSS.out] at hs ⊢
      obtain ⟨hs0, hs1⟩ := hs
      obtain ⟨hx0, hx1⟩ := hx
      have hw1 : IntKind.i64.wrap (S + x) = S + x := IntWalk.i64_in _ (by omega)
      clear hc HG HH
      go_wp2
      go_roundw
      case rel => exact ⟨k + 1, by omega, by simp, by rw [HS.out, HX.out, HSS.out], hbel⟩
      case measure => simp [intOf]; omega
    · have hkn : k = n := by omega
      have HKN := Lib.hid hkn
      obtain ⟨S, HSS⟩ : ∃ x, Hid (Co.sum (l.take k) = x) := ⟨_, Lib.hid rfl⟩
      rw [HSS.out]
      clear HG HH hkn
      go_wp2
      go_ret
      exact ⟨by rw [← HKN.out, HSS.out]; rfl, hbel⟩
theorem CoinsSum_any (lo : Nat) (a : Option Addr) (n c : Nat) (l : List Co) (w : World) (h : CoL lo w a n l) (hn : n ≤ 9223372036854775807) :
    Calls Try.prog 27 #[.slice a n c] w fun e w' => e = .returned (.int .i64 (Co.total l)) ∧ Below w.heap.size w w' := by
  have hcs := CoinsOk_any lo a n c l w h hn
  unfold Co.total
  cases hK : Co.lok l
  · rw [hK] at hcs
    rw [if_neg (by decide)]
    clear hK h
    go_enter Try.func27, Try.ntmps27
    go_wp2_with fail
    refine hcs.mono ?_
    rintro e w1 ⟨rfl, hx⟩
    clear hcs
    go_wp2
    go_ret
    exact ⟨rfl, hx⟩
  · rw [hK] at hcs
    rw [if_pos rfl]
    have hg := (Co.good_iff l).1 hK
    have hlen := hg.len
    have hL := h.1
    have HS := Lib.hid (fun W hW => l14Sum_any lo a n c l W (h.below hW) (fun x hx => (Co.good_mem hg x hx).amt) (by omega))
    clear hK h hg hlen hL
    go_enter Try.func27, Try.ntmps27
    go_wp2_with fail
    refine hcs.mono ?_
    rintro e w1 ⟨rfl, hx⟩
    have hcs2 := HS.out w1 hx
    clear hcs HS
    go_wp2_with fail
    refine hcs2.mono ?_
    rintro e w2 ⟨rfl, hx2⟩
    have hb2 := below_aftC hx hx2
    clear hcs2 hx hx2
    go_wp2
    go_ret
    exact ⟨rfl, hb2⟩
theorem ba_addC (W : World) (a b : ByteArray) (h : a.size + b.size ≤ 100000000) : (Op.stringOp .add a b).run Try.prog W = .ok (.string (a ++ b)) W :=
  run_string_add_sum (P := Try.prog) W _ _ (by omega)
set_option maxRecDepth 100000 in
set_option maxHeartbeats 3200000 in
theorem l14Coin_any (tx out amt : Int) (lock : ByteArray) (ht : Int) (rew : Bool) (w : World) (h : Co.Fit ⟨tx, out, amt, lock, ht, rew⟩) :
    Calls Try.prog 70 #[.agg #[.int .i64 tx, .int .i64 out, .int .i64 amt, .string lock, .int .i64 ht, .bool rew]] w fun e w' => e = .returned (.string (Co.enc ⟨tx, out, amt, lock, ht, rew⟩)) ∧ Below w.heap.size w w' := by
  obtain ⟨g1, g2, g3, g4, g5⟩ := h
  simp only at g1 g2 g3 g4 g5
  have hb0 : Below w.heap.size w (w.alloc (.cells #[.int .i64 tx, .int .i64 out, .int .i64 amt, .string lock, .int .i64 ht, .bool rew] 30 (0, 0))) := (Below.refl _ _).alloc (Nat.le_refl _) _
  have v0 : Bk w.heap.size 30 #[.int .i64 tx, .int .i64 out, .int .i64 amt, .string lock, .int .i64 ht, .bool rew] (w.alloc (.cells #[.int .i64 tx, .int .i64 out, .int .i64 amt, .string lock, .int .i64 ht, .bool rew] 30 (0, 0))) := Bk.new _ _ _
  have hSof : ∀ W, Bk w.heap.size 30 #[.int .i64 tx, .int .i64 out, .int .i64 amt, .string lock, .int .i64 ht, .bool rew] W → (W.cell? ⟨w.heap.size, 0, none⟩ = some (.int .i64 tx) ∧ W.cell? ⟨w.heap.size, 1, none⟩ = some (.int .i64 out) ∧ W.cell? ⟨w.heap.size, 2, none⟩ = some (.int .i64 amt) ∧ W.cell? ⟨w.heap.size, 3, none⟩ = some (.string lock) ∧ W.cell? ⟨w.heap.size, 4, none⟩ = some (.int .i64 ht) ∧ W.cell? ⟨w.heap.size, 5, none⟩ = some (.bool rew)) := fun W h => Bk.c6 h
  have hD := fun W => l2Bytes_any tx W g1.1 g1.2
  have hN1 := fun W => l1Num_any out W g2.1 g2.2
  have hN2 := fun W => l1Num_any amt W g3.1 g3.2
  have hT := fun W => l1Text_any lock W (by omega)
  have hN3 := fun W => l1Num_any ht W g5.1 g5.2
  have z1 := Dg.bytes_size tx
  have z2 := En.size_num out
  have z3 := En.size_num amt
  have z4 := En.text_size lock g4
  have z5 := En.size_num ht
  obtain ⟨R, hR⟩ : ∃ x, Co.enc ⟨tx, out, amt, lock, ht, rew⟩ = x := ⟨_, rfl⟩
  rw [hR]
  unfold Co.enc Co.flag at hR
  simp only at hR
  obtain ⟨D, hDn⟩ : ∃ x, Dg.bytes tx = x := ⟨_, rfl⟩
  obtain ⟨N1, hn1⟩ : ∃ x, En.num out = x := ⟨_, rfl⟩
  obtain ⟨N2, hn2⟩ : ∃ x, En.num amt = x := ⟨_, rfl⟩
  obtain ⟨TT, hnt⟩ : ∃ x, En.text lock = x := ⟨_, rfl⟩
  obtain ⟨N3, hn3⟩ : ∃ x, En.num ht = x := ⟨_, rfl⟩
  simp only [hDn] at hD z1 hR
  simp only [hn1] at hN1 z2 hR
  simp only [hn2] at hN2 z3 hR
  simp only [hnt] at hT z4 hR
  simp only [hn3] at hN3 z5 hR
  clear hDn hn1 hn2 hnt hn3
  have a1 := fun W => ba_addC W D N1 (by omega)
  have y1 : (D ++ N1).size ≤ 100 := by rw [ByteArray.size_append]; omega
  obtain ⟨X1, q1⟩ : ∃ x, D ++ N1 = x := ⟨_, rfl⟩
  simp only [q1] at a1 y1
  have a2 := fun W => ba_addC W X1 N2 (by omega)
  have y2 : (X1 ++ N2).size ≤ 200 := by rw [ByteArray.size_append]; omega
  obtain ⟨X2, q2⟩ : ∃ x, X1 ++ N2 = x := ⟨_, rfl⟩
  simp only [q2] at a2 y2
  have a3 := fun W => ba_addC W X2 TT (by omega)
  have y3 : (X2 ++ TT).size ≤ 5000 := by rw [ByteArray.size_append]; omega
  obtain ⟨X3, q3⟩ : ∃ x, X2 ++ TT = x := ⟨_, rfl⟩
  simp only [q3] at a3 y3
  have a4 := fun W => ba_addC W X3 N3 (by omega)
  have y4 : (X3 ++ N3).size ≤ 6000 := by rw [ByteArray.size_append]; omega
  obtain ⟨X4, q4⟩ : ∃ x, X3 ++ N3 = x := ⟨_, rfl⟩
  simp only [q4] at a4 y4
  have a5 := fun W => ba_addC W X4 ⟨#[1]⟩ (by show X4.size + 1 ≤ _; omega)
  have a6 := fun W => ba_addC W X4 ⟨#[0]⟩ (by show X4.size + 1 ≤ _; omega)
  have HR : Hid (R = X4 ++ ⟨#[if rew = true then 1 else 0]⟩) := Lib.hid (by
    rw [← hR, ← q4, ← q3, ← q2, ← q1]
    simp only [Tr.assoc])
  obtain ⟨XA, q5⟩ : ∃ x, X4 ++ ⟨#[1]⟩ = x := ⟨_, rfl⟩
  obtain ⟨XB, q6⟩ : ∃ x, X4 ++ ⟨#[0]⟩ = x := ⟨_, rfl⟩
  simp only [q5] at a5
  simp only [q6] at a6
  have HA : Hid (rew = true → R = XA) := Lib.hid fun h => by rw [HR.out, h, ← q5]; rfl
  have HB : Hid (rew = false → R = XB) := Lib.hid fun h => by rw [HR.out, h, ← q6]; rfl
  have hS0 := hSof _ v0.drew
  clear hR q1 q2 q3 q4 q5 q6 z1 z2 z3 z4 z5 y1 y2 y3 y4 g1 g2 g3 g4 g5 HR
  go_enter Try.func70, Try.ntmps70
  go_wp2
  go_region_held3 (fun W => (W.cell? ⟨w.heap.size, 0, none⟩ = some (.int .i64 tx) ∧ W.cell? ⟨w.heap.size, 1, none⟩ = some (.int .i64 out) ∧ W.cell? ⟨w.heap.size, 2, none⟩ = some (.int .i64 amt) ∧ W.cell? ⟨w.heap.size, 3, none⟩ = some (.string lock) ∧ W.cell? ⟨w.heap.size, 4, none⟩ = some (.int .i64 ht) ∧ W.cell? ⟨w.heap.size, 5, none⟩ = some (.bool rew))) (first | with_reducible exact hS0 | with_reducible exact hS1 | with_reducible exact hS2 | with_reducible exact hS3 | with_reducible exact hS4 | with_reducible exact hS5)
    (first
      | (go_at_call 91; refine (hD _).mono ?_; rintro e w1 ⟨rfl, hx1⟩; have v1 := v0.drew.below hx1; have hb1 := below_aftC hb0.drew hx1; have hS1 := hSof w1 v1)
      | (go_at_call_of 69 (Value.int .i64 out); refine (hN1 _).mono ?_; rintro e w2 ⟨rfl, hx2⟩; have v2 := v1.below hx2; have hb2 := below_aftC hb1 hx2; have hS2 := hSof w2 v2)
      | (go_at_call_of 69 (Value.int .i64 amt); refine (hN2 _).mono ?_; rintro e w3 ⟨rfl, hx3⟩; have v3 := v2.below hx3; have hb3 := below_aftC hb2 hx3; have hS3 := hSof w3 v3)
      | (go_at_call 92; refine (hT _).mono ?_; rintro e w4 ⟨rfl, hx4⟩; have v4 := v3.below hx4; have hb4 := below_aftC hb3 hx4; have hS4 := hSof w4 v4)
      | (go_at_call_of 69 (Value.int .i64 ht); refine (hN3 _).mono ?_; rintro e w5 ⟨rfl, hx5⟩; have v5 := v4.below hx5; have hb5 := below_aftC hb4 hx5; have hS5 := hSof w5 v5))
  obtain ⟨c0, c1, c2, c3, c4, c5⟩ := hS5
  cases rew
  · have hq := HB.out rfl
    subst hq
    clear HA HB
    go_wp2
    go_ret
    exact ⟨rfl, hb5⟩
  · have hq := HA.out rfl
    subst hq
    clear HA HB
    go_wp2
    go_ret
    exact ⟨rfl, hb5⟩
set_option maxRecDepth 100000 in
set_option maxHeartbeats 3200000 in
theorem l14Bytes_any (lo : Nat) (a : Option Addr) (n c : Nat) (l : List Co) (w : World) (h : CoL lo w a n l) (hf : ∀ x ∈ l, x.Fit) (hn : n ≤ 1000) :
    Calls Try.prog 49 #[.slice a n c] w fun e w' => e = .returned (.string (Co.bytes l)) ∧ Below w.heap.size w w' := by
  have HL := Lib.hid h.1
  have HH := Lib.hid h
  have HG := Lib.hid hf
  have HT : Hid (Co.bts l n = Co.bytes l) := Lib.hid (by rw [← h.1, Co.bts_all])
  have HSZ := Lib.hid (Co.bts_size hf)
  clear h hf
  rw [← HT.out]
  go_enter Try.func49, Try.ntmps49
  go_wp2_with fail
  refine (l1Num_any n _ (by omega) (by omega)).mono ?_
  rintro e w1 ⟨rfl, hb1⟩
  go_wp2
  go_loopw [3, 4] (fun s i wr => ∃ k : Nat, k ≤ n ∧ i = .int .i64 (k : Int) ∧ s = .string (Co.bts l k) ∧ Below w.heap.size w wr)
    (fun _ i _ => n - (intOf i).toNat)
  case atStart => exact ⟨0, by omega, rfl, by rw [Co.bts_zero, HL.out], hb1⟩
  case round =>
    obtain ⟨k, hk, rfl, rfl, hbel⟩ := hrel
    clear hb1
    by_cases hlt : k < n
    · obtain ⟨g, off, rfl, _, _, hc⟩ := (HH.out.below hbel).2 (by omega)
      obtain ⟨e0, e1, e2, e3, e4, e5⟩ := hc k hlt
      have hkl : k < l.length := by rw [HL.out]; exact hlt
      have HS := Lib.hid (Co.bts_succ hkl)
      have hfx := HG.out _ (Co.nth_mem hkl)
      have hes := Co.enc_size hfx
      have hz := HSZ.out k (Nat.le_of_lt hkl)
      obtain ⟨x, HX⟩ : ∃ x, Hid (Co.nth l k = x) := ⟨_, Lib.hid rfl⟩
      rw [HX.out] at e0 e1 e2 e3 e4 e5 hfx hes
      obtain ⟨tx, out, amt, lock, ht, rew⟩ := x
      simp only at e0 e1 e2 e3 e4 e5
      have hcs := l14Coin_any tx out amt lock ht rew wr hfx
      obtain ⟨E, HE⟩ : ∃ x, Hid (Co.enc ⟨tx, out, amt, lock, ht, rew⟩ = x) := ⟨_, Lib.hid rfl⟩
      rw [HE.out] at hcs hes
      obtain ⟨Y, HY⟩ : ∃ x, Hid (Co.bts l k = x) := ⟨_, Lib.hid rfl⟩
      rw [HY.out] at hz ⊢
      have ha := fun W => ba_addC W Y E (by omega)
      clear hc HG HH hfx HSZ
      go_wp2_with fail
      refine hcs.mono ?_
      rintro e w2 ⟨rfl, hx⟩
      have hb2 := below_aftC hbel hx
      clear hx hcs e0 e1 e2 e3 e4 e5 hbel
      go_wp2
      go_roundw
      case rel => exact ⟨k + 1, by omega, by simp, by rw [HS.out, HX.out, HE.out, HY.out], hb2⟩
      case measure => simp [intOf]; omega
    · have hkn : k = n := by omega
      have HKN := Lib.hid hkn
      obtain ⟨Y, HY⟩ : ∃ x, Hid (Co.bts l k = x) := ⟨_, Lib.hid rfl⟩
      rw [HY.out]
      clear HG HH hkn HSZ
      go_wp2
      go_ret
      exact ⟨by rw [← HKN.out, HY.out]; rfl, hbel⟩
set_option maxHeartbeats 1600000 in
theorem CoinsBytes_any (lo : Nat) (a : Option Addr) (n c : Nat) (l : List Co) (w : World) (h : CoL lo w a n l) (hn : n ≤ 9223372036854775807) :
    Calls Try.prog 29 #[.slice a n c] w fun e w' => e = .returned (.tuple #[.string (if Co.lok l = true then Co.bytes l else ⟨#[]⟩), .bool (Co.lok l)]) ∧ Below w.heap.size w w' := by
  have hcs := CoinsOk_any lo a n c l w h hn
  cases hK : Co.lok l
  · rw [hK] at hcs
    rw [if_neg (by decide)]
    clear hK h
    go_enter Try.func29, Try.ntmps29
    go_wp2_with fail
    refine hcs.mono ?_
    rintro e w1 ⟨rfl, hx⟩
    clear hcs
    go_wp2
    go_ret2
    exact ⟨rfl, hx⟩
  · rw [hK] at hcs
    rw [if_pos rfl]
    have hg := (Co.good_iff l).1 hK
    have hlen := hg.len
    have hL := h.1
    have HS := Lib.hid (fun W hW => l14Bytes_any lo a n c l W (h.below hW) (Co.fits hK) (by omega))
    have hbz : (Co.bytes l).size ≤ 1000000 := by
      have := Co.bts_size (Co.fits hK) l.length (Nat.le_refl _)
      rw [Co.bts_all] at this
      omega
    obtain ⟨Y, hY⟩ : ∃ x, Co.bytes l = x := ⟨_, rfl⟩
    rw [hY] at hbz ⊢
    simp only [hY] at HS
    clear hK h hg hlen hL hY
    go_enter Try.func29, Try.ntmps29
    go_wp2_with fail
    refine hcs.mono ?_
    rintro e w1 ⟨rfl, hx⟩
    have hcs2 := HS.out w1 hx
    clear hcs HS
    go_wp2_with fail
    refine hcs2.mono ?_
    rintro e w2 ⟨rfl, hx2⟩
    have hb2 := below_aftC hx hx2
    clear hcs2 hx hx2
    go_wp2
    go_ret2
    exact ⟨rfl, hb2⟩
set_option maxHeartbeats 1600000 in
theorem CoinsDigest_any (lo : Nat) (a : Option Addr) (n c : Nat) (l : List Co) (w : World) (h : CoL lo w a n l) (hn : n ≤ 9223372036854775807) :
    Calls Try.prog 33 #[.slice a n c] w fun e w' => e = .returned (.int .i64 (Co.dig l)) ∧ Below w.heap.size w w' := by
  have hcs := CoinsOk_any lo a n c l w h hn
  unfold Co.dig
  cases hK : Co.lok l
  · rw [hK] at hcs
    rw [if_neg (by decide)]
    clear hK h
    go_enter Try.func33, Try.ntmps33
    go_wp2_with fail
    refine hcs.mono ?_
    rintro e w1 ⟨rfl, hx⟩
    clear hcs
    go_wp2
    go_ret
    exact ⟨rfl, hx⟩
  · rw [hK] at hcs
    rw [if_pos rfl]
    have hg := (Co.good_iff l).1 hK
    have hlen := hg.len
    have hL := h.1
    have HS := Lib.hid (fun W hW => l14Bytes_any lo a n c l W (h.below hW) (Co.fits hK) (by omega))
    have hbz : (Co.bytes l).size ≤ 1000000 := by
      have := Co.bts_size (Co.fits hK) l.length (Nat.le_refl _)
      rw [Co.bts_all] at this
      omega
    obtain ⟨Y, hY⟩ : ∃ x, Co.bytes l = x := ⟨_, rfl⟩
    rw [hY] at hbz ⊢
    simp only [hY] at HS
    clear hK h hg hlen hL hY
    go_enter Try.func33, Try.ntmps33
    go_wp2_with fail
    refine hcs.mono ?_
    rintro e w1 ⟨rfl, hx⟩
    have hcs2 := HS.out w1 hx
    clear hcs HS
    go_wp2_with fail
    refine hcs2.mono ?_
    rintro e w2 ⟨rfl, hx2⟩
    have hb2 := below_aftC hx hx2
    clear hcs2 hx hx2
    have hcs3 := specDigest_any Y w2 (by omega)
    go_wp2_with fail
    refine hcs3.mono ?_
    rintro e w3 ⟨rfl, hx3⟩
    have hb2 := below_aftC hb2 hx3
    clear hcs3 hx3
    go_wp2
    go_ret
    exact ⟨rfl, hb2⟩
end Go.Proofs.Ytohameoomlehlab
