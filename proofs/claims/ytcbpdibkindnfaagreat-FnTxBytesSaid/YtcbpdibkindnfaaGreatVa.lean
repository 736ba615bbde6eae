/-
  How the laws compare transactions; what a call that hands back a transaction answers.
-/
import Derived.Test.YtcbpdibkindnfaaGreatTr
import Derived.Test.YtcbpdibkindnfaaGreatTp
import Derived.Deep.RegionHeld3
namespace Go.Proofs.YtcbpdibkindnfaaGreat
open Go.RowKit Go.Deep

theorem cell_belV {W W' : World} {g o : Nat} {v : Value} (h : Below W.heap.size W W') (hc : W.cell? ⟨g, o, none⟩ = some v) : W'.cell? ⟨g, o, none⟩ = some v :=
  (⟨h.os, h.tape, h.output, h.size, fun k hk _ => h.block k hk⟩ : W.grownBy W' none).cell hc (by simp)
theorem below_drewNV {n : Nat} {w w' : World} (h : Below n w w') (k : Nat) : Below n w (w'.drewN k) := ⟨h.os, h.tape, h.output, h.size, h.block⟩
theorem own_capV {w : World} {base size n cap k : Nat} {e : TypeId} {a : Option Addr} {xs : List Value} (h : w.ownsRow base e size (.slice a n cap) k xs) : n ≤ cap := by
  rcases h.2 with ⟨h, _⟩ | ⟨g, cap', cur, he, _, _, hn, _⟩
  · cases h; exact Nat.le_refl _
  · cases he
    exact hn
/-- Either answer, read: what the slices hold, and that there is room for it. -/
theorem TxAns.trV {o : Option Tr} {w w' : World} {e : Ending} (h : TxAns o w e w') : ∃ a n c b m d, e = .returned (.tuple #[.agg #[.slice a n c, .slice b m d, .int .i64 (Tr.getO o).after, .string (Tr.getO o).note], .bool o.isSome]) ∧ Hid (TrR w.heap.size w' a n b m (Tr.getO o)) ∧ Hid (n ≤ c) ∧ Below w.heap.size w w' := by
  obtain ⟨a, n, c, b, m, d, af, nt, ok, rfl, hb, h⟩ := h
  rcases h with ⟨h1, rfl, rfl, rfl, rfl, rfl, rfl, rfl, rfl, rfl⟩ | ⟨l, outs, h1, rfl, h3, h4⟩
  · refine ⟨none, 0, 0, none, 0, 0, ?_, Lib.hid ?_, Lib.hid (Nat.le_refl _), hb⟩
    · rw [h1.out]; rfl
    · rw [h1.out]
      exact ⟨⟨rfl, fun h => absurd h (by omega)⟩, ⟨rfl, fun h => absurd h (by omega)⟩⟩
  · refine ⟨a, n, c, b, m, d, ?_, Lib.hid ?_, Lib.hid (own_capV h3.1), hb⟩
    · rw [h1.out]; rfl
    · rw [h1.out]
      exact h3.trR h4
/-- The transaction that WithWitness hands back. -/
theorem Tr.with_core {t : Tr} {i : Int} {ss : List ByteArray} (h : (t.withOk i ss).isSome = true) : (Tr.getO (t.withOk i ss)).ok = true ∧ Tr.enc false (Tr.getO (t.withOk i ss)) = Tr.enc false t ∧ (∀ j k s, Tr.sign (Tr.getO (t.withOk i ss)) j k s = Tr.sign t j k s) ∧ (Tr.getO (t.withOk i ss)).ins.length = t.ins.length ∧ t.ok = true ∧ (0 ≤ i ∧ i ≤ (t.ins.length : Int) - 1) ∧ Tr.inAt (Tr.getO (t.withOk i ss)).ins i.toNat = ⟨(Tr.inAt t.ins i.toNat).tx, (Tr.inAt t.ins i.toNat).out, ss⟩ := by
  cases hr : t.withOk i ss with
  | none => rw [hr] at h; cases h
  | some u =>
    obtain ⟨h1, h2, h3, h4⟩ := Tr.withOk_some hr
    subst h1
    show (t.with_ i ss).ok = true ∧ Tr.enc false (t.with_ i ss) = Tr.enc false t ∧ (∀ j k s, Tr.sign (t.with_ i ss) j k s = Tr.sign t j k s) ∧ (t.with_ i ss).ins.length = t.ins.length ∧ t.ok = true ∧ (0 ≤ i ∧ i ≤ (t.ins.length : Int) - 1) ∧ Tr.inAt (t.with_ i ss).ins i.toNat = ⟨(Tr.inAt t.ins i.toNat).tx, (Tr.inAt t.ins i.toNat).out, ss⟩
    refine ⟨h4, Tr.enc_with t i ss, fun j k s => Tr.sign_with t i j k ss s, Tr.putW_length _ _ _, h2, h3, ?_⟩
    show Tr.inAt (Tr.putW i ss t.ins) i.toNat = _
    rw [Tr.putW_at i ss t.ins i.toNat (by omega), if_pos (by omega)]
/-- Either answer, with names for what it holds. -/
theorem TxAns.trN {o : Option Tr} {U : Tr} {N M : Nat} {AF : Int} {NT : ByteArray} {IS : Bool} (hU : Tr.getO o = U) (hN : U.ins.length = N) (hM : U.outs.length = M) (hA : U.after = AF) (hS : U.note = NT) (hk : o.isSome = IS) {w w' : World} {e : Ending} (h : TxAns o w e w') : ∃ a c b d, e = .returned (.tuple #[.agg #[.slice a N c, .slice b M d, .int .i64 AF, .string NT], .bool IS]) ∧ Hid (TrR w.heap.size w' a N b M U) ∧ Hid (N ≤ c) ∧ Below w.heap.size w w' := by
  obtain ⟨a, n, c, b, m, d, he, hT, hc, hb⟩ := h.trV
  rw [hU] at he hT
  rw [hA, hS, hk] at he
  have h1 : n = N := by rw [← hN]; exact hT.out.ins.1.symm
  have h2 : m = M := by rw [← hM]; exact hT.out.outs.1.symm
  subst h1 h2
  exact ⟨a, c, b, d, he, hT, hc, hb⟩
theorem Tr.getO_fitV {o : Option Tr} (h : ∀ u, o = some u → u.ok = true) : (Tr.getO o).fit := by
  cases o with
  | none => exact ⟨by simp [Tr.getO], by simp [Tr.getO], (by intro x hx; cases hx), (by intro x hx; cases hx), by simp [Tr.getO], by simp [Tr.getO, ByteArray.size]⟩
  | some u => exact Tr.ok_fit (h u rfl)
theorem Tr.with_okV (t : Tr) (i : Int) (ss : List ByteArray) : ∀ u, t.withOk i ss = some u → u.ok = true := fun _ hu => by
  obtain ⟨h1, _, _, h4⟩ := Tr.withOk_some hu
  rw [h1]; exact h4
theorem Tr.read_okV (s : ByteArray) : ∀ u, Tr.read s = some u → u.ok = true := fun _ hu => (Tr.enc_read hu).2

set_option maxRecDepth 100000 in
set_option maxHeartbeats 1600000 in
theorem wcIn_any (tx out : Int) (wit : List ByteArray) (n : Nat) (wa va : Option Addr) (wc vc : Nat) (w : World) (ha : SR w wa n wit) (hb : SR w va n wit) (hn : n ≤ 9223372036854775807) :
    Calls Tryz.prog 52 #[.agg #[.int .i64 tx, .int .i64 out, .slice wa n wc], .agg #[.int .i64 tx, .int .i64 out, .slice va n vc]] w fun e w' => e = .returned (.bool true) ∧ Below w.heap.size w w' := by
  have hbel : Below w.heap.size w ((w.alloc (.cells #[.int .i64 tx, .int .i64 out, .slice wa n wc] 64 (0, 0))).alloc (.cells #[.int .i64 tx, .int .i64 out, .slice va n vc] 64 (0, 0))) := ((Below.refl _ _).alloc (Nat.le_refl _) _).alloc (by simp) _
  have v1 : Bk w.heap.size 64 #[.int .i64 tx, .int .i64 out, .slice wa n wc] ((w.alloc (.cells #[.int .i64 tx, .int .i64 out, .slice wa n wc] 64 (0, 0))).alloc (.cells #[.int .i64 tx, .int .i64 out, .slice va n vc] 64 (0, 0))) := (Bk.new _ _ _).alloc _
  have v2 : Bk (w.heap.size + 1) 64 #[.int .i64 tx, .int .i64 out, .slice va n vc] ((w.alloc (.cells #[.int .i64 tx, .int .i64 out, .slice wa n wc] 64 (0, 0))).alloc (.cells #[.int .i64 tx, .int .i64 out, .slice va n vc] 64 (0, 0))) := Bk.new' _ _ _ _ (by simp)
  have hc := wcTexts_any wa va n wc vc wit _ (ha.below hbel) (hb.below hbel) hn
  obtain ⟨c0, c1, c2⟩ := Bk.c3t v1
  obtain ⟨d0, d1, d2⟩ := Bk.c3t v2
  clear v1 v2 ha hb
  go_enter Tryz.func52, Tryz.ntmps52
  go_wp2_with fail
  refine hc.mono ?_
  rintro e w1 ⟨rfl, hx⟩
  have hb1 := hbel.trans (hx.mono hbel.size)
  clear hx hc
  go_wp2
  go_ret
  exact ⟨rfl, hb1⟩

set_option maxRecDepth 100000 in
set_option maxHeartbeats 3200000 in
theorem wcIns_any (lo lo' : Nat) (a b : Option Addr) (n c c' : Nat) (l : List Tr.In) (w : World) (ha : InL lo w a n l) (hb : InL lo' w b n l) (hn : n ≤ 1048576) (hz : ∀ x ∈ l, x.wit.length ≤ 9223372036854775807) :
    Calls Tryz.prog 24 #[.slice a n c, .slice b n c'] w fun e w' => e = .returned (.bool true) ∧ Below w.heap.size w w' := by
  have HL := Lib.hid ha.1
  have HZ := Lib.hid hz
  have HA := Lib.hid ha
  have HB := Lib.hid hb
  clear ha hb hz
  go_enter Tryz.func24, Tryz.ntmps24
  go_wp2
  go_loopw [5] (fun i wr => ∃ k : Nat, k ≤ n ∧ i = .int .i64 (k : Int) ∧ Below w.heap.size w wr)
    (fun i _ => n - (intOf i).toNat)
  case atStart => exact ⟨0, by omega, rfl, Below.refl _ _⟩
  case round =>
    obtain ⟨k, hk, rfl, hbel⟩ := hrel
    by_cases hlt : k < n
    · obtain ⟨g, off, rfl, _, _, hc⟩ := HA.out.2 (by omega)
      obtain ⟨wa, wc, c0, c1, c2, c3, _⟩ := hc k hlt
      obtain ⟨g2, off2, rfl, _, _, hd⟩ := HB.out.2 (by omega)
      obtain ⟨va, vc, d0, d1, d2, d3, _⟩ := hd k hlt
      have hkl : k < l.length := by have := HL.out; omega
      have hzk := HZ.out _ (Tr.inAt_mem hkl)
      obtain ⟨x, HX⟩ : ∃ x, Hid (Tr.inAt l k = x) := ⟨_, Lib.hid rfl⟩
      rw [HX.out] at c0 c1 c2 c3 d0 d1 d2 d3 hzk
      obtain ⟨tx, out, wit⟩ := x
      simp only at c0 c1 c2 c3 d0 d1 d2 d3 hzk
      obtain ⟨q, hq⟩ : ∃ q, wit.length = q := ⟨_, rfl⟩
      rw [hq] at c2 c3 d2 d3 hzk
      have hSof : ∀ W, Below w.heap.size w W → ((W.cell? ⟨g, off + k * 3, none⟩ = some (.int .i64 tx) ∧ W.cell? ⟨g, off + k * 3 + 1, none⟩ = some (.int .i64 out) ∧ W.cell? ⟨g, off + k * 3 + 2, none⟩ = some (.slice wa q wc)) ∧ W.cell? ⟨g2, off2 + k * 3, none⟩ = some (.int .i64 tx) ∧ W.cell? ⟨g2, off2 + k * 3 + 1, none⟩ = some (.int .i64 out) ∧ W.cell? ⟨g2, off2 + k * 3 + 2, none⟩ = some (.slice va q vc)) := fun W h => ⟨⟨cell_belV h c0, cell_belV h c1, cell_belV h c2⟩, cell_belV h d0, cell_belV h d1, cell_belV h d2⟩
      have HC : Hid (∀ W, Below w.heap.size w W → Calls Tryz.prog 52 #[.agg #[.int .i64 tx, .int .i64 out, .slice wa q wc], .agg #[.int .i64 tx, .int .i64 out, .slice va q vc]] W fun e w' => e = .returned (.bool true) ∧ Below W.heap.size W w') := Lib.hid fun W h => wcIn_any tx out wit q wa va wc vc W (c3.below h) (d3.below h) hzk
      have hS0 := hSof wr.drew hbel.drew
      obtain ⟨⟨e0, e1, e2⟩, e3, e4, e5⟩ := hSof wr hbel
      clear c0 c1 c2 c3 d0 d1 d2 d3 hc hd hzk HX hq
      go_wp2
      clear e0 e1 e2 e3 e4 e5
      go_region_held3 (fun W => ((W.cell? ⟨g, off + k * 3, none⟩ = some (.int .i64 tx) ∧ W.cell? ⟨g, off + k * 3 + 1, none⟩ = some (.int .i64 out) ∧ W.cell? ⟨g, off + k * 3 + 2, none⟩ = some (.slice wa q wc)) ∧ W.cell? ⟨g2, off2 + k * 3, none⟩ = some (.int .i64 tx) ∧ W.cell? ⟨g2, off2 + k * 3 + 1, none⟩ = some (.int .i64 out) ∧ W.cell? ⟨g2, off2 + k * 3 + 2, none⟩ = some (.slice va q vc))) (first | with_reducible exact hS0 | with_reducible exact hS1)
        (first | (go_at_call 52; refine (HC.out _ hbel.drew).mono ?_; rintro e w1 ⟨rfl, hb1⟩; have hb2 := below_aftR hbel.drew hb1; have hS1 := hSof w1 hb2))
      go_wp2
      go_roundw
      case rel => exact ⟨k + 1, by omega, by simp, hb2⟩
      case measure => simp [intOf]; omega
    · go_wp2
      go_ret
      exact ⟨rfl, hbel⟩

theorem eq_outV (a a' : Int) (t t' : ByteArray) (w : World) : (Op.equalIn 10000 66 (.agg #[.int .i64 a, .string t]) (.agg #[.int .i64 a', .string t'])).run Tryz.prog w = .ok (a == a' && t.toList == t'.toList) w := by
  have u3 := Tryz.underlying3
  have a3 := Tryz.isAgg3
  have z3 := Tryz.sizeOf3
  have u9 := Tryz.underlying9
  have a9 := Tryz.isAgg9
  have z9 := Tryz.sizeOf9
  have hS : Tryz.prog.underlying 66 = some (.struct (Tryz.prog.fieldsOf 66)) := by kernel_rfl
  rw [show (10000 : Nat) = 9999 + 1 from rfl, run_equalIn_agg w 9999 66 _ _ hS (by kernel_rfl)]
  simp only [Program.fieldsOf, Tryz.underlying66]
  go_simp
  by_cases h1 : a = a' <;> cases h4 : (t.toList == t'.toList) <;> simp_all
theorem noGuard_outV : Tryz.prog.eqGuardType Tryz.prog.depth 66 = false := by kernel_rfl
set_option maxRecDepth 100000 in
set_option maxHeartbeats 1600000 in
theorem wcOuts_any (lo lo' : Nat) (a b : Option Addr) (n c c' : Nat) (l : List Tr.Out) (w : World) (ha : OuL lo w a n l) (hb : OuL lo' w b n l) (hn : n ≤ 1048576) :
    Calls Tryz.prog 25 #[.slice a n c, .slice b n c'] w fun e w' => e = .returned (.bool true) ∧ Below w.heap.size w w' := by
  have hq2 := noGuard_outV
  have HA := Lib.hid ha
  have HB := Lib.hid hb
  clear ha hb
  go_enter Tryz.func25, Tryz.ntmps25
  go_wp2
  go_loopw [5] (fun i wr => ∃ k : Nat, k ≤ n ∧ i = .int .i64 (k : Int) ∧ Below w.heap.size w wr)
    (fun i _ => n - (intOf i).toNat)
  case atStart => exact ⟨0, by omega, rfl, Below.refl _ _⟩
  case round =>
    obtain ⟨k, hk, rfl, hbel⟩ := hrel
    by_cases hlt : k < n
    · obtain ⟨g, off, rfl, _, _, hc⟩ := (HA.out.below hbel).2 (by omega)
      obtain ⟨c0, c1⟩ := hc k hlt
      obtain ⟨g2, off2, rfl, _, _, hd⟩ := (HB.out.below hbel).2 (by omega)
      obtain ⟨d0, d1⟩ := hd k hlt
      obtain ⟨x, HX⟩ : ∃ x, Hid (Tr.outAt l k = x) := ⟨_, Lib.hid rfl⟩
      rw [HX.out] at c0 c1 d0 d1
      obtain ⟨am, lk⟩ := x
      simp only at c0 c1 d0 d1
      have hq1 := fun W => eq_outV am am lk lk W
      simp only [beq_self_eq_true, Bool.and_true] at hq1
      clear hc hd HX
      go_wp2
      go_quiet (fail)
      go_wp2
      go_roundw
      case rel => exact ⟨k + 1, by omega, by simp, below_drewNV hbel _⟩
      case measure => simp [intOf]; omega
    · go_wp2
      go_ret
      exact ⟨rfl, hbel⟩
set_option maxRecDepth 100000 in
set_option maxHeartbeats 1600000 in
theorem wcTx_any (lo lo' : Nat) (a : Option Addr) (n c : Nat) (b : Option Addr) (m d : Nat) (a' : Option Addr) (c' : Nat) (b' : Option Addr) (d' : Nat) (t : Tr) (w : World) (ha : TrR lo w a n b m t) (hb : TrR lo' w a' n b' m t) (hs : t.small) :
    Calls Tryz.prog 9 #[.agg #[.slice a n c, .slice b m d, .int .i64 t.after, .string t.note], .agg #[.slice a' n c', .slice b' m d', .int .i64 t.after, .string t.note]] w fun e w' => e = .returned (.bool true) ∧ Below w.heap.size w w' := by
  have hn6 : n ≤ 1048576 := by have := hs.nin; have := ha.ins.1; omega
  have hm6 : m ≤ 1048576 := by have := hs.nout; have := ha.outs.1; omega
  have hbel : Below w.heap.size w ((w.alloc (.cells #[.slice a n c, .slice b m d, .int .i64 t.after, .string t.note] 26 (0, 0))).alloc (.cells #[.slice a' n c', .slice b' m d', .int .i64 t.after, .string t.note] 26 (0, 0))) := ((Below.refl _ _).alloc (Nat.le_refl _) _).alloc (by simp) _
  have v1 : Bk w.heap.size 26 #[.slice a n c, .slice b m d, .int .i64 t.after, .string t.note] ((w.alloc (.cells #[.slice a n c, .slice b m d, .int .i64 t.after, .string t.note] 26 (0, 0))).alloc (.cells #[.slice a' n c', .slice b' m d', .int .i64 t.after, .string t.note] 26 (0, 0))) := (Bk.new _ _ _).alloc _
  have v2 : Bk (w.heap.size + 1) 26 #[.slice a' n c', .slice b' m d', .int .i64 t.after, .string t.note] ((w.alloc (.cells #[.slice a n c, .slice b m d, .int .i64 t.after, .string t.note] 26 (0, 0))).alloc (.cells #[.slice a' n c', .slice b' m d', .int .i64 t.after, .string t.note] 26 (0, 0))) := Bk.new' _ _ _ _ (by simp)
  have hcI := wcIns_any lo lo' a a' n c c' t.ins _ (ha.below hbel).ins (hb.below hbel).ins hn6 (fun x hx => by have := (hs.wit x hx).1; omega)
  have HO : Hid (∀ W, Below w.heap.size w W → Calls Tryz.prog 25 #[.slice b m d, .slice b' m d'] W fun e w' => e = .returned (.bool true) ∧ Below W.heap.size W w') := Lib.hid fun W h => wcOuts_any lo lo' b b' m d d' t.outs W (ha.below h).outs (hb.below h).outs hm6
  obtain ⟨c0, c1, c2, c3⟩ := Bk.c4 v1
  obtain ⟨d0, d1, d2, d3⟩ := Bk.c4 v2
  have hq : (t.note.toList == t.note.toList) = true := by simp
  clear ha hb hs
  go_enter Tryz.func9, Tryz.ntmps9
  go_wp2_with fail
  refine hcI.mono ?_
  rintro e w1 ⟨rfl, hx⟩
  have hb1 := hbel.trans (hx.mono hbel.size)
  have v3 := v1.below hx
  have v4 := v2.below hx
  obtain ⟨e0, e1, e2, e3⟩ := Bk.c4 v3
  obtain ⟨f0, f1, f2, f3⟩ := Bk.c4 v4
  clear hx hcI c0 c1 c2 c3 d0 d1 d2 d3 v1 v2 hbel
  go_wp2_with fail
  refine (HO.out _ hb1).mono ?_
  rintro e w2 ⟨rfl, hx⟩
  have hb2 := hb1.trans (hx.mono hb1.size)
  obtain ⟨c0, c1, c2, c3⟩ := Bk.c4 (v3.below hx)
  obtain ⟨d0, d1, d2, d3⟩ := Bk.c4 (v4.below hx)
  clear hx e0 e1 e2 e3 f0 f1 f2 f3 v3 v4 hb1
  go_wp2
  go_ret
  exact ⟨rfl, hb2⟩
end Go.Proofs.YtcbpdibkindnfaaGreat
