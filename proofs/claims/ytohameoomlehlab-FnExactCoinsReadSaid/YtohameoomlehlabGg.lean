/-
  The program's coins: read.
-/
import Derived.Test.YtohameoomlehlabGf
import Derived.Test.YtohameoomlehlabCu
import Derived.Test.YtohameoomlehlabCf
namespace Go.Proofs.Ytohameoomlehlab
open Go.RowKit

/-! ### one part behind another -/
theorem part_bind {α β : Type} {b b1 b2 : Bool} {p : Option (α × ByteArray)} {q : α × ByteArray → Option (β × ByteArray)} {v : α} {r1 : ByteArray} {u : β} {r2 : ByteArray}
    (h1 : (b1 = true → b = true ∨ p = none) ∧ (b1 = false → b = false ∧ p = some (v, r1))) (h2 : (b2 = true → b1 = true ∨ q (v, r1) = none) ∧ (b2 = false → b1 = false ∧ q (v, r1) = some (u, r2))) :
    (b2 = true → b = true ∨ p.bind q = none) ∧ (b2 = false → b = false ∧ p.bind q = some (u, r2)) := by
  constructor
  · intro hb
    cases hb1 : b1 with
    | true =>
      rcases h1.1 hb1 with h | h
      · exact .inl h
      · exact .inr (by rw [h]; rfl)
    | false =>
      rcases h2.1 hb with h | h
      · rw [hb1] at h; cases h
      · exact .inr (by rw [(h1.2 hb1).2]; exact h)
  · intro hb
    obtain ⟨h3, h4⟩ := h2.2 hb
    obtain ⟨h5, h6⟩ := h1.2 h3
    exact ⟨h5, by rw [h6]; exact h4⟩
theorem Co.rd_bind (z : ByteArray) : Co.rd z = (Tr.dig z).bind fun a => (En.dec a.2).bind fun b => (En.dec b.2).bind fun c => (En.decT c.2).bind fun d => (En.dec d.2).bind fun e => (Co.rdF e.2).bind fun f => some ((⟨a.1, b.1, c.1, d.1, e.1, f.1⟩ : Co), f.2) := by
  unfold Co.rd
  cases Tr.dig z with
  | none => rfl
  | some a =>
    simp only [Option.bind_some]
    cases En.dec a.2 with
    | none => rfl
    | some b =>
      simp only [Option.bind_some]
      cases En.dec b.2 with
      | none => rfl
      | some c =>
        simp only [Option.bind_some]
        cases En.decT c.2 with
        | none => rfl
        | some d =>
          simp only [Option.bind_some]
          cases En.dec d.2 with
          | none => rfl
          | some e =>
            simp only [Option.bind_some]
            cases Co.rdF e.2 with
            | none => rfl
            | some f => rfl
theorem Co.rd_parts {r r1 r2 r3 r4 r5 r6 : ByteArray} {b b1 b2 b3 b4 b5 b6 : Bool} {d o m e : Int} {s : ByteArray} {f : Bool}
    (h1 : (b1 = true → b = true ∨ Tr.dig r = none) ∧ (b1 = false → b = false ∧ Tr.dig r = some (d, r1))) (h2 : (b2 = true → b1 = true ∨ En.dec r1 = none) ∧ (b2 = false → b1 = false ∧ En.dec r1 = some (o, r2)))
    (h3 : (b3 = true → b2 = true ∨ En.dec r2 = none) ∧ (b3 = false → b2 = false ∧ En.dec r2 = some (m, r3))) (h4 : (b4 = true → b3 = true ∨ En.decT r3 = none) ∧ (b4 = false → b3 = false ∧ En.decT r3 = some (s, r4)))
    (h5 : (b5 = true → b4 = true ∨ En.dec r4 = none) ∧ (b5 = false → b4 = false ∧ En.dec r4 = some (e, r5))) (h6 : (b6 = true → b5 = true ∨ Co.rdF r5 = none) ∧ (b6 = false → b5 = false ∧ Co.rdF r5 = some (f, r6))) :
    (b6 = true → b = true ∨ Co.rd r = none) ∧ (b6 = false → b = false ∧ Co.rd r = some (⟨d, o, m, s, e, f⟩, r6)) := by
  rw [Co.rd_bind]
  have k6 : (b6 = true → b5 = true ∨ ((Co.rdF r5).bind fun f => some ((⟨d, o, m, s, e, f.1⟩ : Co), f.2)) = none) ∧ (b6 = false → b5 = false ∧ ((Co.rdF r5).bind fun f => some ((⟨d, o, m, s, e, f.1⟩ : Co), f.2)) = some (⟨d, o, m, s, e, f⟩, r6)) :=
    ⟨fun hb => (h6.1 hb).imp id (fun h => by rw [h]; rfl), fun hb => ⟨(h6.2 hb).1, by rw [(h6.2 hb).2]; rfl⟩⟩
  have k5 := part_bind (q := fun e' => (Co.rdF e'.2).bind fun f => some ((⟨d, o, m, s, e'.1, f.1⟩ : Co), f.2)) h5 k6
  have k4 := part_bind (q := fun s' => (En.dec s'.2).bind fun e' => (Co.rdF e'.2).bind fun f => some ((⟨d, o, m, s'.1, e'.1, f.1⟩ : Co), f.2)) h4 k5
  have k3 := part_bind (q := fun m' => (En.decT m'.2).bind fun s' => (En.dec s'.2).bind fun e' => (Co.rdF e'.2).bind fun f => some ((⟨d, o, m'.1, s'.1, e'.1, f.1⟩ : Co), f.2)) h3 k4
  have k2 := part_bind (q := fun o' => (En.dec o'.2).bind fun m' => (En.decT m'.2).bind fun s' => (En.dec s'.2).bind fun e' => (Co.rdF e'.2).bind fun f => some ((⟨d, o'.1, m'.1, s'.1, e'.1, f.1⟩ : Co), f.2)) h2 k3
  exact part_bind (q := fun d' => (En.dec d'.2).bind fun o' => (En.dec o'.2).bind fun m' => (En.decT m'.2).bind fun s' => (En.dec s'.2).bind fun e' => (Co.rdF e'.2).bind fun f => some ((⟨d'.1, o'.1, m'.1, s'.1, e'.1, f.1⟩ : Co), f.2)) h1 k2
theorem Co.rdF_someG {s t : ByteArray} {n : Int} (h : En.bel s 1 = some (n, t)) : Co.rdF s = some (decide (n = 1), t) := by
  obtain ⟨h1, h2, h3, _⟩ := En.bel_bw h
  have hn : En.num n = Co.flag (decide (n = 1)) := by
    rw [← Co.num_flag]
    by_cases hq : n = 1
    · subst hq; rfl
    · have : n = 0 := by omega
      subst this; rfl
  rw [← h1, hn]
  exact Co.rdF_fw _ _
theorem Co.rdF_noneG {s : ByteArray} (h : En.bel s 1 = none) : Co.rdF s = none := by
  cases hr : Co.rdF s with
  | none => rfl
  | some y =>
    obtain ⟨b, t⟩ := y
    have h1 := Co.rdF_bw hr
    rw [← Co.num_flag] at h1
    have h2 := En.bel_fw (if b = true then 1 else 0) 1 t (by cases b <;> decide) (by cases b <;> decide) (by cases b <;> decide)
    rw [h1, h] at h2
    cases h2
set_option maxRecDepth 100000 in
set_option maxHeartbeats 800000 in
theorem pflag_anyC (D B : Nat) (r : ByteArray) (b : Bool) (w : World) (h : RD D B r b w) :
    Calls Try.prog 104 #[.pointer (some ⟨D, 0, none⟩)] w fun e w' => ∃ f : Bool, e = .returned (.bool f) ∧ PartR D B b (Co.rdF r) f w w' := by
  have hc := pcount1_anyC D B r b w h
  clear h
  go_enter Try.func104, Try.ntmps104
  go_wp2_with fail
  refine hc.mono ?_
  rintro e w1 ⟨n, m, rfl, hm, HM, r1, b1, h1, t1, HB⟩
  have HQ : Hid ((b1 = true → b = true ∨ Co.rdF r = none) ∧ (b1 = false → b = false ∧ Co.rdF r = some (decide (m = 1), r1))) := Lib.hid ⟨fun hb => (HB.out.1 hb).imp id Co.rdF_noneG, fun hb => by
    obtain ⟨k1, k2⟩ := HB.out.2 hb
    have hn := (En.bel_bw k2).2.2.1
    rw [HM.out hn]
    exact ⟨k1, Co.rdF_someG k2⟩⟩
  clear hc
  go_wp2
  go_ret
  exact ⟨decide (m = 1), rfl, r1, b1, h1, t1, HQ⟩
set_option maxRecDepth 100000 in
set_option maxHeartbeats 1600000 in
theorem pcoin_any (D B : Nat) (r : ByteArray) (b : Bool) (w : World) (h : RD D B r b w) :
    Calls Try.prog 82 #[.pointer (some ⟨D, 0, none⟩)] w fun e w' => ∃ x : Co, e = .returned (.agg #[.int .i64 x.tx, .int .i64 x.out, .int .i64 x.amt, .string x.lock, .int .i64 x.ht, .bool x.rew]) ∧ x.lock.size ≤ 4000 ∧ PartR D B b (Co.rd r) x w w' := by
  have hD := h.blk.lt
  have hB := lt_of_block h.str
  have hAD : w.heap.size ≠ D := by omega
  have hAB : w.heap.size ≠ B := by omega
  have v0 : Bk w.heap.size 30 #[.int .i64 0, .int .i64 0, .int .i64 0, .string ⟨#[]⟩, .int .i64 0, .bool false] (w.alloc (.cells #[.int .i64 0, .int .i64 0, .int .i64 0, .string ⟨#[]⟩, .int .i64 0, .bool false] 30 (0, 0))) := Bk.new _ _ _
  have h0 := h.below ((Below.refl _ _).alloc (Nat.le_refl _) (.cells #[.int .i64 0, .int .i64 0, .int .i64 0, .string ⟨#[]⟩, .int .i64 0, .bool false] 30 (0, 0)))
  have t0 : TwoC D B w (w.alloc (.cells #[.int .i64 0, .int .i64 0, .int .i64 0, .string ⟨#[]⟩, .int .i64 0, .bool false] 30 (0, 0))) := TwoC.below ((Below.refl _ _).alloc (Nat.le_refl _) _)
  obtain ⟨w0, HW0⟩ : ∃ W, Hid (w.alloc (.cells #[.int .i64 0, .int .i64 0, .int .i64 0, .string ⟨#[]⟩, .int .i64 0, .bool false] 30 (0, 0)) = W) := ⟨_, Lib.hid rfl⟩
  rw [HW0.out] at v0 h0 t0
  clear h
  go_enter Try.func82, Try.ntmps82
  go_wp2_with fail
  rw [HW0.out]
  clear HW0
  have hc0 := pdigest_anyC D B r b w0 h0
  clear h0
  go_wp2_with fail
  refine hc0.mono ?_
  rintro e0 w1 ⟨d, rfl, r1, b1, h1, q0, P1⟩
  have t1 := t0.trans q0
  have v1 := v0.twoC q0 hAD hAB
  clear hc0 q0 t0 v0
  have hc1 := pnumber_anyC D B r1 b1 w1 h1
  clear h1
  go_wp2_with fail
  refine hc1.mono ?_
  rintro e1 w2 ⟨o, rfl, _, r2, b2, h2, q1, P2⟩
  have t2 := t1.trans q1
  have v2 := v1.twoC q1 hAD hAB
  clear hc1 q1 t1 v1
  have hc2 := pnumber_anyC D B r2 b2 w2 h2
  clear h2
  go_wp2_with fail
  refine hc2.mono ?_
  rintro e2 w3 ⟨m, rfl, _, r3, b3, h3, q2, P3⟩
  have t3 := t2.trans q2
  have v3 := v2.twoC q2 hAD hAB
  clear hc2 q2 t2 v2
  have hc3 := ptext_anyC D B r3 b3 w3 h3
  clear h3
  go_wp2_with fail
  refine hc3.mono ?_
  rintro e3 w4 ⟨s, rfl, HZ, r4, b4, h4, q3, P4⟩
  have HZL := Lib.hid HZ
  clear HZ
  have t4 := t3.trans q3
  have v4 := v3.twoC q3 hAD hAB
  clear hc3 q3 t3 v3
  have hc4 := pnumber_anyC D B r4 b4 w4 h4
  clear h4
  go_wp2_with fail
  refine hc4.mono ?_
  rintro e4 w5 ⟨e, rfl, _, r5, b5, h5, q4, P5⟩
  have t5 := t4.trans q4
  have v5 := v4.twoC q4 hAD hAB
  clear hc4 q4 t4 v4
  have hc5 := pflag_anyC D B r5 b5 w5 h5
  clear h5
  go_wp2_with fail
  refine hc5.mono ?_
  rintro e5 w6 ⟨f, rfl, r6, b6, h6, q5, P6⟩
  have t6 := t5.trans q5
  have v6 := v5.twoC q5 hAD hAB
  clear hc5 q5 t5 v5
  have HP := Lib.hid (Co.rd_parts P1.out P2.out P3.out P4.out P5.out P6.out)
  have hR := v6.store6 (.int .i64 d) (.int .i64 o) (.int .i64 m) (.string s) (.int .i64 e) (.bool f)
  have h7 := h6.grown (base := w.heap.size) (gtrans6 w6 w.heap.size (.int .i64 d) (.int .i64 o) (.int .i64 m) (.string s) (.int .i64 e) (.bool f)) (fun j hj => by cases hj; exact Nat.le_refl _) hD hB
  have t7 := t6.grown (gtrans6 w6 w.heap.size (.int .i64 d) (.int .i64 o) (.int .i64 m) (.string s) (.int .i64 e) (.bool f)) (fun j hj => by cases hj; exact Nat.le_refl _)
  obtain ⟨c0, c1, c2, c3, c4, c5⟩ := Bk.c6 v6
  obtain ⟨f0, f1, f2, f3, f4, f5⟩ := Bk.f6 v6
  clear h6 t6 v6 P1 P2 P3 P4 P5 P6
  go_wp2
  refine bodyPost_ret (results_cell_row (P := Try.prog) rfl _ _ w.heap.size 30 _ (0, 0) _ rfl hR.held Try.underlying30 rfl (by kernel_rfl)) rfl ?_
  exact ⟨⟨d, o, m, s, e, f⟩, rfl, HZL.out, r6, b6, h7, t7, HP⟩
def Co.rdL (s : ByteArray) : Option (List Co × ByteArray) := (En.bel s 80).bind fun e => Tr.rep Co.rd e.2 e.1.toNat
theorem Co.read_rdL (s : ByteArray) : Co.read s = match Co.rdL s with
  | none => none
  | some x => if x.2.size = 0 then (if Co.lok x.1 = true then some x.1 else none) else none := by
  unfold Co.rdL
  cases he : En.bel s 80 with
  | none => rw [Co.read_bel he]; rfl
  | some e =>
    simp only [Option.bind_some]
    cases hx : Tr.rep Co.rd e.2 e.1.toNat with
    | none => rw [Co.read_rep he hx]
    | some x => rw [Co.read_ok he hx]
theorem own_twoD {D B : Nat} {w w' : World} {base : Nat} {v : Value} {l : List Co} (h : OwnC base w v l) (h2 : TwoC D B w w') (hD : D < base) (hB : B < base) : OwnC base w' v l := own_twoC h h2 hD hB
set_option maxRecDepth 100000 in
set_option maxHeartbeats 1600000 in
theorem pcoins_any (D B : Nat) (r : ByteArray) (b : Bool) (w : World) (h : RD D B r b w) :
    Calls Try.prog 57 #[.pointer (some ⟨D, 0, none⟩)] w fun e w' => ∃ v l r2 b2, e = .returned v ∧ RD D B r2 b2 w' ∧ TwoC D B w w' ∧ Hid (OwnC w.heap.size w' v l) ∧ Hid (l.length ≤ 80 ∧ ∀ x ∈ l, x.lock.size ≤ 4000) ∧ Hid ((b2 = true → b = true ∨ Co.rdL r = none) ∧ (b2 = false → b = false ∧ Co.rdL r = some (l, r2))) := by
  obtain ⟨i0, hi, hz0, hz1, hz2⟩ := info_parts info_coin
  have hD := h.blk.lt
  have hB := lt_of_block h.str
  have hc := pcount80_anyC D B r b w h
  clear h
  go_enter Try.func57, Try.ntmps57
  go_wp2_with fail
  refine hc.mono ?_
  rintro e w1 ⟨n, mm, rfl, hmm, HM, r1, b1, h1, t1, HB1⟩
  obtain ⟨m, rfl⟩ : ∃ m : Nat, mm = (m : Int) := ⟨mm.toNat, by omega⟩
  have hm80 : m ≤ 80 := by omega
  have HO1 : Hid (OwnC w.heap.size w1 (.slice none 0 0) []) := Lib.hid (OwnC.nilC _ _)
  clear hc hmm
  go_wp2
  go_loopw [3, 6] (fun v i wr => ∃ (k : Nat) (l : List Co) (r2 : ByteArray) (b2 : Bool), k ≤ m ∧ i = .int .i64 (k : Int) ∧ RD D B r2 b2 wr ∧ TwoC D B w wr ∧ Hid (OwnC w.heap.size wr v l) ∧ l.length = k ∧ Hid (∀ x ∈ l, x.lock.size ≤ 4000) ∧ Hid ((b2 = true → b1 = true ∨ Tr.rep Co.rd r1 k = none) ∧ (b2 = false → b1 = false ∧ Tr.rep Co.rd r1 k = some (l, r2))))
    (fun _ i _ => m - (intOf i).toNat)
  case atStart => exact ⟨0, [], r1, b1, Nat.zero_le _, rfl, h1, t1, HO1, rfl, Lib.hid (fun x hx => (List.not_mem_nil hx).elim), Lib.hid ⟨fun hb => .inl hb, fun hb => ⟨hb, rfl⟩⟩⟩
  case round =>
    clear HO1 h1 t1
    obtain ⟨k, l, r2, b2, hk, rfl, h2, t2, HO, hlk, HZ, HR⟩ := hrel
    by_cases hlt : k < m
    · have hcc := pcoin_any D B r2 b2 wr h2
      have hszw := t2.size
      clear h2
      go_wp2_with fail
      refine hcc.mono ?_
      rintro e w3 ⟨⟨x0, x1, x2, x3, x4, x5⟩, rfl, hz, r3, b3, h3, t3, HP⟩
      simp only at hz
      have HZ3 := Lib.hid hz
      have t4 := t2.trans t3
      have hown3 := (own_twoD HO.out t3 hD hB).row
      have hsz3 : w.heap.size ≤ w3.heap.size := t4.size
      have HK : Hid (l.length = k) := Lib.hid hlk
      rw [hlk] at hown3
      have HRN : Hid ((b3 = true → b1 = true ∨ Tr.rep Co.rd r1 (k + 1) = none) ∧ (b3 = false → b1 = false ∧ Tr.rep Co.rd r1 (k + 1) = some (l ++ [⟨x0, x1, x2, x3, x4, x5⟩], r3))) := Lib.hid (by
        constructor
        · intro hb
          cases hb2 : b2 with
          | true =>
            rcases HR.out.1 hb2 with e | e
            · exact .inl e
            · exact .inr (Tr.rep_none e _ (Nat.le_succ _))
          | false =>
            rcases HP.out.1 hb with e | e
            · rw [hb2] at e; cases e
            · exact .inr (Tr.rep_bad (HR.out.2 hb2).2 e)
        · intro hb
          obtain ⟨k1, k2⟩ := HP.out.2 hb
          obtain ⟨k3, k4⟩ := HR.out.2 k1
          exact ⟨k3, Tr.rep_ok k4 k2⟩)
      clear hcc hlk hz t2 t3 HO HP HR
      go_wp2_with (at_builtin; refine wpList_append_own _ rfl _ _ 25 rfl w.heap.size 30 i0 (.agg #[.int .i64 0, .int .i64 0, .int .i64 0, .string ⟨#[]⟩, .int .i64 0, .bool false]) 6 56 Try.underlying25 hi hz0 hz1 hz2 rfl (by decide) _ _ _ rfl (hown3.alloc (.cells #[.int .i64 x0, .int .i64 x1, .int .i64 x2, .string x3, .int .i64 x4, .bool x5] 30 (0, 0))) ⟨w3.heap.size, 0, none⟩ 1 1 [.int .i64 x0, .int .i64 x1, .int .i64 x2, .string x3, .int .i64 x4, .bool x5] rfl rfl ?_ ?_ ?_ ?_ ?_ ?_)
      · exact newsC _ _ _
      · simp [Value.oneCell']
      · unfold maxLen; omega
      · omega
      · simp; omega
      intro v5 w5 h5 hg5 _
      have h6 := (h3.below ((Below.refl _ _).alloc (Nat.le_refl _) (.cells #[.int .i64 x0, .int .i64 x1, .int .i64 x2, .string x3, .int .i64 x4, .bool x5] 30 (0, 0)))).grown hg5 (fun j hj => (hown3.lt j hj).1) hD hB
      have t6 := (t4.alloc (.cells #[.int .i64 x0, .int .i64 x1, .int .i64 x2, .string x3, .int .i64 x4, .bool x5] 30 (0, 0))).grown hg5 (fun j hj => (hown3.lt j hj).1)
      have HO6 : Hid (OwnC w.heap.size w5 v5 (l ++ [⟨x0, x1, x2, x3, x4, x5⟩])) := Lib.hid (OwnC.push (by rw [HK.out]; exact h5))
      clear h3 t4 h5 hg5 hown3
      go_wp2
      go_roundw
      case rel => exact ⟨k + 1, _, r3, b3, by omega, by simp, h6, t6, HO6, by rw [List.length_append, HK.out]; rfl, Lib.hid (fun x hx => by
        rcases List.mem_append.1 hx with h | h
        · exact HZ.out x h
        · simp at h; subst h; exact HZ3.out), HRN⟩
      case measure => simp [intOf]; omega
    · have hkm : k = m := by omega
      have HQ : Hid ((b2 = true → b = true ∨ Co.rdL r = none) ∧ (b2 = false → b = false ∧ Co.rdL r = some (l, r2))) := Lib.hid (by
        have hq := part_bind (q := fun (a : Int × ByteArray) => Tr.rep Co.rd a.2 a.1.toNat) HB1.out (u := l) (r2 := r2) (b2 := b2) ⟨fun hb => by
          cases hb1 : b1 with
          | true => exact .inl rfl
          | false =>
            refine .inr ?_
            have hn := (En.bel_bw (HB1.out.2 hb1).2).2.2.1
            have := HM.out hn
            rcases HR.out.1 hb with e | e
            · rw [hb1] at e; cases e
            · rw [← this, Int.toNat_natCast, ← hkm]; exact e, fun hb => by
          obtain ⟨k1, k2⟩ := HR.out.2 hb
          have hn := (En.bel_bw (HB1.out.2 k1).2).2.2.1
          have := HM.out hn
          exact ⟨k1, by rw [← this, Int.toNat_natCast, ← hkm]; exact k2⟩⟩
        exact hq)
      have HLN : Hid (l.length ≤ 80 ∧ ∀ x ∈ l, x.lock.size ≤ 4000) := Lib.hid ⟨by omega, HZ.out⟩
      clear hkm HR
      go_wp2
      go_ret
      exact ⟨_, l, r2, b2, rfl, h2, t2, HO, HLN, HQ⟩
set_option maxRecDepth 100000 in
set_option maxHeartbeats 1600000 in
theorem readerOf_C (s : ByteArray) (w : World) :
    Calls Try.prog 56 #[.string s] w fun e w' => ∃ B, e = .returned (.agg #[takerAt B, restAtC B, .bool false]) ∧ w.heap.size ≤ B ∧ w'.heap[B]? = some (.cells #[.string s] 9 (0, 0)) ∧ Below w.heap.size w w' := by
  have v0 : Bk w.heap.size 84 #[.nilFunc, .nilFunc, .bool false] (w.alloc (.cells #[.nilFunc, .nilFunc, .bool false] 84 (0, 0))) := Bk.new _ _ _
  have hb0 : Below w.heap.size w (w.alloc (.cells #[.nilFunc, .nilFunc, .bool false] 84 (0, 0))) := (Below.refl _ _).alloc (Nat.le_refl _) _
  go_enter Try.func56, Try.ntmps56
  go_wp2_with fail
  refine (bytesOf_any s _).mono ?_
  rintro e w1 ⟨rfl, rfl⟩
  have hsz : (w.alloc (.cells #[.nilFunc, .nilFunc, .bool false] 84)).heap.size = w.heap.size + 1 := by simp
  rw [hsz]
  have v1 := v0.alloc (.cells #[.string s] 9 (0, 0))
  have hb1 := hb0.alloc hb0.size (.cells #[.string s] 9 (0, 0))
  have hst : ((w.alloc (.cells #[.nilFunc, .nilFunc, .bool false] 84 (0, 0))).alloc (.cells #[.string s] 9 (0, 0))).heap[w.heap.size + 1]? = some (.cells #[.string s] 9 (0, 0)) := by
    have h1 := heap_alloc_new (w.alloc (.cells #[.nilFunc, .nilFunc, .bool false] 84 (0, 0))) (.cells #[.string s] 9 (0, 0))
    rw [hsz] at h1
    exact h1
  obtain ⟨W1, HW1⟩ : ∃ W, Hid ((w.alloc (.cells #[.nilFunc, .nilFunc, .bool false] 84 (0, 0))).alloc (.cells #[.string s] 9 (0, 0)) = W) := ⟨_, Lib.hid rfl⟩
  rw [HW1.out] at v1 hb1 hst
  obtain ⟨c0, c1, c2⟩ := Bk.c3t' v1
  have f0 := v1.fro 0
  have f1 := v1.fro 1
  have f2 := v1.fro 2
  have hR := ((v1.set 0 (takerAt (w.heap.size + 1))).set 1 (restAtC (w.heap.size + 1))).set 2 (.bool false)
  have hs2 : ((((W1.setCell ⟨w.heap.size, 0, none⟩ (takerAt (w.heap.size + 1))).setCell ⟨w.heap.size, 1, none⟩ (restAtC (w.heap.size + 1))).setCell ⟨w.heap.size, 2, none⟩ (.bool false))).heap[w.heap.size + 1]? = some (.cells #[.string s] 9 (0, 0)) :=
    (Below.heap_setCell _ _ _ _ (by simp)).trans ((Below.heap_setCell _ _ _ _ (by simp)).trans ((Below.heap_setCell _ _ _ _ (by simp)).trans hst))
  have hb2 := ((hb1.setCell (p := ⟨w.heap.size, 0, none⟩) (Nat.le_refl _) (takerAt (w.heap.size + 1))).setCell (p := ⟨w.heap.size, 1, none⟩) (Nat.le_refl _) (restAtC (w.heap.size + 1))).setCell (p := ⟨w.heap.size, 2, none⟩) (Nat.le_refl _) (.bool false)
  rw [HW1.out]
  clear v0 hb0 hsz v1 hb1 hst HW1
  go_wp2
  refine bodyPost_ret (results_cell_row (P := Try.prog) rfl _ _ w.heap.size 84 _ (0, 0) _ rfl hR.held Try.underlying84 rfl (by kernel_rfl)) rfl ?_
  exact ⟨w.heap.size + 1, rfl, by omega, hs2, hb2⟩
theorem CoAA.mkR {l l2 : List Co} {ok ok2 : Bool} {w : World} {e : Ending} {w' : World} {v : Value} (he : e = .returned (.tuple #[v, .bool ok2])) (HL : Hid (l = l2)) (HK : Hid (ok = ok2)) (HO : Hid (OwnC w.heap.size w' v l2)) (hb : Below w.heap.size w w') : CoAA l ok w e w' := by
  rw [HL.out, HK.out]
  exact ⟨v, he, HO, hb⟩
set_option maxRecDepth 100000 in
set_option maxHeartbeats 1600000 in
theorem implCoinsRead_any (s : ByteArray) (w : World) (_hs : s.size ≤ 1048576) :
    Calls Try.prog 32 #[.string s] w (CoAA ((Co.read s).getD []) (Co.read s).isSome w) := by
  have hcr := readerOf_C s w
  go_enter Try.func32, Try.ntmps32
  go_wp2_with fail
  refine hcr.mono ?_
  rintro e w1 ⟨B, rfl, hBb, hstr, hx⟩
  have hb1 := hx.alloc hx.size (.cells #[takerAt B, restAtC B, .bool false] 84 (0, 0))
  have h2 : RD w1.heap.size B s false (w1.alloc (.cells #[takerAt B, restAtC B, .bool false] 84 (0, 0))) := ⟨Bk.new _ _ _, (Below.heap_alloc _ _ _ (lt_of_block hstr)).trans hstr⟩
  have hDw : w.heap.size ≤ w1.heap.size := hx.size
  have hcc := pcoins_any w1.heap.size B s false _ h2
  have HBL := Lib.hid (lt_of_block hstr)
  clear hcr hstr h2
  go_wp2_with fail
  refine hcc.mono ?_
  rintro e w3 ⟨v, l, r2, b2, rfl, h3, t3, HO, HLN, HQ⟩
  have hb3 := hb1.trans (t3.low hb1.size (by omega) hBb)
  have HOW : Hid (OwnC w.heap.size w3 v l) := Lib.hid (OwnC.base HO.out hb1.size)
  have hdn := pdone_anyC w1.heap.size B r2 b2 w3 h3
  have HRD := Lib.hid (Co.read_rdL s)
  clear hcc h3 t3 hb1 HO
  obtain ⟨g, HG⟩ : ∃ g, Hid ((!b2 && decide (r2.size = 0)) = g) := ⟨_, Lib.hid rfl⟩
  rw [HG.out] at hdn
  go_wp2_with fail
  refine hdn.mono ?_
  rintro e w4 ⟨rfl, rfl⟩
  clear hdn
  cases g
  · have HN : Hid (Co.read s = none) := Lib.hid (by
      rw [HRD.out]
      cases hb : b2 with
      | true =>
        rcases HQ.out.1 hb with e | e
        · cases e
        · rw [e]
      | false =>
        rw [(HQ.out.2 hb).2]
        simp only
        have := HG.out
        rw [hb] at this
        have hne : ¬ r2.size = 0 := of_decide_eq_false (by simpa using this)
        rw [if_neg hne])
    go_wp2
    go_ret2
    exact CoAA.mkR rfl (Lib.hid (by rw [HN.out]; rfl)) (Lib.hid (by rw [HN.out]; rfl)) (Lib.hid (OwnC.nilC _ _)) hb3
  have HYS : Hid (Co.read s = if Co.lok l = true then some l else none) := Lib.hid (by
    have h1 := HG.out
    simp only [Bool.and_eq_true, Bool.not_eq_true', decide_eq_true_eq] at h1
    rw [HRD.out, (HQ.out.2 h1.1).2]
    simp only
    rw [if_pos h1.2])
  obtain ⟨a, c, hv, hnc, hcl⟩ := OwnC.coL HOW.out
  subst hv
  have hok := implCoinsOk_any w.heap.size a l.length c l w4 hcl hnc (by have := HLN.out.1; omega) (fun x hx => by have := HLN.out.2 x hx; omega)
  obtain ⟨K, HK⟩ : ∃ K, Hid (Co.lok l = K) := ⟨_, Lib.hid rfl⟩
  rw [HK.out] at hok
  have HLL : Hid (∀ q, q = l.length → q = l.length) := Lib.hid (fun q h => h)
  obtain ⟨n, HNL⟩ : ∃ n, Hid (l.length = n) := ⟨_, Lib.hid rfl⟩
  rw [HNL.out] at hok HOW ⊢
  clear hcl hnc HLL
  go_wp2_with fail
  refine hok.mono ?_
  rintro e w5 ⟨rfl, hx5⟩
  have hb5 := hb3.trans (hx5.mono hb3.size)
  have HOW5 := Lib.hid (OwnC.below HOW.out hx5)
  clear hok hx5 hb3 HOW
  cases K
  · have HN : Hid (Co.read s = none) := Lib.hid (by rw [HYS.out, HK.out]; rfl)
    go_wp2
    go_ret2
    exact CoAA.mkR rfl (Lib.hid (by rw [HN.out]; rfl)) (Lib.hid (by rw [HN.out]; rfl)) (Lib.hid (OwnC.nilC _ _)) hb5
  · have HN : Hid (Co.read s = some l) := Lib.hid (by rw [HYS.out, HK.out]; rfl)
    go_wp2
    go_ret2
    exact CoAA.mkR rfl (Lib.hid (by rw [HN.out]; rfl)) (Lib.hid (by rw [HN.out]; rfl)) HOW5 hb5
end Go.Proofs.Ytohameoomlehlab
