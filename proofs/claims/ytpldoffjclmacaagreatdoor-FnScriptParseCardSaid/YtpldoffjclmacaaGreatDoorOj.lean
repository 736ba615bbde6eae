/-
  Contracts of scripts: l10Op; of the model.
-/
import Derived.Test.YtpldoffjclmacaaGreatDoorOi
import Derived.Test.YtpldoffjclmacaaGreatDoorOg
namespace Go.Proofs.YtpldoffjclmacaaGreatDoor
open Go.RowKit

/-- What l10Op hands back. -/
def JoOp (o : Option Jo) (w : World) (e : Ending) (w' : World) : Prop :=
  ∃ c a b t ok, e = .returned (.tuple #[.agg #[.int .i64 c, .int .i64 a, .int .i64 b, .string t], .bool ok]) ∧ (ok = true → o = some ⟨c, a, b, t⟩) ∧ (ok = false → o = none) ∧ Below w.heap.size w w'
theorem Jo.L_head (s : ByteArray) (h : 0 < s.size) : (Jo.L s).head? = some (En.byt s 0) := by
  rw [← Jo.L_get s 0 h, List.head?_eq_getElem?]
theorem Jo.L_tail (s : ByteArray) : strOfNums (Jo.L s).tail = s.extract 1 s.size := by
  apply Jo.L_inj
  rw [Jo.L_str _ (fun x hx => Jo.L_bd x (List.mem_of_mem_tail hx)), Jo.L_extract, ← List.drop_one, List.take_of_length_le (by rw [List.length_drop, Jo.L_len]; exact Nat.le_refl _)]
theorem Jo.opOf_x {s : ByteArray} (h : 0 < s.size) (h1 : En.byt s 0 = 120) : Jo.opOf (Jo.L s) = if Hx.good (s.extract 1 s.size) then some ⟨0, 0, 0, strOfNums (Hx.nums (s.extract 1 s.size) ((s.extract 1 s.size).size / 2))⟩ else none := by
  unfold Jo.opOf
  rw [if_pos (by rw [Jo.L_head s h, h1]), Jo.L_tail]
theorem Jo.opOf_w {s : ByteArray} (h : ¬ (0 < s.size ∧ En.byt s 0 = 120)) : Jo.opOf (Jo.L s) = Jo.opW (Jo.L s) := by
  unfold Jo.opOf
  rw [if_neg]
  intro e
  by_cases h0 : 0 < s.size
  · rw [Jo.L_head s h0] at e
    exact h ⟨h0, Option.some.inj e⟩
  · have : Jo.L s = [] := List.length_eq_zero_iff.1 (by rw [Jo.L_len]; omega)
    rw [this] at e
    cases e
theorem Jo.find_none {p : List Int} (h : ∀ j, 1 ≤ j → j < 15 → Jo.name j ≠ p) : Jo.find p = none := by
  cases e : Jo.find p with
  | none => rfl
  | some c => exact absurd (Jo.find_some e).1 (h c (Jo.find_some e).2.1 (by have := (Jo.find_some e).2.2; omega))
theorem below_cell9 {n : Nat} {w w' : World} (h : Below n w w') {B : Nat} (hB : B < n) (i : Nat) : w'.cell? ⟨B, i, none⟩ = w.cell? ⟨B, i, none⟩ := by
  have := h.block B hB
  simp [World.cell?, this]
theorem Jo.str_size (q : List Int) (h : ∀ c ∈ q, 0 ≤ c ∧ c < 256) : (strOfNums q).size = q.length := by rw [← Jo.L_len, Jo.L_str q h]
theorem Jo.opW_facts (s : ByteArray) : ∃ p ps, Hid (Jo.split 58 (Jo.L s) = p :: ps) ∧ Hid ((∀ j, 1 ≤ j → j < 15 → Jo.name j ≠ p) → Jo.opW (Jo.L s) = none)
    ∧ Hid (∀ k, 1 ≤ k → k < 15 → Jo.name k = p → ps.length = Jo.args k → Jo.opW (Jo.L s) = some ⟨(k : Int), Jo.argn ps 0 k, Jo.argn ps 1 k, ⟨#[]⟩⟩)
    ∧ Hid (∀ k, 1 ≤ k → k < 15 → Jo.name k = p → ps.length ≠ Jo.args k → Jo.opW (Jo.L s) = none)
    ∧ Hid (∀ q ∈ p :: ps, (∀ c ∈ q, 0 ≤ c ∧ c < 256) ∧ q.length ≤ s.size) := by
  obtain ⟨p, ps, h⟩ := Jo.split_ne 58 (Jo.L s)
  refine ⟨p, ps, Lib.hid h, Lib.hid ?_, Lib.hid ?_, Lib.hid ?_, Lib.hid ?_⟩
  · intro hn; unfold Jo.opW; rw [h]; simp only; rw [Jo.find_none hn]
  · intro k k1 k2 hk hl; unfold Jo.opW; rw [h]; simp only; rw [← hk, Jo.find_name ⟨k, k2⟩ k1]; simp only; rw [if_pos hl]
  · intro k k1 k2 hk hl; unfold Jo.opW; rw [h]; simp only; rw [← hk, Jo.find_name ⟨k, k2⟩ k1]; simp only; rw [if_neg hl]
  · intro q hq
    rw [← h] at hq
    exact ⟨Jo.split_bd Jo.L_bd q hq, by rw [← Jo.L_len]; exact (Jo.split_len 58 (Jo.L s)).2 q hq⟩
theorem Jo.name_bd : ∀ c : Fin 15, ∀ x ∈ Jo.name c.val, 0 ≤ x ∧ x < 256 := by decide +kernel
theorem Jo.str_ne {a b : List Int} (ha : ∀ c ∈ a, 0 ≤ c ∧ c < 256) (hb : ∀ c ∈ b, 0 ≤ c ∧ c < 256) (h : a ≠ b) : ((strOfNums a).toList == (strOfNums b).toList) = false := by
  apply Bool.eq_false_iff.2
  intro h'
  rw [beq_iff_eq, ByteArray.toList_eq, ByteArray.toList_eq] at h'
  have e : strOfNums a = strOfNums b := ByteArray.ext (Array.toList_inj.1 h')
  exact h (by rw [← Jo.L_str a ha, e, Jo.L_str b hb])
set_option maxRecDepth 100000 in
set_option maxHeartbeats 1600000 in
theorem l10Op_x (s : ByteArray) (w : World) (hs : s.size ≤ 900000) (h : 0 < s.size) (h1 : En.byt s 0 = 120) :
    Calls Tryz.prog 27 #[.string s] w (JoOp (Jo.opOf (Jo.L s)) w) := by
  rw [Jo.opOf_x h h1]
  have hx0 : ∀ h : 0 < s.size, ((s[0]'h).toNat : Int) = 120 := fun h => by rw [← h1]; exact En.byt_eq _ _ h
  have q0 : decide ((0 : Int) < (s.size : Int)) = true := decide_eq_true (by omega)
  have hsz : (s.extract 1 s.size).size ≤ 1048576 := by rw [ByteArray.size_extract]; omega
  have hs2 : ∀ W, (Instr.slice 9 (.string s) (some (.int .i64 1)) none none).run Tryz.prog W = .ok (.string (s.extract 1 s.size)) W := fun W => by
    simp [Instr.slice, Instr.sliceBounds, Instr.sliceBound, asIntOf, run_underlying Tryz.underlying9]
    omega
  obtain ⟨X, HX⟩ : ∃ X, Hid (s.extract 1 s.size = X) := ⟨_, Lib.hid rfl⟩
  rw [HX.out] at hsz hs2 ⊢
  have hcon := fun W => specFromHex_any X W hsz
  obtain ⟨O, HO⟩ : ∃ O, Hid ((if Hx.good X then some (⟨0, 0, 0, strOfNums (Hx.nums X (X.size / 2))⟩ : Jo) else none) = O) := ⟨_, Lib.hid rfl⟩
  rw [HO.out]
  have hv0 : Bk w.heap.size 40 #[.int .i64 0, .int .i64 0, .int .i64 0, .string ⟨#[]⟩] (w.alloc (.cells #[.int .i64 0, .int .i64 0, .int .i64 0, .string ⟨#[]⟩] 40 (0, 0))) := Bk.new _ _ _
  have hb0 : Below w.heap.size w (w.alloc (.cells #[.int .i64 0, .int .i64 0, .int .i64 0, .string ⟨#[]⟩] 40 (0, 0))) := (Below.refl _ _).alloc (Nat.le_refl _) _
  clear HX h1
  go_enter Tryz.func27, Tryz.ntmps27
  go_wp2_with fail
  refine (hcon _).mono ?_
  rintro e1 w1 ⟨v, rfl, hv, hb1⟩
  obtain ⟨t, ok, rfl, HOK⟩ : ∃ t ok, v = .tuple #[.string t, .bool ok] ∧ Hid ((ok = true → O = some ⟨0, 0, 0, t⟩) ∧ (ok = false → O = none)) := by
    rcases hv with ⟨hg, rfl⟩ | ⟨hg, rfl⟩
    · exact ⟨_, _, rfl, Lib.hid ⟨fun _ => HO.out.symm.trans (if_pos hg), fun h => by cases h⟩⟩
    · exact ⟨_, _, rfl, Lib.hid ⟨(fun h => by cases h), fun _ => HO.out.symm.trans (if_neg hg)⟩⟩
  have hv2 := hv0.below hb1
  have hbel2 := below_aft9 hb0 hb1
  obtain ⟨c0, c1, c2, c3⟩ := Bk.c4 hv2
  obtain ⟨f0, f1, f2, f3⟩ := hv2.f4
  have hv3 := Bk.store4 hv2 (.int .i64 0) (.int .i64 0) (.int .i64 0) (.string t)
  have hbel3 := below_store4 hbel2 w.heap.size (Nat.le_refl _) (.int .i64 0) (.int .i64 0) (.int .i64 0) (.string t)
  clear hv hv0 hb0 hbel2 hb1 hcon hv2
  go_wp2
  refine bodyPost_ret (results_cell_tmp3 (P := Tryz.prog) rfl _ _ w.heap.size 40 _ (0, 0) _ rfl hv3.held Tryz.underlying40 rfl (by kernel_rfl)) rfl ?_
  exact ⟨_, _, _, _, _, rfl, HOK.out.1, HOK.out.2, hbel3⟩
set_option maxRecDepth 100000 in
set_option maxHeartbeats 3200000 in
theorem l10Op_w0 (s : ByteArray) (w : World) (hs : s.size ≤ 900000) (hneg : ¬ 0 < s.size) :
    Calls Tryz.prog 27 #[.string s] w (JoOp (Jo.opOf (Jo.L s)) w) := by
  rw [Jo.opOf_w (fun e => hneg e.1)]
  obtain ⟨p, ps, HSP, HN, HF, HG, HQ⟩ := Jo.opW_facts s
  obtain ⟨O, HO⟩ : ∃ O, Hid (Jo.opW (Jo.L s) = O) := ⟨_, Lib.hid rfl⟩
  rw [HO.out] at HN HF HG ⊢
  have hx0 : ∀ h : 0 < s.size, ((s[0]'h).toNat : Int) = En.byt s 0 := fun h => En.byt_eq _ _ h
  have q1 : decide ((0 : Int) < (s.size : Int)) = false := decide_eq_false (by omega)
  have q1b : decide (0 < s.size) = false := decide_eq_false hneg
  obtain ⟨x0, HX0⟩ : ∃ x, Hid (En.byt s 0 = x) := ⟨_, Lib.hid rfl⟩
  try rw [HX0.out] at q3
  simp only [HX0.out] at hx0
  have hcon := fun W => l10Split_any s 58 W hs (by decide) (by decide)
  rw [HSP.out] at hcon
  have hcon2 := l10Names_any
  have hv0 : Bk w.heap.size 40 #[.int .i64 0, .int .i64 0, .int .i64 0, .string ⟨#[]⟩] (w.alloc (.cells #[.int .i64 0, .int .i64 0, .int .i64 0, .string ⟨#[]⟩] 40 (0, 0))) := Bk.new _ _ _
  have hb0 : Below w.heap.size w (w.alloc (.cells #[.int .i64 0, .int .i64 0, .int .i64 0, .string ⟨#[]⟩] 40 (0, 0))) := (Below.refl _ _).alloc (Nat.le_refl _) _
  clear HX0
  go_enter Tryz.func27, Tryz.ntmps27
  go_wp2_with fail
  refine (hcon _).mono ?_
  rintro e1 w1 ⟨B, cap, rfl, hB0, hB1, hpc, hb1⟩
  have hv1 := hv0.below hb1
  have hbel1 := below_aft9 hb0 hb1
  go_wp2_with fail
  refine (hcon2 _).mono ?_
  rintro e2 w2 ⟨rfl, hnc, hN1, hb2⟩
  have hv2 := hv1.below hb2
  have hbel2 := below_aft9 hbel1 hb2
  have HPC : Hid (∀ j, j < (p :: ps).length → w2.cell? ⟨B, j, none⟩ = some (.string (strOfNums ((p :: ps).getD j [])))) := Lib.hid fun j hj => (below_cell9 hb2 hB1 j).trans (hpc j hj)
  have HNC := Lib.hid hnc
  have hB2 : B < w2.heap.size := Nat.lt_of_lt_of_le hB1 hb2.size
  obtain ⟨N, HNN⟩ : ∃ N, Hid (w1.heap.size = N) := ⟨_, Lib.hid rfl⟩
  rw [HNN.out] at hN1 HNC ⊢
  have HV2 := Lib.hid hv2
  have HBEL2 := Lib.hid hbel2
  clear hpc hnc hv0 hb0 hv1 hbel1 hv2 hbel2 hb1 hb2 hcon hcon2 hB0 hB1
  go_wp2
  go_loopw [8] (fun i wr => ∃ k : Nat, 1 ≤ k ∧ k ≤ 15 ∧ i = .int .i64 (k : Int) ∧ Hid (∀ j, 1 ≤ j → j < k → Jo.name j ≠ p) ∧ Below w2.heap.size w2 wr)
    (fun i _ => 15 - (intOf i).toNat)
  case atStart => exact ⟨1, by omega, by omega, rfl, Lib.hid fun j h1 h2 => by omega, Below.refl _ _⟩
  case round =>
    obtain ⟨k, k1, k15, rfl, HK, hbr⟩ := hrel
    have hvr := HV2.out.below hbr
    have hbel := below_aft9 HBEL2.out hbr
    by_cases hlt : k < 15
    · have hnk := (below_cell9 hbr hN1 k).trans (HNC.out k hlt)
      have hp0 := (below_cell9 hbr hB2 0).trans (HPC.out 0 (by simp))
      simp only [List.getD_cons_zero] at hp0
      by_cases hnp : Jo.name k = p
      · have hbs := hbr.size
        have hb3 : Below w2.heap.size w2 ((wr.alloc (.cells #[.int .i64 (k : Int), .int .i64 0, .int .i64 0, .string ⟨#[]⟩] 40 (0, 0))).drew) := (hbr.alloc hbs _).drew
        have hbel3 := below_aft9 HBEL2.out hb3
        have hvr3 : Bk w.heap.size 40 #[.int .i64 0, .int .i64 0, .int .i64 0, .string ⟨#[]⟩] ((wr.alloc (.cells #[.int .i64 (k : Int), .int .i64 0, .int .i64 0, .string ⟨#[]⟩] 40 (0, 0))).drew) := (hvr.alloc _).drew
        have hx3 : Bk wr.heap.size 40 #[.int .i64 (k : Int), .int .i64 0, .int .i64 0, .string ⟨#[]⟩] ((wr.alloc (.cells #[.int .i64 (k : Int), .int .i64 0, .int .i64 0, .string ⟨#[]⟩] 40 (0, 0))).drew) := (Bk.new wr 40 _).drew
        have hvr2 : Bk w.heap.size 40 #[.int .i64 0, .int .i64 0, .int .i64 0, .string ⟨#[]⟩] (wr.alloc (.cells #[.int .i64 (k : Int), .int .i64 0, .int .i64 0, .string ⟨#[]⟩] 40 (0, 0))) := hvr.alloc _
        obtain ⟨a0, a1, a2, a3⟩ := Bk.c4 hvr2
        obtain ⟨b0, b1, b2, b3⟩ := hvr2.f4
        obtain ⟨d0, d1, d2, d3⟩ := Bk.c4 hvr
        obtain ⟨e0, e1', e2', e3⟩ := hvr.f4
        clear hvr2
        have hne : w.heap.size ≠ wr.heap.size := by have := hvr.lt; omega
        have HCP : Hid (∀ j, j < (p :: ps).length → ((wr.alloc (.cells #[.int .i64 (k : Int), .int .i64 0, .int .i64 0, .string ⟨#[]⟩] 40 (0, 0))).drew).cell? ⟨B, j, none⟩ = some (.string (strOfNums ((p :: ps).getD j [])))) := Lib.hid fun j hj => (below_cell9 hb3 hB2 j).trans (HPC.out j hj)
        rw [hnp] at hnk
        have hqq : ((strOfNums p).toList == (strOfNums p).toList) = true := by simp
        by_cases k12 : k = 12
        · have q12 : ((k : Int) == 12) = true := by simp; omega
          have q13 : ((k : Int) == 13) = false := by simp; omega
          have q14 : ((k : Int) == 14) = false := by simp; omega
          have HK12 := Lib.hid k12
          have ha : Jo.args k = 2 := by unfold Jo.args; rw [if_pos k12]
          clear k12
          by_cases hl : ps.length = Jo.args k
          · have HO9 : Hid (O = some ⟨(k : Int), Jo.num (ps.getD 0 []), Jo.num (ps.getD 1 []), ⟨#[]⟩⟩) := Lib.hid (by rw [HF.out k k1 hlt hnp hl]; unfold Jo.argn; rw [ha]; rfl)
            rw [ha] at hl
            have hl1 : (((ps.length : Int) + 1) != 3) = false := by simp; omega
            have hl2 : (1 : Int) < (ps.length : Int) + 1 := by omega
            have hl3 : (2 : Int) < (ps.length : Int) + 1 := by omega
            obtain ⟨x0', x1', x2', x3'⟩ := Bk.c4 hx3
            obtain ⟨y0', y1', y2', y3'⟩ := hx3.f4
            have hp1 := HCP.out 1 (by simp; omega)
            have hp2 := HPC.out 2 (by simp; omega)
            rw [List.getD_cons_succ] at hp1 hp2
            have hq1 := HQ.out (ps.getD 0 []) (List.mem_cons_of_mem _ (by rw [List.getD_eq_getElem?_getD, List.getElem?_eq_getElem (by omega)]; exact List.getElem_mem _))
            have hnum1 := fun W => l10Num_any (strOfNums (ps.getD 0 [])) W (by rw [Jo.str_size _ hq1.1]; omega)
            rw [Jo.L_str _ hq1.1] at hnum1
            clear hq1
            have hq2 := HQ.out (ps.getD 1 []) (List.mem_cons_of_mem _ (by rw [List.getD_eq_getElem?_getD, List.getElem?_eq_getElem (by omega)]; exact List.getElem_mem _))
            have hnum2 := fun W => l10Num_any (strOfNums (ps.getD 1 [])) W (by rw [Jo.str_size _ hq2.1]; omega)
            rw [Jo.L_str _ hq2.1] at hnum2
            clear hq2
            obtain ⟨q, HQ1⟩ : ∃ q, Hid (ps.getD 0 [] = q) := ⟨_, Lib.hid rfl⟩
            obtain ⟨r, HR1⟩ : ∃ q, Hid (ps.getD 1 [] = q) := ⟨_, Lib.hid rfl⟩
            rw [HQ1.out] at hp1 hnum1 HO9
            rw [HR1.out] at hp2 hnum2 HO9
            obtain ⟨v, HV⟩ : ∃ v, Hid (Jo.num q = v) := ⟨_, Lib.hid rfl⟩
            obtain ⟨u, HU⟩ : ∃ v, Hid (Jo.num r = v) := ⟨_, Lib.hid rfl⟩
            rw [HV.out, HU.out] at HO9
            simp only [HV.out] at hnum1
            simp only [HU.out] at hnum2
            have hb5 : Below w2.heap.size w2 (wr.alloc (.cells #[.int .i64 (k : Int), .int .i64 v, .int .i64 0, .string ⟨#[]⟩] 40 (0, 0))) := hbr.alloc hbs _
            have hp5 := (below_cell9 hb5 hB2 2).trans hp2
            have hp6 := (below_cell9 hb5.drew hB2 2).trans hp2
            have hy5 : Bk wr.heap.size 40 #[.int .i64 (k : Int), .int .i64 v, .int .i64 0, .string ⟨#[]⟩] (wr.alloc (.cells #[.int .i64 (k : Int), .int .i64 v, .int .i64 0, .string ⟨#[]⟩] 40 (0, 0))) := Bk.new wr 40 _
            obtain ⟨m0, m1, m2, m3⟩ := Bk.c4 hy5
            obtain ⟨n0, n1, n2, n3⟩ := hy5.f4
            obtain ⟨o0, o1, o2, o3⟩ := Bk.c4 hy5.drew
            obtain ⟨r0, r1, r2, r3⟩ := hy5.drew.f4
            have hvr5 : Bk w.heap.size 40 #[.int .i64 0, .int .i64 0, .int .i64 0, .string ⟨#[]⟩] (wr.alloc (.cells #[.int .i64 (k : Int), .int .i64 v, .int .i64 u, .string ⟨#[]⟩] 40 (0, 0))) := hvr.alloc _
            have hvr4 : Bk w.heap.size 40 #[.int .i64 0, .int .i64 0, .int .i64 0, .string ⟨#[]⟩] (wr.alloc (.cells #[.int .i64 (k : Int), .int .i64 v, .int .i64 u, .string ⟨#[]⟩] 40 (0, 0))).drew := hvr5.drew
            have hbel4 : Below w.heap.size w (wr.alloc (.cells #[.int .i64 (k : Int), .int .i64 v, .int .i64 u, .string ⟨#[]⟩] 40 (0, 0))).drew := (hbel.alloc hbel.size _).drew
            have hx5 : Bk wr.heap.size 40 #[.int .i64 (k : Int), .int .i64 v, .int .i64 u, .string ⟨#[]⟩] (wr.alloc (.cells #[.int .i64 (k : Int), .int .i64 v, .int .i64 u, .string ⟨#[]⟩] 40 (0, 0))) := Bk.new wr 40 _
            have hx4 := hx5.drew
            obtain ⟨g0, g1, g2, g3⟩ := Bk.c4 hvr5
            obtain ⟨j0, j1, j2, j3⟩ := hvr5.f4
            obtain ⟨l0, l1, l2, l3⟩ := Bk.c4 hx5
            obtain ⟨z0', z1', z2', z3'⟩ := Bk.c4 hx4
            clear hvr5 hx5 hy5 hb5
            obtain ⟨c0, c1, c2, c3⟩ := Bk.c4 hvr4
            obtain ⟨f0, f1, f2, f3⟩ := hvr4.f4
            have hv9 := Bk.store4 hvr4 (.int .i64 (k : Int)) (.int .i64 v) (.int .i64 u) (.string ⟨#[]⟩)
            have hbel9 := below_store4 hbel4 w.heap.size (Nat.le_refl _) (.int .i64 (k : Int)) (.int .i64 v) (.int .i64 u) (.string ⟨#[]⟩)
            clear hvr hbel hbr hvr3 hbel3 hx3 hx4 hvr4 hbel4
            go_wp2
            go_region
            go_wp2_with fail
            refine (hnum1 _).mono ?_
            rintro e1 w7 ⟨rfl, rfl⟩
            go_wp2_with fail
            refine (hnum2 _).mono ?_
            rintro e2 w8 ⟨rfl, rfl⟩
            go_wp2
            try simp only [Exit.inBlock, Exit.then]
            refine bodyPost_ret (results_cell_tmp3 (P := Tryz.prog) rfl _ _ w.heap.size 40 _ (0, 0) _ rfl hv9.held Tryz.underlying40 rfl (by kernel_rfl)) rfl ?_
            exact ⟨_, _, _, _, _, rfl, (fun _ => HO9.out), (fun h => by cases h), hbel9⟩
          · have HO9 : Hid (O = none) := Lib.hid (HG.out k k1 hlt hnp hl)
            rw [ha] at hl
            have hl1 : (((ps.length : Int) + 1) != 3) = true := by simp; omega
            obtain ⟨x0', x1', x2', x3'⟩ := Bk.c4 hx3
            obtain ⟨c0, c1, c2, c3⟩ := Bk.c4 hvr3
            obtain ⟨f0, f1, f2, f3⟩ := hvr3.f4
            have hv9 := Bk.store4 hvr3 (.int .i64 (k : Int)) (.int .i64 0) (.int .i64 0) (.string ⟨#[]⟩)
            have hbel9 := below_store4 hbel3 w.heap.size (Nat.le_refl _) (.int .i64 (k : Int)) (.int .i64 0) (.int .i64 0) (.string ⟨#[]⟩)
            clear hvr hbel hbr hvr3 hbel3 hx3
            go_wp2
            go_region
            go_wp2
            try simp only [Exit.inBlock, Exit.then]
            refine bodyPost_ret (results_cell_tmp3 (P := Tryz.prog) rfl _ _ w.heap.size 40 _ (0, 0) _ rfl hv9.held Tryz.underlying40 rfl (by kernel_rfl)) rfl ?_
            exact ⟨_, _, _, _, _, rfl, (fun h => by cases h), (fun _ => HO9.out), hbel9⟩
        by_cases k134 : k = 13 ∨ k = 14
        · have q12 : ((k : Int) == 12) = false := by simp; omega
          have HK12 := Lib.hid k12
          have HK134 := Lib.hid k134
          by_cases k13 : k = 13
          · have q13 : ((k : Int) == 13) = true := by simp; omega
            clear k12 k13 k134
            have ha : Jo.args k = 1 := by unfold Jo.args; rw [if_neg HK12.out, if_pos HK134.out]
            by_cases hl : ps.length = Jo.args k
            · have HO9 : Hid (O = some ⟨(k : Int), Jo.num (ps.getD 0 []), 0, ⟨#[]⟩⟩) := Lib.hid (by rw [HF.out k k1 hlt hnp hl]; unfold Jo.argn; rw [ha]; rfl)
              rw [ha] at hl
              have hl1 : (((ps.length : Int) + 1) != 2) = false := by simp; omega
              have hl2 : (1 : Int) < (ps.length : Int) + 1 := by omega
              obtain ⟨x0', x1', x2', x3'⟩ := Bk.c4 hx3
              obtain ⟨y0', y1', y2', y3'⟩ := hx3.f4
              have hp1 := HCP.out 1 (by simp; omega)
              rw [List.getD_cons_succ] at hp1
              have hq := HQ.out (ps.getD 0 []) (List.mem_cons_of_mem _ (by rw [List.getD_eq_getElem?_getD, List.getElem?_eq_getElem (by omega)]; exact List.getElem_mem _))
              have hnum := fun W => l10Num_any (strOfNums (ps.getD 0 [])) W (by rw [Jo.str_size _ hq.1]; omega)
              rw [Jo.L_str _ hq.1] at hnum
              clear hq
              obtain ⟨q, HQ1⟩ : ∃ q, Hid (ps.getD 0 [] = q) := ⟨_, Lib.hid rfl⟩
              rw [HQ1.out] at hp1 hnum HO9
              obtain ⟨v, HV⟩ : ∃ v, Hid (Jo.num q = v) := ⟨_, Lib.hid rfl⟩
              rw [HV.out] at HO9
              simp only [HV.out] at hnum
              have hvr5 : Bk w.heap.size 40 #[.int .i64 0, .int .i64 0, .int .i64 0, .string ⟨#[]⟩] (wr.alloc (.cells #[.int .i64 (k : Int), .int .i64 v, .int .i64 0, .string ⟨#[]⟩] 40 (0, 0))) := hvr.alloc _
              have hvr4 : Bk w.heap.size 40 #[.int .i64 0, .int .i64 0, .int .i64 0, .string ⟨#[]⟩] (wr.alloc (.cells #[.int .i64 (k : Int), .int .i64 v, .int .i64 0, .string ⟨#[]⟩] 40 (0, 0))).drew := hvr5.drew
              have hbel4 : Below w.heap.size w (wr.alloc (.cells #[.int .i64 (k : Int), .int .i64 v, .int .i64 0, .string ⟨#[]⟩] 40 (0, 0))).drew := (hbel.alloc hbel.size _).drew
              have hx5 : Bk wr.heap.size 40 #[.int .i64 (k : Int), .int .i64 v, .int .i64 0, .string ⟨#[]⟩] (wr.alloc (.cells #[.int .i64 (k : Int), .int .i64 v, .int .i64 0, .string ⟨#[]⟩] 40 (0, 0))) := Bk.new wr 40 _
              have hx4 := hx5.drew
              obtain ⟨g0, g1, g2, g3⟩ := Bk.c4 hvr5
              obtain ⟨j0, j1, j2, j3⟩ := hvr5.f4
              obtain ⟨l0, l1, l2, l3⟩ := Bk.c4 hx5
              clear hvr5 hx5
              obtain ⟨z0', z1', z2', z3'⟩ := Bk.c4 hx4
              obtain ⟨c0, c1, c2, c3⟩ := Bk.c4 hvr4
              obtain ⟨f0, f1, f2, f3⟩ := hvr4.f4
              have hv9 := Bk.store4 hvr4 (.int .i64 (k : Int)) (.int .i64 v) (.int .i64 0) (.string ⟨#[]⟩)
              have hbel9 := below_store4 hbel4 w.heap.size (Nat.le_refl _) (.int .i64 (k : Int)) (.int .i64 v) (.int .i64 0) (.string ⟨#[]⟩)
              clear hvr hbel hbr hvr3 hbel3 hx3 hx4 hvr4 hbel4
              go_wp2
              go_region
              go_wp2_with fail
              refine (hnum _).mono ?_
              rintro e9 w9 ⟨rfl, rfl⟩
              go_wp2
              try simp only [Exit.inBlock, Exit.then]
              refine bodyPost_ret (results_cell_tmp3 (P := Tryz.prog) rfl _ _ w.heap.size 40 _ (0, 0) _ rfl hv9.held Tryz.underlying40 rfl (by kernel_rfl)) rfl ?_
              exact ⟨_, _, _, _, _, rfl, (fun _ => HO9.out), (fun h => by cases h), hbel9⟩
            · have HO9 : Hid (O = none) := Lib.hid (HG.out k k1 hlt hnp hl)
              rw [ha] at hl
              have hl1 : (((ps.length : Int) + 1) != 2) = true := by simp; omega
              obtain ⟨x0', x1', x2', x3'⟩ := Bk.c4 hx3
              obtain ⟨c0, c1, c2, c3⟩ := Bk.c4 hvr3
              obtain ⟨f0, f1, f2, f3⟩ := hvr3.f4
              have hv9 := Bk.store4 hvr3 (.int .i64 (k : Int)) (.int .i64 0) (.int .i64 0) (.string ⟨#[]⟩)
              have hbel9 := below_store4 hbel3 w.heap.size (Nat.le_refl _) (.int .i64 (k : Int)) (.int .i64 0) (.int .i64 0) (.string ⟨#[]⟩)
              clear hvr hbel hbr hvr3 hbel3 hx3
              go_wp2
              go_region
              go_wp2
              try simp only [Exit.inBlock, Exit.then]
              refine bodyPost_ret (results_cell_tmp3 (P := Tryz.prog) rfl _ _ w.heap.size 40 _ (0, 0) _ rfl hv9.held Tryz.underlying40 rfl (by kernel_rfl)) rfl ?_
              exact ⟨_, _, _, _, _, rfl, (fun h => by cases h), (fun _ => HO9.out), hbel9⟩
          · have q13 : ((k : Int) == 13) = false := by simp; omega
            have q14 : ((k : Int) == 14) = true := by simp; omega
            have ha : Jo.args k = 1 := by unfold Jo.args; rw [if_neg HK12.out, if_pos HK134.out]
            by_cases hl : ps.length = Jo.args k
            · have HO9 : Hid (O = some ⟨(k : Int), Jo.num (ps.getD 0 []), 0, ⟨#[]⟩⟩) := Lib.hid (by rw [HF.out k k1 hlt hnp hl]; unfold Jo.argn; rw [ha]; rfl)
              rw [ha] at hl
              have hl1 : (((ps.length : Int) + 1) != 2) = false := by simp; omega
              have hl2 : (1 : Int) < (ps.length : Int) + 1 := by omega
              obtain ⟨x0', x1', x2', x3'⟩ := Bk.c4 hx3
              obtain ⟨y0', y1', y2', y3'⟩ := hx3.f4
              have hp1 := HCP.out 1 (by simp; omega)
              rw [List.getD_cons_succ] at hp1
              have hq := HQ.out (ps.getD 0 []) (List.mem_cons_of_mem _ (by rw [List.getD_eq_getElem?_getD, List.getElem?_eq_getElem (by omega)]; exact List.getElem_mem _))
              have hnum := fun W => l10Num_any (strOfNums (ps.getD 0 [])) W (by rw [Jo.str_size _ hq.1]; omega)
              rw [Jo.L_str _ hq.1] at hnum
              clear hq
              obtain ⟨q, HQ1⟩ : ∃ q, Hid (ps.getD 0 [] = q) := ⟨_, Lib.hid rfl⟩
              rw [HQ1.out] at hp1 hnum HO9
              obtain ⟨v, HV⟩ : ∃ v, Hid (Jo.num q = v) := ⟨_, Lib.hid rfl⟩
              rw [HV.out] at HO9
              simp only [HV.out] at hnum
              have hvr5 : Bk w.heap.size 40 #[.int .i64 0, .int .i64 0, .int .i64 0, .string ⟨#[]⟩] (wr.alloc (.cells #[.int .i64 (k : Int), .int .i64 v, .int .i64 0, .string ⟨#[]⟩] 40 (0, 0))) := hvr.alloc _
              have hvr4 : Bk w.heap.size 40 #[.int .i64 0, .int .i64 0, .int .i64 0, .string ⟨#[]⟩] (wr.alloc (.cells #[.int .i64 (k : Int), .int .i64 v, .int .i64 0, .string ⟨#[]⟩] 40 (0, 0))).drew := hvr5.drew
              have hbel4 : Below w.heap.size w (wr.alloc (.cells #[.int .i64 (k : Int), .int .i64 v, .int .i64 0, .string ⟨#[]⟩] 40 (0, 0))).drew := (hbel.alloc hbel.size _).drew
              have hx5 : Bk wr.heap.size 40 #[.int .i64 (k : Int), .int .i64 v, .int .i64 0, .string ⟨#[]⟩] (wr.alloc (.cells #[.int .i64 (k : Int), .int .i64 v, .int .i64 0, .string ⟨#[]⟩] 40 (0, 0))) := Bk.new wr 40 _
              have hx4 := hx5.drew
              obtain ⟨g0, g1, g2, g3⟩ := Bk.c4 hvr5
              obtain ⟨j0, j1, j2, j3⟩ := hvr5.f4
              obtain ⟨l0, l1, l2, l3⟩ := Bk.c4 hx5
              clear hvr5 hx5
              obtain ⟨z0', z1', z2', z3'⟩ := Bk.c4 hx4
              obtain ⟨c0, c1, c2, c3⟩ := Bk.c4 hvr4
              obtain ⟨f0, f1, f2, f3⟩ := hvr4.f4
              have hv9 := Bk.store4 hvr4 (.int .i64 (k : Int)) (.int .i64 v) (.int .i64 0) (.string ⟨#[]⟩)
              have hbel9 := below_store4 hbel4 w.heap.size (Nat.le_refl _) (.int .i64 (k : Int)) (.int .i64 v) (.int .i64 0) (.string ⟨#[]⟩)
              clear hvr hbel hbr hvr3 hbel3 hx3 hx4 hvr4 hbel4
              go_wp2
              go_region
              go_wp2_with fail
              refine (hnum _).mono ?_
              rintro e9 w9 ⟨rfl, rfl⟩
              go_wp2
              try simp only [Exit.inBlock, Exit.then]
              refine bodyPost_ret (results_cell_tmp3 (P := Tryz.prog) rfl _ _ w.heap.size 40 _ (0, 0) _ rfl hv9.held Tryz.underlying40 rfl (by kernel_rfl)) rfl ?_
              exact ⟨_, _, _, _, _, rfl, (fun _ => HO9.out), (fun h => by cases h), hbel9⟩
            · have HO9 : Hid (O = none) := Lib.hid (HG.out k k1 hlt hnp hl)
              rw [ha] at hl
              have hl1 : (((ps.length : Int) + 1) != 2) = true := by simp; omega
              obtain ⟨x0', x1', x2', x3'⟩ := Bk.c4 hx3
              obtain ⟨c0, c1, c2, c3⟩ := Bk.c4 hvr3
              obtain ⟨f0, f1, f2, f3⟩ := hvr3.f4
              have hv9 := Bk.store4 hvr3 (.int .i64 (k : Int)) (.int .i64 0) (.int .i64 0) (.string ⟨#[]⟩)
              have hbel9 := below_store4 hbel3 w.heap.size (Nat.le_refl _) (.int .i64 (k : Int)) (.int .i64 0) (.int .i64 0) (.string ⟨#[]⟩)
              clear hvr hbel hbr hvr3 hbel3 hx3
              go_wp2
              go_region
              go_wp2
              try simp only [Exit.inBlock, Exit.then]
              refine bodyPost_ret (results_cell_tmp3 (P := Tryz.prog) rfl _ _ w.heap.size 40 _ (0, 0) _ rfl hv9.held Tryz.underlying40 rfl (by kernel_rfl)) rfl ?_
              exact ⟨_, _, _, _, _, rfl, (fun h => by cases h), (fun _ => HO9.out), hbel9⟩
        have q12 : ((k : Int) == 12) = false := by simp; omega
        have q13 : ((k : Int) == 13) = false := by simp; omega
        have q14 : ((k : Int) == 14) = false := by simp; omega
        have ha : Jo.args k = 0 := by unfold Jo.args; rw [if_neg k12, if_neg k134]
        by_cases hl : ps.length = Jo.args k
        · have HO9 : Hid (O = some ⟨(k : Int), 0, 0, ⟨#[]⟩⟩) := Lib.hid (by rw [HF.out k k1 hlt hnp hl]; unfold Jo.argn; rw [ha]; rfl)
          have hl1 : (((ps.length : Int) + 1) != 1) = false := by simp; omega
          obtain ⟨x0', x1', x2', x3'⟩ := Bk.c4 hx3
          obtain ⟨c0, c1, c2, c3⟩ := Bk.c4 hvr3
          obtain ⟨f0, f1, f2, f3⟩ := hvr3.f4
          have hv9 := Bk.store4 hvr3 (.int .i64 (k : Int)) (.int .i64 0) (.int .i64 0) (.string ⟨#[]⟩)
          have hbel9 := below_store4 hbel3 w.heap.size (Nat.le_refl _) (.int .i64 (k : Int)) (.int .i64 0) (.int .i64 0) (.string ⟨#[]⟩)
          clear hvr hbel hbr hvr3 hbel3 hx3
          go_wp2
          go_region
          go_wp2
          try simp only [Exit.inBlock, Exit.then]
          refine bodyPost_ret (results_cell_tmp3 (P := Tryz.prog) rfl _ _ w.heap.size 40 _ (0, 0) _ rfl hv9.held Tryz.underlying40 rfl (by kernel_rfl)) rfl ?_
          exact ⟨_, _, _, _, _, rfl, (fun _ => HO9.out), (fun h => by cases h), hbel9⟩
        · have HO9 : Hid (O = none) := Lib.hid (HG.out k k1 hlt hnp hl)
          have hl1 : (((ps.length : Int) + 1) != 1) = true := by simp; omega
          obtain ⟨x0', x1', x2', x3'⟩ := Bk.c4 hx3
          obtain ⟨c0, c1, c2, c3⟩ := Bk.c4 hvr3
          obtain ⟨f0, f1, f2, f3⟩ := hvr3.f4
          have hv9 := Bk.store4 hvr3 (.int .i64 (k : Int)) (.int .i64 0) (.int .i64 0) (.string ⟨#[]⟩)
          have hbel9 := below_store4 hbel3 w.heap.size (Nat.le_refl _) (.int .i64 (k : Int)) (.int .i64 0) (.int .i64 0) (.string ⟨#[]⟩)
          clear hvr hbel hbr hvr3 hbel3 hx3
          go_wp2
          go_region
          go_wp2
          try simp only [Exit.inBlock, Exit.then]
          refine bodyPost_ret (results_cell_tmp3 (P := Tryz.prog) rfl _ _ w.heap.size 40 _ (0, 0) _ rfl hv9.held Tryz.underlying40 rfl (by kernel_rfl)) rfl ?_
          exact ⟨_, _, _, _, _, rfl, (fun h => by cases h), (fun _ => HO9.out), hbel9⟩
      · have HK2 : Hid (∀ j, 1 ≤ j → j < k + 1 → Jo.name j ≠ p) := Lib.hid fun j h1 h2 => by
          by_cases e : j = k
          · subst e; exact hnp
          · exact HK.out j h1 (by omega)
        obtain ⟨NM, HNM⟩ : ∃ NM, Hid (Jo.name k = NM) := ⟨_, Lib.hid rfl⟩
        have hqq := Jo.str_ne (Jo.name_bd ⟨k, hlt⟩) (fun c hc => (HQ.out p (List.mem_cons_self ..)).1 c hc) hnp
        simp only at hqq
        rw [HNM.out] at hnk hqq
        go_wp2
        go_region
        go_wp2
        go_roundw
        case rel => exact ⟨k + 1, by omega, by omega, by go_num, HK2, hbr.drew⟩
        case measure => simp [intOf]; omega
    · obtain rfl : k = 15 := by omega
      have HNO : Hid (O = none) := Lib.hid (HN.out HK.out)
      obtain ⟨c0, c1, c2, c3⟩ := Bk.c4 hvr
      obtain ⟨f0, f1, f2, f3⟩ := hvr.f4
      have hv3 := Bk.store4 hvr (.int .i64 0) (.int .i64 0) (.int .i64 0) (.string ⟨#[]⟩)
      have hbel3 := below_store4 hbel w.heap.size (Nat.le_refl _) (.int .i64 0) (.int .i64 0) (.int .i64 0) (.string ⟨#[]⟩)
      clear hvr hbel hbr
      go_wp2
      refine bodyPost_ret (results_cell_tmp3 (P := Tryz.prog) rfl _ _ w.heap.size 40 _ (0, 0) _ rfl hv3.held Tryz.underlying40 rfl (by kernel_rfl)) rfl ?_
      exact ⟨_, _, _, _, _, rfl, (fun h => by cases h), (fun _ => HNO.out), hbel3⟩
set_option maxRecDepth 100000 in
set_option maxHeartbeats 3200000 in
theorem l10Op_w1 (s : ByteArray) (w : World) (hs : s.size ≤ 900000) (hpos : 0 < s.size) (h : En.byt s 0 ≠ 120) :
    Calls Tryz.prog 27 #[.string s] w (JoOp (Jo.opOf (Jo.L s)) w) := by
  rw [Jo.opOf_w (fun e => h e.2)]
  obtain ⟨p, ps, HSP, HN, HF, HG, HQ⟩ := Jo.opW_facts s
  obtain ⟨O, HO⟩ : ∃ O, Hid (Jo.opW (Jo.L s) = O) := ⟨_, Lib.hid rfl⟩
  rw [HO.out] at HN HF HG ⊢
  have hx0 : ∀ h : 0 < s.size, ((s[0]'h).toNat : Int) = En.byt s 0 := fun h => En.byt_eq _ _ h
  have q1 : decide ((0 : Int) < (s.size : Int)) = true := decide_eq_true (by omega)
  have q1b : decide (0 < s.size) = true := decide_eq_true hpos
  have q3 : (En.byt s 0 == 120) = false := by simpa using h
  obtain ⟨x0, HX0⟩ : ∃ x, Hid (En.byt s 0 = x) := ⟨_, Lib.hid rfl⟩
  try rw [HX0.out] at q3
  simp only [HX0.out] at hx0
  have hcon := fun W => l10Split_any s 58 W hs (by decide) (by decide)
  rw [HSP.out] at hcon
  have hcon2 := l10Names_any
  have hv0 : Bk w.heap.size 40 #[.int .i64 0, .int .i64 0, .int .i64 0, .string ⟨#[]⟩] (w.alloc (.cells #[.int .i64 0, .int .i64 0, .int .i64 0, .string ⟨#[]⟩] 40 (0, 0))) := Bk.new _ _ _
  have hb0 : Below w.heap.size w (w.alloc (.cells #[.int .i64 0, .int .i64 0, .int .i64 0, .string ⟨#[]⟩] 40 (0, 0))) := (Below.refl _ _).alloc (Nat.le_refl _) _
  clear h HX0
  go_enter Tryz.func27, Tryz.ntmps27
  go_wp2_with fail
  refine (hcon _).mono ?_
  rintro e1 w1 ⟨B, cap, rfl, hB0, hB1, hpc, hb1⟩
  have hv1 := hv0.below hb1
  have hbel1 := below_aft9 hb0 hb1
  go_wp2_with fail
  refine (hcon2 _).mono ?_
  rintro e2 w2 ⟨rfl, hnc, hN1, hb2⟩
  have hv2 := hv1.below hb2
  have hbel2 := below_aft9 hbel1 hb2
  have HPC : Hid (∀ j, j < (p :: ps).length → w2.cell? ⟨B, j, none⟩ = some (.string (strOfNums ((p :: ps).getD j [])))) := Lib.hid fun j hj => (below_cell9 hb2 hB1 j).trans (hpc j hj)
  have HNC := Lib.hid hnc
  have hB2 : B < w2.heap.size := Nat.lt_of_lt_of_le hB1 hb2.size
  obtain ⟨N, HNN⟩ : ∃ N, Hid (w1.heap.size = N) := ⟨_, Lib.hid rfl⟩
  rw [HNN.out] at hN1 HNC ⊢
  have HV2 := Lib.hid hv2
  have HBEL2 := Lib.hid hbel2
  clear hpc hnc hv0 hb0 hv1 hbel1 hv2 hbel2 hb1 hb2 hcon hcon2 hB0 hB1
  go_wp2
  go_loopw [8] (fun i wr => ∃ k : Nat, 1 ≤ k ∧ k ≤ 15 ∧ i = .int .i64 (k : Int) ∧ Hid (∀ j, 1 ≤ j → j < k → Jo.name j ≠ p) ∧ Below w2.heap.size w2 wr)
    (fun i _ => 15 - (intOf i).toNat)
  case atStart => exact ⟨1, by omega, by omega, rfl, Lib.hid fun j h1 h2 => by omega, Below.refl _ _⟩
  case round =>
    obtain ⟨k, k1, k15, rfl, HK, hbr⟩ := hrel
    have hvr := HV2.out.below hbr
    have hbel := below_aft9 HBEL2.out hbr
    by_cases hlt : k < 15
    · have hnk := (below_cell9 hbr hN1 k).trans (HNC.out k hlt)
      have hp0 := (below_cell9 hbr hB2 0).trans (HPC.out 0 (by simp))
      simp only [List.getD_cons_zero] at hp0
      by_cases hnp : Jo.name k = p
      · have hbs := hbr.size
        have hb3 : Below w2.heap.size w2 ((wr.alloc (.cells #[.int .i64 (k : Int), .int .i64 0, .int .i64 0, .string ⟨#[]⟩] 40 (0, 0))).drew) := (hbr.alloc hbs _).drew
        have hbel3 := below_aft9 HBEL2.out hb3
        have hvr3 : Bk w.heap.size 40 #[.int .i64 0, .int .i64 0, .int .i64 0, .string ⟨#[]⟩] ((wr.alloc (.cells #[.int .i64 (k : Int), .int .i64 0, .int .i64 0, .string ⟨#[]⟩] 40 (0, 0))).drew) := (hvr.alloc _).drew
        have hx3 : Bk wr.heap.size 40 #[.int .i64 (k : Int), .int .i64 0, .int .i64 0, .string ⟨#[]⟩] ((wr.alloc (.cells #[.int .i64 (k : Int), .int .i64 0, .int .i64 0, .string ⟨#[]⟩] 40 (0, 0))).drew) := (Bk.new wr 40 _).drew
        have hvr2 : Bk w.heap.size 40 #[.int .i64 0, .int .i64 0, .int .i64 0, .string ⟨#[]⟩] (wr.alloc (.cells #[.int .i64 (k : Int), .int .i64 0, .int .i64 0, .string ⟨#[]⟩] 40 (0, 0))) := hvr.alloc _
        obtain ⟨a0, a1, a2, a3⟩ := Bk.c4 hvr2
        obtain ⟨b0, b1, b2, b3⟩ := hvr2.f4
        obtain ⟨d0, d1, d2, d3⟩ := Bk.c4 hvr
        obtain ⟨e0, e1', e2', e3⟩ := hvr.f4
        clear hvr2
        have hne : w.heap.size ≠ wr.heap.size := by have := hvr.lt; omega
        have HCP : Hid (∀ j, j < (p :: ps).length → ((wr.alloc (.cells #[.int .i64 (k : Int), .int .i64 0, .int .i64 0, .string ⟨#[]⟩] 40 (0, 0))).drew).cell? ⟨B, j, none⟩ = some (.string (strOfNums ((p :: ps).getD j [])))) := Lib.hid fun j hj => (below_cell9 hb3 hB2 j).trans (HPC.out j hj)
        rw [hnp] at hnk
        have hqq : ((strOfNums p).toList == (strOfNums p).toList) = true := by simp
        by_cases k12 : k = 12
        · have q12 : ((k : Int) == 12) = true := by simp; omega
          have q13 : ((k : Int) == 13) = false := by simp; omega
          have q14 : ((k : Int) == 14) = false := by simp; omega
          have HK12 := Lib.hid k12
          have ha : Jo.args k = 2 := by unfold Jo.args; rw [if_pos k12]
          clear k12
          by_cases hl : ps.length = Jo.args k
          · have HO9 : Hid (O = some ⟨(k : Int), Jo.num (ps.getD 0 []), Jo.num (ps.getD 1 []), ⟨#[]⟩⟩) := Lib.hid (by rw [HF.out k k1 hlt hnp hl]; unfold Jo.argn; rw [ha]; rfl)
            rw [ha] at hl
            have hl1 : (((ps.length : Int) + 1) != 3) = false := by simp; omega
            have hl2 : (1 : Int) < (ps.length : Int) + 1 := by omega
            have hl3 : (2 : Int) < (ps.length : Int) + 1 := by omega
            obtain ⟨x0', x1', x2', x3'⟩ := Bk.c4 hx3
            obtain ⟨y0', y1', y2', y3'⟩ := hx3.f4
            have hp1 := HCP.out 1 (by simp; omega)
            have hp2 := HPC.out 2 (by simp; omega)
            rw [List.getD_cons_succ] at hp1 hp2
            have hq1 := HQ.out (ps.getD 0 []) (List.mem_cons_of_mem _ (by rw [List.getD_eq_getElem?_getD, List.getElem?_eq_getElem (by omega)]; exact List.getElem_mem _))
            have hnum1 := fun W => l10Num_any (strOfNums (ps.getD 0 [])) W (by rw [Jo.str_size _ hq1.1]; omega)
            rw [Jo.L_str _ hq1.1] at hnum1
            clear hq1
            have hq2 := HQ.out (ps.getD 1 []) (List.mem_cons_of_mem _ (by rw [List.getD_eq_getElem?_getD, List.getElem?_eq_getElem (by omega)]; exact List.getElem_mem _))
            have hnum2 := fun W => l10Num_any (strOfNums (ps.getD 1 [])) W (by rw [Jo.str_size _ hq2.1]; omega)
            rw [Jo.L_str _ hq2.1] at hnum2
            clear hq2
            obtain ⟨q, HQ1⟩ : ∃ q, Hid (ps.getD 0 [] = q) := ⟨_, Lib.hid rfl⟩
            obtain ⟨r, HR1⟩ : ∃ q, Hid (ps.getD 1 [] = q) := ⟨_, Lib.hid rfl⟩
            rw [HQ1.out] at hp1 hnum1 HO9
            rw [HR1.out] at hp2 hnum2 HO9
            obtain ⟨v, HV⟩ : ∃ v, Hid (Jo.num q = v) := ⟨_, Lib.hid rfl⟩
            obtain ⟨u, HU⟩ : ∃ v, Hid (Jo.num r = v) := ⟨_, Lib.hid rfl⟩
            rw [HV.out, HU.out] at HO9
            simp only [HV.out] at hnum1
            simp only [HU.out] at hnum2
            have hb5 : Below w2.heap.size w2 (wr.alloc (.cells #[.int .i64 (k : Int), .int .i64 v, .int .i64 0, .string ⟨#[]⟩] 40 (0, 0))) := hbr.alloc hbs _
            have hp5 := (below_cell9 hb5 hB2 2).trans hp2
            have hp6 := (below_cell9 hb5.drew hB2 2).trans hp2
            have hy5 : Bk wr.heap.size 40 #[.int .i64 (k : Int), .int .i64 v, .int .i64 0, .string ⟨#[]⟩] (wr.alloc (.cells #[.int .i64 (k : Int), .int .i64 v, .int .i64 0, .string ⟨#[]⟩] 40 (0, 0))) := Bk.new wr 40 _
            obtain ⟨m0, m1, m2, m3⟩ := Bk.c4 hy5
            obtain ⟨n0, n1, n2, n3⟩ := hy5.f4
            obtain ⟨o0, o1, o2, o3⟩ := Bk.c4 hy5.drew
            obtain ⟨r0, r1, r2, r3⟩ := hy5.drew.f4
            have hvr5 : Bk w.heap.size 40 #[.int .i64 0, .int .i64 0, .int .i64 0, .string ⟨#[]⟩] (wr.alloc (.cells #[.int .i64 (k : Int), .int .i64 v, .int .i64 u, .string ⟨#[]⟩] 40 (0, 0))) := hvr.alloc _
            have hvr4 : Bk w.heap.size 40 #[.int .i64 0, .int .i64 0, .int .i64 0, .string ⟨#[]⟩] (wr.alloc (.cells #[.int .i64 (k : Int), .int .i64 v, .int .i64 u, .string ⟨#[]⟩] 40 (0, 0))).drew := hvr5.drew
            have hbel4 : Below w.heap.size w (wr.alloc (.cells #[.int .i64 (k : Int), .int .i64 v, .int .i64 u, .string ⟨#[]⟩] 40 (0, 0))).drew := (hbel.alloc hbel.size _).drew
            have hx5 : Bk wr.heap.size 40 #[.int .i64 (k : Int), .int .i64 v, .int .i64 u, .string ⟨#[]⟩] (wr.alloc (.cells #[.int .i64 (k : Int), .int .i64 v, .int .i64 u, .string ⟨#[]⟩] 40 (0, 0))) := Bk.new wr 40 _
            have hx4 := hx5.drew
            obtain ⟨g0, g1, g2, g3⟩ := Bk.c4 hvr5
            obtain ⟨j0, j1, j2, j3⟩ := hvr5.f4
            obtain ⟨l0, l1, l2, l3⟩ := Bk.c4 hx5
            obtain ⟨z0', z1', z2', z3'⟩ := Bk.c4 hx4
            clear hvr5 hx5 hy5 hb5
            obtain ⟨c0, c1, c2, c3⟩ := Bk.c4 hvr4
            obtain ⟨f0, f1, f2, f3⟩ := hvr4.f4
            have hv9 := Bk.store4 hvr4 (.int .i64 (k : Int)) (.int .i64 v) (.int .i64 u) (.string ⟨#[]⟩)
            have hbel9 := below_store4 hbel4 w.heap.size (Nat.le_refl _) (.int .i64 (k : Int)) (.int .i64 v) (.int .i64 u) (.string ⟨#[]⟩)
            clear hvr hbel hbr hvr3 hbel3 hx3 hx4 hvr4 hbel4
            go_wp2
            go_region
            go_wp2_with fail
            refine (hnum1 _).mono ?_
            rintro e1 w7 ⟨rfl, rfl⟩
            go_wp2_with fail
            refine (hnum2 _).mono ?_
            rintro e2 w8 ⟨rfl, rfl⟩
            go_wp2
            try simp only [Exit.inBlock, Exit.then]
            refine bodyPost_ret (results_cell_tmp3 (P := Tryz.prog) rfl _ _ w.heap.size 40 _ (0, 0) _ rfl hv9.held Tryz.underlying40 rfl (by kernel_rfl)) rfl ?_
            exact ⟨_, _, _, _, _, rfl, (fun _ => HO9.out), (fun h => by cases h), hbel9⟩
          · have HO9 : Hid (O = none) := Lib.hid (HG.out k k1 hlt hnp hl)
            rw [ha] at hl
            have hl1 : (((ps.length : Int) + 1) != 3) = true := by simp; omega
            obtain ⟨x0', x1', x2', x3'⟩ := Bk.c4 hx3
            obtain ⟨c0, c1, c2, c3⟩ := Bk.c4 hvr3
            obtain ⟨f0, f1, f2, f3⟩ := hvr3.f4
            have hv9 := Bk.store4 hvr3 (.int .i64 (k : Int)) (.int .i64 0) (.int .i64 0) (.string ⟨#[]⟩)
            have hbel9 := below_store4 hbel3 w.heap.size (Nat.le_refl _) (.int .i64 (k : Int)) (.int .i64 0) (.int .i64 0) (.string ⟨#[]⟩)
            clear hvr hbel hbr hvr3 hbel3 hx3
            go_wp2
            go_region
            go_wp2
            try simp only [Exit.inBlock, Exit.then]
            refine bodyPost_ret (results_cell_tmp3 (P := Tryz.prog) rfl _ _ w.heap.size 40 _ (0, 0) _ rfl hv9.held Tryz.underlying40 rfl (by kernel_rfl)) rfl ?_
            exact ⟨_, _, _, _, _, rfl, (fun h => by cases h), (fun _ => HO9.out), hbel9⟩
        by_cases k134 : k = 13 ∨ k = 14
        · have q12 : ((k : Int) == 12) = false := by simp; omega
          have HK12 := Lib.hid k12
          have HK134 := Lib.hid k134
          by_cases k13 : k = 13
          · have q13 : ((k : Int) == 13) = true := by simp; omega
            clear k12 k13 k134
            have ha : Jo.args k = 1 := by unfold Jo.args; rw [if_neg HK12.out, if_pos HK134.out]
            by_cases hl : ps.length = Jo.args k
            · have HO9 : Hid (O = some ⟨(k : Int), Jo.num (ps.getD 0 []), 0, ⟨#[]⟩⟩) := Lib.hid (by rw [HF.out k k1 hlt hnp hl]; unfold Jo.argn; rw [ha]; rfl)
              rw [ha] at hl
              have hl1 : (((ps.length : Int) + 1) != 2) = false := by simp; omega
              have hl2 : (1 : Int) < (ps.length : Int) + 1 := by omega
              obtain ⟨x0', x1', x2', x3'⟩ := Bk.c4 hx3
              obtain ⟨y0', y1', y2', y3'⟩ := hx3.f4
              have hp1 := HCP.out 1 (by simp; omega)
              rw [List.getD_cons_succ] at hp1
              have hq := HQ.out (ps.getD 0 []) (List.mem_cons_of_mem _ (by rw [List.getD_eq_getElem?_getD, List.getElem?_eq_getElem (by omega)]; exact List.getElem_mem _))
              have hnum := fun W => l10Num_any (strOfNums (ps.getD 0 [])) W (by rw [Jo.str_size _ hq.1]; omega)
              rw [Jo.L_str _ hq.1] at hnum
              clear hq
              obtain ⟨q, HQ1⟩ : ∃ q, Hid (ps.getD 0 [] = q) := ⟨_, Lib.hid rfl⟩
              rw [HQ1.out] at hp1 hnum HO9
              obtain ⟨v, HV⟩ : ∃ v, Hid (Jo.num q = v) := ⟨_, Lib.hid rfl⟩
              rw [HV.out] at HO9
              simp only [HV.out] at hnum
              have hvr5 : Bk w.heap.size 40 #[.int .i64 0, .int .i64 0, .int .i64 0, .string ⟨#[]⟩] (wr.alloc (.cells #[.int .i64 (k : Int), .int .i64 v, .int .i64 0, .string ⟨#[]⟩] 40 (0, 0))) := hvr.alloc _
              have hvr4 : Bk w.heap.size 40 #[.int .i64 0, .int .i64 0, .int .i64 0, .string ⟨#[]⟩] (wr.alloc (.cells #[.int .i64 (k : Int), .int .i64 v, .int .i64 0, .string ⟨#[]⟩] 40 (0, 0))).drew := hvr5.drew
              have hbel4 : Below w.heap.size w (wr.alloc (.cells #[.int .i64 (k : Int), .int .i64 v, .int .i64 0, .string ⟨#[]⟩] 40 (0, 0))).drew := (hbel.alloc hbel.size _).drew
              have hx5 : Bk wr.heap.size 40 #[.int .i64 (k : Int), .int .i64 v, .int .i64 0, .string ⟨#[]⟩] (wr.alloc (.cells #[.int .i64 (k : Int), .int .i64 v, .int .i64 0, .string ⟨#[]⟩] 40 (0, 0))) := Bk.new wr 40 _
              have hx4 := hx5.drew
              obtain ⟨g0, g1, g2, g3⟩ := Bk.c4 hvr5
              obtain ⟨j0, j1, j2, j3⟩ := hvr5.f4
              obtain ⟨l0, l1, l2, l3⟩ := Bk.c4 hx5
              clear hvr5 hx5
              obtain ⟨z0', z1', z2', z3'⟩ := Bk.c4 hx4
              obtain ⟨c0, c1, c2, c3⟩ := Bk.c4 hvr4
              obtain ⟨f0, f1, f2, f3⟩ := hvr4.f4
              have hv9 := Bk.store4 hvr4 (.int .i64 (k : Int)) (.int .i64 v) (.int .i64 0) (.string ⟨#[]⟩)
              have hbel9 := below_store4 hbel4 w.heap.size (Nat.le_refl _) (.int .i64 (k : Int)) (.int .i64 v) (.int .i64 0) (.string ⟨#[]⟩)
              clear hvr hbel hbr hvr3 hbel3 hx3 hx4 hvr4 hbel4
              go_wp2
              go_region
              go_wp2_with fail
              refine (hnum _).mono ?_
              rintro e9 w9 ⟨rfl, rfl⟩
              go_wp2
              try simp only [Exit.inBlock, Exit.then]
              refine bodyPost_ret (results_cell_tmp3 (P := Tryz.prog) rfl _ _ w.heap.size 40 _ (0, 0) _ rfl hv9.held Tryz.underlying40 rfl (by kernel_rfl)) rfl ?_
              exact ⟨_, _, _, _, _, rfl, (fun _ => HO9.out), (fun h => by cases h), hbel9⟩
            · have HO9 : Hid (O = none) := Lib.hid (HG.out k k1 hlt hnp hl)
              rw [ha] at hl
              have hl1 : (((ps.length : Int) + 1) != 2) = true := by simp; omega
              obtain ⟨x0', x1', x2', x3'⟩ := Bk.c4 hx3
              obtain ⟨c0, c1, c2, c3⟩ := Bk.c4 hvr3
              obtain ⟨f0, f1, f2, f3⟩ := hvr3.f4
              have hv9 := Bk.store4 hvr3 (.int .i64 (k : Int)) (.int .i64 0) (.int .i64 0) (.string ⟨#[]⟩)
              have hbel9 := below_store4 hbel3 w.heap.size (Nat.le_refl _) (.int .i64 (k : Int)) (.int .i64 0) (.int .i64 0) (.string ⟨#[]⟩)
              clear hvr hbel hbr hvr3 hbel3 hx3
              go_wp2
              go_region
              go_wp2
              try simp only [Exit.inBlock, Exit.then]
              refine bodyPost_ret (results_cell_tmp3 (P := Tryz.prog) rfl _ _ w.heap.size 40 _ (0, 0) _ rfl hv9.held Tryz.underlying40 rfl (by kernel_rfl)) rfl ?_
              exact ⟨_, _, _, _, _, rfl, (fun h => by cases h), (fun _ => HO9.out), hbel9⟩
          · have q13 : ((k : Int) == 13) = false := by simp; omega
            have q14 : ((k : Int) == 14) = true := by simp; omega
            have ha : Jo.args k = 1 := by unfold Jo.args; rw [if_neg HK12.out, if_pos HK134.out]
            by_cases hl : ps.length = Jo.args k
            · have HO9 : Hid (O = some ⟨(k : Int), Jo.num (ps.getD 0 []), 0, ⟨#[]⟩⟩) := Lib.hid (by rw [HF.out k k1 hlt hnp hl]; unfold Jo.argn; rw [ha]; rfl)
              rw [ha] at hl
              have hl1 : (((ps.length : Int) + 1) != 2) = false := by simp; omega
              have hl2 : (1 : Int) < (ps.length : Int) + 1 := by omega
              obtain ⟨x0', x1', x2', x3'⟩ := Bk.c4 hx3
              obtain ⟨y0', y1', y2', y3'⟩ := hx3.f4
              have hp1 := HCP.out 1 (by simp; omega)
              rw [List.getD_cons_succ] at hp1
              have hq := HQ.out (ps.getD 0 []) (List.mem_cons_of_mem _ (by rw [List.getD_eq_getElem?_getD, List.getElem?_eq_getElem (by omega)]; exact List.getElem_mem _))
              have hnum := fun W => l10Num_any (strOfNums (ps.getD 0 [])) W (by rw [Jo.str_size _ hq.1]; omega)
              rw [Jo.L_str _ hq.1] at hnum
              clear hq
              obtain ⟨q, HQ1⟩ : ∃ q, Hid (ps.getD 0 [] = q) := ⟨_, Lib.hid rfl⟩
              rw [HQ1.out] at hp1 hnum HO9
              obtain ⟨v, HV⟩ : ∃ v, Hid (Jo.num q = v) := ⟨_, Lib.hid rfl⟩
              rw [HV.out] at HO9
              simp only [HV.out] at hnum
              have hvr5 : Bk w.heap.size 40 #[.int .i64 0, .int .i64 0, .int .i64 0, .string ⟨#[]⟩] (wr.alloc (.cells #[.int .i64 (k : Int), .int .i64 v, .int .i64 0, .string ⟨#[]⟩] 40 (0, 0))) := hvr.alloc _
              have hvr4 : Bk w.heap.size 40 #[.int .i64 0, .int .i64 0, .int .i64 0, .string ⟨#[]⟩] (wr.alloc (.cells #[.int .i64 (k : Int), .int .i64 v, .int .i64 0, .string ⟨#[]⟩] 40 (0, 0))).drew := hvr5.drew
              have hbel4 : Below w.heap.size w (wr.alloc (.cells #[.int .i64 (k : Int), .int .i64 v, .int .i64 0, .string ⟨#[]⟩] 40 (0, 0))).drew := (hbel.alloc hbel.size _).drew
              have hx5 : Bk wr.heap.size 40 #[.int .i64 (k : Int), .int .i64 v, .int .i64 0, .string ⟨#[]⟩] (wr.alloc (.cells #[.int .i64 (k : Int), .int .i64 v, .int .i64 0, .string ⟨#[]⟩] 40 (0, 0))) := Bk.new wr 40 _
              have hx4 := hx5.drew
              obtain ⟨g0, g1, g2, g3⟩ := Bk.c4 hvr5
              obtain ⟨j0, j1, j2, j3⟩ := hvr5.f4
              obtain ⟨l0, l1, l2, l3⟩ := Bk.c4 hx5
              clear hvr5 hx5
              obtain ⟨z0', z1', z2', z3'⟩ := Bk.c4 hx4
              obtain ⟨c0, c1, c2, c3⟩ := Bk.c4 hvr4
              obtain ⟨f0, f1, f2, f3⟩ := hvr4.f4
              have hv9 := Bk.store4 hvr4 (.int .i64 (k : Int)) (.int .i64 v) (.int .i64 0) (.string ⟨#[]⟩)
              have hbel9 := below_store4 hbel4 w.heap.size (Nat.le_refl _) (.int .i64 (k : Int)) (.int .i64 v) (.int .i64 0) (.string ⟨#[]⟩)
              clear hvr hbel hbr hvr3 hbel3 hx3 hx4 hvr4 hbel4
              go_wp2
              go_region
              go_wp2_with fail
              refine (hnum _).mono ?_
              rintro e9 w9 ⟨rfl, rfl⟩
              go_wp2
              try simp only [Exit.inBlock, Exit.then]
              refine bodyPost_ret (results_cell_tmp3 (P := Tryz.prog) rfl _ _ w.heap.size 40 _ (0, 0) _ rfl hv9.held Tryz.underlying40 rfl (by kernel_rfl)) rfl ?_
              exact ⟨_, _, _, _, _, rfl, (fun _ => HO9.out), (fun h => by cases h), hbel9⟩
            · have HO9 : Hid (O = none) := Lib.hid (HG.out k k1 hlt hnp hl)
              rw [ha] at hl
              have hl1 : (((ps.length : Int) + 1) != 2) = true := by simp; omega
              obtain ⟨x0', x1', x2', x3'⟩ := Bk.c4 hx3
              obtain ⟨c0, c1, c2, c3⟩ := Bk.c4 hvr3
              obtain ⟨f0, f1, f2, f3⟩ := hvr3.f4
              have hv9 := Bk.store4 hvr3 (.int .i64 (k : Int)) (.int .i64 0) (.int .i64 0) (.string ⟨#[]⟩)
              have hbel9 := below_store4 hbel3 w.heap.size (Nat.le_refl _) (.int .i64 (k : Int)) (.int .i64 0) (.int .i64 0) (.string ⟨#[]⟩)
              clear hvr hbel hbr hvr3 hbel3 hx3
              go_wp2
              go_region
              go_wp2
              try simp only [Exit.inBlock, Exit.then]
              refine bodyPost_ret (results_cell_tmp3 (P := Tryz.prog) rfl _ _ w.heap.size 40 _ (0, 0) _ rfl hv9.held Tryz.underlying40 rfl (by kernel_rfl)) rfl ?_
              exact ⟨_, _, _, _, _, rfl, (fun h => by cases h), (fun _ => HO9.out), hbel9⟩
        have q12 : ((k : Int) == 12) = false := by simp; omega
        have q13 : ((k : Int) == 13) = false := by simp; omega
        have q14 : ((k : Int) == 14) = false := by simp; omega
        have ha : Jo.args k = 0 := by unfold Jo.args; rw [if_neg k12, if_neg k134]
        by_cases hl : ps.length = Jo.args k
        · have HO9 : Hid (O = some ⟨(k : Int), 0, 0, ⟨#[]⟩⟩) := Lib.hid (by rw [HF.out k k1 hlt hnp hl]; unfold Jo.argn; rw [ha]; rfl)
          have hl1 : (((ps.length : Int) + 1) != 1) = false := by simp; omega
          obtain ⟨x0', x1', x2', x3'⟩ := Bk.c4 hx3
          obtain ⟨c0, c1, c2, c3⟩ := Bk.c4 hvr3
          obtain ⟨f0, f1, f2, f3⟩ := hvr3.f4
          have hv9 := Bk.store4 hvr3 (.int .i64 (k : Int)) (.int .i64 0) (.int .i64 0) (.string ⟨#[]⟩)
          have hbel9 := below_store4 hbel3 w.heap.size (Nat.le_refl _) (.int .i64 (k : Int)) (.int .i64 0) (.int .i64 0) (.string ⟨#[]⟩)
          clear hvr hbel hbr hvr3 hbel3 hx3
          go_wp2
          go_region
          go_wp2
          try simp only [Exit.inBlock, Exit.then]
          refine bodyPost_ret (results_cell_tmp3 (P := Tryz.prog) rfl _ _ w.heap.size 40 _ (0, 0) _ rfl hv9.held Tryz.underlying40 rfl (by kernel_rfl)) rfl ?_
          exact ⟨_, _, _, _, _, rfl, (fun _ => HO9.out), (fun h => by cases h), hbel9⟩
        · have HO9 : Hid (O = none) := Lib.hid (HG.out k k1 hlt hnp hl)
          have hl1 : (((ps.length : Int) + 1) != 1) = true := by simp; omega
          obtain ⟨x0', x1', x2', x3'⟩ := Bk.c4 hx3
          obtain ⟨c0, c1, c2, c3⟩ := Bk.c4 hvr3
          obtain ⟨f0, f1, f2, f3⟩ := hvr3.f4
          have hv9 := Bk.store4 hvr3 (.int .i64 (k : Int)) (.int .i64 0) (.int .i64 0) (.string ⟨#[]⟩)
          have hbel9 := below_store4 hbel3 w.heap.size (Nat.le_refl _) (.int .i64 (k : Int)) (.int .i64 0) (.int .i64 0) (.string ⟨#[]⟩)
          clear hvr hbel hbr hvr3 hbel3 hx3
          go_wp2
          go_region
          go_wp2
          try simp only [Exit.inBlock, Exit.then]
          refine bodyPost_ret (results_cell_tmp3 (P := Tryz.prog) rfl _ _ w.heap.size 40 _ (0, 0) _ rfl hv9.held Tryz.underlying40 rfl (by kernel_rfl)) rfl ?_
          exact ⟨_, _, _, _, _, rfl, (fun h => by cases h), (fun _ => HO9.out), hbel9⟩
      · have HK2 : Hid (∀ j, 1 ≤ j → j < k + 1 → Jo.name j ≠ p) := Lib.hid fun j h1 h2 => by
          by_cases e : j = k
          · subst e; exact hnp
          · exact HK.out j h1 (by omega)
        obtain ⟨NM, HNM⟩ : ∃ NM, Hid (Jo.name k = NM) := ⟨_, Lib.hid rfl⟩
        have hqq := Jo.str_ne (Jo.name_bd ⟨k, hlt⟩) (fun c hc => (HQ.out p (List.mem_cons_self ..)).1 c hc) hnp
        simp only at hqq
        rw [HNM.out] at hnk hqq
        go_wp2
        go_region
        go_wp2
        go_roundw
        case rel => exact ⟨k + 1, by omega, by omega, by go_num, HK2, hbr.drew⟩
        case measure => simp [intOf]; omega
    · obtain rfl : k = 15 := by omega
      have HNO : Hid (O = none) := Lib.hid (HN.out HK.out)
      obtain ⟨c0, c1, c2, c3⟩ := Bk.c4 hvr
      obtain ⟨f0, f1, f2, f3⟩ := hvr.f4
      have hv3 := Bk.store4 hvr (.int .i64 0) (.int .i64 0) (.int .i64 0) (.string ⟨#[]⟩)
      have hbel3 := below_store4 hbel w.heap.size (Nat.le_refl _) (.int .i64 0) (.int .i64 0) (.int .i64 0) (.string ⟨#[]⟩)
      clear hvr hbel hbr
      go_wp2
      refine bodyPost_ret (results_cell_tmp3 (P := Tryz.prog) rfl _ _ w.heap.size 40 _ (0, 0) _ rfl hv3.held Tryz.underlying40 rfl (by kernel_rfl)) rfl ?_
      exact ⟨_, _, _, _, _, rfl, (fun h => by cases h), (fun _ => HNO.out), hbel3⟩
theorem l10Op_any (s : ByteArray) (w : World) (hs : s.size ≤ 900000) : Calls Tryz.prog 27 #[.string s] w (JoOp (Jo.opOf (Jo.L s)) w) := by
  by_cases h0 : 0 < s.size
  · by_cases h : En.byt s 0 = 120
    · exact l10Op_x s w hs h0 h
    · exact l10Op_w1 s w hs h0 h
  · exact l10Op_w0 s w hs h0
end Go.Proofs.YtpldoffjclmacaaGreatDoor
