/-
  Contracts of the model: the reader's tx.
-/
import Derived.Test.YtcbpdibkindnfaaGreatTm
namespace Go.Proofs.YtcbpdibkindnfaaGreat
open Go.RowKit

set_option maxRecDepth 100000 in
set_option maxHeartbeats 3200000 in
theorem tx_any (B : Nat) (s : ByteArray) (w : World) (hb : w.heap[B]? = some (.cells #[.string s, .bool false] 55 (0, 0))) :
    Calls Tryz.prog 27 #[.pointer (some ⟨B, 0, none⟩)] w (TxQ B s w) := by
  obtain ⟨i0, hi, hz0, hz1, hz2⟩ := info_parts info_in13
  obtain ⟨o0, ho, hp0, hp1, hp2⟩ := info_parts info_out13
  have hBw := lt_of_block hb
  have vR0 : Bk w.heap.size 26 #[.slice none 0 0, .slice none 0 0, .int .i64 0, .string ⟨#[]⟩] ((w.alloc (.cells #[.slice none 0 0, .slice none 0 0, .int .i64 0, .string ⟨#[]⟩] 26 (0, 0))).alloc (.cells #[.slice none 0 0, .slice none 0 0, .int .i64 0, .string ⟨#[]⟩] 26 (0, 0))) := (Bk.new w 26 #[.slice none 0 0, .slice none 0 0, .int .i64 0, .string ⟨#[]⟩]).alloc _
  have vD0 : Bk (w.heap.size + 1) 26 #[.slice none 0 0, .slice none 0 0, .int .i64 0, .string ⟨#[]⟩] ((w.alloc (.cells #[.slice none 0 0, .slice none 0 0, .int .i64 0, .string ⟨#[]⟩] 26 (0, 0))).alloc (.cells #[.slice none 0 0, .slice none 0 0, .int .i64 0, .string ⟨#[]⟩] 26 (0, 0))) := Bk.new' _ _ _ _ (by simp)
  have hB2 : ((w.alloc (.cells #[.slice none 0 0, .slice none 0 0, .int .i64 0, .string ⟨#[]⟩] 26 (0, 0))).alloc (.cells #[.slice none 0 0, .slice none 0 0, .int .i64 0, .string ⟨#[]⟩] 26 (0, 0))).heap[B]? = some (.cells #[.string s, .bool false] 55 (0, 0)) := by
    rw [Below.heap_alloc _ _ _ (by simp; omega), Below.heap_alloc _ _ _ hBw]
    exact hb
  have hg0 : w.grownBy ((w.alloc (.cells #[.slice none 0 0, .slice none 0 0, .int .i64 0, .string ⟨#[]⟩] 26 (0, 0))).alloc (.cells #[.slice none 0 0, .slice none 0 0, .int .i64 0, .string ⟨#[]⟩] 26 (0, 0))) (some B) := grownBy_trans' (World.grownBy_alloc _ _ _) (World.grownBy_alloc _ _ _)
  have hRB : some w.heap.size ≠ some B := by simp; omega
  have hDB : some (w.heap.size + 1) ≠ some B := by simp; omega
  clear hb
  go_enter Tryz.func27, Tryz.ntmps27
  go_wp2_with fail
  refine (below13 B s false 6 _ (by omega) hB2).mono ?_
  rintro e w1 ⟨n, rfl, ⟨r0, b0, hR, HG⟩, _⟩
  have hR1 : Rs B w w1 r0 b0 := ⟨hR.held, grownBy_trans' hg0 hR.kept⟩
  have vR1 := vR0.gb13 hR.kept hRB
  have vD1 := vD0.gb13 hR.kept hDB
  have HG0 := HG
  clear vR0 vD0 hB2 hg0 hR HG
  go_wp2
  go_loopw [5] (fun i wr => ∃ (k : Nat) (r : ByteArray) (b : Bool) (a : Option Addr) (p c : Nat), i = .int .i64 (k : Int) ∧ Rs B w wr r b ∧ Bk w.heap.size 26 #[.slice none 0 0, .slice none 0 0, .int .i64 0, .string ⟨#[]⟩] wr ∧ Bk (w.heap.size + 1) 26 #[.slice a p c, .slice none 0 0, .int .i64 0, .string ⟨#[]⟩] wr ∧ Hid (b = true → Tr.rdA Tr.inR s = none) ∧
      (b = false → En.bel s 6 = some (n, r0) ∧ (k : Int) ≤ n ∧ ∃ l, Hid (Tr.rep Tr.inR r0 k = some (l.map Prod.fst, r)) ∧ l.length = k ∧ Hid (OwnI w.heap.size wr (.slice a p c) l)))
    (fun i _ => (n - intOf i).toNat)
  case atStart =>
    refine ⟨0, r0, b0, none, 0, 0, rfl, hR1, vR1, vD1, Lib.hid fun h => ?_, fun h => ?_⟩
    · rcases HG0.out.1 h with e | e
      · cases e
      · exact Tr.rdA_bel e
    · obtain ⟨_, e⟩ := HG0.out.2 h
      exact ⟨e, (En.bel_bw (s := s) (n := n) (t := r0) e).2.1, [], Lib.hid rfl, rfl, Lib.hid ⟨⟨rfl, .inl ⟨rfl, rfl⟩⟩, fun x hx => by cases hx⟩⟩
  case round =>
    obtain ⟨k, r, b, a, p, c, rfl, hR, vR, vD, HBAD, hgood⟩ := hrel
    have c0 := rs_str hR.held
    have c1 := rs_bad hR.held
    clear hR1 vR1 vD1 HG0
    cases b
    case true =>
      have hg1 : true = false → ∃ l : List (Tr.In × Value), Hid (Tr.rdA Tr.inR s = Tr.rdO (l.map Prod.fst) r) ∧ Hid (OwnI w.heap.size wr (.slice a p c) l) := fun h => by cases h
      clear hgood
      by_cases hlt : (k : Int) < n
      · have hlt' := hlt
        go_wp2_with fail
        refine (below13 B r true 6 _ (by omega) hR.held).mono ?_
        rintro e z1 ⟨m, rfl, ⟨r1, b1, hT1, HM⟩, HM0⟩
        have hR1 := hR.trans hT1
        have vR1 := vR.gb13 hT1.kept hRB
        have vD1 := vD.gb13 hT1.kept hDB
        have HOI := Lib.hid (fun h => let ⟨l, h1, h2⟩ := hg1 h; (⟨l, h1, Lib.hid (h2.out.kept hT1.kept hBw)⟩ : ∃ l : List (Tr.In × Value), Hid (Tr.rdA Tr.inR s = Tr.rdO (l.map Prod.fst) r) ∧ Hid (OwnI w.heap.size z1 (.slice a p c) l)))
        clear hR vR vD hg1 hT1
        have HB1 : Hid (b1 = true → Tr.rdA Tr.inR s = none) := Lib.hid (fun _ => HBAD.out (by first | rfl | trivial))
        go_wp2
        go_loopw [8] (fun i wr => ∃ (j : Nat) (ry : ByteArray) (b : Bool) (a2 : Option Addr) (p2 c2 : Nat), i = .int .i64 (j : Int) ∧ Rs B w wr ry b ∧ Bk w.heap.size 26 #[.slice none 0 0, .slice none 0 0, .int .i64 0, .string ⟨#[]⟩] wr ∧ Bk (w.heap.size + 1) 26 #[.slice a p c, .slice a2 p2 c2, .int .i64 0, .string ⟨#[]⟩] wr ∧ Hid (b = true → Tr.rdA Tr.inR s = none) ∧
            (b = false → En.bel r 6 = some (m, r1) ∧ (j : Int) ≤ m ∧ ∃ (l : List (Tr.In × Value)) (outs : List Tr.Out), Hid (Tr.rdA Tr.inR s = Tr.rdO (l.map Prod.fst) r) ∧ Hid (OwnI w.heap.size wr (.slice a p c) l) ∧ Hid (Tr.rep Tr.outR r1 j = some (outs, ry)) ∧ outs.length = j ∧ Hid (OwnO w.heap.size wr (.slice a2 p2 c2) outs)))
          (fun i _ => (m - intOf i).toNat)
        case atStart =>
          refine ⟨0, r1, b1, none, 0, 0, rfl, hR1, vR1, vD1, HB1, fun h => ?_⟩
          have e0 := (HM.out.2 h).1
          cases e0
        case round =>
          obtain ⟨j, r, b, a2, p2, c2, rfl, hR, vR, vD, HBAD, hgood⟩ := hrel
          have c0 := rs_str hR.held
          have c1 := rs_bad hR.held
          clear hR1 vR1 vD1 HB1 HOI HM HM0
          cases b
          case true =>
            have hg3 : true = false → ∃ (l : List (Tr.In × Value)) (outs : List Tr.Out), Hid (Tr.rdA Tr.inR s = Tr.rdE ⟨l.map Prod.fst, outs, 0, ByteArray.empty⟩ r) ∧ Hid (OwnI w.heap.size wr (.slice a p c) l) ∧ Hid (OwnO w.heap.size wr (.slice a2 p2 c2) outs) := fun h => by cases h
            clear hgood
            by_cases hlt : (j : Int) < m
            · go_wp2_with fail
              refine (num13 B r true _ hR.held).mono ?_
              rintro e x1 ⟨af, rfl, r5, b5, hT5, HG5⟩
              have hR5 := hR.trans hT5
              have vR5 := vR.gb13 hT5.kept hRB
              have vD5 := vD.gb13 hT5.kept hDB
              have HOI5 := Lib.hid (fun h => let ⟨l, outs, h1, h2, h3⟩ := hg3 h; (⟨l, outs, h1, Lib.hid (h2.out.kept hT5.kept hBw), Lib.hid (OwnO.kept h3.out hT5.kept hBw)⟩ : ∃ (l : List (Tr.In × Value)) (outs : List Tr.Out), Hid (Tr.rdA Tr.inR s = Tr.rdE ⟨l.map Prod.fst, outs, 0, ByteArray.empty⟩ r) ∧ Hid (OwnI w.heap.size x1 (.slice a p c) l) ∧ Hid (OwnO w.heap.size x1 (.slice a2 p2 c2) outs)))
              clear hR vR vD hg3 hT5
              obtain ⟨_, _, s2, _⟩ := Bk.c4 vD5
              have t2 := vD5.fro 2
              have vD6 : Bk (w.heap.size + 1) 26 #[.slice a p c, .slice a2 p2 c2, .int .i64 af, .string ⟨#[]⟩] (x1.setCell ⟨w.heap.size + 1, 2, none⟩ (.int .i64 af)) := vD5.set 2 _
              have vR6 := vR5.oset (w.heap.size + 1) 2 (.int .i64 af) (by omega)
              have hR6 := hR5.set13 (X := w.heap.size + 1) (i := 2) (u := .int .i64 af) hBw (by omega)
              go_wp2_with fail
              refine (text13 B r5 b5 _ hR6.held).mono ?_
              rintro e x2 ⟨nt, rfl, r7, b7, hT7, HG7⟩
              have hR7 := hR6.trans hT7
              have vR7 := vR6.gb13 hT7.kept hRB
              have vD7 := vD6.gb13 hT7.kept hDB
              have HOI7 := Lib.hid (fun h => let ⟨l, outs, h1, h2, h3⟩ := HOI5.out h; (⟨l, outs, h1, Lib.hid ((h2.out.set13 vD5).kept hT7.kept hBw), Lib.hid (OwnO.kept (OwnO.set13 h3.out vD5) hT7.kept hBw)⟩ : ∃ (l : List (Tr.In × Value)) (outs : List Tr.Out), Hid (Tr.rdA Tr.inR s = Tr.rdE ⟨l.map Prod.fst, outs, 0, ByteArray.empty⟩ r) ∧ Hid (OwnI w.heap.size x2 (.slice a p c) l) ∧ Hid (OwnO w.heap.size x2 (.slice a2 p2 c2) outs)))
              clear hR5 vR5 vD5 HOI5 s2 t2 vD6 vR6 hR6 hT7
              obtain ⟨_, _, _, s3⟩ := Bk.c4 vD7
              have t3 := vD7.fro 3
              have vD8 : Bk (w.heap.size + 1) 26 #[.slice a p c, .slice a2 p2 c2, .int .i64 af, .string nt] (x2.setCell ⟨w.heap.size + 1, 3, none⟩ (.string nt)) := vD7.set 3 _
              have vR8 := vR7.oset (w.heap.size + 1) 3 (.string nt) (by omega)
              have hR8 := hR7.set13 (X := w.heap.size + 1) (i := 3) (u := .string nt) hBw (by omega)
              obtain ⟨e0, e1, e2, e3⟩ := Bk.c4 vD8
              obtain ⟨m0, m1, m2, m3⟩ := Bk.c4 vR8
              obtain ⟨f0, f1, f2, f3⟩ := Bk.f4 vR8
              have hRr := Bk.store4 vR8 (.slice a p c) (.slice a2 p2 c2) (.int .i64 af) (.string nt)
              have hR9 := (((hR8.set13 (X := w.heap.size) (i := 0) (u := .slice a p c) hBw (by omega)).set13 (X := w.heap.size) (i := 1) (u := .slice a2 p2 c2) hBw (by omega)).set13 (X := w.heap.size) (i := 2) (u := .int .i64 af) hBw (by omega)).set13 (X := w.heap.size) (i := 3) (u := .string nt) hBw (by omega)
              go_wp2
              refine bodyPost_ret (results_cell_row (P := Tryz.prog) rfl _ _ w.heap.size 26 _ (0, 0) _ rfl hRr.held Tryz.underlying26 rfl (by kernel_rfl)) rfl ?_
              refine ⟨a, p, c, a2, p2, c2, af, nt, r7, b7, rfl, hR9, Lib.hid (fun h => ?_), fun h => ?_⟩
              · exact HBAD.out (by first | rfl | trivial)
              · have hb5 := (HG7.out.2 h).1
                have hbb := (HG5.out.2 hb5).1
                cases hbb
            · go_wp2_with fail
              refine (num13 B r true _ hR.held).mono ?_
              rintro e x1 ⟨af, rfl, r5, b5, hT5, HG5⟩
              have hR5 := hR.trans hT5
              have vR5 := vR.gb13 hT5.kept hRB
              have vD5 := vD.gb13 hT5.kept hDB
              have HOI5 := Lib.hid (fun h => let ⟨l, outs, h1, h2, h3⟩ := hg3 h; (⟨l, outs, h1, Lib.hid (h2.out.kept hT5.kept hBw), Lib.hid (OwnO.kept h3.out hT5.kept hBw)⟩ : ∃ (l : List (Tr.In × Value)) (outs : List Tr.Out), Hid (Tr.rdA Tr.inR s = Tr.rdE ⟨l.map Prod.fst, outs, 0, ByteArray.empty⟩ r) ∧ Hid (OwnI w.heap.size x1 (.slice a p c) l) ∧ Hid (OwnO w.heap.size x1 (.slice a2 p2 c2) outs)))
              clear hR vR vD hg3 hT5
              obtain ⟨_, _, s2, _⟩ := Bk.c4 vD5
              have t2 := vD5.fro 2
              have vD6 : Bk (w.heap.size + 1) 26 #[.slice a p c, .slice a2 p2 c2, .int .i64 af, .string ⟨#[]⟩] (x1.setCell ⟨w.heap.size + 1, 2, none⟩ (.int .i64 af)) := vD5.set 2 _
              have vR6 := vR5.oset (w.heap.size + 1) 2 (.int .i64 af) (by omega)
              have hR6 := hR5.set13 (X := w.heap.size + 1) (i := 2) (u := .int .i64 af) hBw (by omega)
              go_wp2_with fail
              refine (text13 B r5 b5 _ hR6.held).mono ?_
              rintro e x2 ⟨nt, rfl, r7, b7, hT7, HG7⟩
              have hR7 := hR6.trans hT7
              have vR7 := vR6.gb13 hT7.kept hRB
              have vD7 := vD6.gb13 hT7.kept hDB
              have HOI7 := Lib.hid (fun h => let ⟨l, outs, h1, h2, h3⟩ := HOI5.out h; (⟨l, outs, h1, Lib.hid ((h2.out.set13 vD5).kept hT7.kept hBw), Lib.hid (OwnO.kept (OwnO.set13 h3.out vD5) hT7.kept hBw)⟩ : ∃ (l : List (Tr.In × Value)) (outs : List Tr.Out), Hid (Tr.rdA Tr.inR s = Tr.rdE ⟨l.map Prod.fst, outs, 0, ByteArray.empty⟩ r) ∧ Hid (OwnI w.heap.size x2 (.slice a p c) l) ∧ Hid (OwnO w.heap.size x2 (.slice a2 p2 c2) outs)))
              clear hR5 vR5 vD5 HOI5 s2 t2 vD6 vR6 hR6 hT7
              obtain ⟨_, _, _, s3⟩ := Bk.c4 vD7
              have t3 := vD7.fro 3
              have vD8 : Bk (w.heap.size + 1) 26 #[.slice a p c, .slice a2 p2 c2, .int .i64 af, .string nt] (x2.setCell ⟨w.heap.size + 1, 3, none⟩ (.string nt)) := vD7.set 3 _
              have vR8 := vR7.oset (w.heap.size + 1) 3 (.string nt) (by omega)
              have hR8 := hR7.set13 (X := w.heap.size + 1) (i := 3) (u := .string nt) hBw (by omega)
              obtain ⟨e0, e1, e2, e3⟩ := Bk.c4 vD8
              obtain ⟨m0, m1, m2, m3⟩ := Bk.c4 vR8
              obtain ⟨f0, f1, f2, f3⟩ := Bk.f4 vR8
              have hRr := Bk.store4 vR8 (.slice a p c) (.slice a2 p2 c2) (.int .i64 af) (.string nt)
              have hR9 := (((hR8.set13 (X := w.heap.size) (i := 0) (u := .slice a p c) hBw (by omega)).set13 (X := w.heap.size) (i := 1) (u := .slice a2 p2 c2) hBw (by omega)).set13 (X := w.heap.size) (i := 2) (u := .int .i64 af) hBw (by omega)).set13 (X := w.heap.size) (i := 3) (u := .string nt) hBw (by omega)
              go_wp2
              refine bodyPost_ret (results_cell_row (P := Tryz.prog) rfl _ _ w.heap.size 26 _ (0, 0) _ rfl hRr.held Tryz.underlying26 rfl (by kernel_rfl)) rfl ?_
              refine ⟨a, p, c, a2, p2, c2, af, nt, r7, b7, rfl, hR9, Lib.hid (fun h => ?_), fun h => ?_⟩
              · exact HBAD.out (by first | rfl | trivial)
              · have hb5 := (HG7.out.2 h).1
                have hbb := (HG5.out.2 hb5).1
                cases hbb
          obtain ⟨hbm, hjm, l, outs, HRD, HOI, HREP, rfl, HOUT⟩ := hgood rfl
          clear hgood
          have hm6 := En.bel_bw hbm
          by_cases hlj : (outs.length : Int) < m
          · go_wp2_with fail
            refine (num13 B r false _ hR.held).mono ?_
            rintro e y3 ⟨q, rfl, r3, b3, hT3, HG3⟩
            have hR3 := hR.trans hT3
            have vR3 := vR.gb13 hT3.kept hRB
            have vD3 := vD.gb13 hT3.kept hDB
            have HOI3 := Lib.hid (HOI.out.kept hT3.kept hBw)
            have HO3 := Lib.hid (OwnO.kept HOUT.out hT3.kept hBw)
            clear hR vR vD HOI HOUT hT3 c0 c1
            obtain ⟨_, d0, _, _⟩ := Bk.c4 vD3
            have d0' : y3.drew.cell? ⟨w.heap.size + 1, 1, none⟩ = some (.slice a2 p2 c2) := d0
            have hsz3 := hR3.kept.size
            have ho6 : outs.length ≤ 6 := by omega
            go_wp2
            go_region_law (first
              | (refine step_append_own rfl _ _ 24 rfl w.heap.size 66 o0 (.agg #[.int .i64 0, .string ⟨#[]⟩]) 2 24 Tryz.underlying24 ho hp0 hp1 hp2 rfl (by decide) (.slice a2 p2 c2) outs.length (Tr.ocs outs) rfl (by exact (World.ownsRow.alloc HO4.out _)) ⟨y4.heap.size, 0, none⟩ 1 1 [.int .i64 q, .string lk] rfl rfl (two_new13 _ _ _ _ _ rfl) (by intro u hu; simp at hu; rcases hu with rfl | rfl <;> rfl) (by unfold maxLen; omega) (by omega) (by simp; omega) (fun v' y5 hown5 hg5 => ?_)
                 obtain ⟨a5, c5, rfl⟩ := own_shape13 hown5
                 have vD5 := (vD4.alloc (.cells #[.int .i64 q, .string lk] 66)).gb13 hg5 (own_bk13 HO4.out vD4 (by decide))
                 obtain ⟨_, s0, _, _⟩ := Bk.c4 vD5
                 have t0 := vD5.fro 1)
              | (rw [if_pos (by simp [Region.wanted])]; go_simp; go_at_call 58; refine (text13 B r3 b3 _ (by exact hR3.held)).mono ?_; rintro e y4 ⟨lk, rfl, r4, b4, hT4, HG4⟩
                 have hK4 : y3.grownBy y4 (some B) := ⟨hT4.kept.os, hT4.kept.tape, hT4.kept.output, hT4.kept.size, hT4.kept.block⟩
                 have hsz4 := hK4.size
                 have vD4 := vD3.gb13 hK4 hDB
                 obtain ⟨_, q0, _, _⟩ := Bk.c4 vD4
                 have q1 : (y4.alloc (.cells #[.int .i64 q, .string lk] 66)).cell? ⟨w.heap.size + 1, 1, none⟩ = some (.slice a2 p2 c2) := (vD4.alloc _).cell 1
                 have HOI4 := Lib.hid (HOI3.out.kept hK4 hBw)
                 have HO4 := Lib.hid (OwnO.kept HO3.out hK4 hBw)))
            all_goals
              have hRF := Rs.more13 (X := w.heap.size + 1) (i := 1) (u := .slice a5 (outs.length + 1) c5) (hR3.trans ⟨hT4.held, hK4⟩) hBw hg5 (fun j he => (World.ownsRow.lt HO4.out j he).1) (by omega)
              have vR5 := ((vR3.gb13 hK4 hRB).alloc (.cells #[.int .i64 q, .string lk] 66)).gb13 hg5 (own_bk13 HO4.out (vR3.gb13 hK4 hRB) (by decide))
              have vRF := vR5.oset (w.heap.size + 1) 1 (.slice a5 (outs.length + 1) c5) (by omega)
              have vDF := vD5.set 1 (.slice a5 (outs.length + 1) c5)
              have HOIF := Lib.hid (((HOI4.out.alloc (.cells #[.int .i64 q, .string lk] 66)).keptO13 (HO4.out.alloc13 _) hg5).set13 (i := 1) (u := .slice a5 (outs.length + 1) c5) vD5)
              have hbn : Hid (b4 = true → Tr.rdA Tr.inR s = none) := Lib.hid (fun h => by
                have h1 := (Tr.outR_gen ⟨HG3.out.1, fun h => ⟨rfl, (HG3.out.2 h).2⟩⟩ HG4.out).1 h
                have h2 := Tr.rep_none (Tr.rep_bad HREP.out h1) m.toNat (by omega)
                rw [HRD.out]
                exact Tr.rdO_rep0 hbm h2)
              clear hR3 vR3 vD3 HO3 HOI3 vD4 vR5 d0 d0'
              go_wp2
              go_roundw
              case rel =>
                refine ⟨outs.length + 1, r4, b4, a5, outs.length + 1, c5, by simp, hRF, vRF, vDF, hbn, fun h => ?_⟩
                have hin := (Tr.outR_gen ⟨HG3.out.1, fun h => ⟨rfl, (HG3.out.2 h).2⟩⟩ HG4.out).2 h
                refine ⟨hbm, by omega, l, outs ++ [⟨q, lk⟩], HRD, HOIF, Lib.hid ?_, by simp, Lib.hid ?_⟩
                · exact Tr.rep_ok HREP.out hin
                · exact OwnO.set13 (OwnO.push (x := ⟨q, lk⟩) hown5) vD5
              case measure => simp [intOf]; omega
          · have HRE : Hid (Tr.rdA Tr.inR s = Tr.rdE ⟨l.map Prod.fst, outs, 0, ByteArray.empty⟩ r) := Lib.hid (by
              rw [HRD.out]
              exact Tr.rdO_rep1 hbm (by rw [show m.toNat = outs.length by omega]; exact HREP.out))
            have hg3 : false = false → ∃ (l : List (Tr.In × Value)) (outs : List Tr.Out), Hid (Tr.rdA Tr.inR s = Tr.rdE ⟨l.map Prod.fst, outs, 0, ByteArray.empty⟩ r) ∧ Hid (OwnI w.heap.size wr (.slice a p c) l) ∧ Hid (OwnO w.heap.size wr (.slice a2 p2 c2) outs) := fun _ => ⟨l, outs, HRE, HOI, HOUT⟩
            clear HREP HRE HRD hbm hm6
            go_wp2_with fail
            refine (num13 B r false _ hR.held).mono ?_
            rintro e x1 ⟨af, rfl, r5, b5, hT5, HG5⟩
            have hR5 := hR.trans hT5
            have vR5 := vR.gb13 hT5.kept hRB
            have vD5 := vD.gb13 hT5.kept hDB
            have HOI5 := Lib.hid (fun h => let ⟨l, outs, h1, h2, h3⟩ := hg3 h; (⟨l, outs, h1, Lib.hid (h2.out.kept hT5.kept hBw), Lib.hid (OwnO.kept h3.out hT5.kept hBw)⟩ : ∃ (l : List (Tr.In × Value)) (outs : List Tr.Out), Hid (Tr.rdA Tr.inR s = Tr.rdE ⟨l.map Prod.fst, outs, 0, ByteArray.empty⟩ r) ∧ Hid (OwnI w.heap.size x1 (.slice a p c) l) ∧ Hid (OwnO w.heap.size x1 (.slice a2 p2 c2) outs)))
            clear hR vR vD hg3 hT5
            obtain ⟨_, _, s2, _⟩ := Bk.c4 vD5
            have t2 := vD5.fro 2
            have vD6 : Bk (w.heap.size + 1) 26 #[.slice a p c, .slice a2 p2 c2, .int .i64 af, .string ⟨#[]⟩] (x1.setCell ⟨w.heap.size + 1, 2, none⟩ (.int .i64 af)) := vD5.set 2 _
            have vR6 := vR5.oset (w.heap.size + 1) 2 (.int .i64 af) (by omega)
            have hR6 := hR5.set13 (X := w.heap.size + 1) (i := 2) (u := .int .i64 af) hBw (by omega)
            go_wp2_with fail
            refine (text13 B r5 b5 _ hR6.held).mono ?_
            rintro e x2 ⟨nt, rfl, r7, b7, hT7, HG7⟩
            have hR7 := hR6.trans hT7
            have vR7 := vR6.gb13 hT7.kept hRB
            have vD7 := vD6.gb13 hT7.kept hDB
            have HOI7 := Lib.hid (fun h => let ⟨l, outs, h1, h2, h3⟩ := HOI5.out h; (⟨l, outs, h1, Lib.hid ((h2.out.set13 vD5).kept hT7.kept hBw), Lib.hid (OwnO.kept (OwnO.set13 h3.out vD5) hT7.kept hBw)⟩ : ∃ (l : List (Tr.In × Value)) (outs : List Tr.Out), Hid (Tr.rdA Tr.inR s = Tr.rdE ⟨l.map Prod.fst, outs, 0, ByteArray.empty⟩ r) ∧ Hid (OwnI w.heap.size x2 (.slice a p c) l) ∧ Hid (OwnO w.heap.size x2 (.slice a2 p2 c2) outs)))
            clear hR5 vR5 vD5 HOI5 s2 t2 vD6 vR6 hR6 hT7
            obtain ⟨_, _, _, s3⟩ := Bk.c4 vD7
            have t3 := vD7.fro 3
            have vD8 : Bk (w.heap.size + 1) 26 #[.slice a p c, .slice a2 p2 c2, .int .i64 af, .string nt] (x2.setCell ⟨w.heap.size + 1, 3, none⟩ (.string nt)) := vD7.set 3 _
            have vR8 := vR7.oset (w.heap.size + 1) 3 (.string nt) (by omega)
            have hR8 := hR7.set13 (X := w.heap.size + 1) (i := 3) (u := .string nt) hBw (by omega)
            obtain ⟨e0, e1, e2, e3⟩ := Bk.c4 vD8
            obtain ⟨m0, m1, m2, m3⟩ := Bk.c4 vR8
            obtain ⟨f0, f1, f2, f3⟩ := Bk.f4 vR8
            have hRr := Bk.store4 vR8 (.slice a p c) (.slice a2 p2 c2) (.int .i64 af) (.string nt)
            have hR9 := (((hR8.set13 (X := w.heap.size) (i := 0) (u := .slice a p c) hBw (by omega)).set13 (X := w.heap.size) (i := 1) (u := .slice a2 p2 c2) hBw (by omega)).set13 (X := w.heap.size) (i := 2) (u := .int .i64 af) hBw (by omega)).set13 (X := w.heap.size) (i := 3) (u := .string nt) hBw (by omega)
            go_wp2
            refine bodyPost_ret (results_cell_row (P := Tryz.prog) rfl _ _ w.heap.size 26 _ (0, 0) _ rfl hRr.held Tryz.underlying26 rfl (by kernel_rfl)) rfl ?_
            refine ⟨a, p, c, a2, p2, c2, af, nt, r7, b7, rfl, hR9, Lib.hid (fun h => ?_), fun h => ?_⟩
            · obtain ⟨l, outs, h1, _, _⟩ := HOI7.out (by first | rfl | trivial)
              rcases (Tr.rdE_gen (b := false) (d := ⟨l.map Prod.fst, outs, 0, ByteArray.empty⟩) ⟨HG5.out.1, fun h => ⟨rfl, (HG5.out.2 h).2⟩⟩ HG7.out).1 h with e | e
              · cases e
              · rw [h1.out]; exact e
            · have hb5 := (HG7.out.2 h).1
              obtain ⟨l, outs, h1, h2, h3⟩ := HOI7.out (by first | rfl | trivial)
              refine ⟨l, outs, Lib.hid ?_, ?_, ?_⟩
              · rw [h1.out]
                exact ((Tr.rdE_gen (b := false) (d := ⟨l.map Prod.fst, outs, 0, ByteArray.empty⟩) ⟨HG5.out.1, fun h => ⟨rfl, (HG5.out.2 h).2⟩⟩ HG7.out).2 h).2
              · exact ((((h2.out.set13 vD7).set13 vR8).set13 (vR8.set 0 _)).set13 ((vR8.set 0 _).set 1 _)).set13 (((vR8.set 0 _).set 1 _).set 2 _)
              · exact OwnO.set13 (OwnO.set13 (OwnO.set13 (OwnO.set13 (OwnO.set13 h3.out vD7) vR8) (vR8.set 0 _)) ((vR8.set 0 _).set 1 _)) (((vR8.set 0 _).set 1 _).set 2 _)
      · have hlt' := hlt
        go_wp2_with fail
        refine (below13 B r true 6 _ (by omega) hR.held).mono ?_
        rintro e z1 ⟨m, rfl, ⟨r1, b1, hT1, HM⟩, HM0⟩
        have hR1 := hR.trans hT1
        have vR1 := vR.gb13 hT1.kept hRB
        have vD1 := vD.gb13 hT1.kept hDB
        have HOI := Lib.hid (fun h => let ⟨l, h1, h2⟩ := hg1 h; (⟨l, h1, Lib.hid (h2.out.kept hT1.kept hBw)⟩ : ∃ l : List (Tr.In × Value), Hid (Tr.rdA Tr.inR s = Tr.rdO (l.map Prod.fst) r) ∧ Hid (OwnI w.heap.size z1 (.slice a p c) l)))
        clear hR vR vD hg1 hT1
        have HB1 : Hid (b1 = true → Tr.rdA Tr.inR s = none) := Lib.hid (fun _ => HBAD.out (by first | rfl | trivial))
        go_wp2
        go_loopw [8] (fun i wr => ∃ (j : Nat) (ry : ByteArray) (b : Bool) (a2 : Option Addr) (p2 c2 : Nat), i = .int .i64 (j : Int) ∧ Rs B w wr ry b ∧ Bk w.heap.size 26 #[.slice none 0 0, .slice none 0 0, .int .i64 0, .string ⟨#[]⟩] wr ∧ Bk (w.heap.size + 1) 26 #[.slice a p c, .slice a2 p2 c2, .int .i64 0, .string ⟨#[]⟩] wr ∧ Hid (b = true → Tr.rdA Tr.inR s = none) ∧
            (b = false → En.bel r 6 = some (m, r1) ∧ (j : Int) ≤ m ∧ ∃ (l : List (Tr.In × Value)) (outs : List Tr.Out), Hid (Tr.rdA Tr.inR s = Tr.rdO (l.map Prod.fst) r) ∧ Hid (OwnI w.heap.size wr (.slice a p c) l) ∧ Hid (Tr.rep Tr.outR r1 j = some (outs, ry)) ∧ outs.length = j ∧ Hid (OwnO w.heap.size wr (.slice a2 p2 c2) outs)))
          (fun i _ => (m - intOf i).toNat)
        case atStart =>
          refine ⟨0, r1, b1, none, 0, 0, rfl, hR1, vR1, vD1, HB1, fun h => ?_⟩
          have e0 := (HM.out.2 h).1
          cases e0
        case round =>
          obtain ⟨j, r, b, a2, p2, c2, rfl, hR, vR, vD, HBAD, hgood⟩ := hrel
          have c0 := rs_str hR.held
          have c1 := rs_bad hR.held
          clear hR1 vR1 vD1 HB1 HOI HM HM0
          cases b
          case true =>
            have hg3 : true = false → ∃ (l : List (Tr.In × Value)) (outs : List Tr.Out), Hid (Tr.rdA Tr.inR s = Tr.rdE ⟨l.map Prod.fst, outs, 0, ByteArray.empty⟩ r) ∧ Hid (OwnI w.heap.size wr (.slice a p c) l) ∧ Hid (OwnO w.heap.size wr (.slice a2 p2 c2) outs) := fun h => by cases h
            clear hgood
            by_cases hlt : (j : Int) < m
            · go_wp2_with fail
              refine (num13 B r true _ hR.held).mono ?_
              rintro e x1 ⟨af, rfl, r5, b5, hT5, HG5⟩
              have hR5 := hR.trans hT5
              have vR5 := vR.gb13 hT5.kept hRB
              have vD5 := vD.gb13 hT5.kept hDB
              have HOI5 := Lib.hid (fun h => let ⟨l, outs, h1, h2, h3⟩ := hg3 h; (⟨l, outs, h1, Lib.hid (h2.out.kept hT5.kept hBw), Lib.hid (OwnO.kept h3.out hT5.kept hBw)⟩ : ∃ (l : List (Tr.In × Value)) (outs : List Tr.Out), Hid (Tr.rdA Tr.inR s = Tr.rdE ⟨l.map Prod.fst, outs, 0, ByteArray.empty⟩ r) ∧ Hid (OwnI w.heap.size x1 (.slice a p c) l) ∧ Hid (OwnO w.heap.size x1 (.slice a2 p2 c2) outs)))
              clear hR vR vD hg3 hT5
              obtain ⟨_, _, s2, _⟩ := Bk.c4 vD5
              have t2 := vD5.fro 2
              have vD6 : Bk (w.heap.size + 1) 26 #[.slice a p c, .slice a2 p2 c2, .int .i64 af, .string ⟨#[]⟩] (x1.setCell ⟨w.heap.size + 1, 2, none⟩ (.int .i64 af)) := vD5.set 2 _
              have vR6 := vR5.oset (w.heap.size + 1) 2 (.int .i64 af) (by omega)
              have hR6 := hR5.set13 (X := w.heap.size + 1) (i := 2) (u := .int .i64 af) hBw (by omega)
              go_wp2_with fail
              refine (text13 B r5 b5 _ hR6.held).mono ?_
              rintro e x2 ⟨nt, rfl, r7, b7, hT7, HG7⟩
              have hR7 := hR6.trans hT7
              have vR7 := vR6.gb13 hT7.kept hRB
              have vD7 := vD6.gb13 hT7.kept hDB
              have HOI7 := Lib.hid (fun h => let ⟨l, outs, h1, h2, h3⟩ := HOI5.out h; (⟨l, outs, h1, Lib.hid ((h2.out.set13 vD5).kept hT7.kept hBw), Lib.hid (OwnO.kept (OwnO.set13 h3.out vD5) hT7.kept hBw)⟩ : ∃ (l : List (Tr.In × Value)) (outs : List Tr.Out), Hid (Tr.rdA Tr.inR s = Tr.rdE ⟨l.map Prod.fst, outs, 0, ByteArray.empty⟩ r) ∧ Hid (OwnI w.heap.size x2 (.slice a p c) l) ∧ Hid (OwnO w.heap.size x2 (.slice a2 p2 c2) outs)))
              clear hR5 vR5 vD5 HOI5 s2 t2 vD6 vR6 hR6 hT7
              obtain ⟨_, _, _, s3⟩ := Bk.c4 vD7
              have t3 := vD7.fro 3
              have vD8 : Bk (w.heap.size + 1) 26 #[.slice a p c, .slice a2 p2 c2, .int .i64 af, .string nt] (x2.setCell ⟨w.heap.size + 1, 3, none⟩ (.string nt)) := vD7.set 3 _
              have vR8 := vR7.oset (w.heap.size + 1) 3 (.string nt) (by omega)
              have hR8 := hR7.set13 (X := w.heap.size + 1) (i := 3) (u := .string nt) hBw (by omega)
              obtain ⟨e0, e1, e2, e3⟩ := Bk.c4 vD8
              obtain ⟨m0, m1, m2, m3⟩ := Bk.c4 vR8
              obtain ⟨f0, f1, f2, f3⟩ := Bk.f4 vR8
              have hRr := Bk.store4 vR8 (.slice a p c) (.slice a2 p2 c2) (.int .i64 af) (.string nt)
              have hR9 := (((hR8.set13 (X := w.heap.size) (i := 0) (u := .slice a p c) hBw (by omega)).set13 (X := w.heap.size) (i := 1) (u := .slice a2 p2 c2) hBw (by omega)).set13 (X := w.heap.size) (i := 2) (u := .int .i64 af) hBw (by omega)).set13 (X := w.heap.size) (i := 3) (u := .string nt) hBw (by omega)
              go_wp2
              refine bodyPost_ret (results_cell_row (P := Tryz.prog) rfl _ _ w.heap.size 26 _ (0, 0) _ rfl hRr.held Tryz.underlying26 rfl (by kernel_rfl)) rfl ?_
              refine ⟨a, p, c, a2, p2, c2, af, nt, r7, b7, rfl, hR9, Lib.hid (fun h => ?_), fun h => ?_⟩
              · exact HBAD.out (by first | rfl | trivial)
              · have hb5 := (HG7.out.2 h).1
                have hbb := (HG5.out.2 hb5).1
                cases hbb
            · go_wp2_with fail
              refine (num13 B r true _ hR.held).mono ?_
              rintro e x1 ⟨af, rfl, r5, b5, hT5, HG5⟩
              have hR5 := hR.trans hT5
              have vR5 := vR.gb13 hT5.kept hRB
              have vD5 := vD.gb13 hT5.kept hDB
              have HOI5 := Lib.hid (fun h => let ⟨l, outs, h1, h2, h3⟩ := hg3 h; (⟨l, outs, h1, Lib.hid (h2.out.kept hT5.kept hBw), Lib.hid (OwnO.kept h3.out hT5.kept hBw)⟩ : ∃ (l : List (Tr.In × Value)) (outs : List Tr.Out), Hid (Tr.rdA Tr.inR s = Tr.rdE ⟨l.map Prod.fst, outs, 0, ByteArray.empty⟩ r) ∧ Hid (OwnI w.heap.size x1 (.slice a p c) l) ∧ Hid (OwnO w.heap.size x1 (.slice a2 p2 c2) outs)))
              clear hR vR vD hg3 hT5
              obtain ⟨_, _, s2, _⟩ := Bk.c4 vD5
              have t2 := vD5.fro 2
              have vD6 : Bk (w.heap.size + 1) 26 #[.slice a p c, .slice a2 p2 c2, .int .i64 af, .string ⟨#[]⟩] (x1.setCell ⟨w.heap.size + 1, 2, none⟩ (.int .i64 af)) := vD5.set 2 _
              have vR6 := vR5.oset (w.heap.size + 1) 2 (.int .i64 af) (by omega)
              have hR6 := hR5.set13 (X := w.heap.size + 1) (i := 2) (u := .int .i64 af) hBw (by omega)
              go_wp2_with fail
              refine (text13 B r5 b5 _ hR6.held).mono ?_
              rintro e x2 ⟨nt, rfl, r7, b7, hT7, HG7⟩
              have hR7 := hR6.trans hT7
              have vR7 := vR6.gb13 hT7.kept hRB
              have vD7 := vD6.gb13 hT7.kept hDB
              have HOI7 := Lib.hid (fun h => let ⟨l, outs, h1, h2, h3⟩ := HOI5.out h; (⟨l, outs, h1, Lib.hid ((h2.out.set13 vD5).kept hT7.kept hBw), Lib.hid (OwnO.kept (OwnO.set13 h3.out vD5) hT7.kept hBw)⟩ : ∃ (l : List (Tr.In × Value)) (outs : List Tr.Out), Hid (Tr.rdA Tr.inR s = Tr.rdE ⟨l.map Prod.fst, outs, 0, ByteArray.empty⟩ r) ∧ Hid (OwnI w.heap.size x2 (.slice a p c) l) ∧ Hid (OwnO w.heap.size x2 (.slice a2 p2 c2) outs)))
              clear hR5 vR5 vD5 HOI5 s2 t2 vD6 vR6 hR6 hT7
              obtain ⟨_, _, _, s3⟩ := Bk.c4 vD7
              have t3 := vD7.fro 3
              have vD8 : Bk (w.heap.size + 1) 26 #[.slice a p c, .slice a2 p2 c2, .int .i64 af, .string nt] (x2.setCell ⟨w.heap.size + 1, 3, none⟩ (.string nt)) := vD7.set 3 _
              have vR8 := vR7.oset (w.heap.size + 1) 3 (.string nt) (by omega)
              have hR8 := hR7.set13 (X := w.heap.size + 1) (i := 3) (u := .string nt) hBw (by omega)
              obtain ⟨e0, e1, e2, e3⟩ := Bk.c4 vD8
              obtain ⟨m0, m1, m2, m3⟩ := Bk.c4 vR8
              obtain ⟨f0, f1, f2, f3⟩ := Bk.f4 vR8
              have hRr := Bk.store4 vR8 (.slice a p c) (.slice a2 p2 c2) (.int .i64 af) (.string nt)
              have hR9 := (((hR8.set13 (X := w.heap.size) (i := 0) (u := .slice a p c) hBw (by omega)).set13 (X := w.heap.size) (i := 1) (u := .slice a2 p2 c2) hBw (by omega)).set13 (X := w.heap.size) (i := 2) (u := .int .i64 af) hBw (by omega)).set13 (X := w.heap.size) (i := 3) (u := .string nt) hBw (by omega)
              go_wp2
              refine bodyPost_ret (results_cell_row (P := Tryz.prog) rfl _ _ w.heap.size 26 _ (0, 0) _ rfl hRr.held Tryz.underlying26 rfl (by kernel_rfl)) rfl ?_
              refine ⟨a, p, c, a2, p2, c2, af, nt, r7, b7, rfl, hR9, Lib.hid (fun h => ?_), fun h => ?_⟩
              · exact HBAD.out (by first | rfl | trivial)
              · have hb5 := (HG7.out.2 h).1
                have hbb := (HG5.out.2 hb5).1
                cases hbb
          obtain ⟨hbm, hjm, l, outs, HRD, HOI, HREP, rfl, HOUT⟩ := hgood rfl
          clear hgood
          have hm6 := En.bel_bw hbm
          by_cases hlj : (outs.length : Int) < m
          · go_wp2_with fail
            refine (num13 B r false _ hR.held).mono ?_
            rintro e y3 ⟨q, rfl, r3, b3, hT3, HG3⟩
            have hR3 := hR.trans hT3
            have vR3 := vR.gb13 hT3.kept hRB
            have vD3 := vD.gb13 hT3.kept hDB
            have HOI3 := Lib.hid (HOI.out.kept hT3.kept hBw)
            have HO3 := Lib.hid (OwnO.kept HOUT.out hT3.kept hBw)
            clear hR vR vD HOI HOUT hT3 c0 c1
            obtain ⟨_, d0, _, _⟩ := Bk.c4 vD3
            have d0' : y3.drew.cell? ⟨w.heap.size + 1, 1, none⟩ = some (.slice a2 p2 c2) := d0
            have hsz3 := hR3.kept.size
            have ho6 : outs.length ≤ 6 := by omega
            go_wp2
            go_region_law (first
              | (refine step_append_own rfl _ _ 24 rfl w.heap.size 66 o0 (.agg #[.int .i64 0, .string ⟨#[]⟩]) 2 24 Tryz.underlying24 ho hp0 hp1 hp2 rfl (by decide) (.slice a2 p2 c2) outs.length (Tr.ocs outs) rfl (by exact (World.ownsRow.alloc HO4.out _)) ⟨y4.heap.size, 0, none⟩ 1 1 [.int .i64 q, .string lk] rfl rfl (two_new13 _ _ _ _ _ rfl) (by intro u hu; simp at hu; rcases hu with rfl | rfl <;> rfl) (by unfold maxLen; omega) (by omega) (by simp; omega) (fun v' y5 hown5 hg5 => ?_)
                 obtain ⟨a5, c5, rfl⟩ := own_shape13 hown5
                 have vD5 := (vD4.alloc (.cells #[.int .i64 q, .string lk] 66)).gb13 hg5 (own_bk13 HO4.out vD4 (by decide))
                 obtain ⟨_, s0, _, _⟩ := Bk.c4 vD5
                 have t0 := vD5.fro 1)
              | (rw [if_pos (by simp [Region.wanted])]; go_simp; go_at_call 58; refine (text13 B r3 b3 _ (by exact hR3.held)).mono ?_; rintro e y4 ⟨lk, rfl, r4, b4, hT4, HG4⟩
                 have hK4 : y3.grownBy y4 (some B) := ⟨hT4.kept.os, hT4.kept.tape, hT4.kept.output, hT4.kept.size, hT4.kept.block⟩
                 have hsz4 := hK4.size
                 have vD4 := vD3.gb13 hK4 hDB
                 obtain ⟨_, q0, _, _⟩ := Bk.c4 vD4
                 have q1 : (y4.alloc (.cells #[.int .i64 q, .string lk] 66)).cell? ⟨w.heap.size + 1, 1, none⟩ = some (.slice a2 p2 c2) := (vD4.alloc _).cell 1
                 have HOI4 := Lib.hid (HOI3.out.kept hK4 hBw)
                 have HO4 := Lib.hid (OwnO.kept HO3.out hK4 hBw)))
            all_goals
              have hRF := Rs.more13 (X := w.heap.size + 1) (i := 1) (u := .slice a5 (outs.length + 1) c5) (hR3.trans ⟨hT4.held, hK4⟩) hBw hg5 (fun j he => (World.ownsRow.lt HO4.out j he).1) (by omega)
              have vR5 := ((vR3.gb13 hK4 hRB).alloc (.cells #[.int .i64 q, .string lk] 66)).gb13 hg5 (own_bk13 HO4.out (vR3.gb13 hK4 hRB) (by decide))
              have vRF := vR5.oset (w.heap.size + 1) 1 (.slice a5 (outs.length + 1) c5) (by omega)
              have vDF := vD5.set 1 (.slice a5 (outs.length + 1) c5)
              have HOIF := Lib.hid (((HOI4.out.alloc (.cells #[.int .i64 q, .string lk] 66)).keptO13 (HO4.out.alloc13 _) hg5).set13 (i := 1) (u := .slice a5 (outs.length + 1) c5) vD5)
              have hbn : Hid (b4 = true → Tr.rdA Tr.inR s = none) := Lib.hid (fun h => by
                have h1 := (Tr.outR_gen ⟨HG3.out.1, fun h => ⟨rfl, (HG3.out.2 h).2⟩⟩ HG4.out).1 h
                have h2 := Tr.rep_none (Tr.rep_bad HREP.out h1) m.toNat (by omega)
                rw [HRD.out]
                exact Tr.rdO_rep0 hbm h2)
              clear hR3 vR3 vD3 HO3 HOI3 vD4 vR5 d0 d0'
              go_wp2
              go_roundw
              case rel =>
                refine ⟨outs.length + 1, r4, b4, a5, outs.length + 1, c5, by simp, hRF, vRF, vDF, hbn, fun h => ?_⟩
                have hin := (Tr.outR_gen ⟨HG3.out.1, fun h => ⟨rfl, (HG3.out.2 h).2⟩⟩ HG4.out).2 h
                refine ⟨hbm, by omega, l, outs ++ [⟨q, lk⟩], HRD, HOIF, Lib.hid ?_, by simp, Lib.hid ?_⟩
                · exact Tr.rep_ok HREP.out hin
                · exact OwnO.set13 (OwnO.push (x := ⟨q, lk⟩) hown5) vD5
              case measure => simp [intOf]; omega
          · have HRE : Hid (Tr.rdA Tr.inR s = Tr.rdE ⟨l.map Prod.fst, outs, 0, ByteArray.empty⟩ r) := Lib.hid (by
              rw [HRD.out]
              exact Tr.rdO_rep1 hbm (by rw [show m.toNat = outs.length by omega]; exact HREP.out))
            have hg3 : false = false → ∃ (l : List (Tr.In × Value)) (outs : List Tr.Out), Hid (Tr.rdA Tr.inR s = Tr.rdE ⟨l.map Prod.fst, outs, 0, ByteArray.empty⟩ r) ∧ Hid (OwnI w.heap.size wr (.slice a p c) l) ∧ Hid (OwnO w.heap.size wr (.slice a2 p2 c2) outs) := fun _ => ⟨l, outs, HRE, HOI, HOUT⟩
            clear HREP HRE HRD hbm hm6
            go_wp2_with fail
            refine (num13 B r false _ hR.held).mono ?_
            rintro e x1 ⟨af, rfl, r5, b5, hT5, HG5⟩
            have hR5 := hR.trans hT5
            have vR5 := vR.gb13 hT5.kept hRB
            have vD5 := vD.gb13 hT5.kept hDB
            have HOI5 := Lib.hid (fun h => let ⟨l, outs, h1, h2, h3⟩ := hg3 h; (⟨l, outs, h1, Lib.hid (h2.out.kept hT5.kept hBw), Lib.hid (OwnO.kept h3.out hT5.kept hBw)⟩ : ∃ (l : List (Tr.In × Value)) (outs : List Tr.Out), Hid (Tr.rdA Tr.inR s = Tr.rdE ⟨l.map Prod.fst, outs, 0, ByteArray.empty⟩ r) ∧ Hid (OwnI w.heap.size x1 (.slice a p c) l) ∧ Hid (OwnO w.heap.size x1 (.slice a2 p2 c2) outs)))
            clear hR vR vD hg3 hT5
            obtain ⟨_, _, s2, _⟩ := Bk.c4 vD5
            have t2 := vD5.fro 2
            have vD6 : Bk (w.heap.size + 1) 26 #[.slice a p c, .slice a2 p2 c2, .int .i64 af, .string ⟨#[]⟩] (x1.setCell ⟨w.heap.size + 1, 2, none⟩ (.int .i64 af)) := vD5.set 2 _
            have vR6 := vR5.oset (w.heap.size + 1) 2 (.int .i64 af) (by omega)
            have hR6 := hR5.set13 (X := w.heap.size + 1) (i := 2) (u := .int .i64 af) hBw (by omega)
            go_wp2_with fail
            refine (text13 B r5 b5 _ hR6.held).mono ?_
            rintro e x2 ⟨nt, rfl, r7, b7, hT7, HG7⟩
            have hR7 := hR6.trans hT7
            have vR7 := vR6.gb13 hT7.kept hRB
            have vD7 := vD6.gb13 hT7.kept hDB
            have HOI7 := Lib.hid (fun h => let ⟨l, outs, h1, h2, h3⟩ := HOI5.out h; (⟨l, outs, h1, Lib.hid ((h2.out.set13 vD5).kept hT7.kept hBw), Lib.hid (OwnO.kept (OwnO.set13 h3.out vD5) hT7.kept hBw)⟩ : ∃ (l : List (Tr.In × Value)) (outs : List Tr.Out), Hid (Tr.rdA Tr.inR s = Tr.rdE ⟨l.map Prod.fst, outs, 0, ByteArray.empty⟩ r) ∧ Hid (OwnI w.heap.size x2 (.slice a p c) l) ∧ Hid (OwnO w.heap.size x2 (.slice a2 p2 c2) outs)))
            clear hR5 vR5 vD5 HOI5 s2 t2 vD6 vR6 hR6 hT7
            obtain ⟨_, _, _, s3⟩ := Bk.c4 vD7
            have t3 := vD7.fro 3
            have vD8 : Bk (w.heap.size + 1) 26 #[.slice a p c, .slice a2 p2 c2, .int .i64 af, .string nt] (x2.setCell ⟨w.heap.size + 1, 3, none⟩ (.string nt)) := vD7.set 3 _
            have vR8 := vR7.oset (w.heap.size + 1) 3 (.string nt) (by omega)
            have hR8 := hR7.set13 (X := w.heap.size + 1) (i := 3) (u := .string nt) hBw (by omega)
            obtain ⟨e0, e1, e2, e3⟩ := Bk.c4 vD8
            obtain ⟨m0, m1, m2, m3⟩ := Bk.c4 vR8
            obtain ⟨f0, f1, f2, f3⟩ := Bk.f4 vR8
            have hRr := Bk.store4 vR8 (.slice a p c) (.slice a2 p2 c2) (.int .i64 af) (.string nt)
            have hR9 := (((hR8.set13 (X := w.heap.size) (i := 0) (u := .slice a p c) hBw (by omega)).set13 (X := w.heap.size) (i := 1) (u := .slice a2 p2 c2) hBw (by omega)).set13 (X := w.heap.size) (i := 2) (u := .int .i64 af) hBw (by omega)).set13 (X := w.heap.size) (i := 3) (u := .string nt) hBw (by omega)
            go_wp2
            refine bodyPost_ret (results_cell_row (P := Tryz.prog) rfl _ _ w.heap.size 26 _ (0, 0) _ rfl hRr.held Tryz.underlying26 rfl (by kernel_rfl)) rfl ?_
            refine ⟨a, p, c, a2, p2, c2, af, nt, r7, b7, rfl, hR9, Lib.hid (fun h => ?_), fun h => ?_⟩
            · obtain ⟨l, outs, h1, _, _⟩ := HOI7.out (by first | rfl | trivial)
              rcases (Tr.rdE_gen (b := false) (d := ⟨l.map Prod.fst, outs, 0, ByteArray.empty⟩) ⟨HG5.out.1, fun h => ⟨rfl, (HG5.out.2 h).2⟩⟩ HG7.out).1 h with e | e
              · cases e
              · rw [h1.out]; exact e
            · have hb5 := (HG7.out.2 h).1
              obtain ⟨l, outs, h1, h2, h3⟩ := HOI7.out (by first | rfl | trivial)
              refine ⟨l, outs, Lib.hid ?_, ?_, ?_⟩
              · rw [h1.out]
                exact ((Tr.rdE_gen (b := false) (d := ⟨l.map Prod.fst, outs, 0, ByteArray.empty⟩) ⟨HG5.out.1, fun h => ⟨rfl, (HG5.out.2 h).2⟩⟩ HG7.out).2 h).2
              · exact ((((h2.out.set13 vD7).set13 vR8).set13 (vR8.set 0 _)).set13 ((vR8.set 0 _).set 1 _)).set13 (((vR8.set 0 _).set 1 _).set 2 _)
              · exact OwnO.set13 (OwnO.set13 (OwnO.set13 (OwnO.set13 (OwnO.set13 h3.out vD7) vR8) (vR8.set 0 _)) ((vR8.set 0 _).set 1 _)) (((vR8.set 0 _).set 1 _).set 2 _)
    obtain ⟨hbel, hkn, l, HREP, rfl, HOWN⟩ := hgood rfl
    clear hgood
    have hn6 := En.bel_bw (s := s) (n := n) (t := r0) hbel
    by_cases hlt : (l.length : Int) < n
    · go_wp2_with fail
      refine (digest13 B r false _ hR.held).mono ?_
      rintro e w2 ⟨d, rfl, r2, b2, hT2, HG2⟩
      have hR2 := hR.trans hT2
      have vR2 := vR.gb13 hT2.kept hRB
      have vD2 := vD.gb13 hT2.kept hDB
      have HO2 := Lib.hid (HOWN.out.kept hT2.kept hBw)
      clear hR vR vD HOWN hT2 c0 c1
      go_wp2_with fail
      refine (num13 B r2 b2 _ hR2.held).mono ?_
      rintro e w3 ⟨q, rfl, r3, b3, hT3, HG3⟩
      have hR3 := hR2.trans hT3
      have vR3 := vR2.gb13 hT3.kept hRB
      have vD3 := vD2.gb13 hT3.kept hDB
      have HO3 := Lib.hid (HO2.out.kept hT3.kept hBw)
      clear hR2 vR2 vD2 HO2 hT3
      obtain ⟨d0, _, _, _⟩ := Bk.c4 vD3
      have d0' : w3.drew.cell? ⟨w.heap.size + 1, 0, none⟩ = some (.slice a p c) := d0
      have hsz3 := hR3.kept.size
      have hl6 : l.length ≤ 6 := by omega
      go_wp2
      go_region_law (first
        | (refine step_append_own rfl _ _ 23 rfl w.heap.size 64 i0 (.agg #[.int .i64 0, .int .i64 0, .slice none 0 0]) 3 40 Tryz.underlying23 hi hz0 hz1 hz2 rfl (by decide) (.slice a p c) l.length (Tr.ics l) rfl (by exact (HO4.out.1.alloc _)) ⟨w4.heap.size, 0, none⟩ 1 1 [.int .i64 d, .int .i64 q, .slice aw nw cw] rfl rfl (three_new13 _ _ _ _ _ _ rfl) (by intro u hu; simp at hu; rcases hu with rfl | rfl | rfl <;> rfl) (by unfold maxLen; omega) (by omega) (by simp; omega) (fun v' w5 hown5 hg5 => ?_)
           obtain ⟨a5, c5, rfl⟩ := own_shape13 hown5
           have vD5 := (vD4.alloc (.cells #[.int .i64 d, .int .i64 q, .slice aw nw cw] 64)).gb13 hg5 (own_bk13 HO4.out.1 vD4 (by decide))
           obtain ⟨s0, _, _, _⟩ := Bk.c4 vD5
           have t0 := vD5.fro 0)
        | (rw [if_pos (by simp [Region.wanted])]; go_simp; go_at_call 57; refine (texts13 B r3 b3 24 _ (by omega) (by omega) (by exact hR3.held)).mono ?_; rintro e w4 ⟨aw, nw, cw, r4, b4, rfl, hT4, HB4, hg4⟩
           have hK4 : w3.grownBy w4 (some B) := ⟨hT4.kept.os, hT4.kept.tape, hT4.kept.output, hT4.kept.size, hT4.kept.block⟩
           have hsz4 := hK4.size
           have vD4 := vD3.gb13 hK4 hDB
           obtain ⟨q0, _, _, _⟩ := Bk.c4 vD4
           have q1 : (w4.alloc (.cells #[.int .i64 d, .int .i64 q, .slice aw nw cw] 64)).cell? ⟨w.heap.size + 1, 0, none⟩ = some (.slice a p c) := (vD4.alloc _).cell 0
           have HO4 := Lib.hid (HO3.out.kept hK4 hBw)))
      all_goals
        have hRF := Rs.more13 (X := w.heap.size + 1) (i := 0) (u := .slice a5 (l.length + 1) c5) (hR3.trans ⟨hT4.held, hK4⟩) hBw hg5 (fun j he => (HO4.out.1.lt j he).1) (by omega)
        have vR5 := ((vR3.gb13 hK4 hRB).alloc (.cells #[.int .i64 d, .int .i64 q, .slice aw nw cw] 64)).gb13 hg5 (own_bk13 HO4.out.1 (vR3.gb13 hK4 hRB) (by decide))
        have vRF := vR5.oset (w.heap.size + 1) 0 (.slice a5 (l.length + 1) c5) (by omega)
        have vDF := vD5.set 0 (.slice a5 (l.length + 1) c5)
        have hbn : Hid (b4 = true → Tr.rdA Tr.inR s = none) := Lib.hid (fun h => by
          have h1 := (Tr.inR_gen (l := []) (r4 := r4) ⟨HG2.out.1, fun h => ⟨rfl, (HG2.out.2 h).2⟩⟩ HG3.out HB4.out (fun h2 => by rw [h] at h2; cases h2)).1 h
          have h2 := Tr.rep_none (Tr.rep_bad HREP.out h1) n.toNat (by omega)
          exact Tr.rdA_rep0 hbel h2)
        clear hR3 vR3 vD3 HO3 vD4 vR5 d0 d0'
        go_wp2
        go_roundw
        case rel =>
          refine ⟨l.length + 1, r4, b4, a5, l.length + 1, c5, by simp, hRF, vRF, vDF, hbn, fun h => ?_⟩
          obtain ⟨hb3, lw, hwit, rfl, how⟩ := hg4 h
          have hin := (Tr.inR_gen ⟨HG2.out.1, fun h => ⟨rfl, (HG2.out.2 h).2⟩⟩ HG3.out HB4.out (fun _ => ⟨hb3, hwit⟩)).2 h
          have hw : OwnW w.heap.size w4 (⟨d, q, lw⟩, .slice aw lw.length cw) := ⟨⟨aw, cw, rfl⟩, ownsRow_base how hsz3⟩
          refine ⟨hbel, by omega, l ++ [(⟨d, q, lw⟩, .slice aw lw.length cw)], Lib.hid ?_, by simp, Lib.hid ?_⟩
          · rw [Tr.rep_ok HREP.out hin]
            simp
          · exact ((HO4.out.alloc _).push ⟨hw.1, hw.2.alloc _⟩ hown5 hg5).set13 vD5
        case measure => simp [intOf]; omega
    · have HRN : Hid (Tr.rdA Tr.inR s = Tr.rdO (l.map Prod.fst) r) := Lib.hid (Tr.rdA_rep1 hbel (by rw [show n.toNat = l.length by omega]; exact HREP.out))
      have hg1 : false = false → ∃ l : List (Tr.In × Value), Hid (Tr.rdA Tr.inR s = Tr.rdO (l.map Prod.fst) r) ∧ Hid (OwnI w.heap.size wr (.slice a p c) l) := fun _ => ⟨l, HRN, HOWN⟩
      clear HREP HRN HOWN hbel hn6 hkn
      go_wp2_with fail
      refine (below13 B r false 6 _ (by omega) hR.held).mono ?_
      rintro e z1 ⟨m, rfl, ⟨r1, b1, hT1, HM⟩, HM0⟩
      have hR1 := hR.trans hT1
      have vR1 := vR.gb13 hT1.kept hRB
      have vD1 := vD.gb13 hT1.kept hDB
      have HOI := Lib.hid (fun h => let ⟨l, h1, h2⟩ := hg1 h; (⟨l, h1, Lib.hid (h2.out.kept hT1.kept hBw)⟩ : ∃ l : List (Tr.In × Value), Hid (Tr.rdA Tr.inR s = Tr.rdO (l.map Prod.fst) r) ∧ Hid (OwnI w.heap.size z1 (.slice a p c) l)))
      clear hR vR vD hg1 hT1
      have HB1 : Hid (b1 = true → Tr.rdA Tr.inR s = none) := Lib.hid (fun h => by
        obtain ⟨l, h1, _⟩ := HOI.out (by first | rfl | trivial)
        rcases HM.out.1 h with e | e
        · cases e
        · rw [h1.out]; exact Tr.rdO_bel e)
      go_wp2
      go_loopw [8] (fun i wr => ∃ (j : Nat) (ry : ByteArray) (b : Bool) (a2 : Option Addr) (p2 c2 : Nat), i = .int .i64 (j : Int) ∧ Rs B w wr ry b ∧ Bk w.heap.size 26 #[.slice none 0 0, .slice none 0 0, .int .i64 0, .string ⟨#[]⟩] wr ∧ Bk (w.heap.size + 1) 26 #[.slice a p c, .slice a2 p2 c2, .int .i64 0, .string ⟨#[]⟩] wr ∧ Hid (b = true → Tr.rdA Tr.inR s = none) ∧
          (b = false → En.bel r 6 = some (m, r1) ∧ (j : Int) ≤ m ∧ ∃ (l : List (Tr.In × Value)) (outs : List Tr.Out), Hid (Tr.rdA Tr.inR s = Tr.rdO (l.map Prod.fst) r) ∧ Hid (OwnI w.heap.size wr (.slice a p c) l) ∧ Hid (Tr.rep Tr.outR r1 j = some (outs, ry)) ∧ outs.length = j ∧ Hid (OwnO w.heap.size wr (.slice a2 p2 c2) outs)))
        (fun i _ => (m - intOf i).toNat)
      case atStart =>
        refine ⟨0, r1, b1, none, 0, 0, rfl, hR1, vR1, vD1, HB1, fun h => ?_⟩
        have e := (HM.out.2 h).2
        obtain ⟨l, h1, h2⟩ := HOI.out (by first | rfl | trivial)
        exact ⟨e, (En.bel_bw (s := r) (n := m) (t := r1) e).2.1, l, [], h1, h2, Lib.hid rfl, rfl, Lib.hid ⟨rfl, .inl ⟨rfl, rfl⟩⟩⟩
      case round =>
        obtain ⟨j, r, b, a2, p2, c2, rfl, hR, vR, vD, HBAD, hgood⟩ := hrel
        have c0 := rs_str hR.held
        have c1 := rs_bad hR.held
        clear hR1 vR1 vD1 HB1 HOI HM HM0
        cases b
        case true =>
          have hg3 : true = false → ∃ (l : List (Tr.In × Value)) (outs : List Tr.Out), Hid (Tr.rdA Tr.inR s = Tr.rdE ⟨l.map Prod.fst, outs, 0, ByteArray.empty⟩ r) ∧ Hid (OwnI w.heap.size wr (.slice a p c) l) ∧ Hid (OwnO w.heap.size wr (.slice a2 p2 c2) outs) := fun h => by cases h
          clear hgood
          by_cases hlt : (j : Int) < m
          · go_wp2_with fail
            refine (num13 B r true _ hR.held).mono ?_
            rintro e x1 ⟨af, rfl, r5, b5, hT5, HG5⟩
            have hR5 := hR.trans hT5
            have vR5 := vR.gb13 hT5.kept hRB
            have vD5 := vD.gb13 hT5.kept hDB
            have HOI5 := Lib.hid (fun h => let ⟨l, outs, h1, h2, h3⟩ := hg3 h; (⟨l, outs, h1, Lib.hid (h2.out.kept hT5.kept hBw), Lib.hid (OwnO.kept h3.out hT5.kept hBw)⟩ : ∃ (l : List (Tr.In × Value)) (outs : List Tr.Out), Hid (Tr.rdA Tr.inR s = Tr.rdE ⟨l.map Prod.fst, outs, 0, ByteArray.empty⟩ r) ∧ Hid (OwnI w.heap.size x1 (.slice a p c) l) ∧ Hid (OwnO w.heap.size x1 (.slice a2 p2 c2) outs)))
            clear hR vR vD hg3 hT5
            obtain ⟨_, _, s2, _⟩ := Bk.c4 vD5
            have t2 := vD5.fro 2
            have vD6 : Bk (w.heap.size + 1) 26 #[.slice a p c, .slice a2 p2 c2, .int .i64 af, .string ⟨#[]⟩] (x1.setCell ⟨w.heap.size + 1, 2, none⟩ (.int .i64 af)) := vD5.set 2 _
            have vR6 := vR5.oset (w.heap.size + 1) 2 (.int .i64 af) (by omega)
            have hR6 := hR5.set13 (X := w.heap.size + 1) (i := 2) (u := .int .i64 af) hBw (by omega)
            go_wp2_with fail
            refine (text13 B r5 b5 _ hR6.held).mono ?_
            rintro e x2 ⟨nt, rfl, r7, b7, hT7, HG7⟩
            have hR7 := hR6.trans hT7
            have vR7 := vR6.gb13 hT7.kept hRB
            have vD7 := vD6.gb13 hT7.kept hDB
            have HOI7 := Lib.hid (fun h => let ⟨l, outs, h1, h2, h3⟩ := HOI5.out h; (⟨l, outs, h1, Lib.hid ((h2.out.set13 vD5).kept hT7.kept hBw), Lib.hid (OwnO.kept (OwnO.set13 h3.out vD5) hT7.kept hBw)⟩ : ∃ (l : List (Tr.In × Value)) (outs : List Tr.Out), Hid (Tr.rdA Tr.inR s = Tr.rdE ⟨l.map Prod.fst, outs, 0, ByteArray.empty⟩ r) ∧ Hid (OwnI w.heap.size x2 (.slice a p c) l) ∧ Hid (OwnO w.heap.size x2 (.slice a2 p2 c2) outs)))
            clear hR5 vR5 vD5 HOI5 s2 t2 vD6 vR6 hR6 hT7
            obtain ⟨_, _, _, s3⟩ := Bk.c4 vD7
            have t3 := vD7.fro 3
            have vD8 : Bk (w.heap.size + 1) 26 #[.slice a p c, .slice a2 p2 c2, .int .i64 af, .string nt] (x2.setCell ⟨w.heap.size + 1, 3, none⟩ (.string nt)) := vD7.set 3 _
            have vR8 := vR7.oset (w.heap.size + 1) 3 (.string nt) (by omega)
            have hR8 := hR7.set13 (X := w.heap.size + 1) (i := 3) (u := .string nt) hBw (by omega)
            obtain ⟨e0, e1, e2, e3⟩ := Bk.c4 vD8
            obtain ⟨m0, m1, m2, m3⟩ := Bk.c4 vR8
            obtain ⟨f0, f1, f2, f3⟩ := Bk.f4 vR8
            have hRr := Bk.store4 vR8 (.slice a p c) (.slice a2 p2 c2) (.int .i64 af) (.string nt)
            have hR9 := (((hR8.set13 (X := w.heap.size) (i := 0) (u := .slice a p c) hBw (by omega)).set13 (X := w.heap.size) (i := 1) (u := .slice a2 p2 c2) hBw (by omega)).set13 (X := w.heap.size) (i := 2) (u := .int .i64 af) hBw (by omega)).set13 (X := w.heap.size) (i := 3) (u := .string nt) hBw (by omega)
            go_wp2
            refine bodyPost_ret (results_cell_row (P := Tryz.prog) rfl _ _ w.heap.size 26 _ (0, 0) _ rfl hRr.held Tryz.underlying26 rfl (by kernel_rfl)) rfl ?_
            refine ⟨a, p, c, a2, p2, c2, af, nt, r7, b7, rfl, hR9, Lib.hid (fun h => ?_), fun h => ?_⟩
            · exact HBAD.out (by first | rfl | trivial)
            · have hb5 := (HG7.out.2 h).1
              have hbb := (HG5.out.2 hb5).1
              cases hbb
          · go_wp2_with fail
            refine (num13 B r true _ hR.held).mono ?_
            rintro e x1 ⟨af, rfl, r5, b5, hT5, HG5⟩
            have hR5 := hR.trans hT5
            have vR5 := vR.gb13 hT5.kept hRB
            have vD5 := vD.gb13 hT5.kept hDB
            have HOI5 := Lib.hid (fun h => let ⟨l, outs, h1, h2, h3⟩ := hg3 h; (⟨l, outs, h1, Lib.hid (h2.out.kept hT5.kept hBw), Lib.hid (OwnO.kept h3.out hT5.kept hBw)⟩ : ∃ (l : List (Tr.In × Value)) (outs : List Tr.Out), Hid (Tr.rdA Tr.inR s = Tr.rdE ⟨l.map Prod.fst, outs, 0, ByteArray.empty⟩ r) ∧ Hid (OwnI w.heap.size x1 (.slice a p c) l) ∧ Hid (OwnO w.heap.size x1 (.slice a2 p2 c2) outs)))
            clear hR vR vD hg3 hT5
            obtain ⟨_, _, s2, _⟩ := Bk.c4 vD5
            have t2 := vD5.fro 2
            have vD6 : Bk (w.heap.size + 1) 26 #[.slice a p c, .slice a2 p2 c2, .int .i64 af, .string ⟨#[]⟩] (x1.setCell ⟨w.heap.size + 1, 2, none⟩ (.int .i64 af)) := vD5.set 2 _
            have vR6 := vR5.oset (w.heap.size + 1) 2 (.int .i64 af) (by omega)
            have hR6 := hR5.set13 (X := w.heap.size + 1) (i := 2) (u := .int .i64 af) hBw (by omega)
            go_wp2_with fail
            refine (text13 B r5 b5 _ hR6.held).mono ?_
            rintro e x2 ⟨nt, rfl, r7, b7, hT7, HG7⟩
            have hR7 := hR6.trans hT7
            have vR7 := vR6.gb13 hT7.kept hRB
            have vD7 := vD6.gb13 hT7.kept hDB
            have HOI7 := Lib.hid (fun h => let ⟨l, outs, h1, h2, h3⟩ := HOI5.out h; (⟨l, outs, h1, Lib.hid ((h2.out.set13 vD5).kept hT7.kept hBw), Lib.hid (OwnO.kept (OwnO.set13 h3.out vD5) hT7.kept hBw)⟩ : ∃ (l : List (Tr.In × Value)) (outs : List Tr.Out), Hid (Tr.rdA Tr.inR s = Tr.rdE ⟨l.map Prod.fst, outs, 0, ByteArray.empty⟩ r) ∧ Hid (OwnI w.heap.size x2 (.slice a p c) l) ∧ Hid (OwnO w.heap.size x2 (.slice a2 p2 c2) outs)))
            clear hR5 vR5 vD5 HOI5 s2 t2 vD6 vR6 hR6 hT7
            obtain ⟨_, _, _, s3⟩ := Bk.c4 vD7
            have t3 := vD7.fro 3
            have vD8 : Bk (w.heap.size + 1) 26 #[.slice a p c, .slice a2 p2 c2, .int .i64 af, .string nt] (x2.setCell ⟨w.heap.size + 1, 3, none⟩ (.string nt)) := vD7.set 3 _
            have vR8 := vR7.oset (w.heap.size + 1) 3 (.string nt) (by omega)
            have hR8 := hR7.set13 (X := w.heap.size + 1) (i := 3) (u := .string nt) hBw (by omega)
            obtain ⟨e0, e1, e2, e3⟩ := Bk.c4 vD8
            obtain ⟨m0, m1, m2, m3⟩ := Bk.c4 vR8
            obtain ⟨f0, f1, f2, f3⟩ := Bk.f4 vR8
            have hRr := Bk.store4 vR8 (.slice a p c) (.slice a2 p2 c2) (.int .i64 af) (.string nt)
            have hR9 := (((hR8.set13 (X := w.heap.size) (i := 0) (u := .slice a p c) hBw (by omega)).set13 (X := w.heap.size) (i := 1) (u := .slice a2 p2 c2) hBw (by omega)).set13 (X := w.heap.size) (i := 2) (u := .int .i64 af) hBw (by omega)).set13 (X := w.heap.size) (i := 3) (u := .string nt) hBw (by omega)
            go_wp2
            refine bodyPost_ret (results_cell_row (P := Tryz.prog) rfl _ _ w.heap.size 26 _ (0, 0) _ rfl hRr.held Tryz.underlying26 rfl (by kernel_rfl)) rfl ?_
            refine ⟨a, p, c, a2, p2, c2, af, nt, r7, b7, rfl, hR9, Lib.hid (fun h => ?_), fun h => ?_⟩
            · exact HBAD.out (by first | rfl | trivial)
            · have hb5 := (HG7.out.2 h).1
              have hbb := (HG5.out.2 hb5).1
              cases hbb
        obtain ⟨hbm, hjm, l, outs, HRD, HOI, HREP, rfl, HOUT⟩ := hgood rfl
        clear hgood
        have hm6 := En.bel_bw hbm
        by_cases hlj : (outs.length : Int) < m
        · go_wp2_with fail
          refine (num13 B r false _ hR.held).mono ?_
          rintro e y3 ⟨q, rfl, r3, b3, hT3, HG3⟩
          have hR3 := hR.trans hT3
          have vR3 := vR.gb13 hT3.kept hRB
          have vD3 := vD.gb13 hT3.kept hDB
          have HOI3 := Lib.hid (HOI.out.kept hT3.kept hBw)
          have HO3 := Lib.hid (OwnO.kept HOUT.out hT3.kept hBw)
          clear hR vR vD HOI HOUT hT3 c0 c1
          obtain ⟨_, d0, _, _⟩ := Bk.c4 vD3
          have d0' : y3.drew.cell? ⟨w.heap.size + 1, 1, none⟩ = some (.slice a2 p2 c2) := d0
          have hsz3 := hR3.kept.size
          have ho6 : outs.length ≤ 6 := by omega
          go_wp2
          go_region_law (first
            | (refine step_append_own rfl _ _ 24 rfl w.heap.size 66 o0 (.agg #[.int .i64 0, .string ⟨#[]⟩]) 2 24 Tryz.underlying24 ho hp0 hp1 hp2 rfl (by decide) (.slice a2 p2 c2) outs.length (Tr.ocs outs) rfl (by exact (World.ownsRow.alloc HO4.out _)) ⟨y4.heap.size, 0, none⟩ 1 1 [.int .i64 q, .string lk] rfl rfl (two_new13 _ _ _ _ _ rfl) (by intro u hu; simp at hu; rcases hu with rfl | rfl <;> rfl) (by unfold maxLen; omega) (by omega) (by simp; omega) (fun v' y5 hown5 hg5 => ?_)
               obtain ⟨a5, c5, rfl⟩ := own_shape13 hown5
               have vD5 := (vD4.alloc (.cells #[.int .i64 q, .string lk] 66)).gb13 hg5 (own_bk13 HO4.out vD4 (by decide))
               obtain ⟨_, s0, _, _⟩ := Bk.c4 vD5
               have t0 := vD5.fro 1)
            | (rw [if_pos (by simp [Region.wanted])]; go_simp; go_at_call 58; refine (text13 B r3 b3 _ (by exact hR3.held)).mono ?_; rintro e y4 ⟨lk, rfl, r4, b4, hT4, HG4⟩
               have hK4 : y3.grownBy y4 (some B) := ⟨hT4.kept.os, hT4.kept.tape, hT4.kept.output, hT4.kept.size, hT4.kept.block⟩
               have hsz4 := hK4.size
               have vD4 := vD3.gb13 hK4 hDB
               obtain ⟨_, q0, _, _⟩ := Bk.c4 vD4
               have q1 : (y4.alloc (.cells #[.int .i64 q, .string lk] 66)).cell? ⟨w.heap.size + 1, 1, none⟩ = some (.slice a2 p2 c2) := (vD4.alloc _).cell 1
               have HOI4 := Lib.hid (HOI3.out.kept hK4 hBw)
               have HO4 := Lib.hid (OwnO.kept HO3.out hK4 hBw)))
          all_goals
            have hRF := Rs.more13 (X := w.heap.size + 1) (i := 1) (u := .slice a5 (outs.length + 1) c5) (hR3.trans ⟨hT4.held, hK4⟩) hBw hg5 (fun j he => (World.ownsRow.lt HO4.out j he).1) (by omega)
            have vR5 := ((vR3.gb13 hK4 hRB).alloc (.cells #[.int .i64 q, .string lk] 66)).gb13 hg5 (own_bk13 HO4.out (vR3.gb13 hK4 hRB) (by decide))
            have vRF := vR5.oset (w.heap.size + 1) 1 (.slice a5 (outs.length + 1) c5) (by omega)
            have vDF := vD5.set 1 (.slice a5 (outs.length + 1) c5)
            have HOIF := Lib.hid (((HOI4.out.alloc (.cells #[.int .i64 q, .string lk] 66)).keptO13 (HO4.out.alloc13 _) hg5).set13 (i := 1) (u := .slice a5 (outs.length + 1) c5) vD5)
            have hbn : Hid (b4 = true → Tr.rdA Tr.inR s = none) := Lib.hid (fun h => by
              have h1 := (Tr.outR_gen ⟨HG3.out.1, fun h => ⟨rfl, (HG3.out.2 h).2⟩⟩ HG4.out).1 h
              have h2 := Tr.rep_none (Tr.rep_bad HREP.out h1) m.toNat (by omega)
              rw [HRD.out]
              exact Tr.rdO_rep0 hbm h2)
            clear hR3 vR3 vD3 HO3 HOI3 vD4 vR5 d0 d0'
            go_wp2
            go_roundw
            case rel =>
              refine ⟨outs.length + 1, r4, b4, a5, outs.length + 1, c5, by simp, hRF, vRF, vDF, hbn, fun h => ?_⟩
              have hin := (Tr.outR_gen ⟨HG3.out.1, fun h => ⟨rfl, (HG3.out.2 h).2⟩⟩ HG4.out).2 h
              refine ⟨hbm, by omega, l, outs ++ [⟨q, lk⟩], HRD, HOIF, Lib.hid ?_, by simp, Lib.hid ?_⟩
              · exact Tr.rep_ok HREP.out hin
              · exact OwnO.set13 (OwnO.push (x := ⟨q, lk⟩) hown5) vD5
            case measure => simp [intOf]; omega
        · have HRE : Hid (Tr.rdA Tr.inR s = Tr.rdE ⟨l.map Prod.fst, outs, 0, ByteArray.empty⟩ r) := Lib.hid (by
            rw [HRD.out]
            exact Tr.rdO_rep1 hbm (by rw [show m.toNat = outs.length by omega]; exact HREP.out))
          have hg3 : false = false → ∃ (l : List (Tr.In × Value)) (outs : List Tr.Out), Hid (Tr.rdA Tr.inR s = Tr.rdE ⟨l.map Prod.fst, outs, 0, ByteArray.empty⟩ r) ∧ Hid (OwnI w.heap.size wr (.slice a p c) l) ∧ Hid (OwnO w.heap.size wr (.slice a2 p2 c2) outs) := fun _ => ⟨l, outs, HRE, HOI, HOUT⟩
          clear HREP HRE HRD hbm hm6
          go_wp2_with fail
          refine (num13 B r false _ hR.held).mono ?_
          rintro e x1 ⟨af, rfl, r5, b5, hT5, HG5⟩
          have hR5 := hR.trans hT5
          have vR5 := vR.gb13 hT5.kept hRB
          have vD5 := vD.gb13 hT5.kept hDB
          have HOI5 := Lib.hid (fun h => let ⟨l, outs, h1, h2, h3⟩ := hg3 h; (⟨l, outs, h1, Lib.hid (h2.out.kept hT5.kept hBw), Lib.hid (OwnO.kept h3.out hT5.kept hBw)⟩ : ∃ (l : List (Tr.In × Value)) (outs : List Tr.Out), Hid (Tr.rdA Tr.inR s = Tr.rdE ⟨l.map Prod.fst, outs, 0, ByteArray.empty⟩ r) ∧ Hid (OwnI w.heap.size x1 (.slice a p c) l) ∧ Hid (OwnO w.heap.size x1 (.slice a2 p2 c2) outs)))
          clear hR vR vD hg3 hT5
          obtain ⟨_, _, s2, _⟩ := Bk.c4 vD5
          have t2 := vD5.fro 2
          have vD6 : Bk (w.heap.size + 1) 26 #[.slice a p c, .slice a2 p2 c2, .int .i64 af, .string ⟨#[]⟩] (x1.setCell ⟨w.heap.size + 1, 2, none⟩ (.int .i64 af)) := vD5.set 2 _
          have vR6 := vR5.oset (w.heap.size + 1) 2 (.int .i64 af) (by omega)
          have hR6 := hR5.set13 (X := w.heap.size + 1) (i := 2) (u := .int .i64 af) hBw (by omega)
          go_wp2_with fail
          refine (text13 B r5 b5 _ hR6.held).mono ?_
          rintro e x2 ⟨nt, rfl, r7, b7, hT7, HG7⟩
          have hR7 := hR6.trans hT7
          have vR7 := vR6.gb13 hT7.kept hRB
          have vD7 := vD6.gb13 hT7.kept hDB
          have HOI7 := Lib.hid (fun h => let ⟨l, outs, h1, h2, h3⟩ := HOI5.out h; (⟨l, outs, h1, Lib.hid ((h2.out.set13 vD5).kept hT7.kept hBw), Lib.hid (OwnO.kept (OwnO.set13 h3.out vD5) hT7.kept hBw)⟩ : ∃ (l : List (Tr.In × Value)) (outs : List Tr.Out), Hid (Tr.rdA Tr.inR s = Tr.rdE ⟨l.map Prod.fst, outs, 0, ByteArray.empty⟩ r) ∧ Hid (OwnI w.heap.size x2 (.slice a p c) l) ∧ Hid (OwnO w.heap.size x2 (.slice a2 p2 c2) outs)))
          clear hR5 vR5 vD5 HOI5 s2 t2 vD6 vR6 hR6 hT7
          obtain ⟨_, _, _, s3⟩ := Bk.c4 vD7
          have t3 := vD7.fro 3
          have vD8 : Bk (w.heap.size + 1) 26 #[.slice a p c, .slice a2 p2 c2, .int .i64 af, .string nt] (x2.setCell ⟨w.heap.size + 1, 3, none⟩ (.string nt)) := vD7.set 3 _
          have vR8 := vR7.oset (w.heap.size + 1) 3 (.string nt) (by omega)
          have hR8 := hR7.set13 (X := w.heap.size + 1) (i := 3) (u := .string nt) hBw (by omega)
          obtain ⟨e0, e1, e2, e3⟩ := Bk.c4 vD8
          obtain ⟨m0, m1, m2, m3⟩ := Bk.c4 vR8
          obtain ⟨f0, f1, f2, f3⟩ := Bk.f4 vR8
          have hRr := Bk.store4 vR8 (.slice a p c) (.slice a2 p2 c2) (.int .i64 af) (.string nt)
          have hR9 := (((hR8.set13 (X := w.heap.size) (i := 0) (u := .slice a p c) hBw (by omega)).set13 (X := w.heap.size) (i := 1) (u := .slice a2 p2 c2) hBw (by omega)).set13 (X := w.heap.size) (i := 2) (u := .int .i64 af) hBw (by omega)).set13 (X := w.heap.size) (i := 3) (u := .string nt) hBw (by omega)
          go_wp2
          refine bodyPost_ret (results_cell_row (P := Tryz.prog) rfl _ _ w.heap.size 26 _ (0, 0) _ rfl hRr.held Tryz.underlying26 rfl (by kernel_rfl)) rfl ?_
          refine ⟨a, p, c, a2, p2, c2, af, nt, r7, b7, rfl, hR9, Lib.hid (fun h => ?_), fun h => ?_⟩
          · obtain ⟨l, outs, h1, _, _⟩ := HOI7.out (by first | rfl | trivial)
            rcases (Tr.rdE_gen (b := false) (d := ⟨l.map Prod.fst, outs, 0, ByteArray.empty⟩) ⟨HG5.out.1, fun h => ⟨rfl, (HG5.out.2 h).2⟩⟩ HG7.out).1 h with e | e
            · cases e
            · rw [h1.out]; exact e
          · have hb5 := (HG7.out.2 h).1
            obtain ⟨l, outs, h1, h2, h3⟩ := HOI7.out (by first | rfl | trivial)
            refine ⟨l, outs, Lib.hid ?_, ?_, ?_⟩
            · rw [h1.out]
              exact ((Tr.rdE_gen (b := false) (d := ⟨l.map Prod.fst, outs, 0, ByteArray.empty⟩) ⟨HG5.out.1, fun h => ⟨rfl, (HG5.out.2 h).2⟩⟩ HG7.out).2 h).2
            · exact ((((h2.out.set13 vD7).set13 vR8).set13 (vR8.set 0 _)).set13 ((vR8.set 0 _).set 1 _)).set13 (((vR8.set 0 _).set 1 _).set 2 _)
            · exact OwnO.set13 (OwnO.set13 (OwnO.set13 (OwnO.set13 (OwnO.set13 h3.out vD7) vR8) (vR8.set 0 _)) ((vR8.set 0 _).set 1 _)) (((vR8.set 0 _).set 1 _).set 2 _)
end Go.Proofs.YtcbpdibkindnfaaGreat
