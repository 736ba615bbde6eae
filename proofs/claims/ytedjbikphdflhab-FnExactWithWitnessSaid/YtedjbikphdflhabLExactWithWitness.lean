/- For every transaction and every list of strings that hold together at most 1<<20 elements and bytes as the law counts them (others are let pass by the law itself) and every number, WithWitness of the program answers as the model's WithWitness, leaves both as they were, and hands back a transaction that shares no memory with them or with what another call hands back. -/
import Derived.Test.YtedjbikphdflhabRows
import Derived.Test.YtedjbikphdflhabUu
import Derived.Test.YtedjbikphdflhabUn
import Derived.WalkKit
import Derived.WalkSpells
import Derived.ProofKit
import Derived.OpenShut
import Derived.ShutString
import Derived.Below
import Derived.SliceStrings
namespace Go.Proofs.Ytedjbikphdflhab.fnExactWithWitness
open Go.ChangeShapes Go.WideShapes Go.ChangeAt Go.RowKit
open Go.ChangeMaps (open_string shut_string)
set_option maxRecDepth 100000 in
set_option maxHeartbeats 12800000 in
theorem walk (a : Option Addr) (n c : Nat) (b : Option Addr) (m d : Nat) (t : Tr) (i : Int) (_ : (Lit.int .i64 i).wf = true) (sa : Option Addr) (len cap : Nat) (z0 : List ByteArray) (w : World) (w0 : IsTx w a n b m t) (w2' : IsStrs w sa len cap z0) :
    Calls Try.prog 9 #[.agg #[.slice a n c, .slice b m d, .int .i64 t.after, .string t.note], .int .i64 i, .slice sa len cap] w fun e w' => e = .returned (.bool true) ∧ Below w.heap.size w w' := by
  obtain ⟨hT, hr⟩ := w0
  obtain ⟨hm0, hm1, _⟩ := w2'.len
  have hsr := w2'.sr
  have hm2 := w2'.sizes
  clear w2'
  obtain ⟨zs, hzs⟩ : ∃ x, z0.take len = x := ⟨_, rfl⟩
  rw [hzs] at hsr hm2
  clear hzs
  have HZL := Lib.hid hsr.1
  have hfit : (Tr.getO (t.withOk i zs)).fit := by
    cases hr : t.withOk i zs with
    | none => exact Tr.fit_none
    | some u => exact Tr.ok_fit (by have h1 := Tr.withOk_some hr; show Tr.ok u = true; rw [h1.1]; exact h1.2.2.2)
  obtain ⟨T, hTT⟩ : ∃ x, Tr.getO (t.withOk i zs) = x := ⟨_, rfl⟩
  obtain ⟨N, hN⟩ : ∃ x, T.ins.length = x := ⟨_, rfl⟩
  obtain ⟨M, hM⟩ : ∃ x, T.outs.length = x := ⟨_, rfl⟩
  obtain ⟨AF, hA⟩ : ∃ x, T.after = x := ⟨_, rfl⟩
  obtain ⟨NT, hS⟩ : ∃ x, T.note = x := ⟨_, rfl⟩
  obtain ⟨ok, hk⟩ : ∃ x, (t.withOk i zs).isSome = x := ⟨_, rfl⟩
  have HSPEC : Hid (t.small → len ≤ 1048576 → (∀ s ∈ zs, s.size ≤ 1048576) → ∀ lo W g1 g2 g3, TrR lo W (some ⟨g1, 0, none⟩) n (some ⟨g2, 0, none⟩) m t → SR W (some ⟨g3, 0, none⟩) len zs → Calls Try.prog 28 #[.agg #[.slice (some ⟨g1, 0, none⟩) n n, .slice (some ⟨g2, 0, none⟩) m m, .int .i64 t.after, .string t.note], .int .i64 i, .slice (some ⟨g3, 0, none⟩) len len] W (AnsQ N M T AF NT ok W)) := Lib.hid fun hs hl hz lo W g1 g2 g3 h1 h2 => by
    have hq := specWithWitness_any lo (some ⟨g1, 0, none⟩) n n (some ⟨g2, 0, none⟩) m m t i (some ⟨g3, 0, none⟩) len zs W h1 hs (by rw [HZL.out]; exact h2) (by rw [HZL.out]; exact hl) hz
    rw [HZL.out] at hq
    exact hq.mono fun e w' q => q.own hTT hN hM hA hS hk
  have HIMPL : Hid (t.small → len ≤ 1048576 → (∀ s ∈ zs, s.size ≤ 1048576) → ∀ lo W g1 g2 g3, TrR lo W (some ⟨g1, 0, none⟩) n (some ⟨g2, 0, none⟩) m t → SR W (some ⟨g3, 0, none⟩) len zs → Calls Try.prog 30 #[.agg #[.slice (some ⟨g1, 0, none⟩) n n, .slice (some ⟨g2, 0, none⟩) m m, .int .i64 t.after, .string t.note], .int .i64 i, .slice (some ⟨g3, 0, none⟩) len len] W (AnsQD N M T AF NT ok W)) := Lib.hid fun hs hl hz lo W g1 g2 g3 h1 h2 => by
    have hq := implWithWitness_any lo (some ⟨g1, 0, none⟩) n n (some ⟨g2, 0, none⟩) m m t i (some ⟨g3, 0, none⟩) len zs W h1 (Nat.le_refl _) hs (by rw [HZL.out]; exact h2) (by rw [HZL.out]; exact hl) hz
    rw [HZL.out] at hq
    exact hq.mono fun e w' q => q.own hTT hN hM hA hS hk
  rw [hTT] at hfit
  have HTS := Lib.hid hfit.small
  have HFEW := Lib.hid (Tr.few hfit hN hM)
  have HEQ : Hid (∀ (lo lo' : Nat) (W : World) (a b a' b' : Option Addr) (c d c' d' : Nat), TrR lo W a N b M T → TrR lo' W a' N b' M T → Calls Try.prog 14 #[.agg #[.slice a N c, .slice b M d, .int .i64 AF, .string NT], .agg #[.slice a' N c', .slice b' M d', .int .i64 AF, .string NT]] W fun e w' => e = .returned (.bool true) ∧ Below W.heap.size W w') := Lib.hid fun lo lo' W a b a' b' c d c' d' q1 q2 => by
    have := eqTx_any lo lo' a N c b M d a' c' b' d' T W q1 q2 HTS.out
    rw [hA, hS] at this
    exact this
  clear hTT hN hM hA hS hk hfit
  have HNM : Hid (t.ins.length = n ∧ t.outs.length = m) := Lib.hid ⟨hT.ins.1, hT.outs.1⟩
  have HTO : Hid (t.small → ∀ W, Below w.heap.size w W → Calls Try.prog 12 #[.agg #[.slice a n c, .slice b m d, .int .i64 t.after, .string t.note]] W fun e w' => ∃ g1 g2 l, e = .returned (.agg #[.slice (some ⟨g1, 0, none⟩) n n, .slice (some ⟨g2, 0, none⟩) m m, .int .i64 t.after, .string t.note]) ∧ Hid (HasTx W.heap.size w' (some ⟨g1, 0, none⟩) n (some ⟨g2, 0, none⟩) m n m t l) ∧ Hid (DistW l) ∧ Below W.heap.size W w') := Lib.hid fun hs W h => (toTx_any 0 a n c b m d t W (hT.below h) hs).mono fun e w' q => by
    obtain ⟨g1, g2, l, he, hf, hI, hO, hD, hb⟩ := q
    exact ⟨g1, g2, l, he, Lib.hid ⟨hf.out, (own_lenU hI.1).symm, HNM.out.2, hI, hO⟩, hD, hb⟩
  have HTSS : Hid (len ≤ 1048576 → ∀ W, Below w.heap.size w W → Calls Try.prog 29 #[.slice sa len cap] W fun e w' => ∃ g, e = .returned (.slice (some ⟨g, 0, none⟩) len len) ∧ Hid (w'.ownsRow W.heap.size 9 1 (.slice (some ⟨g, 0, none⟩) len len) len (zs.map Value.string)) ∧ Below W.heap.size W w') := Lib.hid fun hl W h => (toStrs_row sa len cap zs W (hsr.below h) hl).mono fun e w' q => by
    obtain ⟨g, he, ho, hb⟩ := q
    exact ⟨g, he, Lib.hid ho, hb⟩
  have HSZ : Hid (∀ (W : World) (left : Int), Below w.heap.size w W → 0 ≤ left → left ≤ 1048576 → Calls Try.prog 27 #[.slice sa len cap, .int .i64 left] W fun e w' => ∃ v, e = .returned (.int .i64 v) ∧ (v < 0 ∨ (len ≤ 1048576 ∧ ∀ s ∈ zs, s.size ≤ 1048576)) ∧ Below W.heap.size W w') := Lib.hid fun W left h h0 h1 => (szStringS_any13 sa len cap zs left W (hsr.below h) h0 h1 (by omega) hm2).mono fun e w' q => by
    obtain ⟨v, he, hv, hb⟩ := q
    refine ⟨v, he, hv.imp id fun hv => ⟨by omega, fun s hs => by have := hv.2.2 s hs; omega⟩, hb⟩

  have vX0 : Bk w.heap.size 25 #[.slice a n c, .slice b m d, .int .i64 t.after, .string t.note] (w.alloc (.cells #[.slice a n c, .slice b m d, .int .i64 t.after, .string t.note] 25 (0, 0))) := Bk.new _ _ _
  have hb0 : Below w.heap.size w (w.alloc (.cells #[.slice a n c, .slice b m d, .int .i64 t.after, .string t.note] 25 (0, 0))) := (Below.refl _ _).alloc (Nat.le_refl _) _
  have hcs := szTx_any 0 a n c b m d t 1048576 _ (hT.below hb0) hr (by omega) (by omega)
  obtain ⟨x0, x1, x2, x3⟩ := Bk.c4 vX0
  clear hT hr hsr hm0 hm1 hm2
  go_enter Try.func9, Try.ntmps9
  go_wp2_with fail
  refine hcs.mono ?_
  rintro e w1 ⟨v, rfl, hv, hx⟩
  have vX1 := vX0.below hx
  have hb1 := hb0.trans (hx.mono hb0.size)
  clear hx hcs x0 x1 x2 x3 vX0 hb0
  by_cases hneg : v < 0
  · clear hv
    go_wp2
    go_ret
    exact ⟨rfl, hb1⟩
  have hv1 := (hv.resolve_left hneg).1
  have HS := Lib.hid (hv.resolve_left hneg).2
  have hcs := HSZ.out w1 v hb1 hv1.1 hv1.2
  clear hv hv1
  go_wp2_with fail
  refine hcs.mono ?_
  rintro e w2 ⟨u, rfl, hv, hx⟩
  have vX2 := vX1.below hx
  have hb2 := hb1.trans (hx.mono hb1.size)
  clear hx hcs vX1 hb1
  by_cases hneg2 : u < 0
  · clear hv
    go_wp2
    go_ret
    exact ⟨rfl, hb2⟩
  have HL := Lib.hid (hv.resolve_left hneg2)
  clear hv
  obtain ⟨c0, c1, c2, c3⟩ := Bk.c4 vX2
  have hcs := HTO.out HS.out w2 hb2
  go_wp2_with fail
  refine hcs.mono ?_
  rintro e w3 ⟨g1, g2, l3, rfl, H3, _, hx⟩
  have vX3 := vX2.below hx
  have hb3 := hb2.trans (hx.mono hb2.size)
  clear vX2 hb2 c0 c1 c2 c3 hx hcs 
  have HP3 := H3
  clear H3
  have hcs := HTSS.out HL.out.1 w3 hb3
  go_wp2_with fail
  refine hcs.mono ?_
  rintro e w4 ⟨g3, rfl, H4, hx⟩
  have vX4 := vX3.below hx
  have hb4 := hb3.trans (hx.mono hb3.size)
  have HP4 := Lib.hid (HP3.out.below hx)
  clear vX3 hb3 HP3  hx hcs 
  have hcs := HSPEC.out HS.out HL.out.1 HL.out.2 _ w4 g1 g2 g3 HP4.out.trR (SR.own H4.out).2
  go_wp2_with fail
  refine hcs.mono ?_
  rintro e w5 ⟨Aa, Ac, Ab, Ad, l5, rfl, hx, H5⟩
  have vX5 := (vX4.below hx).alloc (.cells #[.slice Aa N Ac, .slice Ab M Ad, .int .i64 AF, .string NT] 31 (0, 0))
  have hb5 := (hb4.trans (hx.mono hb4.size)).alloc (Nat.le_trans hb4.size hx.size) (.cells #[.slice Aa N Ac, .slice Ab M Ad, .int .i64 AF, .string NT] 31 (0, 0))
  have HP5 := Lib.hid ((HP4.out.below hx).alloc (.cells #[.slice Aa N Ac, .slice Ab M Ad, .int .i64 AF, .string NT] 31 (0, 0)))
  clear vX4 hb4 HP4  hx hcs H4
  have vA5 : Bk w5.heap.size 31 #[.slice Aa N Ac, .slice Ab M Ad, .int .i64 AF, .string NT] (w5.alloc (.cells #[.slice Aa N Ac, .slice Ab M Ad, .int .i64 AF, .string NT] 31 (0, 0))) := Bk.new _ _ _
  have HU5 := Lib.hid H5.out.up
  have HA5 := Lib.hid (H5.out.alloc (.cells #[.slice Aa N Ac, .slice Ab M Ad, .int .i64 AF, .string NT] 31 (0, 0)))
  have hs5 : (w5.alloc (.cells #[.slice Aa N Ac, .slice Ab M Ad, .int .i64 AF, .string NT] 31 (0, 0))).heap.size = w5.heap.size + 1 := by simp
  have hs05 : w.heap.size + 1 ≤ w5.heap.size + 1 := by have h1 := vX5.lt; rw [hs5] at h1; exact h1
  clear H5 HP5
  obtain ⟨c0, c1, c2, c3⟩ := Bk.c4 vX5
  have hcs := HTO.out HS.out _ hb5
  go_wp2_with fail
  refine hcs.mono ?_
  rintro e w6 ⟨g4, g5, l6, rfl, H6, HDX, hx⟩
  have hs6 : w5.heap.size + 1 ≤ w6.heap.size := by have := hx.size; omega
  have vX6 := (vX5.below hx).alloc (.cells #[.slice (some ⟨g4, 0, none⟩) n n, .slice (some ⟨g5, 0, none⟩) m m, .int .i64 t.after, .string t.note] 31 (0, 0))
  have hb6 := (hb5.trans (hx.mono hb5.size)).alloc (Nat.le_trans hb5.size hx.size) (.cells #[.slice (some ⟨g4, 0, none⟩) n n, .slice (some ⟨g5, 0, none⟩) m m, .int .i64 t.after, .string t.note] 31 (0, 0))
  have vA6 := (vA5.below hx).alloc (.cells #[.slice (some ⟨g4, 0, none⟩) n n, .slice (some ⟨g5, 0, none⟩) m m, .int .i64 t.after, .string t.note] 31 (0, 0))
  have HA6 := Lib.hid ((HA5.out.below hx).alloc (.cells #[.slice (some ⟨g4, 0, none⟩) n n, .slice (some ⟨g5, 0, none⟩) m m, .int .i64 t.after, .string t.note] 31 (0, 0)))
  clear vX5 hb5 vA5 HA5 c0 c1 c2 c3 hx hcs 
  have vB6 : Bk w6.heap.size 31 #[.slice (some ⟨g4, 0, none⟩) n n, .slice (some ⟨g5, 0, none⟩) m m, .int .i64 t.after, .string t.note] (w6.alloc (.cells #[.slice (some ⟨g4, 0, none⟩) n n, .slice (some ⟨g5, 0, none⟩) m m, .int .i64 t.after, .string t.note] 31 (0, 0))) := Bk.new _ _ _
  have HUX := Lib.hid H6.out.up
  have HX6 := Lib.hid (H6.out.alloc (.cells #[.slice (some ⟨g4, 0, none⟩) n n, .slice (some ⟨g5, 0, none⟩) m m, .int .i64 t.after, .string t.note] 31 (0, 0)))
  have hs6' : (w6.alloc (.cells #[.slice (some ⟨g4, 0, none⟩) n n, .slice (some ⟨g5, 0, none⟩) m m, .int .i64 t.after, .string t.note] 31 (0, 0))).heap.size = w6.heap.size + 1 := by simp
  rw [hs5] at HX6
  clear H6
  have hcs := HTSS.out HL.out.1 _ hb6
  go_wp2_with fail
  refine hcs.mono ?_
  rintro e w7 ⟨g7, rfl, H7, hx⟩
  have hs7 : w6.heap.size + 1 ≤ w7.heap.size := by have := hx.size; omega
  have vX7 := vX6.below hx
  have hb7 := hb6.trans (hx.mono hb6.size)
  have vA7 := vA6.below hx
  have HA7 := Lib.hid (HA6.out.below hx)
  have vB7 := vB6.below hx
  have HX7 := Lib.hid (HX6.out.below hx)
  clear vX6 hb6 vA6 HA6 vB6 HX6  hx hcs 
  have hg7 : w6.heap.size + 1 ≤ g7 ∧ g7 < w7.heap.size := by have h1 := H7.out.lt g7 rfl; rw [hs6'] at h1; exact h1
  rw [hs6'] at H7
  have HR7 := H7
  clear H7
  obtain ⟨c0, c1, c2, c3⟩ := Bk.c4 vB7
  have hcs := HIMPL.out HS.out HL.out.1 HL.out.2 _ w7 g4 g5 g7 HX7.out.trR (SR.own HR7.out).2
  go_wp2_with fail
  refine hcs.mono ?_
  rintro e w8 ⟨Ga, Gc, Gb, Gd, l8, rfl, hx, H8, HDG⟩
  have hs8 : w7.heap.size ≤ w8.heap.size := hx.size
  have vX8 := (vX7.below hx).alloc (.cells #[.slice Ga N Gc, .slice Gb M Gd, .int .i64 AF, .string NT] 31 (0, 0))
  have hb8 := (hb7.trans (hx.mono hb7.size)).alloc (Nat.le_trans hb7.size hx.size) (.cells #[.slice Ga N Gc, .slice Gb M Gd, .int .i64 AF, .string NT] 31 (0, 0))
  have vA8 := (vA7.below hx).alloc (.cells #[.slice Ga N Gc, .slice Gb M Gd, .int .i64 AF, .string NT] 31 (0, 0))
  have HA8 := Lib.hid ((HA7.out.below hx).alloc (.cells #[.slice Ga N Gc, .slice Gb M Gd, .int .i64 AF, .string NT] 31 (0, 0)))
  have vB8 := (vB7.below hx).alloc (.cells #[.slice Ga N Gc, .slice Gb M Gd, .int .i64 AF, .string NT] 31 (0, 0))
  have HX8 := Lib.hid ((HX7.out.below hx).alloc (.cells #[.slice Ga N Gc, .slice Gb M Gd, .int .i64 AF, .string NT] 31 (0, 0)))
  have HR8 := Lib.hid ((own_belQ HR7.out hx).alloc (.cells #[.slice Ga N Gc, .slice Gb M Gd, .int .i64 AF, .string NT] 31 (0, 0)))
  clear vX7 hb7 vA7 HA7 vB7 HX7 HR7 c0 c1 c2 c3 hx hcs 
  have vC8 : Bk w8.heap.size 31 #[.slice Ga N Gc, .slice Gb M Gd, .int .i64 AF, .string NT] (w8.alloc (.cells #[.slice Ga N Gc, .slice Gb M Gd, .int .i64 AF, .string NT] 31 (0, 0))) := Bk.new _ _ _
  have HUG := Lib.hid H8.out.up
  have HG8 := Lib.hid (H8.out.alloc (.cells #[.slice Ga N Gc, .slice Gb M Gd, .int .i64 AF, .string NT] 31 (0, 0)))
  have hs8' : (w8.alloc (.cells #[.slice Ga N Gc, .slice Gb M Gd, .int .i64 AF, .string NT] 31 (0, 0))).heap.size = w8.heap.size + 1 := by simp
  have HMK : Hid (Tr.mkE 1 l8 ≤ 1 + (N : Int) * 26) := Lib.hid (by
    have h0 : ∀ x ∈ l8, x.1.wit.length ≤ 24 := fun x hx => HFEW.out.2.2 x.1 (by rw [← H8.out.1]; exact List.mem_map_of_mem hx)
    have h1 := Tr.mkE_few l8 h0 1
    rw [H8.out.2.1] at h1
    exact h1)
  clear H8
  obtain ⟨c0, c1, c2, c3⟩ := Bk.c4 vA8
  obtain ⟨d0, d1, d2, d3⟩ := Bk.c4 vC8
  have hcs := HEQ.out _ _ _ Ga Gb Aa Ab Gc Gd Ac Ad HG8.out.trR HA8.out.trR
  go_wp2_with fail
  refine hcs.mono ?_
  rintro e w9 ⟨rfl, hx⟩
  have hs9 : w8.heap.size + 1 ≤ w9.heap.size := by have := hx.size; omega
  have vX9 := vX8.below hx
  have hb9 := hb8.trans (hx.mono hb8.size)
  have vA9 := vA8.below hx
  have HA9 := Lib.hid (HA8.out.below hx)
  have vB9 := vB8.below hx
  have HX9 := Lib.hid (HX8.out.below hx)
  have HR9 := Lib.hid (own_belQ HR8.out hx)
  have vC9 := vC8.below hx
  have HG9 := Lib.hid (HG8.out.below hx)
  clear vX8 hb8 vA8 HA8 vB8 HX8 HR8 vC8 HG8 c0 c1 c2 c3 d0 d1 d2 d3 hx hcs 
  clear hs8'
  have hS0 : (w9.drew.cell? ⟨w6.heap.size, 0, none⟩ = some (.slice (some ⟨g4, 0, none⟩) n n) ∧ w9.drew.cell? ⟨w6.heap.size, 1, none⟩ = some (.slice (some ⟨g5, 0, none⟩) m m) ∧ w9.drew.cell? ⟨w6.heap.size, 2, none⟩ = some (.int .i64 t.after) ∧ w9.drew.cell? ⟨w6.heap.size, 3, none⟩ = some (.string t.note)) ∧ (w9.drew.cell? ⟨w.heap.size, 0, none⟩ = some (.slice a n c) ∧ w9.drew.cell? ⟨w.heap.size, 1, none⟩ = some (.slice b m d) ∧ w9.drew.cell? ⟨w.heap.size, 2, none⟩ = some (.int .i64 t.after) ∧ w9.drew.cell? ⟨w.heap.size, 3, none⟩ = some (.string t.note)) := ⟨Bk.c4 vB9.drew, Bk.c4 vX9.drew⟩
  obtain ⟨c0, c1, c2, c3⟩ := Bk.c4 vB9
  obtain ⟨d0, d1, d2, d3⟩ := Bk.c4 vX9
  go_wp2
  clear c0 c1 c2 c3 d0 d1 d2 d3
  go_region_held3 (fun W => (W.cell? ⟨w6.heap.size, 0, none⟩ = some (.slice (some ⟨g4, 0, none⟩) n n) ∧ W.cell? ⟨w6.heap.size, 1, none⟩ = some (.slice (some ⟨g5, 0, none⟩) m m) ∧ W.cell? ⟨w6.heap.size, 2, none⟩ = some (.int .i64 t.after) ∧ W.cell? ⟨w6.heap.size, 3, none⟩ = some (.string t.note)) ∧ (W.cell? ⟨w.heap.size, 0, none⟩ = some (.slice a n c) ∧ W.cell? ⟨w.heap.size, 1, none⟩ = some (.slice b m d) ∧ W.cell? ⟨w.heap.size, 2, none⟩ = some (.int .i64 t.after) ∧ W.cell? ⟨w.heap.size, 3, none⟩ = some (.string t.note))) (first | with_reducible exact hS0 | with_reducible exact hS1 | with_reducible exact hS2)
    (first
      | (go_at_call 12; refine (HTO.out HS.out _ hb9.drew).mono ?_; rintro e w10 ⟨g8, g9, l10, rfl, H10, _, hx10⟩; have hb10 := hb9.drew.trans (hx10.mono hb9.drew.size); have hS1 : (w10.cell? ⟨w6.heap.size, 0, none⟩ = some (.slice (some ⟨g4, 0, none⟩) n n) ∧ w10.cell? ⟨w6.heap.size, 1, none⟩ = some (.slice (some ⟨g5, 0, none⟩) m m) ∧ w10.cell? ⟨w6.heap.size, 2, none⟩ = some (.int .i64 t.after) ∧ w10.cell? ⟨w6.heap.size, 3, none⟩ = some (.string t.note)) ∧ (w10.cell? ⟨w.heap.size, 0, none⟩ = some (.slice a n c) ∧ w10.cell? ⟨w.heap.size, 1, none⟩ = some (.slice b m d) ∧ w10.cell? ⟨w.heap.size, 2, none⟩ = some (.int .i64 t.after) ∧ w10.cell? ⟨w.heap.size, 3, none⟩ = some (.string t.note)) := ⟨Bk.c4 (vB9.drew.below hx10), Bk.c4 (vX9.drew.below hx10)⟩; have hcE := eqTx_any _ _ _ _ n _ _ m _ n _ m t w10 (HX9.out.drew.below hx10).trR H10.out.trR HS.out)
      | (go_at_call 14; refine hcE.mono ?_; rintro e w11 ⟨rfl, hx11⟩; have hS2 : (w11.cell? ⟨w6.heap.size, 0, none⟩ = some (.slice (some ⟨g4, 0, none⟩) n n) ∧ w11.cell? ⟨w6.heap.size, 1, none⟩ = some (.slice (some ⟨g5, 0, none⟩) m m) ∧ w11.cell? ⟨w6.heap.size, 2, none⟩ = some (.int .i64 t.after) ∧ w11.cell? ⟨w6.heap.size, 3, none⟩ = some (.string t.note)) ∧ (w11.cell? ⟨w.heap.size, 0, none⟩ = some (.slice a n c) ∧ w11.cell? ⟨w.heap.size, 1, none⟩ = some (.slice b m d) ∧ w11.cell? ⟨w.heap.size, 2, none⟩ = some (.int .i64 t.after) ∧ w11.cell? ⟨w.heap.size, 3, none⟩ = some (.string t.note)) := ⟨Bk.c4 ((vB9.drew.below hx10).below hx11), Bk.c4 ((vX9.drew.below hx10).below hx11)⟩))
  have hx : Below w9.heap.size w9 w11 := (Below.refl w9.heap.size w9).drew.trans ((show Below w9.heap.size w9.drew w10 from hx10).trans (hx11.mono (show w9.heap.size ≤ w10.heap.size from hx10.size)))
  have hs11 : w9.heap.size ≤ w11.heap.size := hx.size
  have vX11 := vX9.below hx
  have hb11 := hb9.trans (hx.mono hb9.size)
  have vA11 := vA9.below hx
  have HA11 := Lib.hid (HA9.out.below hx)
  have vB11 := vB9.below hx
  have HX11 := Lib.hid (HX9.out.below hx)
  have HR11 := Lib.hid (own_belQ HR9.out hx)
  have vC11 := vC9.below hx
  have HG11 := Lib.hid (HG9.out.below hx)
  clear vX9 hb9 vA9 HA9 vB9 HX9 HR9 vC9 HG9 hS0 hS1 hS2 hcE hx hx10 hx11 H10 hb10
  have hcs := HTSS.out HL.out.1 w11 hb11
  go_wp2_with fail
  refine hcs.mono ?_
  rintro e w12 ⟨g12, rfl, H12, hx⟩
  have hs12 : w11.heap.size ≤ w12.heap.size := hx.size
  have vX12 := vX11.below hx
  have hb12 := hb11.trans (hx.mono hb11.size)
  have vA12 := vA11.below hx
  have HA12 := Lib.hid (HA11.out.below hx)
  have vB12 := vB11.below hx
  have HX12 := Lib.hid (HX11.out.below hx)
  have HR12 := Lib.hid (own_belQ HR11.out hx)
  have vC12 := vC11.below hx
  have HG12 := Lib.hid (HG11.out.below hx)
  clear vX11 hb11 vA11 HA11 vB11 HX11 HR11 vC11 HG11  hx hcs 
  have hcs := eqStringS_any _ _ len len len zs w12 (SR.own HR12.out).2 (SR.own H12.out).2 (by have := HL.out.1; omega)
  go_wp2_with fail
  refine hcs.mono ?_
  rintro e w13 ⟨rfl, hx⟩
  have hs13 : w12.heap.size ≤ w13.heap.size := hx.size
  have vX13 := vX12.below hx
  have hb13 := hb12.trans (hx.mono hb12.size)
  have vA13 := vA12.below hx
  have HA13 := Lib.hid (HA12.out.below hx)
  have vB13 := vB12.below hx
  have HX13 := Lib.hid (HX12.out.below hx)
  have HR13 := Lib.hid (own_belQ HR12.out hx)
  have vC13 := vC12.below hx
  have HG13 := Lib.hid (HG12.out.below hx)
  clear vX12 hb12 vA12 HA12 vB12 HX12 HR12 vC12 HG12  hx hcs H12
  have hlX : ∀ x ∈ l6, x.1.wit.length ≤ 1048576 := fun x hx => (HS.out.wit x.1 (by rw [← HX13.out.1]; exact List.mem_map_of_mem hx)).1
  have hupX := Tr.mkE_up l6 hlX 1
  have hlnX := HX13.out.2.1
  have hnS := HS.out.nin
  have hmS := HS.out.nout
  have hnm := HNM.out
  obtain ⟨K, hK⟩ : ∃ K, Hid (Tr.mkE 1 l6 + 2 * (m : Int) = K) := ⟨_, Lib.hid rfl⟩
  have hK0 : 1 ≤ K := by have h1 := Tr.mkE_le l6 1; have := hK.out; omega
  have hK1 : K ≤ 2000000000000 := by have := hK.out; omega
  clear hlX hupX hlnX hnS hmS hnm
  obtain ⟨c0, c1, c2, c3⟩ := Bk.c4 vB13
  have hcs := mark_has t.after t.note HX13.out HDX.out HUX.out (by omega) HS.out
  rw [hK.out] at hcs
  go_wp2_with fail
  refine hcs.mono ?_
  rintro e w14 ⟨rfl, _, hsg⟩
  have hs14 : w13.heap.size ≤ w14.heap.size := hsg.out.size
  have vX14 := vX13.seg hsg.out (.inl (by omega))
  have hb14 := hb13.trans (hsg.out.below (N := w.heap.size) (by omega) hb13.size)
  have vA14 := vA13.seg hsg.out (.inl (by omega))
  have HA14 := Lib.hid (HA13.out.segLo hsg.out (HU5.out.mono (by omega)))
  have vB14 := vB13.seg hsg.out (.inr (Nat.le_refl _))
  have HR14 := Lib.hid (own_seg HR13.out hsg.out (fun q hq => .inr (by cases hq; exact Nat.le_trans (Nat.le_succ _) hg7.1)))
  have vC14 := vC13.seg hsg.out (.inr (by omega))
  have HG14 := Lib.hid (HG13.out.segHi hsg.out (by omega))
  clear vX13 hb13 vA13 HA13 vB13 HX13 HR13 vC13 HG13 c0 c1 c2 c3 hcs hsg
  have hcs := markStrs_row _ _ len len K zs w14 HR14.out hK0 (by omega) HL.out.1
  have hlenB := HL.out.1
  go_wp2_with fail
  refine hcs.mono ?_
  rintro e w15 ⟨rfl, hgr, _⟩
  have hsg : Hid (Seg (w6.heap.size + 1) w7.heap.size w14 w15) := Lib.hid (Seg.of_grown hgr fun q e => by cases e; exact hg7)
  have hs15 : w14.heap.size ≤ w15.heap.size := hsg.out.size
  have vX15 := vX14.seg hsg.out (.inl (by omega))
  have hb15 := hb14.trans (hsg.out.below (N := w.heap.size) (by omega) hb14.size)
  have vA15 := vA14.seg hsg.out (.inl (by omega))
  have HA15 := Lib.hid (HA14.out.segLo hsg.out (HU5.out.mono (by omega)))
  have vB15 := vB14.seg hsg.out (.inl (by omega))
  have vC15 := vC14.seg hsg.out (.inr (by omega))
  have HG15 := Lib.hid (HG14.out.segHi hsg.out (Nat.le_refl _))
  clear vX14 hb14 vA14 HA14 vB14 HR14 vC14 HG14 hcs hsg hgr
  obtain ⟨c0, c1, c2, c3⟩ := Bk.c4 vA15
  obtain ⟨d0, d1, d2, d3⟩ := Bk.c4 vC15
  have hcs := HEQ.out _ _ _ Ga Gb Aa Ab Gc Gd Ac Ad HG15.out.trR HA15.out.trR
  go_wp2_with fail
  refine hcs.mono ?_
  rintro e w16 ⟨rfl, hx⟩
  have hs16 : w15.heap.size ≤ w16.heap.size := hx.size
  have vX16 := vX15.below hx
  have hb16 := hb15.trans (hx.mono hb15.size)
  have vA16 := vA15.below hx
  have HA16 := Lib.hid (HA15.out.below hx)
  have vB16 := vB15.below hx
  have vC16 := vC15.below hx
  have HG16 := Lib.hid (HG15.out.below hx)
  clear vX15 hb15 vA15 HA15 vB15 vC15 HG15 c0 c1 c2 c3 d0 d1 d2 d3 hx hcs 
  obtain ⟨J, hJ⟩ : ∃ J, Hid (Tr.mkE 1 l8 + 2 * (M : Int) = J) := ⟨_, Lib.hid rfl⟩
  have hE : Tr.mkE 1 l8 ≤ 1000 := by have h1 := HMK.out; have h2 := HFEW.out.1; omega
  have hJ0 : 1 ≤ J := by have h1 := Tr.mkE_le l8 1; have := hJ.out; omega
  have hJ1 : J ≤ 2000 := by have h2 := HFEW.out.2.1; have := hJ.out; omega
  have HE := Lib.hid hE
  clear hE HMK
  obtain ⟨c0, c1, c2, c3⟩ := Bk.c4 vC16
  have hcs := mark_has AF NT HG16.out HDG.out HUG.out (by omega) HTS.out
  rw [hJ.out] at hcs
  go_wp2_with fail
  refine hcs.mono ?_
  rintro e w17 ⟨rfl, HM17, hsg⟩
  have hs17 : w16.heap.size ≤ w17.heap.size := hsg.out.size
  have vX17 := vX16.seg hsg.out (.inl (by omega))
  have hb17 := hb16.trans (hsg.out.below (N := w.heap.size) (by omega) hb16.size)
  have vA17 := vA16.seg hsg.out (.inl (by omega))
  have HA17 := Lib.hid (HA16.out.segLo hsg.out (HU5.out.mono (by omega)))
  have vC17 := vC16.seg hsg.out (.inr (Nat.le_refl _))
  clear vX16 hb16 vA16 HA16 vB16 vC16 HG16 c0 c1 c2 c3 hcs hsg
  obtain ⟨c0, c1, c2, c3⟩ := Bk.c4 vC17
  have hcs := held_has AF NT HM17.out HE.out HFEW.out.1 HFEW.out.2.1
  rw [hJ.out] at hcs
  go_wp2_with fail
  refine hcs.mono ?_
  rintro e w18 ⟨rfl, hx⟩
  have vX18 := vX17.below hx
  have hb18 := hb17.trans (hx.mono hb17.size)
  have vA18 := vA17.below hx
  have HA18 := Lib.hid (HA17.out.below hx)
  have vC18 := vC17.below hx
  have HM18 := Lib.hid (HM17.out.below hx)
  clear vX17 hb17 vA17 HA17 vC17 HM17 c0 c1 c2 c3 hx hcs 
  obtain ⟨c0, c1, c2, c3⟩ := Bk.c4 vX18
  have hcs := HTO.out HS.out w18 hb18
  go_wp2_with fail
  refine hcs.mono ?_
  rintro e w19 ⟨p1, p2, l19, rfl, H19, _, hx⟩
  have vX19 := vX18.below hx
  have hb19 := hb18.trans (hx.mono hb18.size)
  have vA19 := vA18.below hx
  have HA19 := Lib.hid (HA18.out.below hx)
  have vC19 := vC18.below hx
  have HM19 := Lib.hid (HM18.out.below hx)
  clear vX18 hb18 vA18 HA18 vC18 HM18 c0 c1 c2 c3 hx hcs 
  have HP19 := H19
  clear H19
  have hcs := HTSS.out HL.out.1 w19 hb19
  go_wp2_with fail
  refine hcs.mono ?_
  rintro e w20 ⟨p3, rfl, H20, hx⟩
  have vX20 := vX19.below hx
  have hb20 := hb19.trans (hx.mono hb19.size)
  have vA20 := vA19.below hx
  have HA20 := Lib.hid (HA19.out.below hx)
  have vC20 := vC19.below hx
  have HM20 := Lib.hid (HM19.out.below hx)
  have HP20 := Lib.hid (HP19.out.below hx)
  clear vX19 hb19 vA19 HA19 vC19 HM19 HP19  hx hcs 
  have hcs := HIMPL.out HS.out HL.out.1 HL.out.2 _ w20 p1 p2 p3 HP20.out.trR (SR.own H20.out).2
  go_wp2_with fail
  refine hcs.mono ?_
  rintro e w21 ⟨Ha, Hc, Hb, Hd, l21, rfl, hx, H21, _⟩
  have vX21 := (vX20.below hx).alloc (.cells #[.slice Ha N Hc, .slice Hb M Hd, .int .i64 AF, .string NT] 31 (0, 0))
  have hb21 := (hb20.trans (hx.mono hb20.size)).alloc (Nat.le_trans hb20.size hx.size) (.cells #[.slice Ha N Hc, .slice Hb M Hd, .int .i64 AF, .string NT] 31 (0, 0))
  have vA21 := (vA20.below hx).alloc (.cells #[.slice Ha N Hc, .slice Hb M Hd, .int .i64 AF, .string NT] 31 (0, 0))
  have HA21 := Lib.hid ((HA20.out.below hx).alloc (.cells #[.slice Ha N Hc, .slice Hb M Hd, .int .i64 AF, .string NT] 31 (0, 0)))
  have vC21 := (vC20.below hx).alloc (.cells #[.slice Ha N Hc, .slice Hb M Hd, .int .i64 AF, .string NT] 31 (0, 0))
  have HM21 := Lib.hid ((HM20.out.below hx).alloc (.cells #[.slice Ha N Hc, .slice Hb M Hd, .int .i64 AF, .string NT] 31 (0, 0)))
  have HP21 := Lib.hid ((HP20.out.below hx).alloc (.cells #[.slice Ha N Hc, .slice Hb M Hd, .int .i64 AF, .string NT] 31 (0, 0)))
  clear vX20 hb20 vA20 HA20 vC20 HM20 HP20  hx hcs H20
  have vH21 : Bk w21.heap.size 31 #[.slice Ha N Hc, .slice Hb M Hd, .int .i64 AF, .string NT] (w21.alloc (.cells #[.slice Ha N Hc, .slice Hb M Hd, .int .i64 AF, .string NT] 31 (0, 0))) := Bk.new _ _ _
  have HH21 := Lib.hid (H21.out.alloc (.cells #[.slice Ha N Hc, .slice Hb M Hd, .int .i64 AF, .string NT] 31 (0, 0)))
  clear H21 HP21
  obtain ⟨c0, c1, c2, c3⟩ := Bk.c4 vA21
  obtain ⟨d0, d1, d2, d3⟩ := Bk.c4 vH21
  have hcs := HEQ.out _ _ _ Ha Hb Aa Ab Hc Hd Ac Ad HH21.out.trR HA21.out.trR
  go_wp2_with fail
  refine hcs.mono ?_
  rintro e w22 ⟨rfl, hx⟩
  have vX22 := vX21.below hx
  have hb22 := hb21.trans (hx.mono hb21.size)
  have vA22 := vA21.below hx
  have HA22 := Lib.hid (HA21.out.below hx)
  have vC22 := vC21.below hx
  have HM22 := Lib.hid (HM21.out.below hx)
  have vH22 := vH21.below hx
  have HH22 := Lib.hid (HH21.out.below hx)
  clear vX21 hb21 vA21 HA21 vC21 HM21 vH21 HH21 c0 c1 c2 c3 d0 d1 d2 d3 hx hcs 
  obtain ⟨c0, c1, c2, c3⟩ := Bk.c4 vC22
  have hcs := held_has AF NT HM22.out HE.out HFEW.out.1 HFEW.out.2.1
  rw [hJ.out] at hcs
  go_wp2_with fail
  refine hcs.mono ?_
  rintro e w23 ⟨rfl, hx⟩
  have vX23 := vX22.below hx
  have hb23 := hb22.trans (hx.mono hb22.size)
  have vA23 := vA22.below hx
  have HA23 := Lib.hid (HA22.out.below hx)
  have vC23 := vC22.below hx
  have HM23 := Lib.hid (HM22.out.below hx)
  have vH23 := vH22.below hx
  have HH23 := Lib.hid (HH22.out.below hx)
  clear vX22 hb22 vA22 HA22 vC22 HM22 vH22 HH22 c0 c1 c2 c3 hx hcs 
  clear vX23 vA23 vC23 vH23 HA23 HM23 HH23
  go_wp2
  go_ret
  exact ⟨rfl, hb23⟩
/-! ### The row's step. -/
theorem own : ownKnob Try.prog.godebug = none := by kernel_rfl
theorem laidOut : laidOutB Try.prog = true := by kernel_rfl
set_option maxRecDepth 100000 in
theorem lifted (os : Os) (started : os.Started) (H : Type) (enc : TypeId × Value → H) :
    ReturnsInHanded {} Try.checked os 9 .any (Rows.fnExactWithWitnessSpec.pre6 enc Try.prog Try.f9 Rows.fnExactWithWitnessRow.domain false) (Rows.fnExactWithWitnessSpec.post enc Try.prog Try.f9 false true false false) := by
  refine returnsInHanded_of_change (C := Try.checked) own started (by kernel_rfl) Try.func9
    (ChangeSpec.witness6 (enc := enc) (C := Try.checked) false ⟨#[], #[.agg #[.slice none 0 0, .slice none 0 0, .int .i64 0, .string ByteArray.empty], .int .i64 0, .slice none 0 0], []⟩ 8 (by kernel_rfl) (by kernel_rfl) (by kernel_rfl) (by kernel_rfl)) ?_
  intro W base args ds gs before hval0 hW hcnd _
  have hval : ∀ (j : Nat) t v, Try.f9.params[j]? = some t → args[j]? = some v → Value.okWide Try.prog W .any base t v := hval0
  have hW' := hW
  obtain ⟨p, q, hA0, hV, rfl, hfz, hnd⟩ := hW
  have hA : DataW.TrodAll enc Try.prog W 0 (fun _ => true) true Try.f9.params.toList args.toList ds p := hA0
  rw [Try.params9] at hA hval
  obtain ⟨v0, vs0, d0, ds0, p0, q0, hargs, rfl, rfl, h0, r0⟩ := trodAll_cons hA
  obtain ⟨v1, vs1, d1, ds1, p1, q1, rfl, rfl, rfl, h1, r1⟩ := trodAll_cons r0
  obtain ⟨v2, vs2, d2, ds2, p2, q2, rfl, rfl, rfl, h2, r2⟩ := trodAll_cons r1
  obtain ⟨rfl, rfl, rfl⟩ := trodAll_nil r2
  obtain rfl : args = #[v0, v1, v2] := by cases args; simp_all
  obtain ⟨rfl, rfl⟩ := trodVars_none hV
  obtain ⟨tA0, tN0, tC0, tB0, tM0, tK0, tT0, rfl, w0⟩ := open_tx (hval 0 25 v0 rfl rfl) h0
  have k0 := h0
  have lt0 : ∀ x ∈ p0, x.block < W.heap.size := by obtain ⟨m, hm⟩ := k0; exact DataW.trod_lt m _ _ _ hm
  obtain ⟨a1, rfl, rfl, rfl, w1⟩ := open_int Try.underlying3 (hval 1 3 v1 rfl rfl) h1
  obtain ⟨a2, len2, cap2, rfl⟩ := okWide_slice Try.underlying44 (hval 2 44 v2 rfl rfl)
  have k2 := h2
  have lt2 : ∀ x ∈ p2, x.block < W.heap.size := by obtain ⟨m, hm⟩ := k2; exact DataW.trod_lt m _ _ _ hm
  obtain ⟨z2, w2⟩ : ∃ zs, IsStrs W a2 len2 cap2 zs := by
    obtain ⟨fuel, hf⟩ := h2
    rcases open_strings Try.underlying44 Try.underlying9 (by kernel_rfl) hf with ⟨hcs, _⟩ | ⟨x, l, c, zs, hcs, _, hl, hm, hz, _, hcell, hwz⟩
    · simp [Value.cells] at hcs
      obtain ⟨rfl, rfl, rfl⟩ := hcs
      exact ⟨[], .inl ⟨rfl, rfl, rfl, rfl⟩⟩
    · simp [Value.cells] at hcs
      obtain ⟨rfl, rfl, rfl⟩ := hcs
      exact ⟨zs, .inr ⟨_, rfl, hl, hm, by simpa using hz, hcell, hwz⟩⟩
  clear hA0 hval0
  refine (walk tA0 tN0 tC0 tB0 tM0 tK0 tT0 a1 w1 a2 len2 cap2 z2 W w0 w2).mono fun e W' ⟨he, bel⟩ => ?_
  subst he
  exact ⟨_, rfl, _, _, _, [], _, [], hW', trodAll_mk1 (shut_bool Try.underlying4 _), (trodAll_cons_mk (Below.trod laidOut (by kernel_rfl) (of_decide_eq_true (by kernel_rfl)) k0 bel lt0) (trodAll_cons_mk (shut_int Try.underlying3 w1) (trodAll_cons_mk (Below.trod laidOut (by kernel_rfl) (of_decide_eq_true (by kernel_rfl)) k2 bel lt2) trodAll_mk0))), rfl, bel.frame _, fun h => by cases h⟩
theorem over : Rows.fnExactWithWitnessRow.holds Try.pinned (OpenSpec.ofChange Rows.fnExactWithWitnessSpec) :=
  OpenClaim.holds_of_wide 9 Try.f9 rfl rfl rfl rfl rfl rfl rfl ⟨rfl, rfl, rfl, rfl, rfl⟩ rfl rfl rfl rfl rfl (by kernel_rfl) Try.func9 (by kernel_rfl)
    (of_decide_eq_true (by kernel_rfl)) (by unfold Func.isWrapper; first | (rw [if_pos (by decide +kernel)]; kernel_rfl) | (rw [if_neg (by decide +kernel)]; exact ⟨rfl, rfl⟩))
    (fun os started H enc _ => lifted os started H enc)
theorem proved : Rows.FnExactWithWitnessSaid := over
#print axioms proved
end Go.Proofs.Ytedjbikphdflhab.fnExactWithWitness
