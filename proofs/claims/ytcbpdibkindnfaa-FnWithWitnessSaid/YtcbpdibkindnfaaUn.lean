/-
  Contracts of WithWitness, of the model and of the program.
-/
import Derived.Test.YtcbpdibkindnfaaTz
import Derived.Test.YtcbpdibkindnfaaTu
import Derived.Test.YtcbpdibkindnfaaTm
namespace Go.Proofs.Ytcbpdibkindnfaa
open Go.RowKit

theorem Tr.small.with_ {t : Tr} (h : t.small) (i : Int) {ss : List ByteArray} (h1 : ss.length ≤ 1048576) (h2 : ∀ s ∈ ss, s.size ≤ 1048576) : (t.with_ i ss).small := by
  have key : ∀ x ∈ (t.with_ i ss).ins, ∃ y ∈ t.ins, x = y ∨ x = ⟨y.tx, y.out, ss⟩ := by
    intro x hx
    have hx2 : x ∈ Tr.putW i ss t.ins := hx
    clear hx
    obtain ⟨j, hj, rfl⟩ := List.getElem_of_mem hx2
    have hj2 : j < t.ins.length := by rw [Tr.putW_length] at hj; exact hj
    refine ⟨t.ins[j], List.getElem_mem hj2, ?_⟩
    have h3 := Tr.putW_at i ss t.ins j hj2
    unfold Tr.inAt at h3
    rw [List.getD_eq_getElem?_getD, List.getD_eq_getElem?_getD, List.getElem?_eq_getElem hj2, List.getElem?_eq_getElem (by rw [Tr.putW_length]; exact hj2)] at h3
    simp only [Option.getD_some] at h3
    rw [h3]
    split
    · exact .inr rfl
    · exact .inl rfl
  refine ⟨?_, h.nout, fun x hx => ?_, fun x hx => ?_, h.lock, h.note⟩
  · show (Tr.putW i ss t.ins).length ≤ _
    rw [Tr.putW_length]; exact h.nin
  · obtain ⟨y, hy, e | e⟩ := key x hx
    · subst e; exact h.wit x hy
    · subst e; exact ⟨h1, h2⟩
  · obtain ⟨y, hy, e | e⟩ := key x hx
    · subst e; exact h.num x hy
    · subst e; exact h.num y hy
theorem OwnI.trR3 {base : Nat} {w : World} {a b : Option Addr} {n c m d : Nat} {ll : List (Tr.In × Value)} {t : Tr} (hI : OwnI base w (.slice a n c) ll) (hO : OwnO base w (.slice b m d) t.outs) (hf : ll.map Prod.fst = t.ins) : TrR base w a n b m t := by
  have h := hI.trR (af := 0) (nt := ⟨#[]⟩) hO
  exact ⟨hf ▸ h.ins, h.outs⟩
theorem own_cap13 {w : World} {base size n cap k : Nat} {e : TypeId} {a : Option Addr} {xs : List Value} (h : w.ownsRow base e size (.slice a n cap) k xs) : n ≤ cap := by
  rcases h.2 with ⟨h, _⟩ | ⟨g, cap', cur, he, _, _, hn, _⟩
  · cases h; exact Nat.le_refl _
  · cases he
    exact hn
theorem OwnI.belQ {base : Nat} {w w' : World} {v : Value} {l : List (Tr.In × Value)} (h : OwnI base w v l) (hb : Below w.heap.size w w') : OwnI base w' v l := h.below13 hb

set_option maxRecDepth 100000 in
set_option maxHeartbeats 3200000 in
theorem specWithWitness_any (lo : Nat) (a : Option Addr) (n c : Nat) (b : Option Addr) (m d : Nat) (t : Tr) (i : Int) (sa : Option Addr) (sc : Nat) (ss : List ByteArray) (w : World) (h : TrR lo w a n b m t) (hs : t.small) (hsr : SR w sa ss.length ss) (hz1 : ss.length ≤ 1048576) (hz2 : ∀ s ∈ ss, s.size ≤ 1048576) :
    Calls Try.prog 25 #[.agg #[.slice a n c, .slice b m d, .int .i64 t.after, .string t.note], .int .i64 i, .slice sa ss.length sc] w (TxAns (t.withOk i ss) w) := by
  have hnn := h.ins.1
  have hnb := hs.nin
  have hn6 : n ≤ 1048576 := by omega
  have hm6 : m ≤ 1048576 := by have := hs.nout; have := h.outs.1; omega
  have vB0 : Bk w.heap.size 26 #[.slice a n c, .slice b m d, .int .i64 t.after, .string t.note] ((w.alloc (.cells #[.slice a n c, .slice b m d, .int .i64 t.after, .string t.note] 26 (0, 0))).alloc (.cells #[.slice none 0 0, .slice none 0 0, .int .i64 0, .string ⟨#[]⟩] 26 (0, 0))) := (Bk.new _ _ _).alloc _
  have vR0 : Bk (w.heap.size + 1) 26 #[.slice none 0 0, .slice none 0 0, .int .i64 0, .string ⟨#[]⟩] ((w.alloc (.cells #[.slice a n c, .slice b m d, .int .i64 t.after, .string t.note] 26 (0, 0))).alloc (.cells #[.slice none 0 0, .slice none 0 0, .int .i64 0, .string ⟨#[]⟩] 26 (0, 0))) := Bk.new' _ _ _ _ (by simp)
  have hb0 : Below w.heap.size w ((w.alloc (.cells #[.slice a n c, .slice b m d, .int .i64 t.after, .string t.note] 26 (0, 0))).alloc (.cells #[.slice none 0 0, .slice none 0 0, .int .i64 0, .string ⟨#[]⟩] 26 (0, 0))) := ((Below.refl _ _).alloc (Nat.le_refl _) _).alloc (by simp) _
  have HH := Lib.hid h
  have HS := Lib.hid hs
  have HSU := Lib.hid (hs.with_ i hz1 hz2)
  have HSR := Lib.hid hsr
  have hcT := TxOk_any lo a n c b m d t _ (h.below hb0) hs
  obtain ⟨q, hq⟩ : ∃ q, Hid (ss.length = q) := ⟨_, Lib.hid rfl⟩
  rw [hq.out] at hz1
  rw [hq.out]
  have HNO1 : Hid (t.ok = false → t.withOk i ss = none) := Lib.hid Tr.withOk_no1
  have HNO2 : Hid ((decide (0 ≤ i) && decide (i ≤ (n : Int) - 1)) = false → t.withOk i ss = none) := Lib.hid fun h => Tr.withOk_no2 (by rw [hnn]; exact h)
  have HNO3 : Hid ((t.with_ i ss).ok = false → t.withOk i ss = none) := Lib.hid Tr.withOk_no3
  have HYES : Hid (t.ok = true → (decide (0 ≤ i) && decide (i ≤ (n : Int) - 1)) = true → (t.with_ i ss).ok = true → t.withOk i ss = some (t.with_ i ss)) := Lib.hid fun h1 h2 h3 => Tr.withOk_yes h1 (by rw [hnn]; exact h2) h3
  have hw1 : IntKind.i64.wrap ((n : Int) - 1) = (n : Int) - 1 := IntWalk.i64_in _ (by omega)
  have hcI := fun W => l6In_any i 0 ((n : Int) - 1) W
  obtain ⟨d0, d1, d2, d3⟩ := Bk.c4 vB0
  clear h hs hsr hz2 hnn hnb
  unfold TxAns
  cases hok : t.ok
  · rw [hok] at hcT
    have HNO := Lib.hid (HNO1.out hok)
    clear hok hcI HNO1 HNO2 HNO3 HYES
    go_enter Try.func25, Try.ntmps25
    go_wp2_with fail
    refine hcT.mono ?_
    rintro e w1 ⟨rfl, hx⟩
    have hb1 := hb0.trans (hx.mono hb0.size)
    have vR := vR0.below hx
    clear hx hcT d0 d1 d2 d3 vB0 vR0
    have hR := vR.store4 (.slice none 0 0) (.slice none 0 0) (.int .i64 0) (.string ⟨#[]⟩)
    have hbz := below_store4 hb1 (w.heap.size + 1) (by omega) (.slice none 0 0) (.slice none 0 0) (.int .i64 0) (.string ⟨#[]⟩)
    obtain ⟨y0, y1, y2, y3⟩ := Bk.c4 vR
    obtain ⟨f0, f1, f2, f3⟩ := Bk.f4 vR
    clear vR
    go_wp2
    refine bodyPost_ret (results_ct13 (P := Try.prog) rfl _ _ (w.heap.size + 1) 26 _ (0, 0) _ rfl hR.held Try.underlying26 rfl (by kernel_rfl)) rfl ?_
    exact ⟨none, 0, 0, none, 0, 0, 0, ⟨#[]⟩, false, rfl, hbz, .inl ⟨HNO, rfl, rfl, rfl, rfl, rfl, rfl, rfl, rfl, rfl⟩⟩
  rw [hok] at hcT
  have HOK := Lib.hid hok
  clear hok
  cases hI : (decide (0 ≤ i) && decide (i ≤ (n : Int) - 1))
  · simp only [hI] at hcI
    have HNO := Lib.hid (HNO2.out hI)
    clear hI HNO1 HNO2 HNO3 HYES
    go_enter Try.func25, Try.ntmps25
    go_wp2_with fail
    refine hcT.mono ?_
    rintro e w1 ⟨rfl, hx⟩
    have hb1 := hb0.trans (hx.mono hb0.size)
    have vR1 := vR0.below hx
    obtain ⟨e0, e1, e2, e3⟩ := Bk.c4 (vB0.below hx)
    clear hx hcT d0 d1 d2 d3 vB0 vR0
    go_wp2_with fail
    refine (hcI _).mono ?_
    rintro e w2 ⟨rfl, rfl⟩
    clear e0 e1 e2 e3 hcI
    have hR := vR1.store4 (.slice none 0 0) (.slice none 0 0) (.int .i64 0) (.string ⟨#[]⟩)
    have hbz := below_store4 hb1 (w.heap.size + 1) (by omega) (.slice none 0 0) (.slice none 0 0) (.int .i64 0) (.string ⟨#[]⟩)
    obtain ⟨y0, y1, y2, y3⟩ := Bk.c4 vR1
    obtain ⟨f0, f1, f2, f3⟩ := Bk.f4 vR1
    clear vR1
    go_wp2
    refine bodyPost_ret (results_ct13 (P := Try.prog) rfl _ _ (w.heap.size + 1) 26 _ (0, 0) _ rfl hR.held Try.underlying26 rfl (by kernel_rfl)) rfl ?_
    exact ⟨none, 0, 0, none, 0, 0, 0, ⟨#[]⟩, false, rfl, hbz, .inl ⟨HNO, rfl, rfl, rfl, rfl, rfl, rfl, rfl, rfl, rfl⟩⟩
  simp only [hI] at hcI
  have HI : Hid (0 ≤ i ∧ i ≤ (n : Int) - 1) := Lib.hid (by
    rw [Bool.and_eq_true, decide_eq_true_eq, decide_eq_true_eq] at hI
    exact hI)
  have HIB := Lib.hid hI
  clear hI HNO1 HNO2
  go_enter Try.func25, Try.ntmps25
  go_wp2_with fail
  refine hcT.mono ?_
  rintro e w1 ⟨rfl, hx⟩
  have hb1 := hb0.trans (hx.mono hb0.size)
  have vR1 := vR0.below hx
  have vB1 := vB0.below hx
  obtain ⟨e0, e1, e2, e3⟩ := Bk.c4 vB1
  clear hx hcT d0 d1 d2 d3 vB0 vR0 hb0
  go_wp2_with fail
  refine (hcI _).mono ?_
  rintro e w2 ⟨rfl, rfl⟩
  have hcW := l13With_any lo a n c b m d t i sa sc ss _ (HH.out.below hb1) hn6 (HSR.out.below hb1)
  rw [hq.out] at hcW
  go_wp2_with fail
  refine hcW.mono ?_
  rintro e w3 ⟨a2, c2, rfl, hT, hx⟩
  have hb3 := hb1.trans (hx.mono hb1.size)
  have vR3 := vR1.below hx
  have hcC := l13Copy_any 0 a2 n c2 b m d (t.with_ i ss) _ hT hn6 hm6 (fun x hx => (HSU.out.wit x hx).1)
  rw [show (t.with_ i ss).after = t.after from rfl, show (t.with_ i ss).note = t.note from rfl] at hcC
  clear hx hcW hT hcI e0 e1 e2 e3 vB1 vR1
  go_wp2_with fail
  refine hcC.mono ?_
  rintro e w4 ⟨a3, c3, b3, d3, ll, rfl, HF, hoi, hoo, HDI, hx⟩
  have hb4 := hb3.trans (hx.mono hb3.size)
  have vR4 := vR3.below hx
  have HOI4 := Lib.hid (hoi.base13 hb3.size)
  have HOO4 : Hid (OwnO w.heap.size w4 (.slice b3 m d3) (t.with_ i ss).outs) := Lib.hid (ownsRow_base (show World.ownsRow _ _ 66 2 (.slice b3 m d3) _ (Tr.ocs _) from hoo) hb3.size)
  clear hx hcC hoi hoo vR3
  have hbU := hb4.alloc hb4.size (.cells #[.slice a3 n c3, .slice b3 m d3, .int .i64 t.after, .string t.note] 26 (0, 0))
  have vU : Bk w4.heap.size 26 #[.slice a3 n c3, .slice b3 m d3, .int .i64 t.after, .string t.note] (w4.alloc (.cells #[.slice a3 n c3, .slice b3 m d3, .int .i64 t.after, .string t.note] 26 (0, 0))) := Bk.new _ _ _
  have vRU := vR4.alloc (.cells #[.slice a3 n c3, .slice b3 m d3, .int .i64 t.after, .string t.note] 26 (0, 0))
  have HOI5 := Lib.hid (HOI4.out.alloc (.cells #[.slice a3 n c3, .slice b3 m d3, .int .i64 t.after, .string t.note] 26 (0, 0)))
  have HOO5 := Lib.hid (OwnO.alloc13 HOO4.out (.cells #[.slice a3 n c3, .slice b3 m d3, .int .i64 t.after, .string t.note] 26 (0, 0)))
  have hTU := OwnI.trR3 HOI5.out HOO5.out HF.out
  have hcU := TxOk_any w.heap.size a3 n c3 b3 m d3 (t.with_ i ss) _ hTU HSU.out
  rw [show (t.with_ i ss).after = t.after from rfl, show (t.with_ i ss).note = t.note from rfl] at hcU
  obtain ⟨g0, g1, g2, g3⟩ := Bk.c4 vU
  clear HOI4 HOO4 hTU vR4
  cases hok : (t.with_ i ss).ok
  · rw [hok] at hcU
    have HNO := Lib.hid (HNO3.out hok)
    clear hok HNO3 HYES
    go_wp2_with fail
    refine hcU.mono ?_
    rintro e w6 ⟨rfl, hx⟩
    have hb6 := hbU.trans (hx.mono hbU.size)
    have vR := vRU.below hx
    clear hx hcU g0 g1 g2 g3 vU vRU HOI5 HOO5
    have hR := vR.store4 (.slice none 0 0) (.slice none 0 0) (.int .i64 0) (.string ⟨#[]⟩)
    have hbz := below_store4 hb6 (w.heap.size + 1) (by omega) (.slice none 0 0) (.slice none 0 0) (.int .i64 0) (.string ⟨#[]⟩)
    obtain ⟨y0, y1, y2, y3⟩ := Bk.c4 vR
    obtain ⟨f0, f1, f2, f3⟩ := Bk.f4 vR
    clear vR
    go_wp2
    refine bodyPost_ret (results_ct13 (P := Try.prog) rfl _ _ (w.heap.size + 1) 26 _ (0, 0) _ rfl hR.held Try.underlying26 rfl (by kernel_rfl)) rfl ?_
    exact ⟨none, 0, 0, none, 0, 0, 0, ⟨#[]⟩, false, rfl, hbz, .inl ⟨HNO, rfl, rfl, rfl, rfl, rfl, rfl, rfl, rfl, rfl⟩⟩
  rw [hok] at hcU
  have HY : Hid (t.withOk i ss = some ⟨ll.map Prod.fst, (t.with_ i ss).outs, t.after, t.note⟩) := Lib.hid (by rw [HYES.out HOK.out HIB.out hok, HF.out]; rfl)
  clear hok HNO3 HYES
  go_wp2_with fail
  refine hcU.mono ?_
  rintro e w6 ⟨rfl, hx⟩
  have hb6 := hbU.trans (hx.mono hbU.size)
  have vR6 := vRU.below hx
  obtain ⟨x0, x1, x2, x3⟩ := Bk.c4 (vU.below hx)
  have HOI6 := Lib.hid (HOI5.out.below13 hx)
  have HOO6 := Lib.hid (OwnO.below13 HOO5.out hx)
  have HOI9 := Lib.hid ((((HOI6.out.set13 (i := 0) (u := .slice a3 n c3) vR6).set13 (i := 1) (u := .slice b3 m d3) (vR6.set 0 _)).set13 (i := 2) (u := .int .i64 t.after) ((vR6.set 0 _).set 1 _)).set13 (i := 3) (u := .string t.note) (((vR6.set 0 _).set 1 _).set 2 _))
  have HOO9 := Lib.hid (OwnO.set13 (OwnO.set13 (OwnO.set13 (OwnO.set13 HOO6.out (i := 0) (u := .slice a3 n c3) vR6) (i := 1) (u := .slice b3 m d3) (vR6.set 0 _)) (i := 2) (u := .int .i64 t.after) ((vR6.set 0 _).set 1 _)) (i := 3) (u := .string t.note) (((vR6.set 0 _).set 1 _).set 2 _))
  have HR := Lib.hid (vR6.store4 (.slice a3 n c3) (.slice b3 m d3) (.int .i64 t.after) (.string t.note))
  have HB := Lib.hid (below_store4 hb6 (w.heap.size + 1) (by omega) (.slice a3 n c3) (.slice b3 m d3) (.int .i64 t.after) (.string t.note))
  obtain ⟨y0, y1, y2, y3⟩ := Bk.c4 vR6
  obtain ⟨f0, f1, f2, f3⟩ := Bk.f4 vR6
  clear hx hcU g0 g1 g2 g3 vU vRU HOI5 HOO5 HOI6 HOO6 vR6 hb6 hbU
  go_wp2
  refine bodyPost_ret (results_ct13 (P := Try.prog) rfl _ _ (w.heap.size + 1) 26 _ (0, 0) _ rfl HR.out.held Try.underlying26 rfl (by kernel_rfl)) rfl ?_
  exact ⟨a3, n, c3, b3, m, d3, t.after, t.note, true, rfl, HB.out, .inr ⟨ll, (t.with_ i ss).outs, HY, rfl, HOI9.out, HOO9.out⟩⟩


set_option maxRecDepth 100000 in
set_option maxHeartbeats 3200000 in
theorem implWithWitness_any (lo : Nat) (a : Option Addr) (n c : Nat) (b : Option Addr) (m d : Nat) (t : Tr) (i : Int) (sa : Option Addr) (sc : Nat) (ss : List ByteArray) (w : World) (h : TrR lo w a n b m t) (hcap : n ≤ c) (hs : t.small) (hsr : SR w sa ss.length ss) (hz1 : ss.length ≤ 1048576) (hz2 : ∀ s ∈ ss, s.size ≤ 1048576) :
    Calls Try.prog 17 #[.agg #[.slice a n c, .slice b m d, .int .i64 t.after, .string t.note], .int .i64 i, .slice sa ss.length sc] w (TxAnsD (t.withOk i ss) w) := by
  have hnn := h.ins.1
  have hnb := hs.nin
  have hn6 : n ≤ 1048576 := by omega
  have hm6 : m ≤ 1048576 := by have := hs.nout; have := h.outs.1; omega
  have vB0 : Bk w.heap.size 26 #[.slice a n c, .slice b m d, .int .i64 t.after, .string t.note] ((w.alloc (.cells #[.slice a n c, .slice b m d, .int .i64 t.after, .string t.note] 26 (0, 0))).alloc (.cells #[.slice none 0 0, .slice none 0 0, .int .i64 0, .string ⟨#[]⟩] 26 (0, 0))) := (Bk.new _ _ _).alloc _
  have vR0 : Bk (w.heap.size + 1) 26 #[.slice none 0 0, .slice none 0 0, .int .i64 0, .string ⟨#[]⟩] ((w.alloc (.cells #[.slice a n c, .slice b m d, .int .i64 t.after, .string t.note] 26 (0, 0))).alloc (.cells #[.slice none 0 0, .slice none 0 0, .int .i64 0, .string ⟨#[]⟩] 26 (0, 0))) := Bk.new' _ _ _ _ (by simp)
  have hb0 : Below w.heap.size w ((w.alloc (.cells #[.slice a n c, .slice b m d, .int .i64 t.after, .string t.note] 26 (0, 0))).alloc (.cells #[.slice none 0 0, .slice none 0 0, .int .i64 0, .string ⟨#[]⟩] 26 (0, 0))) := ((Below.refl _ _).alloc (Nat.le_refl _) _).alloc (by simp) _
  have HH := Lib.hid h
  have HS := Lib.hid hs
  have HSU := Lib.hid (hs.with_ i hz1 hz2)
  have HSR := Lib.hid hsr
  have hcT := implTxOk_any lo a n c b m d t _ (h.below hb0) hcap hs
  obtain ⟨q, hq⟩ : ∃ q, Hid (ss.length = q) := ⟨_, Lib.hid rfl⟩
  rw [hq.out] at hz1
  rw [hq.out]
  have HNO1 : Hid (t.ok = false → t.withOk i ss = none) := Lib.hid Tr.withOk_no1
  have HNO2 : Hid ((decide (0 ≤ i) && decide (i ≤ (n : Int) - 1)) = false → t.withOk i ss = none) := Lib.hid fun h => Tr.withOk_no2 (by rw [hnn]; exact h)
  have HNO3 : Hid ((t.with_ i ss).ok = false → t.withOk i ss = none) := Lib.hid Tr.withOk_no3
  have HYES : Hid (t.ok = true → (decide (0 ≤ i) && decide (i ≤ (n : Int) - 1)) = true → (t.with_ i ss).ok = true → t.withOk i ss = some (t.with_ i ss)) := Lib.hid fun h1 h2 h3 => Tr.withOk_yes h1 (by rw [hnn]; exact h2) h3
  have hcI := fun W => hasIn_any a n c b m d t.after i t.note W
  obtain ⟨d0, d1, d2, d3⟩ := Bk.c4 vB0
  clear h hs hsr hz2 hnn hnb
  unfold TxAnsD
  cases hok : t.ok
  · rw [hok] at hcT
    have HNO := Lib.hid (HNO1.out hok)
    clear hok hcI HNO1 HNO2 HNO3 HYES
    go_enter Try.func17, Try.ntmps17
    go_wp2_with fail
    refine hcT.mono ?_
    rintro e w1 ⟨rfl, hx⟩
    have hb1 := hb0.trans (hx.mono hb0.size)
    have vR := vR0.below hx
    clear hx hcT d0 d1 d2 d3 vB0 vR0
    have hR := vR.store4 (.slice none 0 0) (.slice none 0 0) (.int .i64 0) (.string ⟨#[]⟩)
    have hbz := below_store4 hb1 (w.heap.size + 1) (by omega) (.slice none 0 0) (.slice none 0 0) (.int .i64 0) (.string ⟨#[]⟩)
    obtain ⟨y0, y1, y2, y3⟩ := Bk.c4 vR
    obtain ⟨f0, f1, f2, f3⟩ := Bk.f4 vR
    clear vR
    go_wp2
    refine bodyPost_ret (results_ct13 (P := Try.prog) rfl _ _ (w.heap.size + 1) 26 _ (0, 0) _ rfl hR.held Try.underlying26 rfl (by kernel_rfl)) rfl ?_
    exact ⟨none, 0, 0, none, 0, 0, 0, ⟨#[]⟩, false, rfl, hbz, .inl ⟨HNO, rfl, rfl, rfl, rfl, rfl, rfl, rfl, rfl, rfl⟩⟩
  rw [hok] at hcT
  have HOK := Lib.hid hok
  clear hok
  cases hI : (decide (0 ≤ i) && decide (i ≤ (n : Int) - 1))
  · simp only [hI] at hcI
    have HNO := Lib.hid (HNO2.out hI)
    clear hI HNO1 HNO2 HNO3 HYES
    go_enter Try.func17, Try.ntmps17
    go_wp2_with fail
    refine hcT.mono ?_
    rintro e w1 ⟨rfl, hx⟩
    have hb1 := hb0.trans (hx.mono hb0.size)
    have vR1 := vR0.below hx
    obtain ⟨e0, e1, e2, e3⟩ := Bk.c4 (vB0.below hx)
    clear hx hcT d0 d1 d2 d3 vB0 vR0
    go_wp2_with fail
    refine (hcI _).mono ?_
    rintro e w2 ⟨rfl, hx⟩
    have hb2 := hb1.trans (hx.mono hb1.size)
    have vR := vR1.below hx
    clear e0 e1 e2 e3 hcI hx vR1
    have hR := vR.store4 (.slice none 0 0) (.slice none 0 0) (.int .i64 0) (.string ⟨#[]⟩)
    have hbz := below_store4 hb2 (w.heap.size + 1) (by omega) (.slice none 0 0) (.slice none 0 0) (.int .i64 0) (.string ⟨#[]⟩)
    obtain ⟨y0, y1, y2, y3⟩ := Bk.c4 vR
    obtain ⟨f0, f1, f2, f3⟩ := Bk.f4 vR
    clear vR
    go_wp2
    refine bodyPost_ret (results_ct13 (P := Try.prog) rfl _ _ (w.heap.size + 1) 26 _ (0, 0) _ rfl hR.held Try.underlying26 rfl (by kernel_rfl)) rfl ?_
    exact ⟨none, 0, 0, none, 0, 0, 0, ⟨#[]⟩, false, rfl, hbz, .inl ⟨HNO, rfl, rfl, rfl, rfl, rfl, rfl, rfl, rfl, rfl⟩⟩
  simp only [hI] at hcI
  have HI : Hid (0 ≤ i ∧ i ≤ (n : Int) - 1) := Lib.hid (by
    rw [Bool.and_eq_true, decide_eq_true_eq, decide_eq_true_eq] at hI
    exact hI)
  have HIB := Lib.hid hI
  clear hI HNO1 HNO2
  go_enter Try.func17, Try.ntmps17
  go_wp2_with fail
  refine hcT.mono ?_
  rintro e w1 ⟨rfl, hx⟩
  have hb1 := hb0.trans (hx.mono hb0.size)
  have vR1 := vR0.below hx
  have vB1 := vB0.below hx
  obtain ⟨e0, e1, e2, e3⟩ := Bk.c4 vB1
  clear hx hcT d0 d1 d2 d3 vB0 vR0 hb0
  go_wp2_with fail
  refine (hcI _).mono ?_
  rintro e w2 ⟨rfl, hx⟩
  have hb2 := hb1.trans (hx.mono hb1.size)
  have vR2 := vR1.below hx
  have vB2 := vB1.below hx
  obtain ⟨f0, f1, f2, f3⟩ := Bk.c4 vB2
  have hcC := txclone_any lo a n c b m d t w2 (HH.out.below hb2) hn6 hm6 (fun x hx => (HS.out.wit x hx).1)
  clear hx hcI e0 e1 e2 e3 vB1 vR1
  go_wp2_with fail
  refine hcC.mono ?_
  rintro e w3 ⟨a3, c3, b3, d3, l0, rfl, HF0, hoi, hoo, HDI0, hx⟩
  have hb3 := hb2.trans (hx.mono hb2.size)
  have vR3 := vR2.below hx
  have HOI3 := Lib.hid (hoi.base13 hb2.size)
  have HOO3 : Hid (OwnO w.heap.size w3 (.slice b3 m d3) t.outs) := Lib.hid (ownsRow_base (show World.ownsRow _ _ 66 2 (.slice b3 m d3) _ (Tr.ocs _) from hoo) hb2.size)
  clear hx hcC hoi hoo vR2 vB2 f0 f1 f2 f3
  -- the new witness
  have hll : l0.length = n := by rw [← List.length_map (f := Prod.fst), HF0.out]; exact HH.out.ins.1
  have hn0 : 0 < n := by have := HI.out; omega
  obtain ⟨k, rfl⟩ := Int.eq_ofNat_of_zero_le HI.out.1
  have hkn : k < n := by have := HI.out; omega
  obtain ⟨g, rfl⟩ := own_posZ (show w3.ownsRow w.heap.size 45 3 (.slice a3 n c3) n (Tr.ics l0) by have := HOI3.out.1; rw [hll] at this; exact this) hn0
  have HRO3 : Hid (w3.ownsRow w.heap.size 45 3 (.slice (some ⟨g, 0, none⟩) n c3) n (Tr.ics l0)) := Lib.hid (by have := HOI3.out.1; rw [hll] at this; exact this)
  have hbD := hb3.alloc hb3.size (.cells #[.slice (some ⟨g, 0, none⟩) n c3, .slice b3 m d3, .int .i64 t.after, .string t.note] 26 (0, 0))
  have vD : Bk w3.heap.size 26 #[.slice (some ⟨g, 0, none⟩) n c3, .slice b3 m d3, .int .i64 t.after, .string t.note] (w3.alloc (.cells #[.slice (some ⟨g, 0, none⟩) n c3, .slice b3 m d3, .int .i64 t.after, .string t.note] 26 (0, 0))) := Bk.new _ _ _
  have vRD := vR3.alloc (.cells #[.slice (some ⟨g, 0, none⟩) n c3, .slice b3 m d3, .int .i64 t.after, .string t.note] 26 (0, 0))
  have HRO4 := Lib.hid (HRO3.out.alloc (.cells #[.slice (some ⟨g, 0, none⟩) n c3, .slice b3 m d3, .int .i64 t.after, .string t.note] 26 (0, 0)))
  have HWS4 : Hid (∀ x ∈ l0, OwnW w.heap.size (w3.alloc (.cells #[.slice (some ⟨g, 0, none⟩) n c3, .slice b3 m d3, .int .i64 t.after, .string t.note] 26 (0, 0))) x) := Lib.hid fun x hx => ⟨(HOI3.out.2 x hx).1, (HOI3.out.2 x hx).2.alloc _⟩
  have HOO4a := Lib.hid (OwnO.alloc13 HOO3.out (.cells #[.slice (some ⟨g, 0, none⟩) n c3, .slice b3 m d3, .int .i64 t.after, .string t.note] 26 (0, 0)))
  obtain ⟨W3, HW3⟩ : ∃ W, Hid (w3.alloc (.cells #[.slice (some ⟨g, 0, none⟩) n c3, .slice b3 m d3, .int .i64 t.after, .string t.note] 26 (0, 0)) = W) := ⟨_, Lib.hid rfl⟩
  have hDn : w.heap.size + 1 < w3.heap.size := vR3.lt
  rw [HW3.out] at hbD vD vRD HRO4 HWS4 HOO4a
  have hcS := clone_strings sa q sc ss W3.drew ((by rw [← hq.out]; exact HSR.out.below hbD.drew)) hz1
  obtain ⟨l1, x, v0, l2, rfl, hl1⟩ : ∃ l1 x v0 l2, l0 = l1 ++ (x, v0) :: l2 ∧ l1.length = k := by
    refine ⟨l0.take k, (l0[k]'(by omega)).1, (l0[k]'(by omega)).2, l0.drop (k + 1), ?_, by rw [List.length_take]; omega⟩
    rw [show ((l0[k]'(by omega)).1, (l0[k]'(by omega)).2) = l0[k]'(by omega) from rfl, ← List.drop_eq_getElem_cons, List.take_append_drop]
  have hat : (Tr.ics (l1 ++ (x, v0) :: l2))[k * 3 + 2]? = some v0 := by
    rw [(Tr.ics_get (l1 ++ (x, v0) :: l2) k (by omega)).2.2]
    simp [List.getElem_append_right, hl1]
  obtain ⟨tx, out, wit⟩ := x
  have HIS := Lib.hid (fun u => Tr.ics_set l1 l2 ⟨tx, out, wit⟩ v0 u)
  rw [hl1] at HIS
  have HPW : Hid ((l1 ++ ((⟨tx, out, ss⟩ : Tr.In), Value.bool false) :: l2).map Prod.fst = (t.with_ (k : Int) ss).ins) := Lib.hid (by
    show _ = Tr.putW (k : Int) ss t.ins
    apply List.ext_getElem
    · rw [Tr.putW_length, ← HF0.out]; simp
    · intro j hj1 hj2
      rw [Tr.putW_length] at hj2
      have h3 := Tr.putW_at (k : Int) ss t.ins j hj2
      unfold Tr.inAt at h3
      rw [List.getD_eq_getElem?_getD, List.getD_eq_getElem?_getD, List.getElem?_eq_getElem hj2, List.getElem?_eq_getElem (by rw [Tr.putW_length]; exact hj2)] at h3
      simp only [Option.getD_some] at h3
      rw [h3]
      simp only [← HF0.out]
      rcases Nat.lt_trichotomy j k with hjk | hjk | hjk
      · rw [if_neg (by omega)]
        simp [List.getElem_append_left, hl1, hjk]
      · rw [if_pos (by omega)]
        subst hjk
        simp [List.getElem_append_right, hl1]
      · rw [if_neg (by omega)]
        have hs : (l1.map Prod.fst).length ≤ j := by simp; omega
        simp only [List.map_append, List.map_cons]
        rw [List.getElem_append_right hs, List.getElem_append_right hs]
        obtain ⟨p, hp⟩ : ∃ p, j - (l1.map Prod.fst).length = p + 1 := ⟨j - (l1.map Prod.fst).length - 1, by simp; omega⟩
        simp only [hp, List.getElem_cons_succ])
  have hsl : ∀ W : World, IntKind.i64.wrap (k : Int) = (k : Int) := fun _ => IntWalk.i64_in _ (by omega)
  obtain ⟨d0, d1, d2, d3'⟩ := Bk.c4 vD
  obtain ⟨e0, e1, e2, e3⟩ := Bk.c4 vD.drew
  obtain ⟨q0, _⟩ := own_at (own_drewQ HRO4.out) hat
  clear HOI3 HOO3 HRO3 hb3 vR3 hsl
  go_wp2
  rw [HW3.out]
  clear HW3 d0 d1 d2 d3'
  go_region_with (first | (go_at_call 41; refine hcS.mono ?_; rintro e w5 ⟨a5, c5, rfl, ho5, hx5⟩; have ha5 := own_at (own_belQ (own_drewQ HRO4.out) hx5) hat; obtain ⟨q5, f5⟩ := ha5; obtain ⟨j0, j1, j2, j3⟩ := Bk.c4 (vD.drew.below hx5)))
  all_goals
    obtain ⟨⟨cs5, hbk5⟩, hg5⟩ := own_bkZ (own_belQ (own_drewQ HRO4.out) hx5)
    have hgr := grownBy_set w5 g (k * 3 + 2) (.slice a5 q c5)
    have hneD : w3.heap.size ≠ g := fun h => by have h1 := hbk5.held; rw [← h, (vD.drew.below hx5).held] at h1; cases h1
    have hneR : w.heap.size + 1 ≠ g := fun h => by have h1 := hbk5.held; rw [← h, (vRD.drew.below hx5).held] at h1; cases h1
    have vD6 := (vD.drew.below hx5).oset g (k * 3 + 2) (.slice a5 q c5) hneD
    have vR4 := (vRD.drew.below hx5).oset g (k * 3 + 2) (.slice a5 q c5) hneR
    have HOI4 : Hid (OwnI w.heap.size (w5.setCell ⟨g, k * 3 + 2, none⟩ (.slice a5 q c5)) (.slice (some ⟨g, 0, none⟩) n c3) (l1 ++ ((⟨tx, out, ss⟩ : Tr.In), Value.slice a5 q c5) :: l2)) := Lib.hid ⟨by
      have h1 := own_setcell (j := k * 3 + 2) (own_belQ (own_drewQ HRO4.out) hx5) (.slice a5 q c5)
      rw [HIS.out] at h1
      have h2 : (l1 ++ ((⟨tx, out, ss⟩ : Tr.In), Value.slice a5 q c5) :: l2).length = n := by rw [← hll]; simp
      rw [h2]
      have h3 : Tr.ics (l1 ++ ((⟨tx, out, ss⟩ : Tr.In), Value.slice a5 q c5) :: l2) = Tr.ics (l1 ++ ((⟨tx, out, wit⟩ : Tr.In), Value.slice a5 q c5) :: l2) := by rw [Tr.ics_append, Tr.ics_append]; rfl
      rw [h3]
      exact h1, fun y hy => by
      have hkeep : ∀ y : Tr.In × Value, OwnW w.heap.size W3 y → OwnW w.heap.size (w5.setCell ⟨g, k * 3 + 2, none⟩ (.slice a5 q c5)) y := fun y h1 => ⟨h1.1, own_grownQ (own_belQ (own_drewQ h1.2) hx5) hbk5 (by decide) hgr⟩
      rcases List.mem_append.1 hy with hy | hy
      · exact hkeep y (HWS4.out y (List.mem_append.2 (.inl hy)))
      · rcases List.mem_cons.1 hy with rfl | hy
        · refine ⟨⟨a5, c5, by simp only; rw [hq.out]⟩, ?_⟩
          simp only
          rw [hq.out]
          exact own_grownQ (ownsRow_base ho5 hbD.drew.size) hbk5 (by decide) hgr
        · exact hkeep y (HWS4.out y (List.mem_append.2 (.inr (List.mem_cons_of_mem _ hy))))⟩
    have HDI : Hid (DistW (l1 ++ ((⟨tx, out, ss⟩ : Tr.In), Value.slice a5 q c5) :: l2)) := Lib.hid (by
      have h1 := HDI0.out
      unfold DistW at h1 ⊢
      rw [List.pairwise_append, List.pairwise_cons] at h1 ⊢
      refine ⟨h1.1, ⟨fun y hy => ?_, h1.2.1.2⟩, fun y hy z hz => ?_⟩
      · rcases own_later (HWS4.out y (List.mem_append.2 (.inr (List.mem_cons_of_mem _ hy)))).2 ho5 (Nat.le_refl _) with e | e
        · by_cases h5 : (Value.slice a5 q c5).ownBlock = none
          · exact .inl h5
          · exact .inr (fun h6 => h5 (h6.trans e))
        · exact .inr (Ne.symm e)
      · rcases List.mem_cons.1 hz with rfl | hz
        · exact own_later (HWS4.out y (List.mem_append.2 (.inl hy))).2 ho5 (Nat.le_refl _)
        · exact h1.2.2 y hy z (List.mem_cons_of_mem _ hz))
    have hbU := (hbD.drew.trans (hx5.mono hbD.drew.size)).setCell (p := ⟨g, k * 3 + 2, none⟩) hg5 (.slice a5 q c5)
    have HOO5 : Hid (OwnO w.heap.size (w5.setCell ⟨g, k * 3 + 2, none⟩ (.slice a5 q c5)) (.slice b3 m d3) (t.with_ (k : Int) ss).outs) := Lib.hid (own_grownQ (own_belQ (own_drewQ (show World.ownsRow W3 w.heap.size 66 2 (.slice b3 m d3) _ (Tr.ocs _) from HOO4a.out)) hx5) hbk5 (by decide) hgr)
    have HF : Hid ((l1 ++ ((⟨tx, out, ss⟩ : Tr.In), Value.slice a5 q c5) :: l2).map Prod.fst = (t.with_ (k : Int) ss).ins) := Lib.hid (by rw [← HPW.out, List.map_append, List.map_append]; rfl)
    have hTU := OwnI.trR3 HOI4.out HOO5.out HF.out
    have hcU := implTxOk_any w.heap.size (some ⟨g, 0, none⟩) n c3 b3 m d3 (t.with_ (k : Int) ss) _ hTU (own_cap13 HOI4.out.1) HSU.out
    rw [show (t.with_ (k : Int) ss).after = t.after from rfl, show (t.with_ (k : Int) ss).note = t.note from rfl] at hcU
    have HOI5 := HOI4
    have vU := vD6
    have vRU := vR4
    obtain ⟨g0, g1, g2, g3⟩ := Bk.c4 vU
    obtain ⟨ll, HLL⟩ : ∃ ll, Hid (l1 ++ ((⟨tx, out, ss⟩ : Tr.In), Value.slice a5 q c5) :: l2 = ll) := ⟨_, Lib.hid rfl⟩
    rw [HLL.out] at HOI5 HF HDI
    clear HOI4 hTU vR4 vD6 hgr ho5 hx5 HRO4 HWS4 HOO4a vD vRD hcS HPW HIS hat hbk5 q0 q5 f5 e0 e1 e2 e3 j0 j1 j2 j3 HLL
    cases hok : (t.with_ (k : Int) ss).ok
    · rw [hok] at hcU
      have HNO := Lib.hid (HNO3.out hok)
      clear hok HNO3 HYES
      go_wp2_with fail
      refine hcU.mono ?_
      rintro e w6 ⟨rfl, hx⟩
      have hb6 := hbU.trans (hx.mono hbU.size)
      have vR := vRU.below hx
      clear hx hcU g0 g1 g2 g3 vU vRU HOI5 HOO5
      have hR := vR.store4 (.slice none 0 0) (.slice none 0 0) (.int .i64 0) (.string ⟨#[]⟩)
      have hbz := below_store4 hb6 (w.heap.size + 1) (by omega) (.slice none 0 0) (.slice none 0 0) (.int .i64 0) (.string ⟨#[]⟩)
      obtain ⟨y0, y1, y2, y3⟩ := Bk.c4 vR
      obtain ⟨f0, f1, f2, f3⟩ := Bk.f4 vR
      clear vR
      go_wp2
      refine bodyPost_ret (results_ct13 (P := Try.prog) rfl _ _ (w.heap.size + 1) 26 _ (0, 0) _ rfl hR.held Try.underlying26 rfl (by kernel_rfl)) rfl ?_
      exact ⟨none, 0, 0, none, 0, 0, 0, ⟨#[]⟩, false, rfl, hbz, .inl ⟨HNO, rfl, rfl, rfl, rfl, rfl, rfl, rfl, rfl, rfl⟩⟩
    rw [hok] at hcU
    have HY : Hid (t.withOk (k : Int) ss = some ⟨ll.map Prod.fst, (t.with_ (k : Int) ss).outs, t.after, t.note⟩) := Lib.hid (by rw [HYES.out HOK.out HIB.out hok, HF.out]; rfl)
    clear hok HNO3 HYES
    go_wp2_with fail
    refine hcU.mono ?_
    rintro e w6 ⟨rfl, hx⟩
    have hb6 := hbU.trans (hx.mono hbU.size)
    have vR6 := vRU.below hx
    obtain ⟨x0, x1, x2, x3⟩ := Bk.c4 (vU.below hx)
    have HOI6 := Lib.hid (HOI5.out.below13 hx)
    have HOO6 := Lib.hid (OwnO.below13 HOO5.out hx)
    have HOI9 := Lib.hid ((((HOI6.out.set13 (i := 0) (u := .slice (some ⟨g, 0, none⟩) n c3) vR6).set13 (i := 1) (u := .slice b3 m d3) (vR6.set 0 _)).set13 (i := 2) (u := .int .i64 t.after) ((vR6.set 0 _).set 1 _)).set13 (i := 3) (u := .string t.note) (((vR6.set 0 _).set 1 _).set 2 _))
    have HOO9 := Lib.hid (OwnO.set13 (OwnO.set13 (OwnO.set13 (OwnO.set13 HOO6.out (i := 0) (u := .slice (some ⟨g, 0, none⟩) n c3) vR6) (i := 1) (u := .slice b3 m d3) (vR6.set 0 _)) (i := 2) (u := .int .i64 t.after) ((vR6.set 0 _).set 1 _)) (i := 3) (u := .string t.note) (((vR6.set 0 _).set 1 _).set 2 _))
    have HR := Lib.hid (vR6.store4 (.slice (some ⟨g, 0, none⟩) n c3) (.slice b3 m d3) (.int .i64 t.after) (.string t.note))
    have HB := Lib.hid (below_store4 hb6 (w.heap.size + 1) (by omega) (.slice (some ⟨g, 0, none⟩) n c3) (.slice b3 m d3) (.int .i64 t.after) (.string t.note))
    obtain ⟨y0, y1, y2, y3⟩ := Bk.c4 vR6
    obtain ⟨f0, f1, f2, f3⟩ := Bk.f4 vR6
    clear hx hcU g0 g1 g2 g3 vU vRU HOI5 HOO5 HOI6 HOO6 vR6 hb6 hbU
    go_wp2
    refine bodyPost_ret (results_ct13 (P := Try.prog) rfl _ _ (w.heap.size + 1) 26 _ (0, 0) _ rfl HR.out.held Try.underlying26 rfl (by kernel_rfl)) rfl ?_
    exact ⟨some ⟨g, 0, none⟩, n, c3, b3, m, d3, t.after, t.note, true, rfl, HB.out, .inr ⟨ll, (t.with_ (k : Int) ss).outs, HY, rfl, HOI9.out, HOO9.out, HDI⟩⟩

end Go.Proofs.Ytcbpdibkindnfaa
