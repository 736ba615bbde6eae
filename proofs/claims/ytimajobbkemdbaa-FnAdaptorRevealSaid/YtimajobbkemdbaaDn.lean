/-
  Drawing for chapter 7: what the adaptor functions are asked.
-/
import Derived.Test.YtimajobbkemdbaaDf
import Derived.Test.YtimajobbkemdbaaAj
import Derived.Deep.RegionHeld3
namespace Go.Proofs.Ytimajobbkemdbaa
open Go.RowKit

theorem results_tttc {P : Program} {fn : Func} {t u v p : Tmp} {ty : TypeId} (h : fn.results = #[.tmp t, .tmp u, .tmp v, .cell p ty]) (tmps : Array Value) (w : World) (g : Nat) (ty' : TypeId) (cs : Array Value) (fr : Nat × Nat) (d : TypeDesc)
    (hp : tmps.getD p undef = .pointer (some ⟨g, 0, none⟩)) (hg : w.heap[g]? = some (.cells cs ty' fr))
    (hu : P.underlying ty = some d) (hd : (match d with | .struct _ | .array _ _ => true | _ => false) = true) (hi : (P.info? ty).map (·.size) = some cs.size) :
    (results fn tmps).run P w = .ok (.tuple #[tmps.getD t undef, tmps.getD u undef, tmps.getD v undef, .agg cs]) w := by
  have hp' : tmps[p]?.getD undef = .pointer (some ⟨g, 0, none⟩) := by simpa using hp
  simp [results, h, Result.andThen, hp', asAddr, run_loadVar_row w g ty' ty cs fr d hg hu hd hi]
theorem results_ct {P : Program} {fn : Func} {u p : Tmp} {ty : TypeId} (h : fn.results = #[.cell p ty, .tmp u]) (tmps : Array Value) (w : World) (g : Nat) (ty' : TypeId) (cs : Array Value) (fr : Nat × Nat) (d : TypeDesc)
    (hp : tmps.getD p undef = .pointer (some ⟨g, 0, none⟩)) (hg : w.heap[g]? = some (.cells cs ty' fr))
    (hu : P.underlying ty = some d) (hd : (match d with | .struct _ | .array _ _ => true | _ => false) = true) (hi : (P.info? ty).map (·.size) = some cs.size) :
    (results fn tmps).run P w = .ok (.tuple #[.agg cs, tmps.getD u undef]) w := by
  have hp' : tmps[p]?.getD undef = .pointer (some ⟨g, 0, none⟩) := by simpa using hp
  simp [results, h, Result.andThen, hp', asAddr, run_loadVar_row w g ty' ty cs fr d hg hu hd hi]
theorem results_ttcc {P : Program} {fn : Func} {t u p q : Tmp} {ty tz : TypeId} (h : fn.results = #[.tmp t, .tmp u, .cell p ty, .cell q tz]) (tmps : Array Value) (w : World) (g g' : Nat) (cs cs' : Array Value) (d d' : TypeDesc)
    (hp : tmps.getD p undef = .pointer (some ⟨g, 0, none⟩)) (hg : w.heap[g]? = some (.cells cs ty (0, 0)))
    (hq : tmps.getD q undef = .pointer (some ⟨g', 0, none⟩)) (hg' : w.heap[g']? = some (.cells cs' tz (0, 0)))
    (hu : P.underlying ty = some d) (hd : (match d with | .struct _ | .array _ _ => true | _ => false) = true) (hi : (P.info? ty).map (·.size) = some cs.size)
    (hu' : P.underlying tz = some d') (hd' : (match d' with | .struct _ | .array _ _ => true | _ => false) = true) (hi' : (P.info? tz).map (·.size) = some cs'.size) :
    (results fn tmps).run P w = .ok (.tuple #[tmps.getD t undef, tmps.getD u undef, .agg cs, .agg cs']) w := by
  have hp' : tmps[p]?.getD undef = .pointer (some ⟨g, 0, none⟩) := by simpa using hp
  have hq' : tmps[q]?.getD undef = .pointer (some ⟨g', 0, none⟩) := by simpa using hq
  simp [results, h, Result.andThen, hp', hq', asAddr, run_loadVar_row w g ty ty cs (0, 0) d hg hu hd hi, run_loadVar_row w g' tz tz cs' (0, 0) d' hg' hu' hd' hi']
/-- What drawing a secret, a message, the secret of a point and an adaptor signature does. -/
def AdR (B : Nat) (a : Option Addr) (len cap : Nat) (zs : List Int) (p : Nat) (c : Nat) (w : World) (e : Ending) (w' : World) : Prop :=
  ∃ (u k R S P : Int) (t : ByteArray) (q : Nat), e = .returned (.tuple #[.int .i64 u, .string t, .int .i64 k, .agg #[.int .i64 R, .int .i64 S, .int .i64 P]]) ∧ 1 ≤ u ∧ u ≤ 200 ∧ 1 ≤ k ∧ k ≤ 200 ∧ t.size ≤ 5 ∧ p ≤ q ∧ q ≤ p + c ∧ Dw B a len cap zs w' q ∧ w.grownBy w' (some B)
theorem Ad.key_kok {k : Int} (h0 : 1 ≤ k) (h1 : k < 1073741789) : Gr.kok (Sg.gp k) = true := by
  have hs : Gr.sok k = true := (Gr.sok_iff k).mpr ⟨h0, h1⟩
  have := Gr.key_kok hs
  rwa [Sg.key_ok hs] at this
set_option maxRecDepth 100000 in
set_option maxHeartbeats 1600000 in
theorem l93Adaptor_any (B : Nat) (a : Option Addr) (len cap : Nat) (zs : List Int) (p : Nat) (w : World) (hp : p ≤ 600000000) (hD : Dw B a len cap zs w p) :
    Calls Try.prog 75 #[.pointer (some ⟨B, 0, none⟩)] w (AdR B a len cap zs p 50 w) := by
  have hBlt := hD.lt
  have hX : Bk (w.heap.size) 26 #[.int .i64 0, .int .i64 0, .int .i64 0] (w.alloc (.cells #[.int .i64 0, .int .i64 0, .int .i64 0] 26 (0, 0))) := Bk.new _ _ _
  have hD0 := (hD).alloc (.cells #[.int .i64 0, .int .i64 0, .int .i64 0] 26 (0, 0))
  have hG0 : w.grownBy (w.alloc (.cells #[.int .i64 0, .int .i64 0, .int .i64 0] 26 (0, 0))) (some B) := World.grownBy_alloc w (.cells #[.int .i64 0, .int .i64 0, .int .i64 0] 26 (0, 0)) (some B)
  clear hD
  go_enter Try.func75, Try.ntmps75
  go_wp2_with fail
  refine (pick_any B a len cap zs _ 200 _ (by omega) (by omega) hD0).mono ?_
  rintro x1 w1 ⟨v1, rfl, v1a, v1b, hD1, hG1⟩
  replace hX := hX.gb hG1 (by omega)
  replace hG1 := gtrans hG0 hG1
  clear hD0 hG0
  go_wp2_with fail
  refine (pick_any B a len cap zs _ 200 _ (by omega) (by omega) hD1).mono ?_
  rintro x2 w2 ⟨v2, rfl, v2a, v2b, hD2, hG2⟩
  replace hX := hX.gb hG2 (by omega)
  replace hG2 := gtrans hG1 hG2
  clear hD1 hG1
  go_wp2_with fail
  refine (l91Word_any B a len cap zs _ _ (by omega) hD2).mono ?_
  rintro x3 w3 ⟨t, tq, rfl, ts, tp, tr, hD3, hG3⟩
  replace hX := hX.gb hG3 (by omega)
  replace hG3 := gtrans hG2 hG3
  clear hD2 hG2
  have hcon1 := fun W => l4Base_any (1 + v2) W (by omega)
  rw [show Gr.pw 2147483579 4 (1 + v2) = Sg.gp (1 + v2) from rfl] at hcon1
  have hcon2 := fun W => specAdaptorSign_yes (1 + v1) t (Sg.gp (1 + v2)) W ((Gr.sok_iff _).mpr ⟨by omega, by omega⟩) (Ad.key_kok (by omega) (by omega)) (by omega)
  obtain ⟨P, HP⟩ : ∃ P, Hid (Sg.gp (1 + v2) = P) := ⟨_, Lib.hid rfl⟩
  rw [HP.out] at hcon1 hcon2
  obtain ⟨R, HR⟩ : ∃ R, Hid (Sg.sr (1 + v1) t = R) := ⟨_, Lib.hid rfl⟩
  obtain ⟨S, HS⟩ : ∃ S, Hid (Ad.ss (1 + v1) t P = S) := ⟨_, Lib.hid rfl⟩
  rw [HR.out, HS.out] at hcon2
  clear HP HR HS
  go_wp2_with fail
  refine (hcon1 _).mono ?_
  rintro y1 v1 ⟨rfl, hv1⟩
  subst v1
  go_wp2_with fail
  refine (hcon2 _).mono ?_
  rintro x4 w4 ⟨rfl, hb4⟩
  replace hX := hX.below hb4
  have hD4 := hD3.below hb4
  have hG4 := gtrans hG3 (below_gb hb4 B)
  clear hb4 hD3 hG3
  have hYhX := hX.lt
  replace hX := hX.alloc (.cells #[.int .i64 R, .int .i64 S, .int .i64 P] 26 (0, 0))
  have hY : Bk w4.heap.size 26 #[.int .i64 R, .int .i64 S, .int .i64 P] (w4.alloc (.cells #[.int .i64 R, .int .i64 S, .int .i64 P] 26 (0, 0))) := Bk.new _ _ _
  replace hD4 := hD4.alloc (.cells #[.int .i64 R, .int .i64 S, .int .i64 P] 26 (0, 0))
  replace hG4 := gtrans hG4 (World.grownBy_alloc w4 (.cells #[.int .i64 R, .int .i64 S, .int .i64 P] 26 (0, 0)) (some B))
  go_wp2_with fail
  refine (pick_any B a len cap zs _ 10 _ (by omega) (by omega) hD4).mono ?_
  rintro x5 w5 ⟨v5, rfl, v5a, v5b, hD5, hG5⟩
  replace hX := hX.gb hG5 (by omega)
  replace hY := hY.gb hG5 (by omega)
  replace hG5 := gtrans hG4 hG5
  clear hD4 hG4
  by_cases h0 : v5 = 0
  · have k0 : (v5 == 0) = true := by simpa using h0
    clear h0
    go_wp2_with fail
    refine (l91Scalar_any B a len cap zs _ _ (by omega) hD5).mono ?_
    rintro x6 w6 ⟨z, zq, rfl, za, zb, zp, zr, hD6, hG6⟩
    replace hX := hX.gb hG6 (by omega)
    replace hY := hY.gb hG6 (by omega)
    replace hG6 := gtrans hG5 hG6
    clear hD5 hG5
    obtain ⟨o0, o1, o2⟩ := Bk.c3 hY
    obtain ⟨g0, g1, g2⟩ := hY.f3
    go_wp2
    replace hX := hX.oset (w4.heap.size) 1 (.int .i64 z) (by omega)
    replace hY := hY.set 1 (.int .i64 z)
    replace hD6 := hD6.oset (w4.heap.size) 1 (.int .i64 z) (by omega)
    replace hG6 := gb_set hG6 (w4.heap.size) 1 (.int .i64 z) (by omega)
    have hY2 : Bk w4.heap.size 26 #[.int .i64 R, .int .i64 z, .int .i64 P] _ := hY
    clear hY o0 o1 o2 g0 g1 g2
    have hY := hY2
    clear hY2
    obtain ⟨n0, n1, n2⟩ := Bk.c3 hX
    obtain ⟨o0, o1, o2⟩ := Bk.c3 hY
    obtain ⟨g0, g1, g2⟩ := hX.f3
    replace hY := hY.oset (w.heap.size) 0 (.int .i64 R) (by omega)
    replace hX := hX.set 0 (.int .i64 R)
    replace hD6 := hD6.oset (w.heap.size) 0 (.int .i64 R) (by omega)
    replace hG6 := gb_set hG6 (w.heap.size) 0 (.int .i64 R) (by omega)
    replace hY := hY.oset (w.heap.size) 1 (.int .i64 z) (by omega)
    replace hX := hX.set 1 (.int .i64 z)
    replace hD6 := hD6.oset (w.heap.size) 1 (.int .i64 z) (by omega)
    replace hG6 := gb_set hG6 (w.heap.size) 1 (.int .i64 z) (by omega)
    replace hY := hY.oset (w.heap.size) 2 (.int .i64 P) (by omega)
    replace hX := hX.set 2 (.int .i64 P)
    replace hD6 := hD6.oset (w.heap.size) 2 (.int .i64 P) (by omega)
    replace hG6 := gb_set hG6 (w.heap.size) 2 (.int .i64 P) (by omega)
    clear hY
    try go_wp2
    first | go_region | skip
    go_wp2
    refine bodyPost_ret (results_tttc (P := Try.prog) rfl _ _ w.heap.size 26 #[.int .i64 R, .int .i64 z, .int .i64 P] (0, 0) _ rfl hX.held Try.underlying26 rfl (by kernel_rfl)) rfl ?_
    exact ⟨_, _, _, _, _, _, _, rfl, by omega, by omega, by omega, by omega, by omega, by omega, by omega, hD6.drewN 1, grownBy_drew hG6⟩
  · have k0 : (v5 == 0) = false := by simpa using h0
    clear h0
    by_cases h1 : v5 = 1
    · have k1 : (v5 == 1) = true := by simpa using h1
      clear h1
      go_wp2_with fail
      refine (l91Element_any B a len cap zs _ _ (by omega) hD5).mono ?_
      rintro x6 w6 ⟨z, zq, rfl, za, zb, zp, zr, hD6, hG6⟩
      replace hX := hX.gb hG6 (by omega)
      replace hY := hY.gb hG6 (by omega)
      replace hG6 := gtrans hG5 hG6
      clear hD5 hG5
      obtain ⟨o0, o1, o2⟩ := Bk.c3 hY
      obtain ⟨g0, g1, g2⟩ := hY.f3
      go_wp2
      replace hX := hX.oset (w4.heap.size) 0 (.int .i64 z) (by omega)
      replace hY := hY.set 0 (.int .i64 z)
      replace hD6 := hD6.oset (w4.heap.size) 0 (.int .i64 z) (by omega)
      replace hG6 := gb_set hG6 (w4.heap.size) 0 (.int .i64 z) (by omega)
      have hY2 : Bk w4.heap.size 26 #[.int .i64 z, .int .i64 S, .int .i64 P] _ := hY
      clear hY o0 o1 o2 g0 g1 g2
      have hY := hY2
      clear hY2
      obtain ⟨n0, n1, n2⟩ := Bk.c3 hX
      obtain ⟨o0, o1, o2⟩ := Bk.c3 hY
      obtain ⟨g0, g1, g2⟩ := hX.f3
      replace hY := hY.oset (w.heap.size) 0 (.int .i64 z) (by omega)
      replace hX := hX.set 0 (.int .i64 z)
      replace hD6 := hD6.oset (w.heap.size) 0 (.int .i64 z) (by omega)
      replace hG6 := gb_set hG6 (w.heap.size) 0 (.int .i64 z) (by omega)
      replace hY := hY.oset (w.heap.size) 1 (.int .i64 S) (by omega)
      replace hX := hX.set 1 (.int .i64 S)
      replace hD6 := hD6.oset (w.heap.size) 1 (.int .i64 S) (by omega)
      replace hG6 := gb_set hG6 (w.heap.size) 1 (.int .i64 S) (by omega)
      replace hY := hY.oset (w.heap.size) 2 (.int .i64 P) (by omega)
      replace hX := hX.set 2 (.int .i64 P)
      replace hD6 := hD6.oset (w.heap.size) 2 (.int .i64 P) (by omega)
      replace hG6 := gb_set hG6 (w.heap.size) 2 (.int .i64 P) (by omega)
      clear hY
      try go_wp2
      first | go_region | skip
      go_wp2
      refine bodyPost_ret (results_tttc (P := Try.prog) rfl _ _ w.heap.size 26 #[.int .i64 z, .int .i64 S, .int .i64 P] (0, 0) _ rfl hX.held Try.underlying26 rfl (by kernel_rfl)) rfl ?_
      exact ⟨_, _, _, _, _, _, _, rfl, by omega, by omega, by omega, by omega, by omega, by omega, by omega, hD6.drewN 1, grownBy_drew hG6⟩
    · have k1 : (v5 == 1) = false := by simpa using h1
      clear h1
      by_cases h2 : v5 = 2
      · have k2 : (v5 == 2) = true := by simpa using h2
        clear h2
        go_wp2_with fail
        refine (l91Key_any B a len cap zs _ _ (by omega) hD5).mono ?_
        rintro x6 w6 ⟨z, zq, rfl, za, zb, zp, zr, hD6, hG6⟩
        replace hX := hX.gb hG6 (by omega)
        replace hY := hY.gb hG6 (by omega)
        replace hG6 := gtrans hG5 hG6
        clear hD5 hG5
        obtain ⟨o0, o1, o2⟩ := Bk.c3 hY
        obtain ⟨g0, g1, g2⟩ := hY.f3
        go_wp2
        replace hX := hX.oset (w4.heap.size) 2 (.int .i64 z) (by omega)
        replace hY := hY.set 2 (.int .i64 z)
        replace hD6 := hD6.oset (w4.heap.size) 2 (.int .i64 z) (by omega)
        replace hG6 := gb_set hG6 (w4.heap.size) 2 (.int .i64 z) (by omega)
        have hY2 : Bk w4.heap.size 26 #[.int .i64 R, .int .i64 S, .int .i64 z] _ := hY
        clear hY o0 o1 o2 g0 g1 g2
        have hY := hY2
        clear hY2
        obtain ⟨n0, n1, n2⟩ := Bk.c3 hX
        obtain ⟨o0, o1, o2⟩ := Bk.c3 hY
        obtain ⟨g0, g1, g2⟩ := hX.f3
        replace hY := hY.oset (w.heap.size) 0 (.int .i64 R) (by omega)
        replace hX := hX.set 0 (.int .i64 R)
        replace hD6 := hD6.oset (w.heap.size) 0 (.int .i64 R) (by omega)
        replace hG6 := gb_set hG6 (w.heap.size) 0 (.int .i64 R) (by omega)
        replace hY := hY.oset (w.heap.size) 1 (.int .i64 S) (by omega)
        replace hX := hX.set 1 (.int .i64 S)
        replace hD6 := hD6.oset (w.heap.size) 1 (.int .i64 S) (by omega)
        replace hG6 := gb_set hG6 (w.heap.size) 1 (.int .i64 S) (by omega)
        replace hY := hY.oset (w.heap.size) 2 (.int .i64 z) (by omega)
        replace hX := hX.set 2 (.int .i64 z)
        replace hD6 := hD6.oset (w.heap.size) 2 (.int .i64 z) (by omega)
        replace hG6 := gb_set hG6 (w.heap.size) 2 (.int .i64 z) (by omega)
        clear hY
        try go_wp2
        first | go_region | skip
        go_wp2
        refine bodyPost_ret (results_tttc (P := Try.prog) rfl _ _ w.heap.size 26 #[.int .i64 R, .int .i64 S, .int .i64 z] (0, 0) _ rfl hX.held Try.underlying26 rfl (by kernel_rfl)) rfl ?_
        exact ⟨_, _, _, _, _, _, _, rfl, by omega, by omega, by omega, by omega, by omega, by omega, by omega, hD6.drewN 1, grownBy_drew hG6⟩
      · have k2 : (v5 == 2) = false := by simpa using h2
        clear h2
        obtain ⟨n0, n1, n2⟩ := Bk.c3 hX
        obtain ⟨o0, o1, o2⟩ := Bk.c3 hY
        obtain ⟨g0, g1, g2⟩ := hX.f3
        replace hY := hY.oset (w.heap.size) 0 (.int .i64 R) (by omega)
        replace hX := hX.set 0 (.int .i64 R)
        replace hD5 := hD5.oset (w.heap.size) 0 (.int .i64 R) (by omega)
        replace hG5 := gb_set hG5 (w.heap.size) 0 (.int .i64 R) (by omega)
        replace hY := hY.oset (w.heap.size) 1 (.int .i64 S) (by omega)
        replace hX := hX.set 1 (.int .i64 S)
        replace hD5 := hD5.oset (w.heap.size) 1 (.int .i64 S) (by omega)
        replace hG5 := gb_set hG5 (w.heap.size) 1 (.int .i64 S) (by omega)
        replace hY := hY.oset (w.heap.size) 2 (.int .i64 P) (by omega)
        replace hX := hX.set 2 (.int .i64 P)
        replace hD5 := hD5.oset (w.heap.size) 2 (.int .i64 P) (by omega)
        replace hG5 := gb_set hG5 (w.heap.size) 2 (.int .i64 P) (by omega)
        clear hY
        try go_wp2
        first | go_region | skip
        go_wp2
        refine bodyPost_ret (results_tttc (P := Try.prog) rfl _ _ w.heap.size 26 #[.int .i64 R, .int .i64 S, .int .i64 P] (0, 0) _ rfl hX.held Try.underlying26 rfl (by kernel_rfl)) rfl ?_
        exact ⟨_, _, _, _, _, _, _, rfl, by omega, by omega, by omega, by omega, by omega, by omega, by omega, hD5.drewN 1, grownBy_drew hG5⟩
/-- What drawing a key, a message and an adaptor signature does. -/
def AkR (B : Nat) (a : Option Addr) (len cap : Nat) (zs : List Int) (p : Nat) (c : Nat) (w : World) (e : Ending) (w' : World) : Prop :=
  ∃ (K R S P : Int) (t : ByteArray) (q : Nat), e = .returned (.tuple #[.int .i64 K, .string t, .agg #[.int .i64 R, .int .i64 S, .int .i64 P]]) ∧ t.size ≤ 5 ∧ p ≤ q ∧ q ≤ p + c ∧ Dw B a len cap zs w' q ∧ w.grownBy w' (some B)
def AfR (B : Nat) (a : Option Addr) (len cap : Nat) (zs : List Int) (p : Nat) (c : Nat) (w : World) (e : Ending) (w' : World) : Prop :=
  ∃ (R S P u : Int) (q : Nat), e = .returned (.tuple #[.agg #[.int .i64 R, .int .i64 S, .int .i64 P], .int .i64 u]) ∧ p ≤ q ∧ q ≤ p + c ∧ Dw B a len cap zs w' q ∧ w.grownBy w' (some B)
def ArR (B : Nat) (a : Option Addr) (len cap : Nat) (zs : List Int) (p : Nat) (c : Nat) (w : World) (e : Ending) (w' : World) : Prop :=
  ∃ (K R S P R2 S2 : Int) (t : ByteArray) (q : Nat), e = .returned (.tuple #[.int .i64 K, .string t, .agg #[.int .i64 R, .int .i64 S, .int .i64 P], .agg #[.int .i64 R2, .int .i64 S2]]) ∧ t.size ≤ 5 ∧ p ≤ q ∧ q ≤ p + c ∧ Dw B a len cap zs w' q ∧ w.grownBy w' (some B)
def DrawAk (w : World) (e : Ending) (w' : World) : Prop :=
  ∃ (K R S P : Int) (t : ByteArray), e = .returned (.tuple #[.int .i64 K, .string t, .agg #[.int .i64 R, .int .i64 S, .int .i64 P]]) ∧ t.size ≤ 5 ∧ Below w.heap.size w w'
def DrawAf (w : World) (e : Ending) (w' : World) : Prop :=
  ∃ (R S P u : Int), e = .returned (.tuple #[.agg #[.int .i64 R, .int .i64 S, .int .i64 P], .int .i64 u]) ∧ Below w.heap.size w w'
def DrawAr (w : World) (e : Ending) (w' : World) : Prop :=
  ∃ (K R S P R2 S2 : Int) (t : ByteArray), e = .returned (.tuple #[.int .i64 K, .string t, .agg #[.int .i64 R, .int .i64 S, .int .i64 P], .agg #[.int .i64 R2, .int .i64 S2]]) ∧ t.size ≤ 5 ∧ Below w.heap.size w w'
def DrawAs (w : World) (e : Ending) (w' : World) : Prop :=
  ∃ (u k : Int) (t : ByteArray), e = .returned (.tuple #[.int .i64 u, .string t, .int .i64 k]) ∧ t.size ≤ 5 ∧ Below w.heap.size w w'
set_option maxRecDepth 100000 in
set_option maxHeartbeats 1600000 in
theorem l93AdaptorKey_any (B : Nat) (a : Option Addr) (len cap : Nat) (zs : List Int) (p : Nat) (w : World) (hp : p ≤ 500000000) (hD : Dw B a len cap zs w p) :
    Calls Try.prog 55 #[.pointer (some ⟨B, 0, none⟩)] w (AkR B a len cap zs p 60 w) := by
  have hBlt := hD.lt
  have hX : Bk (w.heap.size) 26 #[.int .i64 0, .int .i64 0, .int .i64 0] (w.alloc (.cells #[.int .i64 0, .int .i64 0, .int .i64 0] 26 (0, 0))) := Bk.new _ _ _
  have hD0 := (hD).alloc (.cells #[.int .i64 0, .int .i64 0, .int .i64 0] 26 (0, 0))
  have hG0 : w.grownBy (w.alloc (.cells #[.int .i64 0, .int .i64 0, .int .i64 0] 26 (0, 0))) (some B) := World.grownBy_alloc w (.cells #[.int .i64 0, .int .i64 0, .int .i64 0] 26 (0, 0)) (some B)
  clear hD
  go_enter Try.func55, Try.ntmps55
  go_wp2_with fail
  refine (l93Adaptor_any B a len cap zs _ _ (by omega) hD0).mono ?_
  rintro x1 w1 ⟨u, k, R, S, P, t, q1, rfl, u0, u1, kk0, kk1, ht, p1, r1, hD1, hG1⟩
  replace hX := hX.gb hG1 (by omega)
  replace hG1 := gtrans hG0 hG1
  clear hD0 hG0
  have hYhX := hX.lt
  replace hX := hX.alloc (.cells #[.int .i64 R, .int .i64 S, .int .i64 P] 26 (0, 0))
  have hY : Bk w1.heap.size 26 #[.int .i64 R, .int .i64 S, .int .i64 P] (w1.alloc (.cells #[.int .i64 R, .int .i64 S, .int .i64 P] 26 (0, 0))) := Bk.new _ _ _
  replace hD1 := hD1.alloc (.cells #[.int .i64 R, .int .i64 S, .int .i64 P] 26 (0, 0))
  replace hG1 := gtrans hG1 (World.grownBy_alloc w1 (.cells #[.int .i64 R, .int .i64 S, .int .i64 P] 26 (0, 0)) (some B))
  go_wp2_with fail
  refine (pick_any B a len cap zs _ 8 _ (by omega) (by omega) hD1).mono ?_
  rintro x2 w2 ⟨v, rfl, va, vb, hD2, hG2⟩
  replace hX := hX.gb hG2 (by omega)
  replace hY := hY.gb hG2 (by omega)
  replace hG2 := gtrans hG1 hG2
  clear hD1 hG1
  have hconK := fun W => l4Base_any u W (by omega)
  obtain ⟨K, HK⟩ : ∃ K, Hid (Gr.pw 2147483579 4 u = K) := ⟨_, Lib.hid rfl⟩
  rw [HK.out] at hconK
  clear HK
  by_cases h0 : v = 0
  · have k0 : (v == 0) = true := by simpa using h0
    clear h0
    go_wp2_with fail
    refine (l91Word_any B a len cap zs _ _ (by omega) hD2).mono ?_
    rintro x3 w3 ⟨t2, t2q, rfl, t2s, t2p, t2r, hD3, hG3⟩
    replace hX := hX.gb hG3 (by omega)
    replace hY := hY.gb hG3 (by omega)
    replace hG3 := gtrans hG2 hG3
    clear hD2 hG2
    obtain ⟨n0, n1, n2⟩ := Bk.c3 hX
    obtain ⟨g0, g1, g2⟩ := hX.f3
    have hS0 := Bk.c3 hY.drew
    replace hY := hY.oset (w.heap.size) 0 (.int .i64 R) (by omega)
    replace hX := hX.set 0 (.int .i64 R)
    replace hD3 := hD3.oset (w.heap.size) 0 (.int .i64 R) (by omega)
    replace hG3 := gb_set hG3 (w.heap.size) 0 (.int .i64 R) (by omega)
    replace hY := hY.oset (w.heap.size) 1 (.int .i64 S) (by omega)
    replace hX := hX.set 1 (.int .i64 S)
    replace hD3 := hD3.oset (w.heap.size) 1 (.int .i64 S) (by omega)
    replace hG3 := gb_set hG3 (w.heap.size) 1 (.int .i64 S) (by omega)
    replace hY := hY.oset (w.heap.size) 2 (.int .i64 P) (by omega)
    replace hX := hX.set 2 (.int .i64 P)
    replace hD3 := hD3.oset (w.heap.size) 2 (.int .i64 P) (by omega)
    replace hG3 := gb_set hG3 (w.heap.size) 2 (.int .i64 P) (by omega)
    replace hX := hX.drew
    replace hY := hY.drew
    replace hD3 := hD3.drewN 1
    replace hG3 := grownBy_drew hG3
    have hS1 := Bk.c3 hY
    go_wp2
    go_region_held3 (fun W => W.cell? ⟨w1.heap.size, 0, none⟩ = some (.int .i64 R) ∧ W.cell? ⟨w1.heap.size, 1, none⟩ = some (.int .i64 S) ∧ W.cell? ⟨w1.heap.size, 2, none⟩ = some (.int .i64 P)) (first | with_reducible exact hS0 | with_reducible exact hS1)
      (first | (go_at_call 43; refine (hconK _).mono ?_; rintro y9 v9 ⟨rfl, hv9⟩; subst v9))
    go_wp2
    refine bodyPost_ret (results_ttc (P := Try.prog) rfl _ _ w.heap.size 26 #[.int .i64 R, .int .i64 S, .int .i64 P] (0, 0) _ rfl hX.held Try.underlying26 rfl (by kernel_rfl)) rfl ?_
    exact ⟨_, _, _, _, _, _, rfl, by omega, by omega, by omega, hD3, hG3⟩
  · have k0 : (v == 0) = false := by simpa using h0
    clear h0
    obtain ⟨n0, n1, n2⟩ := Bk.c3 hX
    obtain ⟨g0, g1, g2⟩ := hX.f3
    have hS0 := Bk.c3 hY.drew
    replace hY := hY.oset (w.heap.size) 0 (.int .i64 R) (by omega)
    replace hX := hX.set 0 (.int .i64 R)
    replace hD2 := hD2.oset (w.heap.size) 0 (.int .i64 R) (by omega)
    replace hG2 := gb_set hG2 (w.heap.size) 0 (.int .i64 R) (by omega)
    replace hY := hY.oset (w.heap.size) 1 (.int .i64 S) (by omega)
    replace hX := hX.set 1 (.int .i64 S)
    replace hD2 := hD2.oset (w.heap.size) 1 (.int .i64 S) (by omega)
    replace hG2 := gb_set hG2 (w.heap.size) 1 (.int .i64 S) (by omega)
    replace hY := hY.oset (w.heap.size) 2 (.int .i64 P) (by omega)
    replace hX := hX.set 2 (.int .i64 P)
    replace hD2 := hD2.oset (w.heap.size) 2 (.int .i64 P) (by omega)
    replace hG2 := gb_set hG2 (w.heap.size) 2 (.int .i64 P) (by omega)
    replace hX := hX.drew
    replace hY := hY.drew
    replace hD2 := hD2.drewN 1
    replace hG2 := grownBy_drew hG2
    have hS1 := Bk.c3 hY
    go_wp2
    go_region_held3 (fun W => W.cell? ⟨w1.heap.size, 0, none⟩ = some (.int .i64 R) ∧ W.cell? ⟨w1.heap.size, 1, none⟩ = some (.int .i64 S) ∧ W.cell? ⟨w1.heap.size, 2, none⟩ = some (.int .i64 P)) (first | with_reducible exact hS0 | with_reducible exact hS1)
      (first | (go_at_call 43; refine (hconK _).mono ?_; rintro y9 v9 ⟨rfl, hv9⟩; subst v9))
    go_wp2
    refine bodyPost_ret (results_ttc (P := Try.prog) rfl _ _ w.heap.size 26 #[.int .i64 R, .int .i64 S, .int .i64 P] (0, 0) _ rfl hX.held Try.underlying26 rfl (by kernel_rfl)) rfl ?_
    exact ⟨_, _, _, _, _, _, rfl, by omega, by omega, by omega, hD2, hG2⟩
set_option maxRecDepth 100000 in
set_option maxHeartbeats 1600000 in
theorem l93Finish_any (B : Nat) (a : Option Addr) (len cap : Nat) (zs : List Int) (p : Nat) (w : World) (hp : p ≤ 500000000) (hD : Dw B a len cap zs w p) :
    Calls Try.prog 58 #[.pointer (some ⟨B, 0, none⟩)] w (AfR B a len cap zs p 60 w) := by
  have hBlt := hD.lt
  have hX : Bk (w.heap.size) 26 #[.int .i64 0, .int .i64 0, .int .i64 0] (w.alloc (.cells #[.int .i64 0, .int .i64 0, .int .i64 0] 26 (0, 0))) := Bk.new _ _ _
  have hD0 := (hD).alloc (.cells #[.int .i64 0, .int .i64 0, .int .i64 0] 26 (0, 0))
  have hG0 : w.grownBy (w.alloc (.cells #[.int .i64 0, .int .i64 0, .int .i64 0] 26 (0, 0))) (some B) := World.grownBy_alloc w (.cells #[.int .i64 0, .int .i64 0, .int .i64 0] 26 (0, 0)) (some B)
  clear hD
  go_enter Try.func58, Try.ntmps58
  go_wp2_with fail
  refine (l93Adaptor_any B a len cap zs _ _ (by omega) hD0).mono ?_
  rintro x1 w1 ⟨u, k, R, S, P, t, q1, rfl, u0, u1, kk0, kk1, ht, p1, r1, hD1, hG1⟩
  replace hX := hX.gb hG1 (by omega)
  replace hG1 := gtrans hG0 hG1
  clear hD0 hG0
  have hYhX := hX.lt
  replace hX := hX.alloc (.cells #[.int .i64 R, .int .i64 S, .int .i64 P] 26 (0, 0))
  have hY : Bk w1.heap.size 26 #[.int .i64 R, .int .i64 S, .int .i64 P] (w1.alloc (.cells #[.int .i64 R, .int .i64 S, .int .i64 P] 26 (0, 0))) := Bk.new _ _ _
  replace hD1 := hD1.alloc (.cells #[.int .i64 R, .int .i64 S, .int .i64 P] 26 (0, 0))
  replace hG1 := gtrans hG1 (World.grownBy_alloc w1 (.cells #[.int .i64 R, .int .i64 S, .int .i64 P] 26 (0, 0)) (some B))
  go_wp2_with fail
  refine (pick_any B a len cap zs _ 8 _ (by omega) (by omega) hD1).mono ?_
  rintro x2 w2 ⟨v, rfl, va, vb, hD2, hG2⟩
  replace hX := hX.gb hG2 (by omega)
  replace hY := hY.gb hG2 (by omega)
  replace hG2 := gtrans hG1 hG2
  clear hD1 hG1
  by_cases h0 : v = 0
  · have k0 : (v == 0) = true := by simpa using h0
    clear h0
    go_wp2_with fail
    refine (l91Secret_any B a len cap zs _ _ (by omega) hD2).mono ?_
    rintro x3 w3 ⟨z, zq, rfl, za, zb, zp, zr, hD3, hG3⟩
    replace hX := hX.gb hG3 (by omega)
    replace hY := hY.gb hG3 (by omega)
    replace hG3 := gtrans hG2 hG3
    clear hD2 hG2
    obtain ⟨n0, n1, n2⟩ := Bk.c3 hX
    obtain ⟨g0, g1, g2⟩ := hX.f3
    obtain ⟨o0, o1, o2⟩ := Bk.c3 hY
    replace hY := hY.oset (w.heap.size) 0 (.int .i64 R) (by omega)
    replace hX := hX.set 0 (.int .i64 R)
    replace hD3 := hD3.oset (w.heap.size) 0 (.int .i64 R) (by omega)
    replace hG3 := gb_set hG3 (w.heap.size) 0 (.int .i64 R) (by omega)
    replace hY := hY.oset (w.heap.size) 1 (.int .i64 S) (by omega)
    replace hX := hX.set 1 (.int .i64 S)
    replace hD3 := hD3.oset (w.heap.size) 1 (.int .i64 S) (by omega)
    replace hG3 := gb_set hG3 (w.heap.size) 1 (.int .i64 S) (by omega)
    replace hY := hY.oset (w.heap.size) 2 (.int .i64 P) (by omega)
    replace hX := hX.set 2 (.int .i64 P)
    replace hD3 := hD3.oset (w.heap.size) 2 (.int .i64 P) (by omega)
    replace hG3 := gb_set hG3 (w.heap.size) 2 (.int .i64 P) (by omega)
    clear hY
    go_wp2
    refine bodyPost_ret (results_ct (P := Try.prog) rfl _ _ w.heap.size 26 #[.int .i64 R, .int .i64 S, .int .i64 P] (0, 0) _ rfl hX.held Try.underlying26 rfl (by kernel_rfl)) rfl ?_
    exact ⟨_, _, _, _, _, rfl, by omega, by omega, hD3, hG3⟩
  · have k0 : (v == 0) = false := by simpa using h0
    clear h0
    obtain ⟨n0, n1, n2⟩ := Bk.c3 hX
    obtain ⟨g0, g1, g2⟩ := hX.f3
    obtain ⟨o0, o1, o2⟩ := Bk.c3 hY
    replace hY := hY.oset (w.heap.size) 0 (.int .i64 R) (by omega)
    replace hX := hX.set 0 (.int .i64 R)
    replace hD2 := hD2.oset (w.heap.size) 0 (.int .i64 R) (by omega)
    replace hG2 := gb_set hG2 (w.heap.size) 0 (.int .i64 R) (by omega)
    replace hY := hY.oset (w.heap.size) 1 (.int .i64 S) (by omega)
    replace hX := hX.set 1 (.int .i64 S)
    replace hD2 := hD2.oset (w.heap.size) 1 (.int .i64 S) (by omega)
    replace hG2 := gb_set hG2 (w.heap.size) 1 (.int .i64 S) (by omega)
    replace hY := hY.oset (w.heap.size) 2 (.int .i64 P) (by omega)
    replace hX := hX.set 2 (.int .i64 P)
    replace hD2 := hD2.oset (w.heap.size) 2 (.int .i64 P) (by omega)
    replace hG2 := gb_set hG2 (w.heap.size) 2 (.int .i64 P) (by omega)
    clear hY
    go_wp2
    refine bodyPost_ret (results_ct (P := Try.prog) rfl _ _ w.heap.size 26 #[.int .i64 R, .int .i64 S, .int .i64 P] (0, 0) _ rfl hX.held Try.underlying26 rfl (by kernel_rfl)) rfl ?_
    exact ⟨_, _, _, _, _, rfl, by omega, by omega, hD2, hG2⟩
set_option maxRecDepth 100000 in
set_option maxHeartbeats 1600000 in
theorem l93Reveal_any (B : Nat) (a : Option Addr) (len cap : Nat) (zs : List Int) (p : Nat) (w : World) (hp : p ≤ 500000000) (hD : Dw B a len cap zs w p) :
    Calls Try.prog 64 #[.pointer (some ⟨B, 0, none⟩)] w (ArR B a len cap zs p 70 w) := by
  have hBlt := hD.lt
  have hX : Bk (w.heap.size) 26 #[.int .i64 0, .int .i64 0, .int .i64 0] ((w.alloc (.cells #[.int .i64 0, .int .i64 0, .int .i64 0] 26 (0, 0))).alloc (.cells #[.int .i64 0, .int .i64 0] 35 (0, 0))) := (Bk.new _ _ _).alloc (.cells #[.int .i64 0, .int .i64 0] 35 (0, 0))
  have hZ : Bk (w.heap.size + 1) 35 #[.int .i64 0, .int .i64 0] ((w.alloc (.cells #[.int .i64 0, .int .i64 0, .int .i64 0] 26 (0, 0))).alloc (.cells #[.int .i64 0, .int .i64 0] 35 (0, 0))) := Bk.new' _ _ _ _ (by simp)
  have hD0 := ((hD).alloc (.cells #[.int .i64 0, .int .i64 0, .int .i64 0] 26 (0, 0))).alloc (.cells #[.int .i64 0, .int .i64 0] 35 (0, 0))
  have hG0 : w.grownBy ((w.alloc (.cells #[.int .i64 0, .int .i64 0, .int .i64 0] 26 (0, 0))).alloc (.cells #[.int .i64 0, .int .i64 0] 35 (0, 0))) (some B) := gtrans (World.grownBy_alloc w (.cells #[.int .i64 0, .int .i64 0, .int .i64 0] 26 (0, 0)) (some B)) (World.grownBy_alloc (w.alloc (.cells #[.int .i64 0, .int .i64 0, .int .i64 0] 26 (0, 0))) (.cells #[.int .i64 0, .int .i64 0] 35 (0, 0)) (some B))
  clear hD
  go_enter Try.func64, Try.ntmps64
  go_wp2_with fail
  refine (l93Adaptor_any B a len cap zs _ _ (by omega) hD0).mono ?_
  rintro x1 w1 ⟨u, k, R, S, P, t, q1, rfl, u0, u1, kk0, kk1, ht, p1, r1, hD1, hG1⟩
  replace hX := hX.gb hG1 (by omega)
  replace hZ := hZ.gb hG1 (by omega)
  replace hG1 := gtrans hG0 hG1
  clear hD0 hG0
  have hYhX := hX.lt
  replace hX := hX.alloc (.cells #[.int .i64 R, .int .i64 S, .int .i64 P] 26 (0, 0))
  have hYhZ := hZ.lt
  replace hZ := hZ.alloc (.cells #[.int .i64 R, .int .i64 S, .int .i64 P] 26 (0, 0))
  have hY : Bk w1.heap.size 26 #[.int .i64 R, .int .i64 S, .int .i64 P] (w1.alloc (.cells #[.int .i64 R, .int .i64 S, .int .i64 P] 26 (0, 0))) := Bk.new _ _ _
  replace hD1 := hD1.alloc (.cells #[.int .i64 R, .int .i64 S, .int .i64 P] 26 (0, 0))
  replace hG1 := gtrans hG1 (World.grownBy_alloc w1 (.cells #[.int .i64 R, .int .i64 S, .int .i64 P] 26 (0, 0)) (some B))
  obtain ⟨c0, c1, c2⟩ := Bk.c3 hY
  have hcon1 := fun W => specAdaptorFinish_any R S P k W
  obtain ⟨F0, HF0⟩ : ∃ x, Hid (Ad.f0 R S P k = x) := ⟨_, Lib.hid rfl⟩
  obtain ⟨F1, HF1⟩ : ∃ x, Hid (Ad.f1 R S P k = x) := ⟨_, Lib.hid rfl⟩
  obtain ⟨F2, HF2⟩ : ∃ x, Hid (Ad.fok R S P k = x) := ⟨_, Lib.hid rfl⟩
  rw [HF0.out, HF1.out, HF2.out] at hcon1
  clear HF0 HF1 HF2
  have hcon2 := fun W => l5Sign_any u t W (by omega) (by omega) (by omega)
  obtain ⟨R5, HR5⟩ : ∃ x, Hid (Sg.sr u t = x) := ⟨_, Lib.hid rfl⟩
  obtain ⟨S5, HS5⟩ : ∃ x, Hid (Sg.ss u t = x) := ⟨_, Lib.hid rfl⟩
  rw [HR5.out, HS5.out] at hcon2
  clear HR5 HS5
  go_wp2_with fail
  refine (hcon1 _).mono ?_
  rintro x2 w2 ⟨rfl, hb2⟩
  replace hX := hX.below hb2
  replace hZ := hZ.below hb2
  replace hY := hY.below hb2
  have hD2 := hD1.below hb2
  have hG2 := gtrans hG1 (below_gb hb2 B)
  clear hb2 hD1 hG1
  clear c0 c1 c2
  have hVhX := hX.lt
  replace hX := hX.alloc (.cells #[.int .i64 F0, .int .i64 F1] 35 (0, 0))
  have hVhZ := hZ.lt
  replace hZ := hZ.alloc (.cells #[.int .i64 F0, .int .i64 F1] 35 (0, 0))
  have hVhY := hY.lt
  replace hY := hY.alloc (.cells #[.int .i64 F0, .int .i64 F1] 35 (0, 0))
  have hV : Bk w2.heap.size 35 #[.int .i64 F0, .int .i64 F1] (w2.alloc (.cells #[.int .i64 F0, .int .i64 F1] 35 (0, 0))) := Bk.new _ _ _
  replace hD2 := hD2.alloc (.cells #[.int .i64 F0, .int .i64 F1] 35 (0, 0))
  replace hG2 := gtrans hG2 (World.grownBy_alloc w2 (.cells #[.int .i64 F0, .int .i64 F1] 35 (0, 0)) (some B))
  go_wp2_with fail
  refine (pick_any B a len cap zs _ 10 _ (by omega) (by omega) hD2).mono ?_
  rintro x3 w3 ⟨v, rfl, va, vb, hD3, hG3⟩
  replace hX := hX.gb hG3 (by omega)
  replace hZ := hZ.gb hG3 (by omega)
  replace hY := hY.gb hG3 (by omega)
  replace hV := hV.gb hG3 (by omega)
  replace hG3 := gtrans hG2 hG3
  clear hD2 hG2
  have hconK := fun W => l4Base_any u W (by omega)
  obtain ⟨K, HK⟩ : ∃ K, Hid (Gr.pw 2147483579 4 u = K) := ⟨_, Lib.hid rfl⟩
  rw [HK.out] at hconK
  clear HK
  by_cases h0 : v = 0
  · have k0 : (v == 0) = true := by simpa using h0
    clear h0
    go_wp2_with fail
    refine (hcon2 _).mono ?_
    rintro x4 w4 ⟨rfl, hb4⟩
    replace hX := hX.below hb4
    replace hZ := hZ.below hb4
    replace hY := hY.below hb4
    replace hV := hV.below hb4
    have hD4 := hD3.below hb4
    have hG4 := gtrans hG3 (below_gb hb4 B)
    clear hb4 hD3 hG3
    obtain ⟨o0, o1⟩ := Bk.c2 hV
    obtain ⟨e0, e1⟩ := hV.f2
    go_wp2
    replace hX := hX.oset (w2.heap.size) 0 (.int .i64 R5) (by omega)
    replace hZ := hZ.oset (w2.heap.size) 0 (.int .i64 R5) (by omega)
    replace hY := hY.oset (w2.heap.size) 0 (.int .i64 R5) (by omega)
    replace hV := hV.set 0 (.int .i64 R5)
    replace hD4 := hD4.oset (w2.heap.size) 0 (.int .i64 R5) (by omega)
    replace hG4 := gb_set hG4 (w2.heap.size) 0 (.int .i64 R5) (by omega)
    replace hX := hX.oset (w2.heap.size) 1 (.int .i64 S5) (by omega)
    replace hZ := hZ.oset (w2.heap.size) 1 (.int .i64 S5) (by omega)
    replace hY := hY.oset (w2.heap.size) 1 (.int .i64 S5) (by omega)
    replace hV := hV.set 1 (.int .i64 S5)
    replace hD4 := hD4.oset (w2.heap.size) 1 (.int .i64 S5) (by omega)
    replace hG4 := gb_set hG4 (w2.heap.size) 1 (.int .i64 S5) (by omega)
    have hV2 : Bk w2.heap.size 35 #[.int .i64 R5, .int .i64 S5] _ := hV
    clear hV o0 o1 e0 e1
    have hV := hV2
    clear hV2
    obtain ⟨n0, n1, n2⟩ := Bk.c3 hX
    obtain ⟨g0, g1, g2⟩ := hX.f3
    obtain ⟨m0, m1⟩ := Bk.c2 hZ
    obtain ⟨f0, f1⟩ := hZ.f2
    have hSof : ∀ W, Bk w1.heap.size 26 #[.int .i64 R, .int .i64 S, .int .i64 P] W → Bk w2.heap.size 35 #[.int .i64 R5, .int .i64 S5] W → W.cell? ⟨w1.heap.size, 0, none⟩ = some (.int .i64 R) ∧ W.cell? ⟨w1.heap.size, 1, none⟩ = some (.int .i64 S) ∧ W.cell? ⟨w1.heap.size, 2, none⟩ = some (.int .i64 P) ∧ W.cell? ⟨w2.heap.size, 0, none⟩ = some (.int .i64 R5) ∧ W.cell? ⟨w2.heap.size, 1, none⟩ = some (.int .i64 S5) := fun W h k => ⟨h.cell 0, h.cell 1, h.cell 2, k.cell 0, k.cell 1⟩
    have hS0 := hSof _ hY.drew hV.drew
    replace hZ := hZ.oset (w.heap.size) 0 (.int .i64 R) (by omega)
    replace hY := hY.oset (w.heap.size) 0 (.int .i64 R) (by omega)
    replace hV := hV.oset (w.heap.size) 0 (.int .i64 R) (by omega)
    replace hX := hX.set 0 (.int .i64 R)
    replace hD4 := hD4.oset (w.heap.size) 0 (.int .i64 R) (by omega)
    replace hG4 := gb_set hG4 (w.heap.size) 0 (.int .i64 R) (by omega)
    replace hZ := hZ.oset (w.heap.size) 1 (.int .i64 S) (by omega)
    replace hY := hY.oset (w.heap.size) 1 (.int .i64 S) (by omega)
    replace hV := hV.oset (w.heap.size) 1 (.int .i64 S) (by omega)
    replace hX := hX.set 1 (.int .i64 S)
    replace hD4 := hD4.oset (w.heap.size) 1 (.int .i64 S) (by omega)
    replace hG4 := gb_set hG4 (w.heap.size) 1 (.int .i64 S) (by omega)
    replace hZ := hZ.oset (w.heap.size) 2 (.int .i64 P) (by omega)
    replace hY := hY.oset (w.heap.size) 2 (.int .i64 P) (by omega)
    replace hV := hV.oset (w.heap.size) 2 (.int .i64 P) (by omega)
    replace hX := hX.set 2 (.int .i64 P)
    replace hD4 := hD4.oset (w.heap.size) 2 (.int .i64 P) (by omega)
    replace hG4 := gb_set hG4 (w.heap.size) 2 (.int .i64 P) (by omega)
    have hS1 := hSof _ hY.drew hV.drew
    obtain ⟨mm0, mm1⟩ := Bk.c2 hZ
    obtain ⟨ff0, ff1⟩ := hZ.f2
    replace hX := hX.oset (w.heap.size + 1) 0 (.int .i64 R5) (by omega)
    replace hY := hY.oset (w.heap.size + 1) 0 (.int .i64 R5) (by omega)
    replace hV := hV.oset (w.heap.size + 1) 0 (.int .i64 R5) (by omega)
    replace hZ := hZ.set 0 (.int .i64 R5)
    replace hD4 := hD4.oset (w.heap.size + 1) 0 (.int .i64 R5) (by omega)
    replace hG4 := gb_set hG4 (w.heap.size + 1) 0 (.int .i64 R5) (by omega)
    replace hX := hX.oset (w.heap.size + 1) 1 (.int .i64 S5) (by omega)
    replace hY := hY.oset (w.heap.size + 1) 1 (.int .i64 S5) (by omega)
    replace hV := hV.oset (w.heap.size + 1) 1 (.int .i64 S5) (by omega)
    replace hZ := hZ.set 1 (.int .i64 S5)
    replace hD4 := hD4.oset (w.heap.size + 1) 1 (.int .i64 S5) (by omega)
    replace hG4 := gb_set hG4 (w.heap.size + 1) 1 (.int .i64 S5) (by omega)
    replace hX := hX.drew
    replace hZ := hZ.drew
    replace hY := hY.drew
    replace hV := hV.drew
    replace hD4 := hD4.drewN 1
    replace hG4 := grownBy_drew hG4
    have hS2 := hSof _ hY hV
    try go_wp2
    go_region_held3 (fun W => W.cell? ⟨w1.heap.size, 0, none⟩ = some (.int .i64 R) ∧ W.cell? ⟨w1.heap.size, 1, none⟩ = some (.int .i64 S) ∧ W.cell? ⟨w1.heap.size, 2, none⟩ = some (.int .i64 P) ∧ W.cell? ⟨w2.heap.size, 0, none⟩ = some (.int .i64 R5) ∧ W.cell? ⟨w2.heap.size, 1, none⟩ = some (.int .i64 S5)) (first | with_reducible exact hS0 | with_reducible exact hS1 | with_reducible exact hS2)
      (first | (go_at_call 43; refine (hconK _).mono ?_; rintro y9 v9 ⟨rfl, hv9⟩; subst v9))
    go_wp2
    refine bodyPost_ret (results_ttcc (P := Try.prog) rfl _ _ w.heap.size (w.heap.size + 1) #[.int .i64 R, .int .i64 S, .int .i64 P] #[.int .i64 R5, .int .i64 S5] _ _ rfl hX.held rfl hZ.held Try.underlying26 rfl (by kernel_rfl) Try.underlying35 rfl (by kernel_rfl)) rfl ?_
    exact ⟨_, _, _, _, _, _, _, _, rfl, by omega, by omega, by omega, hD4, hG4⟩
  · have k0 : (v == 0) = false := by simpa using h0
    clear h0
    by_cases h1 : v = 1
    · have k1 : (v == 1) = true := by simpa using h1
      clear h1
      go_wp2_with fail
      refine (l91Scalar_any B a len cap zs _ _ (by omega) hD3).mono ?_
      rintro x4 w4 ⟨z, zq, rfl, za, zb, zp, zr, hD4, hG4⟩
      replace hX := hX.gb hG4 (by omega)
      replace hZ := hZ.gb hG4 (by omega)
      replace hY := hY.gb hG4 (by omega)
      replace hV := hV.gb hG4 (by omega)
      replace hG4 := gtrans hG3 hG4
      clear hD3 hG3
      obtain ⟨o0, o1⟩ := Bk.c2 hV
      obtain ⟨e0, e1⟩ := hV.f2
      go_wp2
      replace hX := hX.oset (w2.heap.size) 1 (.int .i64 z) (by omega)
      replace hZ := hZ.oset (w2.heap.size) 1 (.int .i64 z) (by omega)
      replace hY := hY.oset (w2.heap.size) 1 (.int .i64 z) (by omega)
      replace hV := hV.set 1 (.int .i64 z)
      replace hD4 := hD4.oset (w2.heap.size) 1 (.int .i64 z) (by omega)
      replace hG4 := gb_set hG4 (w2.heap.size) 1 (.int .i64 z) (by omega)
      have hV2 : Bk w2.heap.size 35 #[.int .i64 F0, .int .i64 z] _ := hV
      clear hV o0 o1 e0 e1
      have hV := hV2
      clear hV2
      obtain ⟨n0, n1, n2⟩ := Bk.c3 hX
      obtain ⟨g0, g1, g2⟩ := hX.f3
      obtain ⟨m0, m1⟩ := Bk.c2 hZ
      obtain ⟨f0, f1⟩ := hZ.f2
      have hSof : ∀ W, Bk w1.heap.size 26 #[.int .i64 R, .int .i64 S, .int .i64 P] W → Bk w2.heap.size 35 #[.int .i64 F0, .int .i64 z] W → W.cell? ⟨w1.heap.size, 0, none⟩ = some (.int .i64 R) ∧ W.cell? ⟨w1.heap.size, 1, none⟩ = some (.int .i64 S) ∧ W.cell? ⟨w1.heap.size, 2, none⟩ = some (.int .i64 P) ∧ W.cell? ⟨w2.heap.size, 0, none⟩ = some (.int .i64 F0) ∧ W.cell? ⟨w2.heap.size, 1, none⟩ = some (.int .i64 z) := fun W h k => ⟨h.cell 0, h.cell 1, h.cell 2, k.cell 0, k.cell 1⟩
      have hS0 := hSof _ hY.drew hV.drew
      replace hZ := hZ.oset (w.heap.size) 0 (.int .i64 R) (by omega)
      replace hY := hY.oset (w.heap.size) 0 (.int .i64 R) (by omega)
      replace hV := hV.oset (w.heap.size) 0 (.int .i64 R) (by omega)
      replace hX := hX.set 0 (.int .i64 R)
      replace hD4 := hD4.oset (w.heap.size) 0 (.int .i64 R) (by omega)
      replace hG4 := gb_set hG4 (w.heap.size) 0 (.int .i64 R) (by omega)
      replace hZ := hZ.oset (w.heap.size) 1 (.int .i64 S) (by omega)
      replace hY := hY.oset (w.heap.size) 1 (.int .i64 S) (by omega)
      replace hV := hV.oset (w.heap.size) 1 (.int .i64 S) (by omega)
      replace hX := hX.set 1 (.int .i64 S)
      replace hD4 := hD4.oset (w.heap.size) 1 (.int .i64 S) (by omega)
      replace hG4 := gb_set hG4 (w.heap.size) 1 (.int .i64 S) (by omega)
      replace hZ := hZ.oset (w.heap.size) 2 (.int .i64 P) (by omega)
      replace hY := hY.oset (w.heap.size) 2 (.int .i64 P) (by omega)
      replace hV := hV.oset (w.heap.size) 2 (.int .i64 P) (by omega)
      replace hX := hX.set 2 (.int .i64 P)
      replace hD4 := hD4.oset (w.heap.size) 2 (.int .i64 P) (by omega)
      replace hG4 := gb_set hG4 (w.heap.size) 2 (.int .i64 P) (by omega)
      have hS1 := hSof _ hY.drew hV.drew
      obtain ⟨mm0, mm1⟩ := Bk.c2 hZ
      obtain ⟨ff0, ff1⟩ := hZ.f2
      replace hX := hX.oset (w.heap.size + 1) 0 (.int .i64 F0) (by omega)
      replace hY := hY.oset (w.heap.size + 1) 0 (.int .i64 F0) (by omega)
      replace hV := hV.oset (w.heap.size + 1) 0 (.int .i64 F0) (by omega)
      replace hZ := hZ.set 0 (.int .i64 F0)
      replace hD4 := hD4.oset (w.heap.size + 1) 0 (.int .i64 F0) (by omega)
      replace hG4 := gb_set hG4 (w.heap.size + 1) 0 (.int .i64 F0) (by omega)
      replace hX := hX.oset (w.heap.size + 1) 1 (.int .i64 z) (by omega)
      replace hY := hY.oset (w.heap.size + 1) 1 (.int .i64 z) (by omega)
      replace hV := hV.oset (w.heap.size + 1) 1 (.int .i64 z) (by omega)
      replace hZ := hZ.set 1 (.int .i64 z)
      replace hD4 := hD4.oset (w.heap.size + 1) 1 (.int .i64 z) (by omega)
      replace hG4 := gb_set hG4 (w.heap.size + 1) 1 (.int .i64 z) (by omega)
      replace hX := hX.drew
      replace hZ := hZ.drew
      replace hY := hY.drew
      replace hV := hV.drew
      replace hD4 := hD4.drewN 1
      replace hG4 := grownBy_drew hG4
      have hS2 := hSof _ hY hV
      try go_wp2
      go_region_held3 (fun W => W.cell? ⟨w1.heap.size, 0, none⟩ = some (.int .i64 R) ∧ W.cell? ⟨w1.heap.size, 1, none⟩ = some (.int .i64 S) ∧ W.cell? ⟨w1.heap.size, 2, none⟩ = some (.int .i64 P) ∧ W.cell? ⟨w2.heap.size, 0, none⟩ = some (.int .i64 F0) ∧ W.cell? ⟨w2.heap.size, 1, none⟩ = some (.int .i64 z)) (first | with_reducible exact hS0 | with_reducible exact hS1 | with_reducible exact hS2)
        (first | (go_at_call 43; refine (hconK _).mono ?_; rintro y9 v9 ⟨rfl, hv9⟩; subst v9))
      go_wp2
      refine bodyPost_ret (results_ttcc (P := Try.prog) rfl _ _ w.heap.size (w.heap.size + 1) #[.int .i64 R, .int .i64 S, .int .i64 P] #[.int .i64 F0, .int .i64 z] _ _ rfl hX.held rfl hZ.held Try.underlying26 rfl (by kernel_rfl) Try.underlying35 rfl (by kernel_rfl)) rfl ?_
      exact ⟨_, _, _, _, _, _, _, _, rfl, by omega, by omega, by omega, hD4, hG4⟩
    · have k1 : (v == 1) = false := by simpa using h1
      clear h1
      obtain ⟨n0, n1, n2⟩ := Bk.c3 hX
      obtain ⟨g0, g1, g2⟩ := hX.f3
      obtain ⟨m0, m1⟩ := Bk.c2 hZ
      obtain ⟨f0, f1⟩ := hZ.f2
      have hSof : ∀ W, Bk w1.heap.size 26 #[.int .i64 R, .int .i64 S, .int .i64 P] W → Bk w2.heap.size 35 #[.int .i64 F0, .int .i64 F1] W → W.cell? ⟨w1.heap.size, 0, none⟩ = some (.int .i64 R) ∧ W.cell? ⟨w1.heap.size, 1, none⟩ = some (.int .i64 S) ∧ W.cell? ⟨w1.heap.size, 2, none⟩ = some (.int .i64 P) ∧ W.cell? ⟨w2.heap.size, 0, none⟩ = some (.int .i64 F0) ∧ W.cell? ⟨w2.heap.size, 1, none⟩ = some (.int .i64 F1) := fun W h k => ⟨h.cell 0, h.cell 1, h.cell 2, k.cell 0, k.cell 1⟩
      have hS0 := hSof _ hY.drew hV.drew
      replace hZ := hZ.oset (w.heap.size) 0 (.int .i64 R) (by omega)
      replace hY := hY.oset (w.heap.size) 0 (.int .i64 R) (by omega)
      replace hV := hV.oset (w.heap.size) 0 (.int .i64 R) (by omega)
      replace hX := hX.set 0 (.int .i64 R)
      replace hD3 := hD3.oset (w.heap.size) 0 (.int .i64 R) (by omega)
      replace hG3 := gb_set hG3 (w.heap.size) 0 (.int .i64 R) (by omega)
      replace hZ := hZ.oset (w.heap.size) 1 (.int .i64 S) (by omega)
      replace hY := hY.oset (w.heap.size) 1 (.int .i64 S) (by omega)
      replace hV := hV.oset (w.heap.size) 1 (.int .i64 S) (by omega)
      replace hX := hX.set 1 (.int .i64 S)
      replace hD3 := hD3.oset (w.heap.size) 1 (.int .i64 S) (by omega)
      replace hG3 := gb_set hG3 (w.heap.size) 1 (.int .i64 S) (by omega)
      replace hZ := hZ.oset (w.heap.size) 2 (.int .i64 P) (by omega)
      replace hY := hY.oset (w.heap.size) 2 (.int .i64 P) (by omega)
      replace hV := hV.oset (w.heap.size) 2 (.int .i64 P) (by omega)
      replace hX := hX.set 2 (.int .i64 P)
      replace hD3 := hD3.oset (w.heap.size) 2 (.int .i64 P) (by omega)
      replace hG3 := gb_set hG3 (w.heap.size) 2 (.int .i64 P) (by omega)
      have hS1 := hSof _ hY.drew hV.drew
      obtain ⟨mm0, mm1⟩ := Bk.c2 hZ
      obtain ⟨ff0, ff1⟩ := hZ.f2
      replace hX := hX.oset (w.heap.size + 1) 0 (.int .i64 F0) (by omega)
      replace hY := hY.oset (w.heap.size + 1) 0 (.int .i64 F0) (by omega)
      replace hV := hV.oset (w.heap.size + 1) 0 (.int .i64 F0) (by omega)
      replace hZ := hZ.set 0 (.int .i64 F0)
      replace hD3 := hD3.oset (w.heap.size + 1) 0 (.int .i64 F0) (by omega)
      replace hG3 := gb_set hG3 (w.heap.size + 1) 0 (.int .i64 F0) (by omega)
      replace hX := hX.oset (w.heap.size + 1) 1 (.int .i64 F1) (by omega)
      replace hY := hY.oset (w.heap.size + 1) 1 (.int .i64 F1) (by omega)
      replace hV := hV.oset (w.heap.size + 1) 1 (.int .i64 F1) (by omega)
      replace hZ := hZ.set 1 (.int .i64 F1)
      replace hD3 := hD3.oset (w.heap.size + 1) 1 (.int .i64 F1) (by omega)
      replace hG3 := gb_set hG3 (w.heap.size + 1) 1 (.int .i64 F1) (by omega)
      replace hX := hX.drew
      replace hZ := hZ.drew
      replace hY := hY.drew
      replace hV := hV.drew
      replace hD3 := hD3.drewN 1
      replace hG3 := grownBy_drew hG3
      have hS2 := hSof _ hY hV
      try go_wp2
      go_region_held3 (fun W => W.cell? ⟨w1.heap.size, 0, none⟩ = some (.int .i64 R) ∧ W.cell? ⟨w1.heap.size, 1, none⟩ = some (.int .i64 S) ∧ W.cell? ⟨w1.heap.size, 2, none⟩ = some (.int .i64 P) ∧ W.cell? ⟨w2.heap.size, 0, none⟩ = some (.int .i64 F0) ∧ W.cell? ⟨w2.heap.size, 1, none⟩ = some (.int .i64 F1)) (first | with_reducible exact hS0 | with_reducible exact hS1 | with_reducible exact hS2)
        (first | (go_at_call 43; refine (hconK _).mono ?_; rintro y9 v9 ⟨rfl, hv9⟩; subst v9))
      go_wp2
      refine bodyPost_ret (results_ttcc (P := Try.prog) rfl _ _ w.heap.size (w.heap.size + 1) #[.int .i64 R, .int .i64 S, .int .i64 P] #[.int .i64 F0, .int .i64 F1] _ _ rfl hX.held rfl hZ.held Try.underlying26 rfl (by kernel_rfl) Try.underlying35 rfl (by kernel_rfl)) rfl ?_
      exact ⟨_, _, _, _, _, _, _, _, rfl, by omega, by omega, by omega, hD3, hG3⟩
set_option maxRecDepth 100000 in
set_option maxHeartbeats 1600000 in
theorem drawAdaptorVerify_any (a : Option Addr) (len cap : Nat) (zs : List Int) (w : World) (hr : IsRow .u8 w a len cap zs) (hlm : len ≤ 1048576) :
    Calls Try.prog 19 #[.slice a len cap] w (DrawAk w) := by
  have hX : Bk (w.heap.size) 26 #[.int .i64 0, .int .i64 0, .int .i64 0] (w.alloc (.cells #[.int .i64 0, .int .i64 0, .int .i64 0] 26 (0, 0))) := Bk.new _ _ _
  have hc0 : Below w.heap.size w (w.alloc (.cells #[.int .i64 0, .int .i64 0, .int .i64 0] 26 (0, 0))) := below_alloc (Below.refl w.heap.size w) (.cells #[.int .i64 0, .int .i64 0, .int .i64 0] 26 (0, 0))
  go_enter Try.func19, Try.ntmps19
  go_wp2_with fail
  refine (l6Open_any a len cap zs _ (hr.below hc0) hlm).mono ?_
  rintro e w0 ⟨B, a', l', c', zs', rfl, hB, hD0, hb0⟩
  clear hr
  replace hX := hX.below hb0
  have hc1 := below_after hc0 hb0
  have hlt : w.heap.size + 1 ≤ B := by simp at hB; omega
  clear hc0 hb0
  go_wp2_with fail
  refine (l93AdaptorKey_any B a' l' c' zs' _ _ (by omega) hD0).mono ?_
  rintro e w1 ⟨K, R, S, P, t, q1, rfl, ht, p1, r1, hD1, hG1⟩
  have hc2 := Below.grown hc1 hG1 hc1.size (fun j hj => by cases hj; omega)
  replace hX := hX.gb hG1 (by omega)
  obtain ⟨n00, n01, n02⟩ := Bk.c3 hX
  obtain ⟨g00, g01, g02⟩ := hX.f3
  replace hX := Bk.store3 hX (.int .i64 R) (.int .i64 S) (.int .i64 P)
  have hc3 := below_store3 hc2 (w.heap.size) (by omega) (.int .i64 R) (.int .i64 S) (.int .i64 P)
  clear hD0 hD1 hG1 hc1
  go_wp2
  refine bodyPost_ret (results_ttc (P := Try.prog) rfl _ _ w.heap.size 26 #[.int .i64 R, .int .i64 S, .int .i64 P] (0, 0) _ rfl hX.held Try.underlying26 rfl (by kernel_rfl)) rfl ?_
  exact ⟨_, _, _, _, _, rfl, ht, hc3⟩
set_option maxRecDepth 100000 in
set_option maxHeartbeats 1600000 in
theorem drawAdaptorFinish_any (a : Option Addr) (len cap : Nat) (zs : List Int) (w : World) (hr : IsRow .u8 w a len cap zs) (hlm : len ≤ 1048576) :
    Calls Try.prog 21 #[.slice a len cap] w (DrawAf w) := by
  have hX : Bk (w.heap.size) 26 #[.int .i64 0, .int .i64 0, .int .i64 0] (w.alloc (.cells #[.int .i64 0, .int .i64 0, .int .i64 0] 26 (0, 0))) := Bk.new _ _ _
  have hc0 : Below w.heap.size w (w.alloc (.cells #[.int .i64 0, .int .i64 0, .int .i64 0] 26 (0, 0))) := below_alloc (Below.refl w.heap.size w) (.cells #[.int .i64 0, .int .i64 0, .int .i64 0] 26 (0, 0))
  go_enter Try.func21, Try.ntmps21
  go_wp2_with fail
  refine (l6Open_any a len cap zs _ (hr.below hc0) hlm).mono ?_
  rintro e w0 ⟨B, a', l', c', zs', rfl, hB, hD0, hb0⟩
  clear hr
  replace hX := hX.below hb0
  have hc1 := below_after hc0 hb0
  have hlt : w.heap.size + 1 ≤ B := by simp at hB; omega
  clear hc0 hb0
  go_wp2_with fail
  refine (l93Finish_any B a' l' c' zs' _ _ (by omega) hD0).mono ?_
  rintro e w1 ⟨R, S, P, u, q1, rfl, p1, r1, hD1, hG1⟩
  have hc2 := Below.grown hc1 hG1 hc1.size (fun j hj => by cases hj; omega)
  replace hX := hX.gb hG1 (by omega)
  obtain ⟨n00, n01, n02⟩ := Bk.c3 hX
  obtain ⟨g00, g01, g02⟩ := hX.f3
  replace hX := Bk.store3 hX (.int .i64 R) (.int .i64 S) (.int .i64 P)
  have hc3 := below_store3 hc2 (w.heap.size) (by omega) (.int .i64 R) (.int .i64 S) (.int .i64 P)
  clear hD0 hD1 hG1 hc1
  go_wp2
  refine bodyPost_ret (results_ct (P := Try.prog) rfl _ _ w.heap.size 26 #[.int .i64 R, .int .i64 S, .int .i64 P] (0, 0) _ rfl hX.held Try.underlying26 rfl (by kernel_rfl)) rfl ?_
  exact ⟨_, _, _, _, rfl, hc3⟩
set_option maxRecDepth 100000 in
set_option maxHeartbeats 1600000 in
theorem drawAdaptorReveal_any (a : Option Addr) (len cap : Nat) (zs : List Int) (w : World) (hr : IsRow .u8 w a len cap zs) (hlm : len ≤ 1048576) :
    Calls Try.prog 24 #[.slice a len cap] w (DrawAr w) := by
  have hX : Bk (w.heap.size) 26 #[.int .i64 0, .int .i64 0, .int .i64 0] ((w.alloc (.cells #[.int .i64 0, .int .i64 0, .int .i64 0] 26 (0, 0))).alloc (.cells #[.int .i64 0, .int .i64 0] 35 (0, 0))) := (Bk.new _ _ _).alloc (.cells #[.int .i64 0, .int .i64 0] 35 (0, 0))
  have hZ : Bk (w.heap.size + 1) 35 #[.int .i64 0, .int .i64 0] ((w.alloc (.cells #[.int .i64 0, .int .i64 0, .int .i64 0] 26 (0, 0))).alloc (.cells #[.int .i64 0, .int .i64 0] 35 (0, 0))) := Bk.new' _ _ _ _ (by simp)
  have hc0 : Below w.heap.size w ((w.alloc (.cells #[.int .i64 0, .int .i64 0, .int .i64 0] 26 (0, 0))).alloc (.cells #[.int .i64 0, .int .i64 0] 35 (0, 0))) := below_alloc (below_alloc (Below.refl w.heap.size w) (.cells #[.int .i64 0, .int .i64 0, .int .i64 0] 26 (0, 0))) (.cells #[.int .i64 0, .int .i64 0] 35 (0, 0))
  go_enter Try.func24, Try.ntmps24
  go_wp2_with fail
  refine (l6Open_any a len cap zs _ (hr.below hc0) hlm).mono ?_
  rintro e w0 ⟨B, a', l', c', zs', rfl, hB, hD0, hb0⟩
  clear hr
  replace hX := hX.below hb0
  replace hZ := hZ.below hb0
  have hc1 := below_after hc0 hb0
  have hlt : w.heap.size + 2 ≤ B := by simp at hB; omega
  clear hc0 hb0
  go_wp2_with fail
  refine (l93Reveal_any B a' l' c' zs' _ _ (by omega) hD0).mono ?_
  rintro e w1 ⟨K, R, S, P, R2, S2, t, q1, rfl, ht, p1, r1, hD1, hG1⟩
  have hc2 := Below.grown hc1 hG1 hc1.size (fun j hj => by cases hj; omega)
  replace hX := hX.gb hG1 (by omega)
  replace hZ := hZ.gb hG1 (by omega)
  obtain ⟨n00, n01, n02⟩ := Bk.c3 hX
  obtain ⟨g00, g01, g02⟩ := hX.f3
  replace hZ := Bk.other3 hZ (w.heap.size) (by omega) (.int .i64 R) (.int .i64 S) (.int .i64 P)
  replace hX := Bk.store3 hX (.int .i64 R) (.int .i64 S) (.int .i64 P)
  have hc3 := below_store3 hc2 (w.heap.size) (by omega) (.int .i64 R) (.int .i64 S) (.int .i64 P)
  obtain ⟨n10, n11⟩ := Bk.c2 hZ
  obtain ⟨g10, g11⟩ := hZ.f2
  replace hX := Bk.other2 hX (w.heap.size + 1) (by omega) (.int .i64 R2) (.int .i64 S2)
  replace hZ := Bk.store2 hZ (.int .i64 R2) (.int .i64 S2)
  have hc4 := below_store2 hc3 (w.heap.size + 1) (by omega) (.int .i64 R2) (.int .i64 S2)
  clear hD0 hD1 hG1 hc1
  go_wp2
  refine bodyPost_ret (results_ttcc (P := Try.prog) rfl _ _ w.heap.size (w.heap.size + 1) #[.int .i64 R, .int .i64 S, .int .i64 P] #[.int .i64 R2, .int .i64 S2] _ _ rfl hX.held rfl hZ.held Try.underlying26 rfl (by kernel_rfl) Try.underlying35 rfl (by kernel_rfl)) rfl ?_
  exact ⟨_, _, _, _, _, _, _, rfl, ht, hc4⟩
set_option maxRecDepth 100000 in
set_option maxHeartbeats 1600000 in
theorem drawAdaptorSign_any (a : Option Addr) (len cap : Nat) (zs : List Int) (w : World) (hr : IsRow .u8 w a len cap zs) (hlm : len ≤ 1048576) :
    Calls Try.prog 11 #[.slice a len cap] w (DrawAs w) := by
  go_enter Try.func11, Try.ntmps11
  go_wp2_with fail
  refine (l6Open_any a len cap zs _ hr hlm).mono ?_
  rintro e w0 ⟨B, a', l', c', zs', rfl, hB, hD0, hb0⟩
  clear hr
  go_wp2_with fail
  refine (l91Secret_any B a' l' c' zs' _ _ (by omega) hD0).mono ?_
  rintro e w1 ⟨v1, q1, rfl, a1, b1, p1, r1, hD1, hG1⟩
  go_wp2_with fail
  refine (l91Word_any B a' l' c' zs' _ _ (by omega) hD1).mono ?_
  rintro e w2 ⟨t, q2, rfl, ht, p2, r2, hD2, hG2⟩
  go_wp2_with fail
  refine (l91Key_any B a' l' c' zs' _ _ (by omega) hD2).mono ?_
  rintro e w3 ⟨v3, q3, rfl, a3, b3, p3, r3, hD3, hG3⟩
  go_wp2
  go_ret3
  exact ⟨v1, v3, t, rfl, ht, Below.grown hb0 (gtrans (gtrans hG1 hG2) hG3) hb0.size (fun j hj => by cases hj; exact hB)⟩
end Go.Proofs.Ytimajobbkemdbaa
