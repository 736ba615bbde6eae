/-
  Drawing for chapter 14: what the laws on coins ask; how they compare coins.
-/
import Derived.Test.YtohameoomlehlaaCi
import Derived.Test.YtohameoomlehlaaCf
import Derived.Test.YtohameoomlehlaaDs
namespace Go.Proofs.Ytohameoomlehlaa
open Go.RowKit

theorem results_tmp3C {fn : Func} {t u v : Tmp} (h : fn.results = #[.tmp t, .tmp u, .tmp v]) (tmps : Array Value) (P : Program) (w : World) :
    (results fn tmps).run P w = .ok (.tuple #[tmps.getD t undef, tmps.getD u undef, tmps.getD v undef]) w := by
  simp [results, h]
theorem results_cell_rowCB {P : Program} {fn : Func} {p u : Tmp} {ty : TypeId} (h : fn.results = #[.tmp u, .cell p ty]) (tmps : Array Value) (w : World) (g : Nat) (t : TypeId) (cs : Array Value) (fr : Nat × Nat) (d : TypeDesc)
    (hp : tmps.getD p undef = .pointer (some ⟨g, 0, none⟩)) (hg : w.heap[g]? = some (.cells cs t fr))
    (hu : P.underlying ty = some d) (hd : (match d with | .struct _ | .array _ _ => true | _ => false) = true) (hi : (P.info? ty).map (·.size) = some cs.size) :
    (results fn tmps).run P w = .ok (.tuple #[tmps.getD u undef, .agg cs]) w := by
  have hp' : tmps[p]?.getD undef = .pointer (some ⟨g, 0, none⟩) := by simpa using hp
  simp [results, h, hp', asAddr, run_loadVar_row w g t ty cs fr d hg hu hd hi]
/-- What drawn coins keep to, all together. -/
def Co.DrL (l : List Co) : Prop := l.length ≤ 8 ∧ ∀ c ∈ l, c.Dr
theorem Co.DrL.lock {l : List Co} (h : Co.DrL l) : ∀ c ∈ l, c.lock.size ≤ 1048576 := fun c hc => by have := (h.2 c hc).lock; omega
/-- Drawing coins out of a code. -/
def DrawCo (w : World) (e : Ending) (w' : World) : Prop :=
  ∃ (a : Option Addr) (n c : Nat) (l : List Co), e = .returned (.slice a n c) ∧ Hid (CoL w.heap.size w' a n l) ∧ Hid (n ≤ c) ∧ Hid (Co.DrL l) ∧ Below w.heap.size w w'
/-- .. and a place. -/
def DrawCoF (w : World) (e : Ending) (w' : World) : Prop :=
  ∃ (a : Option Addr) (n c : Nat) (l : List Co) (t o : Int), e = .returned (.tuple #[.slice a n c, .int .i64 t, .int .i64 o]) ∧ Hid (CoL w.heap.size w' a n l) ∧ Hid (n ≤ c) ∧ Hid (Co.DrL l) ∧ Hid ((0 ≤ t ∧ t ≤ 19) ∧ (0 ≤ o ∧ o ≤ 3)) ∧ Below w.heap.size w w'
/-- .. and a coin. -/
def DrawCoA (w : World) (e : Ending) (w' : World) : Prop :=
  ∃ (a : Option Addr) (n c : Nat) (l : List Co) (x : Co), e = .returned (.tuple #[.slice a n c, .agg #[.int .i64 x.tx, .int .i64 x.out, .int .i64 x.amt, .string x.lock, .int .i64 x.ht, .bool x.rew]]) ∧ Hid (CoL w.heap.size w' a n l) ∧ Hid (n ≤ c) ∧ Hid (Co.DrL l) ∧ Hid x.Dr ∧ Below w.heap.size w w'

set_option maxRecDepth 100000 in
set_option maxHeartbeats 1600000 in
theorem drawCoinsOk_any (a : Option Addr) (len cap : Nat) (zs : List Int) (w : World) (hr : IsRow .u8 w a len cap zs) (hlm : len ≤ 1048576) :
    Calls Try.prog 10 #[.slice a len cap] w (DrawCo w) := by
  go_enter Try.func10, Try.ntmps10
  go_wp2_with fail
  refine (l6Open_any a len cap zs _ hr hlm).mono ?_
  rintro e w1 ⟨B, a', l', c', zs', rfl, hB, hD, hb1⟩
  have hBl := hD.lt
  clear hr
  go_wp2_with fail
  refine (l92Coins_any B a' l' c' zs' 0 w1 (by omega) hD).mono ?_
  rintro e w2 ⟨v, l, q, rfl, HDR, HO, _, _, hD2, hG⟩
  obtain ⟨va, vc, rfl, hvc, hcl⟩ := HO.out.coL
  have HCL := Lib.hid (hcl.mono (Nat.le_of_lt (Nat.lt_of_le_of_lt hB hBl)))
  have HVC := Lib.hid hvc
  have hbz := Below.grown hb1 hG hb1.size (fun j hj => by cases hj; exact hB)
  clear hcl hvc HO hD hD2 hb1 hG
  go_wp2
  go_ret
  exact ⟨va, _, vc, l, rfl, HCL, HVC, HDR, hbz⟩
set_option maxRecDepth 100000 in
set_option maxHeartbeats 1600000 in
theorem drawCoinsSum_any (a : Option Addr) (len cap : Nat) (zs : List Int) (w : World) (hr : IsRow .u8 w a len cap zs) (hlm : len ≤ 1048576) :
    Calls Try.prog 23 #[.slice a len cap] w (DrawCo w) := by
  go_enter Try.func23, Try.ntmps23
  go_wp2_with fail
  refine (l6Open_any a len cap zs _ hr hlm).mono ?_
  rintro e w1 ⟨B, a', l', c', zs', rfl, hB, hD, hb1⟩
  have hBl := hD.lt
  clear hr
  go_wp2_with fail
  refine (l92Coins_any B a' l' c' zs' 0 w1 (by omega) hD).mono ?_
  rintro e w2 ⟨v, l, q, rfl, HDR, HO, _, _, hD2, hG⟩
  obtain ⟨va, vc, rfl, hvc, hcl⟩ := HO.out.coL
  have HCL := Lib.hid (hcl.mono (Nat.le_of_lt (Nat.lt_of_le_of_lt hB hBl)))
  have HVC := Lib.hid hvc
  have hbz := Below.grown hb1 hG hb1.size (fun j hj => by cases hj; exact hB)
  clear hcl hvc HO hD hD2 hb1 hG
  go_wp2
  go_ret
  exact ⟨va, _, vc, l, rfl, HCL, HVC, HDR, hbz⟩
set_option maxRecDepth 100000 in
set_option maxHeartbeats 1600000 in
theorem drawCoinsBytes_any (a : Option Addr) (len cap : Nat) (zs : List Int) (w : World) (hr : IsRow .u8 w a len cap zs) (hlm : len ≤ 1048576) :
    Calls Try.prog 26 #[.slice a len cap] w (DrawCo w) := by
  go_enter Try.func26, Try.ntmps26
  go_wp2_with fail
  refine (l6Open_any a len cap zs _ hr hlm).mono ?_
  rintro e w1 ⟨B, a', l', c', zs', rfl, hB, hD, hb1⟩
  have hBl := hD.lt
  clear hr
  go_wp2_with fail
  refine (l92Coins_any B a' l' c' zs' 0 w1 (by omega) hD).mono ?_
  rintro e w2 ⟨v, l, q, rfl, HDR, HO, _, _, hD2, hG⟩
  obtain ⟨va, vc, rfl, hvc, hcl⟩ := HO.out.coL
  have HCL := Lib.hid (hcl.mono (Nat.le_of_lt (Nat.lt_of_le_of_lt hB hBl)))
  have HVC := Lib.hid hvc
  have hbz := Below.grown hb1 hG hb1.size (fun j hj => by cases hj; exact hB)
  clear hcl hvc HO hD hD2 hb1 hG
  go_wp2
  go_ret
  exact ⟨va, _, vc, l, rfl, HCL, HVC, HDR, hbz⟩
set_option maxRecDepth 100000 in
set_option maxHeartbeats 1600000 in
theorem drawCoinsDigest_any (a : Option Addr) (len cap : Nat) (zs : List Int) (w : World) (hr : IsRow .u8 w a len cap zs) (hlm : len ≤ 1048576) :
    Calls Try.prog 30 #[.slice a len cap] w (DrawCo w) := by
  go_enter Try.func30, Try.ntmps30
  go_wp2_with fail
  refine (l6Open_any a len cap zs _ hr hlm).mono ?_
  rintro e w1 ⟨B, a', l', c', zs', rfl, hB, hD, hb1⟩
  have hBl := hD.lt
  clear hr
  go_wp2_with fail
  refine (l92Coins_any B a' l' c' zs' 0 w1 (by omega) hD).mono ?_
  rintro e w2 ⟨v, l, q, rfl, HDR, HO, _, _, hD2, hG⟩
  obtain ⟨va, vc, rfl, hvc, hcl⟩ := HO.out.coL
  have HCL := Lib.hid (hcl.mono (Nat.le_of_lt (Nat.lt_of_le_of_lt hB hBl)))
  have HVC := Lib.hid hvc
  have hbz := Below.grown hb1 hG hb1.size (fun j hj => by cases hj; exact hB)
  clear hcl hvc HO hD hD2 hb1 hG
  go_wp2
  go_ret
  exact ⟨va, _, vc, l, rfl, HCL, HVC, HDR, hbz⟩
set_option maxRecDepth 100000 in
set_option maxHeartbeats 1600000 in
theorem drawCoinsFind_any (a : Option Addr) (len cap : Nat) (zs : List Int) (w : World) (hr : IsRow .u8 w a len cap zs) (hlm : len ≤ 1048576) :
    Calls Try.prog 14 #[.slice a len cap] w (DrawCoF w) := by
  go_enter Try.func14, Try.ntmps14
  go_wp2_with fail
  refine (l6Open_any a len cap zs _ hr hlm).mono ?_
  rintro e w1 ⟨B, a', l', c', zs', rfl, hB, hD, hb1⟩
  have hBl := hD.lt
  clear hr
  go_wp2_with fail
  refine (l92Coins_any B a' l' c' zs' 0 w1 (by omega) hD).mono ?_
  rintro e w2 ⟨v, l, q, rfl, HDR, HO, _, hq1, hD2, hG⟩
  go_wp2_with fail
  refine (pick_any B a' l' c' zs' q 20 _ (by omega) (by omega) hD2).mono ?_
  rintro e w3 ⟨t, rfl, t0, t1, hD3, hG3⟩
  go_wp2_with fail
  refine (pick_any B a' l' c' zs' (q + 1) 4 _ (by omega) (by omega) hD3).mono ?_
  rintro e w4 ⟨o, rfl, o0, o1, hD4, hG4⟩
  obtain ⟨va, vc, rfl, hvc, hcl⟩ := ((HO.out.kept hG3 hBl).kept hG4 hBl).coL
  have HCL := Lib.hid (hcl.mono (Nat.le_of_lt (Nat.lt_of_le_of_lt hB hBl)))
  have HVC := Lib.hid hvc
  have hbz := Below.grown hb1 (gtrans (gtrans hG hG3) hG4) hb1.size (fun j hj => by cases hj; exact hB)
  have HTO : Hid ((0 ≤ t ∧ t ≤ 19) ∧ (0 ≤ o ∧ o ≤ 3)) := Lib.hid ⟨⟨t0, by omega⟩, o0, by omega⟩
  clear hcl hvc HO hD hD2 hD3 hD4 hb1 hG hG3 hG4
  go_wp2
  refine bodyPost_ret (results_tmp3C rfl _ _ _) rfl ?_
  exact ⟨va, _, vc, l, t, o, rfl, HCL, HVC, HDR, HTO, hbz⟩
set_option maxRecDepth 100000 in
set_option maxHeartbeats 1600000 in
theorem drawCoinsSpend_any (a : Option Addr) (len cap : Nat) (zs : List Int) (w : World) (hr : IsRow .u8 w a len cap zs) (hlm : len ≤ 1048576) :
    Calls Try.prog 21 #[.slice a len cap] w (DrawCoF w) := by
  go_enter Try.func21, Try.ntmps21
  go_wp2_with fail
  refine (l6Open_any a len cap zs _ hr hlm).mono ?_
  rintro e w1 ⟨B, a', l', c', zs', rfl, hB, hD, hb1⟩
  have hBl := hD.lt
  clear hr
  go_wp2_with fail
  refine (l92Coins_any B a' l' c' zs' 0 w1 (by omega) hD).mono ?_
  rintro e w2 ⟨v, l, q, rfl, HDR, HO, _, hq1, hD2, hG⟩
  go_wp2_with fail
  refine (pick_any B a' l' c' zs' q 20 _ (by omega) (by omega) hD2).mono ?_
  rintro e w3 ⟨t, rfl, t0, t1, hD3, hG3⟩
  go_wp2_with fail
  refine (pick_any B a' l' c' zs' (q + 1) 4 _ (by omega) (by omega) hD3).mono ?_
  rintro e w4 ⟨o, rfl, o0, o1, hD4, hG4⟩
  obtain ⟨va, vc, rfl, hvc, hcl⟩ := ((HO.out.kept hG3 hBl).kept hG4 hBl).coL
  have HCL := Lib.hid (hcl.mono (Nat.le_of_lt (Nat.lt_of_le_of_lt hB hBl)))
  have HVC := Lib.hid hvc
  have hbz := Below.grown hb1 (gtrans (gtrans hG hG3) hG4) hb1.size (fun j hj => by cases hj; exact hB)
  have HTO : Hid ((0 ≤ t ∧ t ≤ 19) ∧ (0 ≤ o ∧ o ≤ 3)) := Lib.hid ⟨⟨t0, by omega⟩, o0, by omega⟩
  clear hcl hvc HO hD hD2 hD3 hD4 hb1 hG hG3 hG4
  go_wp2
  refine bodyPost_ret (results_tmp3C rfl _ _ _) rfl ?_
  exact ⟨va, _, vc, l, t, o, rfl, HCL, HVC, HDR, HTO, hbz⟩
set_option maxRecDepth 100000 in
set_option maxHeartbeats 3200000 in
theorem drawCoinsAdd_any (a : Option Addr) (len cap : Nat) (zs : List Int) (w : World) (hr : IsRow .u8 w a len cap zs) (hlm : len ≤ 1048576) :
    Calls Try.prog 16 #[.slice a len cap] w (DrawCoA w) := by
  have vR0 : Bk w.heap.size 27 #[.int .i64 0, .int .i64 0, .int .i64 0, .string ⟨#[]⟩, .int .i64 0, .bool false] (w.alloc (.cells #[.int .i64 0, .int .i64 0, .int .i64 0, .string ⟨#[]⟩, .int .i64 0, .bool false] 27 (0, 0))) := Bk.new _ _ _
  have hb0 : Below w.heap.size w (w.alloc (.cells #[.int .i64 0, .int .i64 0, .int .i64 0, .string ⟨#[]⟩, .int .i64 0, .bool false] 27 (0, 0))) := (Below.refl _ _).alloc (Nat.le_refl _) _
  have hs0 : (w.alloc (.cells #[.int .i64 0, .int .i64 0, .int .i64 0, .string ⟨#[]⟩, .int .i64 0, .bool false] 27 (0, 0))).heap.size = w.heap.size + 1 := by simp
  have hr0 := hr.below hb0
  clear hr
  go_enter Try.func16, Try.ntmps16
  go_wp2_with fail
  refine (l6Open_any a len cap zs _ hr0 hlm).mono ?_
  rintro e w1 ⟨B, a', l', c', zs', rfl, hB, hD, hx⟩
  have hB1 : w.heap.size < B := by omega
  have vR1 := vR0.below hx
  have hb1 := hb0.trans (hx.mono hb0.size)
  have hBl := hD.lt
  clear hr0 vR0 hb0 hx hB hs0
  go_wp2_with fail
  refine (l92Coins_any B a' l' c' zs' 0 w1 (by omega) hD).mono ?_
  rintro e w2 ⟨v, l, q, rfl, HDR, HO, _, hq1, hD2, hG⟩
  go_wp2_with fail
  refine (l92Coin_any B a' l' c' zs' q w2 (by omega) hD2).mono ?_
  rintro e w3 ⟨⟨tx, out, amt, lock, ht, rew⟩, q3, rfl, HDX, _, _, hD3, hG3⟩
  simp only
  obtain ⟨va, vc, rfl, hvc, hcl⟩ := (HO.out.kept hG3 hBl).coL
  have vR3 := (vR1.gbK hG (by omega)).gbK hG3 (by omega)
  have hR := Bk.store6 vR3 (.int .i64 tx) (.int .i64 out) (.int .i64 amt) (.string lock) (.int .i64 ht) (.bool rew)
  have hb3 := Below.grown hb1 (gtrans hG hG3) hb1.size (fun j hj => by cases hj; omega)
  have hbz := below_set6 hb3 (Nat.le_refl w.heap.size) (.int .i64 tx) (.int .i64 out) (.int .i64 amt) (.string lock) (.int .i64 ht) (.bool rew)
  have HCL := Lib.hid ((hcl.grown (gtrans6 w3 w.heap.size (.int .i64 tx) (.int .i64 out) (.int .i64 amt) (.string lock) (.int .i64 ht) (.bool rew)) (fun r hr => by cases hr; omega)).mono hb1.size)
  have HVC := Lib.hid hvc
  obtain ⟨c0, c1, c2, c3, c4, c5⟩ := Bk.c6 vR3
  obtain ⟨f0, f1, f2, f3, f4, f5⟩ := Bk.f6 vR3
  clear hcl hvc HO hD hD2 hD3 hb1 hG hG3 hb3 vR1 vR3
  go_wp2
  refine bodyPost_ret (results_cell_rowCB (P := Try.prog) rfl _ _ w.heap.size 27 _ (0, 0) _ rfl hR.held Try.underlying27 rfl (by kernel_rfl)) rfl ?_
  exact ⟨va, _, vc, l, ⟨tx, out, amt, lock, ht, rew⟩, rfl, HCL, HVC, HDR, HDX, hbz⟩
set_option maxRecDepth 100000 in
set_option maxHeartbeats 1600000 in
theorem wcCoins_any (lo lo' : Nat) (a b : Option Addr) (n c c' : Nat) (l : List Co) (w : World) (ha : CoL lo w a n l) (hb : CoL lo' w b n l) (hn : n ≤ 9223372036854775807) :
    Calls Try.prog 19 #[.slice a n c, .slice b n c'] w fun e w' => e = .returned (.bool true) ∧ Below w.heap.size w w' := by
  have hq2 := noGuard_coin
  have HA := Lib.hid ha
  have HB := Lib.hid hb
  clear ha hb
  go_enter Try.func19, Try.ntmps19
  go_wp2
  go_loopw [5] (fun i wr => ∃ k : Nat, k ≤ n ∧ i = .int .i64 (k : Int) ∧ Below w.heap.size w wr)
    (fun i _ => n - (intOf i).toNat)
  case atStart => exact ⟨0, by omega, rfl, Below.refl _ _⟩
  case round =>
    obtain ⟨k, hk, rfl, hbel⟩ := hrel
    by_cases hlt : k < n
    · obtain ⟨g, off, rfl, _, _, hc⟩ := (HA.out.below hbel).2 (by omega)
      obtain ⟨c0, c1, c2, c3, c4, c5⟩ := hc k hlt
      obtain ⟨g2, off2, rfl, _, _, hd⟩ := (HB.out.below hbel).2 (by omega)
      obtain ⟨d0, d1, d2, d3, d4, d5⟩ := hd k hlt
      obtain ⟨x, HX⟩ : ∃ x, Hid (Co.nth l k = x) := ⟨_, Lib.hid rfl⟩
      rw [HX.out] at c0 c1 c2 c3 c4 c5 d0 d1 d2 d3 d4 d5
      obtain ⟨tx, out, amt, lock, ht, rew⟩ := x
      simp only at c0 c1 c2 c3 c4 c5 d0 d1 d2 d3 d4 d5
      have hq1 := fun W => eq_coin tx out amt ht tx out amt ht lock lock rew rew W
      simp only [beq_self_eq_true, Bool.and_true] at hq1
      clear hc hd HX
      go_wp2
      go_quiet (fail)
      go_wp2
      go_roundw
      case rel => exact ⟨k + 1, by omega, by simp, below_drewNC hbel _⟩
      case measure => simp [intOf]; omega
    · go_wp2
      go_ret
      exact ⟨rfl, hbel⟩
end Go.Proofs.Ytohameoomlehlaa
