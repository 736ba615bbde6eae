/-
  Drawing for chapter 14: what the laws on coins ask; how they compare coins.
-/
import Derived.Test.YtohameoomlehlaaGreatCi
import Derived.Test.YtohameoomlehlaaGreatCf
import Derived.Test.YtohameoomlehlaaGreatDs
namespace Go.Proofs.YtohameoomlehlaaGreat
open Go.RowKit

theorem results_tmp3C {fn : Func} {t u v : Tmp} (h : fn.results = #[.tmp t, .tmp u, .tmp v]) (tmps : Array Value) (P : Program) (w : World) :
    (results fn tmps).run P w = .ok (.tuple #[tmps.getD t undef, tmps.getD u undef, tmps.getD v undef]) w := by
  simp [results, h]
theorem results_cell_rowCB {P : Program} {fn : Func} {p u : Tmp} {ty : TypeId} (h : fn.results = #[.tmp u, .cell p ty]) (tmps : Array Value) (w : World) (g : Nat) (t : TypeId) (cs : Array Value) (fr : Nat × Nat) (d : TypeDesc)
    (hp : tmps.getD p undef = .pointer (some ⟨g, 0, none⟩)) (hg : w.heap[g]? = some (.cells cs t fr))
    (hu : P.underlying ty = some d) (hd : (match d with | .struct _ | .array _ _ => true | _ => false) = true) (hi : (P.info? ty).map (·.size) = some cs.size) :
    (results fn tmps).run P w = .ok (.tuple #[tmps.getD u undef, .agg cs]) w := by
  have hp' : tmps[p]?.getD undef = .pointer (some ⟨g, 0, none⟩) := by simpa using hp
  simp [results, h, hp', asAddr, run_loadVar_row w g t ty cs fr d hg hu hd hi]
/-- What drawn coins keep to, all together. -/
def Co.DrL (l : List Co) : Prop := l.length ≤ 8 ∧ ∀ c ∈ l, c.Dr
theorem Co.DrL.lock {l : List Co} (h : Co.DrL l) : ∀ c ∈ l, c.lock.size ≤ 1048576 := fun c hc => by have := (h.2 c hc).lock; omega
/-- Drawing coins out of a code. -/
def DrawCo (w : World) (e : Ending) (w' : World) : Prop :=
  ∃ (a : Option Addr) (n c : Nat) (l : List Co), e = .returned (.slice a n c) ∧ Hid (CoL w.heap.size w' a n l) ∧ Hid (n ≤ c) ∧ Hid (Co.DrL l) ∧ Below w.heap.size w w'
/-- .. and a place. -/
def DrawCoF (w : World) (e : Ending) (w' : World) : Prop :=
  ∃ (a : Option Addr) (n c : Nat) (l : List Co) (t o : Int), e = .returned (.tuple #[.slice a n c, .int .i64 t, .int .i64 o]) ∧ Hid (CoL w.heap.size w' a n l) ∧ Hid (n ≤ c) ∧ Hid (Co.DrL l) ∧ Hid ((0 ≤ t ∧ t ≤ 19) ∧ (0 ≤ o ∧ o ≤ 3)) ∧ Below w.heap.size w w'
/-- .. and a coin. -/
def DrawCoA (w : World) (e : Ending) (w' : World) : Prop :=
  ∃ (a : Option Addr) (n c : Nat) (l : List Co) (x : Co), e = .returned (.tuple #[.slice a n c, .agg #[.int .i64 x.tx, .int .i64 x.out, .int .i64 x.amt, .string x.lock, .int .i64 x.ht, .bool x.rew]]) ∧ Hid (CoL w.heap.size w' a n l) ∧ Hid (n ≤ c) ∧ Hid (Co.DrL l) ∧ Hid x.Dr ∧ Below w.heap.size w w'

set_option maxRecDepth 100000 in
set_option maxHeartbeats 1600000 in
theorem l93CoinsBytes_any (B : Nat) (a : Option Addr) (len cap : Nat) (zs : List Int) (p : Nat) (w : World) (hp : p ≤ 200000000) (hD0 : Dw B a len cap zs w p) :
    Calls Tryz.prog 10 #[.pointer (some ⟨B, 0, none⟩)] w (StrR B a len cap zs p 1004 400005 w) := by
  have hBl := hD0.lt
  go_enter Tryz.func10, Tryz.ntmps10
  go_wp2_with fail
  refine (l92Coins_any B a len cap zs p w (by omega) hD0).mono ?_
  rintro e w2 ⟨v, l, q, rfl, HDR, HO, hq0, hq1, hD2, hG⟩
  obtain ⟨va, vc, rfl, hvc, hcl⟩ := HO.out.coL
  have hcs := CoinsBytes_any w.heap.size va l.length vc l w2 hcl (by have := HDR.out.1; omega)
  obtain ⟨X, hX⟩ : ∃ x, (if Co.lok l = true then Co.bytes l else ⟨#[]⟩) = x := ⟨_, rfl⟩
  have hXs : X.size ≤ 400000 := by
    rw [← hX]
    by_cases h : Co.lok l = true
    · rw [if_pos h]
      have h1 := Co.bts_size (Co.fits h) l.length (Nat.le_refl _)
      rw [Co.bts_all] at h1
      have := HDR.out.1
      omega
    · rw [if_neg h]; decide
  rw [hX] at hcs
  obtain ⟨K, hK⟩ : ∃ x, Co.lok l = x := ⟨_, rfl⟩
  rw [hK] at hcs
  obtain ⟨n9, hn9⟩ : ∃ x, l.length = x := ⟨_, rfl⟩
  rw [hn9] at hcs ⊢
  clear hX hK hn9 HO HDR hcl hvc
  go_wp2_with fail
  refine hcs.mono ?_
  rintro e w3 ⟨rfl, hx⟩
  have hD3 := hD2.of (w' := w3) (fun k hk => hx.block k (by have := hD2.lt; omega))
  have hG3 : w.grownBy w3 (some B) := gtrans hG ⟨hx.os, hx.tape, hx.output, hx.size, fun k hk _ => hx.block k hk⟩
  clear hcs hD2 hx hG
  go_wp2_with fail
  refine (l91Seldom_any B a len cap zs q X w3 (by omega) (by omega) hD3).mono ?_
  rintro e w4 ⟨s, q4, rfl, hs, h1, h2, hD4, hG4⟩
  have hG5 := gtrans hG3 hG4
  clear hD3 hG3 hG4
  go_wp2
  go_ret
  exact ⟨s, q4, rfl, by omega, by omega, by omega, hD4, hG5⟩
set_option maxRecDepth 100000 in
set_option maxHeartbeats 1600000 in
theorem drawCoinsRead_any (a : Option Addr) (len cap : Nat) (zs : List Int) (w : World) (hr : IsRow .u8 w a len cap zs) (hlm : len ≤ 1048576) :
    Calls Tryz.prog 4 #[.slice a len cap] w (DrawStr 400005 w) := by
  go_enter Tryz.func4, Tryz.ntmps4
  go_wp2_with fail
  refine (l6Open_any a len cap zs _ hr hlm).mono ?_
  rintro e w1 ⟨B, a', l', c', zs', rfl, hB, hD, hb1⟩
  clear hr
  go_wp2_with fail
  refine (l93CoinsBytes_any B a' l' c' zs' _ _ (by omega) hD).mono ?_
  rintro e w2 ⟨s, q, rfl, z, _, _, _, hG⟩
  go_wp2
  go_ret
  exact ⟨s, rfl, z, Below.grown hb1 hG hb1.size (fun j hj => by cases hj; exact hB)⟩
set_option maxRecDepth 100000 in
set_option maxHeartbeats 1600000 in
theorem wcCoins_any (lo lo' : Nat) (a b : Option Addr) (n c c' : Nat) (l : List Co) (w : World) (ha : CoL lo w a n l) (hb : CoL lo' w b n l) (hn : n ≤ 9223372036854775807) :
    Calls Tryz.prog 7 #[.slice a n c, .slice b n c'] w fun e w' => e = .returned (.bool true) ∧ Below w.heap.size w w' := by
  have hq2 := noGuard_coin
  have HA := Lib.hid ha
  have HB := Lib.hid hb
  clear ha hb
  go_enter Tryz.func7, Tryz.ntmps7
  go_wp2
  go_loopw [5] (fun i wr => ∃ k : Nat, k ≤ n ∧ i = .int .i64 (k : Int) ∧ Below w.heap.size w wr)
    (fun i _ => n - (intOf i).toNat)
  case atStart => exact ⟨0, by omega, rfl, Below.refl _ _⟩
  case round =>
    obtain ⟨k, hk, rfl, hbel⟩ := hrel
    by_cases hlt : k < n
    · obtain ⟨g, off, rfl, _, _, hc⟩ := (HA.out.below hbel).2 (by omega)
      obtain ⟨c0, c1, c2, c3, c4, c5⟩ := hc k hlt
      obtain ⟨g2, off2, rfl, _, _, hd⟩ := (HB.out.below hbel).2 (by omega)
      obtain ⟨d0, d1, d2, d3, d4, d5⟩ := hd k hlt
      obtain ⟨x, HX⟩ : ∃ x, Hid (Co.nth l k = x) := ⟨_, Lib.hid rfl⟩
      rw [HX.out] at c0 c1 c2 c3 c4 c5 d0 d1 d2 d3 d4 d5
      obtain ⟨tx, out, amt, lock, ht, rew⟩ := x
      simp only at c0 c1 c2 c3 c4 c5 d0 d1 d2 d3 d4 d5
      have hq1 := fun W => eq_coin tx out amt ht tx out amt ht lock lock rew rew W
      simp only [beq_self_eq_true, Bool.and_true] at hq1
      clear hc hd HX
      go_wp2
      go_quiet (fail)
      go_wp2
      go_roundw
      case rel => exact ⟨k + 1, by omega, by simp, below_drewNC hbel _⟩
      case measure => simp [intOf]; omega
    · go_wp2
      go_ret
      exact ⟨rfl, hbel⟩
end Go.Proofs.YtohameoomlehlaaGreat
