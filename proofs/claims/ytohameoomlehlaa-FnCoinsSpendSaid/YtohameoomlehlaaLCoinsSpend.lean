/- For every code of at most 1<<20 bytes (longer ones are let pass by the law itself): CoinsSpend answers as the model's CoinsSpend; CoinsAdd gives the coins before. -/
import Derived.Test.YtohameoomlehlaaRows
import Derived.Test.YtohameoomlehlaaCk
import Derived.Test.YtohameoomlehlaaCy
import Derived.WalkKit
import Derived.WalkSpells
import Derived.ProofKit
import Derived.OpenShut
import Derived.ShutString
import Derived.Below
import Derived.SliceStrings
namespace Go.Proofs.Ytohameoomlehlaa.fnCoinsSpend
open Go.ChangeShapes Go.WideShapes Go.ChangeAt Go.RowKit
open Go.ChangeMaps (open_string shut_string)
set_option maxRecDepth 100000 in
set_option maxHeartbeats 6400000 in
theorem walk (a0 : Option Addr) (len0 cap0 : Nat) (z0 : List Int) (w : World) (w0 : IsRow .u8 w a0 len0 cap0 z0) :
    Calls Try.prog 6 #[.slice a0 len0 cap0] w fun e w' => e = .returned (.bool true) ∧ Below w.heap.size w w' := by
  have hcm := w0.len
  by_cases h : (1048576 : Int) < (len0 : Int)
  · go_enter Try.func6, Try.ntmps6
    go_wp2
    go_ret
    exact ⟨rfl, Below.refl _ _⟩
  go_enter Try.func6, Try.ntmps6
  go_wp2_with fail
  refine (drawCoinsSpend_any a0 len0 cap0 z0 _ w0 (by omega)).mono ?_
  rintro e w1 ⟨a, n, c, l, t, o, rfl, HCL, HC, HDR, HTO, hB1⟩
  clear w0 h hcm
  have hn8 : n ≤ 8 := by rw [← HCL.out.1]; exact HDR.out.1
  have HL := Lib.hid HCL.out.1
  obtain ⟨R, hR⟩ : ∃ x, Co.spend l t o = x := ⟨_, rfl⟩
  obtain ⟨L, hL⟩ : ∃ x, (R.map Prod.fst).getD [] = x := ⟨_, rfl⟩
  obtain ⟨X, hX⟩ : ∃ x, Co.get (R.map Prod.snd) = x := ⟨_, rfl⟩
  obtain ⟨IS, hIS⟩ : ∃ x, R.isSome = x := ⟨_, rfl⟩
  obtain ⟨N, hN⟩ : ∃ x, L.length = x := ⟨_, rfl⟩
  have hlen := Co.spendO_len l t o
  have hlk := Co.spendO_lock l t o
  rw [hR, hL, hN] at hlen
  rw [hR, hX] at hlk
  have hN80 := hlen.1
  have HLL := Lib.hid hlen.2
  obtain ⟨tx, out, amt, lock, ht, rew⟩ := X
  simp only at hlk
  have H1 : Hid (∀ W, Below w1.heap.size w1 W → Calls Try.prog 20 #[.slice a n c, .int .i64 t, .int .i64 o] W fun e w' => ∃ a' c', e = .returned (.tuple #[.slice a' N c', .agg #[.int .i64 tx, .int .i64 out, .int .i64 amt, .string lock, .int .i64 ht, .bool rew], .bool IS]) ∧ Hid (CoL W.heap.size w' a' N L) ∧ Hid (N ≤ c') ∧ Below W.heap.size W w') := Lib.hid fun W hW => by
    have hq := implCoinsSpend_any w.heap.size a n c l t o W (HCL.out.below hW) HC.out (by omega) HDR.out.lock (by have := HTO.out; unfold Co.In; omega)
    rw [hR, hL, hX, hIS] at hq
    exact hq.mono fun e w' q => CoSA.ex (x := ⟨tx, out, amt, lock, ht, rew⟩) hN q
  have H2 : Hid (∀ W, Below w1.heap.size w1 W → Calls Try.prog 22 #[.slice a n c, .int .i64 t, .int .i64 o] W fun e w' => ∃ a' c', e = .returned (.tuple #[.slice a' N c', .agg #[.int .i64 tx, .int .i64 out, .int .i64 amt, .string lock, .int .i64 ht, .bool rew], .bool IS]) ∧ Hid (CoL W.heap.size w' a' N L) ∧ Hid (N ≤ c') ∧ Below W.heap.size W w') := Lib.hid fun W hW => by
    have hq := CoinsSpend_any w.heap.size a n c l t o W (HCL.out.below hW) (by omega)
    rw [hR, hL, hX, hIS] at hq
    exact hq.mono fun e w' q => CoSA.ex (x := ⟨tx, out, amt, lock, ht, rew⟩) hN q
  have H3 : Hid (IS = true → ∀ lo a2 c2 W, CoL lo W a2 N L → N ≤ c2 → Calls Try.prog 17 #[.slice a2 N c2, .agg #[.int .i64 tx, .int .i64 out, .int .i64 amt, .string lock, .int .i64 ht, .bool rew]] W fun e w' => ∃ a' c', e = .returned (.tuple #[.slice a' n c', .bool true]) ∧ Hid (CoL W.heap.size w' a' n l) ∧ Hid (n ≤ c') ∧ Below W.heap.size W w') := Lib.hid fun hi lo a2 c2 W h hc => by
    have hr : Co.spend l t o = some (L, ⟨tx, out, amt, lock, ht, rew⟩) := by
      rw [hR, ← hL, ← hX]
      rw [← hIS] at hi
      cases R with
      | none => cases hi
      | some m => rfl
    obtain ⟨had, htx, hout⟩ := Co.add_spend hr
    simp only at htx hout
    have hq := implCoinsAdd_any lo a2 N c2 L tx out amt lock ht rew W h hc (by omega) HLL.out hlk (by have := HTO.out; unfold Co.In; omega)
    rw [had] at hq
    exact hq.mono fun e w' q => CoAA.ex (l := l) HL.out q
  have HWC := Lib.hid (fun lo lo' W a a' c c' (h1 : CoL lo W a N L) (h2 : CoL lo' W a' N L) => wcCoins_any lo lo' a a' N c c' L W h1 h2 (by omega))
  have HWD := Lib.hid (fun lo W a' c' (h1 : CoL lo W a' n l) (hW : Below w1.heap.size w1 W) => wcCoins_any lo w.heap.size a' a n c' c l W h1 (HCL.out.below hW) (by omega))
  clear hR hL hX hIS hN hlen hlk HLL HCL HC HDR HTO
  have hcs := H1.out w1 (Below.refl _ _)
  go_wp2_with fail
  refine hcs.mono ?_
  rintro e w2 ⟨a2, k2, rfl, HC2, HCP, hx⟩
  have hB2 := (hB1.trans (hx.mono hB1.size)).alloc (Nat.le_trans hB1.size hx.size) (.cells #[.int .i64 tx, .int .i64 out, .int .i64 amt, .string lock, .int .i64 ht, .bool rew] 27 (0, 0))
  have hY2 := hx.alloc hx.size (.cells #[.int .i64 tx, .int .i64 out, .int .i64 amt, .string lock, .int .i64 ht, .bool rew] 27 (0, 0))
  have v2 : Bk w2.heap.size 27 #[.int .i64 tx, .int .i64 out, .int .i64 amt, .string lock, .int .i64 ht, .bool rew] (w2.alloc (.cells #[.int .i64 tx, .int .i64 out, .int .i64 amt, .string lock, .int .i64 ht, .bool rew] 27 (0, 0))) := Bk.new _ _ _
  have HD2 := Lib.hid (HC2.out.alloc (.cells #[.int .i64 tx, .int .i64 out, .int .i64 amt, .string lock, .int .i64 ht, .bool rew] 27 (0, 0)))
  have hcs := H2.out _ hY2
  clear hx hB1 HC2 H1
  go_wp2_with fail
  refine hcs.mono ?_
  rintro e w3 ⟨a3, k3, rfl, HC3, _, hx⟩
  have hB3 := (hB2.trans (hx.mono hB2.size)).alloc (Nat.le_trans hB2.size hx.size) (.cells #[.int .i64 tx, .int .i64 out, .int .i64 amt, .string lock, .int .i64 ht, .bool rew] 27 (0, 0))
  have hY3 := (hY2.trans (hx.mono hY2.size)).alloc (Nat.le_trans hY2.size hx.size) (.cells #[.int .i64 tx, .int .i64 out, .int .i64 amt, .string lock, .int .i64 ht, .bool rew] 27 (0, 0))
  have v3 := (v2.below hx).alloc (.cells #[.int .i64 tx, .int .i64 out, .int .i64 amt, .string lock, .int .i64 ht, .bool rew] 27 (0, 0))
  have u3 : Bk w3.heap.size 27 #[.int .i64 tx, .int .i64 out, .int .i64 amt, .string lock, .int .i64 ht, .bool rew] (w3.alloc (.cells #[.int .i64 tx, .int .i64 out, .int .i64 amt, .string lock, .int .i64 ht, .bool rew] 27 (0, 0))) := Bk.new _ _ _
  have HD3 := Lib.hid ((HD2.out.below hx).alloc (.cells #[.int .i64 tx, .int .i64 out, .int .i64 amt, .string lock, .int .i64 ht, .bool rew] 27 (0, 0)))
  have HE3 := Lib.hid (HC3.out.alloc (.cells #[.int .i64 tx, .int .i64 out, .int .i64 amt, .string lock, .int .i64 ht, .bool rew] 27 (0, 0)))
  have hcs := HWC.out _ _ _ a2 a3 k2 k3 HD3.out HE3.out
  clear hx hB2 hY2 v2 HD2 HC3 H2
  have hq1 := fun W => eq_coin tx out amt ht tx out amt ht lock lock rew rew W
  have hq2 := noGuard_coin
  simp only [beq_self_eq_true, Bool.and_true] at hq1
  go_wp2_with fail
  refine hcs.mono ?_
  rintro e w4 ⟨rfl, hx⟩
  have hB4 := hB3.trans (hx.mono hB3.size)
  have hY4 := hY3.trans (hx.mono hY3.size)
  have v4 := v3.below hx
  obtain ⟨c0, c1, c2, c3, c4, c5⟩ := Bk.c6 v4
  obtain ⟨d0, d1, d2, d3, d4, d5⟩ := Bk.c6 (u3.below hx)
  have HD4 := Lib.hid (HD3.out.below hx)
  clear hx hcs hB3 hY3 v3 u3 HD3 HE3 HWC v4
  cases IS
  · clear H3 HWD
    go_wp2
    go_ret
    exact ⟨rfl, hB4⟩
  have hcs := H3.out (by first | trivial | rfl) _ a2 k2 w4 HD4.out HCP.out
  go_wp2_with fail
  refine hcs.mono ?_
  rintro e w5 ⟨a5, k5, rfl, HC5, _, hx⟩
  have hB5 := hB4.trans (hx.mono hB4.size)
  have hY5 := hY4.trans (hx.mono hY4.size)
  clear hY4 c0 c1 c2 c3 c4 c5 d0 d1 d2 d3 d4 d5
  clear hx hcs hB4
  have hcs := HWD.out _ w5 a5 k5 HC5.out hY5
  go_wp2_with fail
  refine hcs.mono ?_
  rintro e w6 ⟨rfl, hx⟩
  have hB6 := hB5.trans (hx.mono hB5.size)
  clear hx hcs hB5
  clear H3 HWD HC5 HD4
  go_wp2
  go_ret
  exact ⟨rfl, hB6⟩
/-! ### The row's step. -/
theorem own : ownKnob Try.prog.godebug = none := by kernel_rfl
theorem laidOut : laidOutB Try.prog = true := by kernel_rfl
set_option maxRecDepth 100000 in
theorem lifted (os : Os) (started : os.Started) (H : Type) (enc : TypeId × Value → H) :
    ReturnsInHanded {} Try.checked os 6 .any (Rows.fnCoinsSpendSpec.pre6 enc Try.prog Try.f6 Rows.fnCoinsSpendRow.domain false) (Rows.fnCoinsSpendSpec.post enc Try.prog Try.f6 false true false false) := by
  refine returnsInHanded_of_change (C := Try.checked) own started (by kernel_rfl) Try.func6
    (ChangeSpec.witness6 (enc := enc) (C := Try.checked) false ⟨#[], #[.slice none 0 0], []⟩ 8 (by kernel_rfl) (by kernel_rfl) (by kernel_rfl) (by kernel_rfl)) ?_
  intro W base args ds gs before hval0 hW hcnd _
  have hval : ∀ (j : Nat) t v, Try.f6.params[j]? = some t → args[j]? = some v → Value.okWide Try.prog W .any base t v := hval0
  have hW' := hW
  obtain ⟨p, q, hA0, hV, rfl, hfz, hnd⟩ := hW
  have hA : DataW.TrodAll enc Try.prog W 0 (fun _ => true) true Try.f6.params.toList args.toList ds p := hA0
  rw [Try.params6] at hA hval
  obtain ⟨v0, vs0, d0, ds0, p0, q0, hargs, rfl, rfl, h0, r0⟩ := trodAll_cons hA
  obtain ⟨rfl, rfl, rfl⟩ := trodAll_nil r0
  obtain rfl : args = #[v0] := by cases args; simp_all
  obtain ⟨rfl, rfl⟩ := trodVars_none hV
  obtain ⟨a0, len0, cap0, rfl⟩ := okWide_slice Try.underlying22 (hval 0 22 v0 rfl rfl)
  have k0 := h0
  have lt0 : ∀ x ∈ p0, x.block < W.heap.size := by obtain ⟨m, hm⟩ := k0; exact DataW.trod_lt m _ _ _ hm
  obtain ⟨z0, w0⟩ : ∃ zs, IsRow .u8 W a0 len0 cap0 zs := by
    obtain ⟨fuel, hf⟩ := h0
    rcases open_ints Try.underlying22 Try.underlying5 (by kernel_rfl) hf with ⟨hcs, _⟩ | ⟨x, l, c, zs, hcs, _, hl, hm, hz, _, hcell, hwz⟩
    · simp [Value.cells] at hcs
      obtain ⟨rfl, rfl, rfl⟩ := hcs
      exact ⟨[], .inl ⟨rfl, rfl, rfl, rfl⟩⟩
    · simp [Value.cells] at hcs
      obtain ⟨rfl, rfl, rfl⟩ := hcs
      exact ⟨zs, .inr ⟨_, rfl, hl, hm, by simpa using hz, hcell, hwz⟩⟩
  clear hA0 hval0
  refine (walk a0 len0 cap0 z0 W w0).mono fun e W' ⟨he, bel⟩ => ?_
  subst he
  exact ⟨_, rfl, _, _, _, [], _, [], hW', trodAll_mk1 (shut_bool Try.underlying4 _), (trodAll_cons_mk (Below.trod laidOut (by kernel_rfl) (of_decide_eq_true (by kernel_rfl)) k0 bel lt0) trodAll_mk0), rfl, bel.frame _, fun h => by cases h⟩
theorem over : Rows.fnCoinsSpendRow.holds Try.pinned (OpenSpec.ofChange Rows.fnCoinsSpendSpec) :=
  OpenClaim.holds_of_wide 6 Try.f6 rfl rfl rfl rfl rfl rfl rfl ⟨rfl, rfl, rfl, rfl, rfl⟩ rfl rfl rfl rfl rfl (by kernel_rfl) Try.func6 (by kernel_rfl)
    (of_decide_eq_true (by kernel_rfl)) (by unfold Func.isWrapper; first | (rw [if_pos (by decide +kernel)]; kernel_rfl) | (rw [if_neg (by decide +kernel)]; exact ⟨rfl, rfl⟩))
    (fun os started H enc _ => lifted os started H enc)
theorem proved : Rows.FnCoinsSpendSaid := over
#print axioms proved
end Go.Proofs.Ytohameoomlehlaa.fnCoinsSpend
