/- For every code of at most 1<<20 bytes (longer ones are let pass by the law itself): CoinsFind answers as the model's CoinsFind; what is found has the Tx and the Out. -/
import Derived.Test.YtohameoomlehlaaRows
import Derived.Test.YtohameoomlehlaaCk
import Derived.Test.YtohameoomlehlaaCy
import Derived.WalkKit
import Derived.WalkSpells
import Derived.ProofKit
import Derived.OpenShut
import Derived.ShutString
import Derived.Below
import Derived.SliceStrings
namespace Go.Proofs.Ytohameoomlehlaa.fnCoinsFind
open Go.ChangeShapes Go.WideShapes Go.ChangeAt Go.RowKit
open Go.ChangeMaps (open_string shut_string)
set_option maxRecDepth 100000 in
set_option maxHeartbeats 6400000 in
theorem walk (a0 : Option Addr) (len0 cap0 : Nat) (z0 : List Int) (w : World) (w0 : IsRow .u8 w a0 len0 cap0 z0) :
    Calls Try.prog 4 #[.slice a0 len0 cap0] w fun e w' => e = .returned (.bool true) ∧ Below w.heap.size w w' := by
  have hcm := w0.len
  by_cases h : (1048576 : Int) < (len0 : Int)
  · go_enter Try.func4, Try.ntmps4
    go_wp2
    go_ret
    exact ⟨rfl, Below.refl _ _⟩
  go_enter Try.func4, Try.ntmps4
  go_wp2_with fail
  refine (drawCoinsFind_any a0 len0 cap0 z0 _ w0 (by omega)).mono ?_
  rintro e w1 ⟨a, n, c, l, t, o, rfl, HCL, HC, HDR, HTO, hB1⟩
  clear w0 h hcm
  have hn8 : n ≤ 8 := by rw [← HCL.out.1]; exact HDR.out.1
  have H1 := Lib.hid (fun W (hW : Below w1.heap.size w1 W) => implCoinsFind_any w.heap.size a n c l t o W (HCL.out.below hW) HC.out (by omega) HDR.out.lock (by have := HTO.out; unfold Co.In; omega))
  have H2 := Lib.hid (fun W (hW : Below w1.heap.size w1 W) => CoinsFind_any w.heap.size a n c l t o W (HCL.out.below hW) (by omega))
  obtain ⟨X, hX⟩ : ∃ x, Co.get (Co.find l t o) = x := ⟨_, rfl⟩
  obtain ⟨IS, hIS⟩ : ∃ x, (Co.find l t o).isSome = x := ⟨_, rfl⟩
  have HF : Hid (IS = true → X.tx = t ∧ X.out = o) := Lib.hid fun hi => by
    rw [← hIS] at hi
    cases hr : Co.find l t o with
    | none => rw [hr] at hi; cases hi
    | some y =>
      have h1 := (Co.find_some hr).2.2.2
      rw [← hX, hr]
      exact h1
  simp only [hX, hIS] at H1 H2
  unfold CoA at H1 H2
  obtain ⟨tx, out, amt, lock, ht, rew⟩ := X
  simp only at H1 H2 HF
  clear hX hIS HCL HC HDR hn8
  have hcs := H1.out w1 (Below.refl _ _)
  go_wp2_with fail
  refine hcs.mono ?_
  rintro e w2 ⟨rfl, hx⟩
  have hB2 := (hB1.trans (hx.mono hB1.size)).alloc (Nat.le_trans hB1.size hx.size) (.cells #[.int .i64 tx, .int .i64 out, .int .i64 amt, .string lock, .int .i64 ht, .bool rew] 27 (0, 0))
  have v2 : Bk w2.heap.size 27 #[.int .i64 tx, .int .i64 out, .int .i64 amt, .string lock, .int .i64 ht, .bool rew] (w2.alloc (.cells #[.int .i64 tx, .int .i64 out, .int .i64 amt, .string lock, .int .i64 ht, .bool rew] 27 (0, 0))) := Bk.new _ _ _
  have hcs := H2.out _ (hx.alloc hx.size (.cells #[.int .i64 tx, .int .i64 out, .int .i64 amt, .string lock, .int .i64 ht, .bool rew] 27 (0, 0)))
  clear hx hB1 H1
  go_wp2_with fail
  refine hcs.mono ?_
  rintro e w3 ⟨rfl, hx⟩
  have hB3 := (hB2.trans (hx.mono hB2.size)).alloc (Nat.le_trans hB2.size hx.size) (.cells #[.int .i64 tx, .int .i64 out, .int .i64 amt, .string lock, .int .i64 ht, .bool rew] 27 (0, 0))
  have v3 := (v2.below hx).alloc (.cells #[.int .i64 tx, .int .i64 out, .int .i64 amt, .string lock, .int .i64 ht, .bool rew] 27 (0, 0))
  have u3 : Bk w3.heap.size 27 #[.int .i64 tx, .int .i64 out, .int .i64 amt, .string lock, .int .i64 ht, .bool rew] (w3.alloc (.cells #[.int .i64 tx, .int .i64 out, .int .i64 amt, .string lock, .int .i64 ht, .bool rew] 27 (0, 0))) := Bk.new _ _ _
  obtain ⟨c0, c1, c2, c3, c4, c5⟩ := Bk.c6 v3
  obtain ⟨d0, d1, d2, d3, d4, d5⟩ := Bk.c6 u3
  have hq1 := fun W => eq_coin tx out amt ht tx out amt ht lock lock rew rew W
  have hq2 := noGuard_coin
  simp only [beq_self_eq_true, Bool.and_true] at hq1
  clear hx hcs hB2 v2 v3 u3 H2
  cases IS
  · go_wp2
    go_ret
    exact ⟨rfl, hB3⟩
  · obtain ⟨h1, h2⟩ := HF.out (by first | trivial | rfl)
    subst h1 h2
    go_wp2
    go_ret
    exact ⟨rfl, hB3⟩
/-! ### The row's step. -/
theorem own : ownKnob Try.prog.godebug = none := by kernel_rfl
theorem laidOut : laidOutB Try.prog = true := by kernel_rfl
set_option maxRecDepth 100000 in
theorem lifted (os : Os) (started : os.Started) (H : Type) (enc : TypeId × Value → H) :
    ReturnsInHanded {} Try.checked os 4 .any (Rows.fnCoinsFindSpec.pre6 enc Try.prog Try.f4 Rows.fnCoinsFindRow.domain false) (Rows.fnCoinsFindSpec.post enc Try.prog Try.f4 false true false false) := by
  refine returnsInHanded_of_change (C := Try.checked) own started (by kernel_rfl) Try.func4
    (ChangeSpec.witness6 (enc := enc) (C := Try.checked) false ⟨#[], #[.slice none 0 0], []⟩ 8 (by kernel_rfl) (by kernel_rfl) (by kernel_rfl) (by kernel_rfl)) ?_
  intro W base args ds gs before hval0 hW hcnd _
  have hval : ∀ (j : Nat) t v, Try.f4.params[j]? = some t → args[j]? = some v → Value.okWide Try.prog W .any base t v := hval0
  have hW' := hW
  obtain ⟨p, q, hA0, hV, rfl, hfz, hnd⟩ := hW
  have hA : DataW.TrodAll enc Try.prog W 0 (fun _ => true) true Try.f4.params.toList args.toList ds p := hA0
  rw [Try.params4] at hA hval
  obtain ⟨v0, vs0, d0, ds0, p0, q0, hargs, rfl, rfl, h0, r0⟩ := trodAll_cons hA
  obtain ⟨rfl, rfl, rfl⟩ := trodAll_nil r0
  obtain rfl : args = #[v0] := by cases args; simp_all
  obtain ⟨rfl, rfl⟩ := trodVars_none hV
  obtain ⟨a0, len0, cap0, rfl⟩ := okWide_slice Try.underlying22 (hval 0 22 v0 rfl rfl)
  have k0 := h0
  have lt0 : ∀ x ∈ p0, x.block < W.heap.size := by obtain ⟨m, hm⟩ := k0; exact DataW.trod_lt m _ _ _ hm
  obtain ⟨z0, w0⟩ : ∃ zs, IsRow .u8 W a0 len0 cap0 zs := by
    obtain ⟨fuel, hf⟩ := h0
    rcases open_ints Try.underlying22 Try.underlying5 (by kernel_rfl) hf with ⟨hcs, _⟩ | ⟨x, l, c, zs, hcs, _, hl, hm, hz, _, hcell, hwz⟩
    · simp [Value.cells] at hcs
      obtain ⟨rfl, rfl, rfl⟩ := hcs
      exact ⟨[], .inl ⟨rfl, rfl, rfl, rfl⟩⟩
    · simp [Value.cells] at hcs
      obtain ⟨rfl, rfl, rfl⟩ := hcs
      exact ⟨zs, .inr ⟨_, rfl, hl, hm, by simpa using hz, hcell, hwz⟩⟩
  clear hA0 hval0
  refine (walk a0 len0 cap0 z0 W w0).mono fun e W' ⟨he, bel⟩ => ?_
  subst he
  exact ⟨_, rfl, _, _, _, [], _, [], hW', trodAll_mk1 (shut_bool Try.underlying4 _), (trodAll_cons_mk (Below.trod laidOut (by kernel_rfl) (of_decide_eq_true (by kernel_rfl)) k0 bel lt0) trodAll_mk0), rfl, bel.frame _, fun h => by cases h⟩
theorem over : Rows.fnCoinsFindRow.holds Try.pinned (OpenSpec.ofChange Rows.fnCoinsFindSpec) :=
  OpenClaim.holds_of_wide 4 Try.f4 rfl rfl rfl rfl rfl rfl rfl ⟨rfl, rfl, rfl, rfl, rfl⟩ rfl rfl rfl rfl rfl (by kernel_rfl) Try.func4 (by kernel_rfl)
    (of_decide_eq_true (by kernel_rfl)) (by unfold Func.isWrapper; first | (rw [if_pos (by decide +kernel)]; kernel_rfl) | (rw [if_neg (by decide +kernel)]; exact ⟨rfl, rfl⟩))
    (fun os started H enc _ => lifted os started H enc)
theorem proved : Rows.FnCoinsFindSaid := over
#print axioms proved
end Go.Proofs.Ytohameoomlehlaa.fnCoinsFind
