/- For every code of at most 1<<20 bytes (longer ones are let pass by the law itself): CoinsSum answers as the model's CoinsSum; it is the amount of the first coin more than that of the others. -/
import Derived.Test.YtohameoomlehlaaRows
import Derived.Test.YtohameoomlehlaaCk
import Derived.Test.YtohameoomlehlaaCy
import Derived.WalkKit
import Derived.WalkSpells
import Derived.ProofKit
import Derived.OpenShut
import Derived.ShutString
import Derived.Below
import Derived.SliceStrings
namespace Go.Proofs.Ytohameoomlehlaa.fnCoinsSum
open Go.ChangeShapes Go.WideShapes Go.ChangeAt Go.RowKit
open Go.ChangeMaps (open_string shut_string)
set_option maxRecDepth 100000 in
set_option maxHeartbeats 6400000 in
theorem walk (a0 : Option Addr) (len0 cap0 : Nat) (z0 : List Int) (w : World) (w0 : IsRow .u8 w a0 len0 cap0 z0) :
    Calls Try.prog 7 #[.slice a0 len0 cap0] w fun e w' => e = .returned (.bool true) ∧ Below w.heap.size w w' := by
  have hcm := w0.len
  by_cases h : (1048576 : Int) < (len0 : Int)
  · go_enter Try.func7, Try.ntmps7
    go_wp2
    go_ret
    exact ⟨rfl, Below.refl _ _⟩
  go_enter Try.func7, Try.ntmps7
  go_wp2_with fail
  refine (drawCoinsSum_any a0 len0 cap0 z0 _ w0 (by omega)).mono ?_
  rintro e w1 ⟨a, n, c, l, rfl, HCL, HC, HDR, hB1⟩
  clear w0 h hcm
  have hn8 : n ≤ 8 := by rw [← HCL.out.1]; exact HDR.out.1
  have HL := Lib.hid HCL.out.1
  have H1 := Lib.hid (fun W (hW : Below w1.heap.size w1 W) => implCoinsSum_any w.heap.size a n c l W (HCL.out.below hW) HC.out (by omega) HDR.out.lock)
  have H2 := Lib.hid (fun W (hW : Below w1.heap.size w1 W) => CoinsSum_any w.heap.size a n c l W (HCL.out.below hW) (by omega))
  have HTT := Lib.hid (@Co.total_tail l)
  obtain ⟨S, hS⟩ : ∃ x, Co.total l = x := ⟨_, rfl⟩
  simp only [hS] at H1 H2 HTT
  rw [HL.out] at HTT
  clear hS
  have hcs := H1.out w1 (Below.refl _ _)
  go_wp2_with fail
  refine hcs.mono ?_
  rintro e w2 ⟨rfl, hx⟩
  have hB2 := hB1.trans (hx.mono hB1.size)
  have hY2 := hx
  clear hx hcs hB1
  have hcs := H2.out w2 hY2
  go_wp2_with fail
  refine hcs.mono ?_
  rintro e w3 ⟨rfl, hx⟩
  have hB3 := hB2.trans (hx.mono hB2.size)
  have hY3 := hY2.trans (hx.mono hY2.size)
  clear hY2
  clear hx hcs hB2
  clear H1 H2
  by_cases hS0 : ¬ 0 ≤ S
  · have hd : decide (0 ≤ S) = false := decide_eq_false hS0
    clear HTT HCL HC HDR hS0
    go_wp2
    go_ret
    exact ⟨rfl, hB3⟩
  have hS1 : 0 ≤ S := by omega
  have hd : decide (0 ≤ S) = true := decide_eq_true hS1
  by_cases hn0 : n = 0
  · have hd2 : decide (0 < n) = false := by subst hn0; rfl
    have hd3 : ¬ 0 < n := by omega
    clear HTT HCL HC HDR hS0 hn0
    go_wp2
    go_ret
    exact ⟨rfl, hB3⟩
  have hd2 : decide (0 < n) = true := decide_eq_true (by omega)
  have hd3 : 0 < n := by omega
  obtain ⟨h1, ⟨h2, h3⟩, h4, h5⟩ := HTT.out hS1 hd3
  obtain ⟨g, off, rfl, hlo, hgl, hc⟩ := HCL.out.2 hd3
  have e2 := (hc 0 hd3).amt
  obtain ⟨ad, hsl, had⟩ := slice1C g off n c (by omega) HC.out
  have hdrop := HCL.out.drop1 (by omega) had
  have HD1 := Lib.hid (fun W (hW : Below w1.heap.size w1 W) => implCoinsSum_any w.heap.size (some ad) (n - 1) (c - 1) (l.drop 1) W (hdrop.below hW) (by have := HC.out; omega) (by omega) (fun x hx => HDR.out.lock x (List.mem_of_mem_drop hx)))
  obtain ⟨A, hA⟩ : ∃ x, (Co.nth l 0).amt = x := ⟨_, rfl⟩
  obtain ⟨R, hR⟩ : ∃ x, Co.total (l.drop 1) = x := ⟨_, rfl⟩
  simp only [hA, hR] at h1 h2 h3 h4 h5 HD1
  rw [hA] at e2
  simp only [Nat.zero_mul, Nat.add_zero] at e2
  have hSof : ∀ W, Below w1.heap.size w1 W → W.cell? ⟨g, off + 2, none⟩ = some (.int .i64 A) := fun W h => cell_belC h hgl e2
  have hw1 : IntKind.i64.wrap (A + R) = A + R := IntWalk.i64_in _ (by omega)
  have HC2 := HC.out
  subst h1
  have hS0' := hSof w3.drew hY3.drew
  clear HTT HCL HC HDR hc hA hR hdrop hS0 hn0 e2 hlo had
  go_wp2
  go_region_held3 (fun W => W.cell? ⟨g, off + 2, none⟩ = some (.int .i64 A)) (first | with_reducible exact hS0' | with_reducible exact hS4)
    (first | (go_at_call 24; refine (HD1.out _ hY3.drew).mono ?_; rintro e w4 ⟨rfl, hx⟩; have hb4 := hY3.drew.trans (hx.mono hY3.drew.size); have hB4 := hB3.drew.trans (hx.mono hB3.drew.size); have hS4 := hSof w4 hb4))
  go_wp2
  go_ret
  exact ⟨by simp, hB4⟩
/-! ### The row's step. -/
theorem own : ownKnob Try.prog.godebug = none := by kernel_rfl
theorem laidOut : laidOutB Try.prog = true := by kernel_rfl
set_option maxRecDepth 100000 in
theorem lifted (os : Os) (started : os.Started) (H : Type) (enc : TypeId × Value → H) :
    ReturnsInHanded {} Try.checked os 7 .any (Rows.fnCoinsSumSpec.pre6 enc Try.prog Try.f7 Rows.fnCoinsSumRow.domain false) (Rows.fnCoinsSumSpec.post enc Try.prog Try.f7 false true false false) := by
  refine returnsInHanded_of_change (C := Try.checked) own started (by kernel_rfl) Try.func7
    (ChangeSpec.witness6 (enc := enc) (C := Try.checked) false ⟨#[], #[.slice none 0 0], []⟩ 8 (by kernel_rfl) (by kernel_rfl) (by kernel_rfl) (by kernel_rfl)) ?_
  intro W base args ds gs before hval0 hW hcnd _
  have hval : ∀ (j : Nat) t v, Try.f7.params[j]? = some t → args[j]? = some v → Value.okWide Try.prog W .any base t v := hval0
  have hW' := hW
  obtain ⟨p, q, hA0, hV, rfl, hfz, hnd⟩ := hW
  have hA : DataW.TrodAll enc Try.prog W 0 (fun _ => true) true Try.f7.params.toList args.toList ds p := hA0
  rw [Try.params7] at hA hval
  obtain ⟨v0, vs0, d0, ds0, p0, q0, hargs, rfl, rfl, h0, r0⟩ := trodAll_cons hA
  obtain ⟨rfl, rfl, rfl⟩ := trodAll_nil r0
  obtain rfl : args = #[v0] := by cases args; simp_all
  obtain ⟨rfl, rfl⟩ := trodVars_none hV
  obtain ⟨a0, len0, cap0, rfl⟩ := okWide_slice Try.underlying22 (hval 0 22 v0 rfl rfl)
  have k0 := h0
  have lt0 : ∀ x ∈ p0, x.block < W.heap.size := by obtain ⟨m, hm⟩ := k0; exact DataW.trod_lt m _ _ _ hm
  obtain ⟨z0, w0⟩ : ∃ zs, IsRow .u8 W a0 len0 cap0 zs := by
    obtain ⟨fuel, hf⟩ := h0
    rcases open_ints Try.underlying22 Try.underlying5 (by kernel_rfl) hf with ⟨hcs, _⟩ | ⟨x, l, c, zs, hcs, _, hl, hm, hz, _, hcell, hwz⟩
    · simp [Value.cells] at hcs
      obtain ⟨rfl, rfl, rfl⟩ := hcs
      exact ⟨[], .inl ⟨rfl, rfl, rfl, rfl⟩⟩
    · simp [Value.cells] at hcs
      obtain ⟨rfl, rfl, rfl⟩ := hcs
      exact ⟨zs, .inr ⟨_, rfl, hl, hm, by simpa using hz, hcell, hwz⟩⟩
  clear hA0 hval0
  refine (walk a0 len0 cap0 z0 W w0).mono fun e W' ⟨he, bel⟩ => ?_
  subst he
  exact ⟨_, rfl, _, _, _, [], _, [], hW', trodAll_mk1 (shut_bool Try.underlying4 _), (trodAll_cons_mk (Below.trod laidOut (by kernel_rfl) (of_decide_eq_true (by kernel_rfl)) k0 bel lt0) trodAll_mk0), rfl, bel.frame _, fun h => by cases h⟩
theorem over : Rows.fnCoinsSumRow.holds Try.pinned (OpenSpec.ofChange Rows.fnCoinsSumSpec) :=
  OpenClaim.holds_of_wide 7 Try.f7 rfl rfl rfl rfl rfl rfl rfl ⟨rfl, rfl, rfl, rfl, rfl⟩ rfl rfl rfl rfl rfl (by kernel_rfl) Try.func7 (by kernel_rfl)
    (of_decide_eq_true (by kernel_rfl)) (by unfold Func.isWrapper; first | (rw [if_pos (by decide +kernel)]; kernel_rfl) | (rw [if_neg (by decide +kernel)]; exact ⟨rfl, rfl⟩))
    (fun os started H enc _ => lifted os started H enc)
theorem proved : Rows.FnCoinsSumSaid := over
#print axioms proved
end Go.Proofs.Ytohameoomlehlaa.fnCoinsSum
