/- For every code of at most 1<<20 bytes (longer ones are let pass by the law itself): CoinsOk answers as the model's CoinsOk; each of valid coins is found by CoinsFind. -/
import Derived.Test.YtohameoomlehlaaRows
import Derived.Test.YtohameoomlehlaaCk
import Derived.Test.YtohameoomlehlaaCy
import Derived.WalkKit
import Derived.WalkSpells
import Derived.ProofKit
import Derived.OpenShut
import Derived.ShutString
import Derived.Below
import Derived.SliceStrings
namespace Go.Proofs.Ytohameoomlehlaa.fnCoinsOk
open Go.ChangeShapes Go.WideShapes Go.ChangeAt Go.RowKit
open Go.ChangeMaps (open_string shut_string)
set_option maxRecDepth 100000 in
set_option maxHeartbeats 6400000 in
theorem walk (a0 : Option Addr) (len0 cap0 : Nat) (z0 : List Int) (w : World) (w0 : IsRow .u8 w a0 len0 cap0 z0) :
    Calls Try.prog 3 #[.slice a0 len0 cap0] w fun e w' => e = .returned (.bool true) ∧ Below w.heap.size w w' := by
  have hcm := w0.len
  by_cases h : (1048576 : Int) < (len0 : Int)
  · go_enter Try.func3, Try.ntmps3
    go_wp2
    go_ret
    exact ⟨rfl, Below.refl _ _⟩
  go_enter Try.func3, Try.ntmps3
  go_wp2_with fail
  refine (drawCoinsOk_any a0 len0 cap0 z0 _ w0 (by omega)).mono ?_
  rintro e w1 ⟨a, n, c, l, rfl, HCL, HC, HDR, hB1⟩
  clear w0 h hcm
  have hn8 : n ≤ 8 := by rw [← HCL.out.1]; exact HDR.out.1
  have HL := Lib.hid HCL.out.1
  have H1 := Lib.hid (fun W (hW : Below w1.heap.size w1 W) => implCoinsOk_any w.heap.size a n c l W (HCL.out.below hW) HC.out (by omega) HDR.out.lock)
  have H2 := Lib.hid (fun W (hW : Below w1.heap.size w1 W) => CoinsOk_any w.heap.size a n c l W (HCL.out.below hW) (by omega))
  have H3 := Lib.hid (fun t o W (hW : Below w1.heap.size w1 W) (hi : Co.In t o) => implCoinsFind_any w.heap.size a n c l t o W (HCL.out.below hW) HC.out (by omega) HDR.out.lock hi)
  have HIN : Hid (∀ i, i < l.length → Co.In (Co.nth l i).tx (Co.nth l i).out) := Lib.hid (fun i hi => by have h1 := (HDR.out.2 _ (Co.nth_mem hi)).tx; have h2 := (HDR.out.2 _ (Co.nth_mem hi)).out; unfold Co.In; omega)
  have HFN := Lib.hid (fun (hk : Co.lok l = true) (i : Nat) (hi : i < l.length) => Co.find_nth hk hi)
  obtain ⟨ok, hok⟩ : ∃ x, Co.lok l = x := ⟨_, rfl⟩
  simp only [hok] at H1 H2 HFN
  clear hok HC HDR
  have hcs := H1.out w1 (Below.refl _ _)
  go_wp2_with fail
  refine hcs.mono ?_
  rintro e w2 ⟨rfl, hx⟩
  have hB2 := hB1.trans (hx.mono hB1.size)
  have hY2 := hx
  clear hx hcs hB1
  have hcs := H2.out w2 hY2
  go_wp2_with fail
  refine hcs.mono ?_
  rintro e w3 ⟨rfl, hx⟩
  have hB3 := hB2.trans (hx.mono hB2.size)
  have hY3 := hY2.trans (hx.mono hY2.size)
  clear hY2
  clear hx hcs hB2
  clear H1 H2
  cases ok
  · clear H3 HFN
    go_wp2
    go_ret
    exact ⟨rfl, hB3⟩
  have HFN2 := Lib.hid (HFN.out (by first | trivial | rfl))
  clear HFN
  go_wp2
  go_loopw [7] (fun i wr => ∃ k : Nat, k ≤ n ∧ i = .int .i64 (k : Int) ∧ Below w1.heap.size w1 wr ∧ Below w.heap.size w wr)
    (fun i _ => n - (intOf i).toNat)
  case atStart => exact ⟨0, by omega, rfl, hY3, hB3⟩
  case round =>
    obtain ⟨k, hk, rfl, hY, hB⟩ := hrel
    clear hY3 hB3
    by_cases hlt : k < n
    · obtain ⟨g, off, rfl, hlo, hgl, hc⟩ := HCL.out.2 (by omega)
      obtain ⟨e0, e1, e2, e3, e4, e5⟩ := hc k hlt
      have hfn := HFN2.out k (by rw [HL.out]; exact hlt)
      have hin := HIN.out k (by rw [HL.out]; exact hlt)
      obtain ⟨x, hX⟩ : ∃ x, Co.nth l k = x := ⟨_, rfl⟩
      rw [hX] at e0 e1 e2 e3 e4 e5 hfn hin
      obtain ⟨tx, out, amt, lock, ht, rew⟩ := x
      simp only at e0 e1 e2 e3 e4 e5 hfn hin
      have hSof : ∀ W, Below w1.heap.size w1 W → (W.cell? ⟨g, off + k * 6, none⟩ = some (.int .i64 tx) ∧ W.cell? ⟨g, off + k * 6 + 1, none⟩ = some (.int .i64 out) ∧ W.cell? ⟨g, off + k * 6 + 2, none⟩ = some (.int .i64 amt) ∧ W.cell? ⟨g, off + k * 6 + 3, none⟩ = some (.string lock) ∧ W.cell? ⟨g, off + k * 6 + 4, none⟩ = some (.int .i64 ht) ∧ W.cell? ⟨g, off + k * 6 + 5, none⟩ = some (.bool rew)) := fun W h => ⟨cell_belC h hgl e0, cell_belC h hgl e1, cell_belC h hgl e2, cell_belC h hgl e3, cell_belC h hgl e4, cell_belC h hgl e5⟩
      have h3 := fun W hW => H3.out tx out W hW hin
      simp only [hfn] at h3
      unfold CoA at h3
      have h3' : ∀ W, Below w1.heap.size w1 W → Calls Try.prog 13 #[.slice (some ⟨g, off, none⟩) n c, .int .i64 tx, .int .i64 out] W fun e w' => e = .returned (.tuple #[.agg #[.int .i64 tx, .int .i64 out, .int .i64 amt, .string lock, .int .i64 ht, .bool rew], .bool true]) ∧ Below W.heap.size W w' := h3
      have HF3 := Lib.hid h3'
      have hS0 := hSof wr.drew hY.drew
      have hq1 := fun W => eq_coin tx out amt ht tx out amt ht lock lock rew rew W
      have hq2 := noGuard_coin
      simp only [beq_self_eq_true, Bool.and_true] at hq1
      clear hc hX hfn h3 h3' e0 e1 e2 e3 e4 e5 hlo
      go_wp2
      have hYZ := hY.alloc hY.size (.cells #[.int .i64 0, .int .i64 0, .int .i64 0, .string ⟨#[]⟩, .int .i64 0, .bool false] 27 (0, 0))
      have vZ : Bk wr.heap.size 27 #[.int .i64 0, .int .i64 0, .int .i64 0, .string ⟨#[]⟩, .int .i64 0, .bool false] (wr.alloc (.cells #[.int .i64 0, .int .i64 0, .int .i64 0, .string ⟨#[]⟩, .int .i64 0, .bool false] 27 (0, 0))) := Bk.new _ _ _
      obtain ⟨e0, e1, e2, e3, e4, e5⟩ := hSof wr hY
      go_region_with (first
        | (go_at_call 13; refine (HF3.out _ hY.drew).mono ?_; rintro e w5 ⟨rfl, hx⟩
           have hY6 := (hY.drew.trans (hx.mono hY.drew.size)).alloc (Nat.le_trans hY.drew.size hx.size) (.cells #[.int .i64 tx, .int .i64 out, .int .i64 amt, .string lock, .int .i64 ht, .bool rew] 27 (0, 0))
           have hB6 := (hB.drew.trans (hx.mono hB.drew.size)).alloc (Nat.le_trans hB.drew.size hx.size) (.cells #[.int .i64 tx, .int .i64 out, .int .i64 amt, .string lock, .int .i64 ht, .bool rew] 27 (0, 0))
           have v6 : Bk w5.heap.size 27 #[.int .i64 tx, .int .i64 out, .int .i64 amt, .string lock, .int .i64 ht, .bool rew] (w5.alloc (.cells #[.int .i64 tx, .int .i64 out, .int .i64 amt, .string lock, .int .i64 ht, .bool rew] 27 (0, 0))) := Bk.new _ _ _)
        | (go_at_call 13; refine (HF3.out _ hYZ.drew).mono ?_; rintro e w5 ⟨rfl, hx⟩
           have v5 := vZ.drew.below hx
           have hY6 := below_set6 (hYZ.drew.trans (hx.mono hYZ.drew.size)) (B := wr.heap.size) hY.size (.int .i64 tx) (.int .i64 out) (.int .i64 amt) (.string lock) (.int .i64 ht) (.bool rew)
           have hB6 := below_set6 ((hB.alloc hB.size (.cells #[.int .i64 0, .int .i64 0, .int .i64 0, .string ⟨#[]⟩, .int .i64 0, .bool false] 27 (0, 0))).drew.trans (hx.mono (hB.alloc hB.size (.cells #[.int .i64 0, .int .i64 0, .int .i64 0, .string ⟨#[]⟩, .int .i64 0, .bool false] 27 (0, 0))).drew.size)) (B := wr.heap.size) hB.size (.int .i64 tx) (.int .i64 out) (.int .i64 amt) (.string lock) (.int .i64 ht) (.bool rew)
           have v6 := Bk.store6 v5 (.int .i64 tx) (.int .i64 out) (.int .i64 amt) (.string lock) (.int .i64 ht) (.bool rew)
           obtain ⟨f0, f1, f2, f3, f4, f5⟩ := Bk.f6 v5
           obtain ⟨y0, y1, y2, y3, y4, y5⟩ := Bk.c6 v5))
      all_goals
        obtain ⟨c0, c1, c2, c3, c4, c5⟩ := Bk.c6 v6
        obtain ⟨d0, d1, d2, d3, d4, d5⟩ := hSof _ hY6
        have HY6 := Lib.hid hY6
        have HB6 := Lib.hid hB6
        clear hS0 hSof v6 hY6 hB6 hx hY hB hYZ vZ e0 e1 e2 e3 e4 e5
        go_wp2
        go_quiet (fail)
        go_wp2
        go_roundw
        case rel => exact ⟨k + 1, by omega, by simp, below_drewNC HY6.out _, below_drewNC HB6.out _⟩
        case measure => simp [intOf]; omega
    · clear H3 HFN2
      go_wp2
      go_ret
      exact ⟨rfl, hB⟩
/-! ### The row's step. -/
theorem own : ownKnob Try.prog.godebug = none := by kernel_rfl
theorem laidOut : laidOutB Try.prog = true := by kernel_rfl
set_option maxRecDepth 100000 in
theorem lifted (os : Os) (started : os.Started) (H : Type) (enc : TypeId × Value → H) :
    ReturnsInHanded {} Try.checked os 3 .any (Rows.fnCoinsOkSpec.pre6 enc Try.prog Try.f3 Rows.fnCoinsOkRow.domain false) (Rows.fnCoinsOkSpec.post enc Try.prog Try.f3 false true false false) := by
  refine returnsInHanded_of_change (C := Try.checked) own started (by kernel_rfl) Try.func3
    (ChangeSpec.witness6 (enc := enc) (C := Try.checked) false ⟨#[], #[.slice none 0 0], []⟩ 8 (by kernel_rfl) (by kernel_rfl) (by kernel_rfl) (by kernel_rfl)) ?_
  intro W base args ds gs before hval0 hW hcnd _
  have hval : ∀ (j : Nat) t v, Try.f3.params[j]? = some t → args[j]? = some v → Value.okWide Try.prog W .any base t v := hval0
  have hW' := hW
  obtain ⟨p, q, hA0, hV, rfl, hfz, hnd⟩ := hW
  have hA : DataW.TrodAll enc Try.prog W 0 (fun _ => true) true Try.f3.params.toList args.toList ds p := hA0
  rw [Try.params3] at hA hval
  obtain ⟨v0, vs0, d0, ds0, p0, q0, hargs, rfl, rfl, h0, r0⟩ := trodAll_cons hA
  obtain ⟨rfl, rfl, rfl⟩ := trodAll_nil r0
  obtain rfl : args = #[v0] := by cases args; simp_all
  obtain ⟨rfl, rfl⟩ := trodVars_none hV
  obtain ⟨a0, len0, cap0, rfl⟩ := okWide_slice Try.underlying22 (hval 0 22 v0 rfl rfl)
  have k0 := h0
  have lt0 : ∀ x ∈ p0, x.block < W.heap.size := by obtain ⟨m, hm⟩ := k0; exact DataW.trod_lt m _ _ _ hm
  obtain ⟨z0, w0⟩ : ∃ zs, IsRow .u8 W a0 len0 cap0 zs := by
    obtain ⟨fuel, hf⟩ := h0
    rcases open_ints Try.underlying22 Try.underlying5 (by kernel_rfl) hf with ⟨hcs, _⟩ | ⟨x, l, c, zs, hcs, _, hl, hm, hz, _, hcell, hwz⟩
    · simp [Value.cells] at hcs
      obtain ⟨rfl, rfl, rfl⟩ := hcs
      exact ⟨[], .inl ⟨rfl, rfl, rfl, rfl⟩⟩
    · simp [Value.cells] at hcs
      obtain ⟨rfl, rfl, rfl⟩ := hcs
      exact ⟨zs, .inr ⟨_, rfl, hl, hm, by simpa using hz, hcell, hwz⟩⟩
  clear hA0 hval0
  refine (walk a0 len0 cap0 z0 W w0).mono fun e W' ⟨he, bel⟩ => ?_
  subst he
  exact ⟨_, rfl, _, _, _, [], _, [], hW', trodAll_mk1 (shut_bool Try.underlying4 _), (trodAll_cons_mk (Below.trod laidOut (by kernel_rfl) (of_decide_eq_true (by kernel_rfl)) k0 bel lt0) trodAll_mk0), rfl, bel.frame _, fun h => by cases h⟩
theorem over : Rows.fnCoinsOkRow.holds Try.pinned (OpenSpec.ofChange Rows.fnCoinsOkSpec) :=
  OpenClaim.holds_of_wide 3 Try.f3 rfl rfl rfl rfl rfl rfl rfl ⟨rfl, rfl, rfl, rfl, rfl⟩ rfl rfl rfl rfl rfl (by kernel_rfl) Try.func3 (by kernel_rfl)
    (of_decide_eq_true (by kernel_rfl)) (by unfold Func.isWrapper; first | (rw [if_pos (by decide +kernel)]; kernel_rfl) | (rw [if_neg (by decide +kernel)]; exact ⟨rfl, rfl⟩))
    (fun os started H enc _ => lifted os started H enc)
theorem proved : Rows.FnCoinsOkSaid := over
#print axioms proved
end Go.Proofs.Ytohameoomlehlaa.fnCoinsOk
