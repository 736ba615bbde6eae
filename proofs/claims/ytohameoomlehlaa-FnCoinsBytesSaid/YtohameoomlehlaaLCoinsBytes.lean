/- For every code of at most 1<<20 bytes (longer ones are let pass by the law itself): CoinsBytes answers as the model's CoinsBytes; CoinsRead gives the coins. -/
import Derived.Test.YtohameoomlehlaaRows
import Derived.Test.YtohameoomlehlaaCk
import Derived.Test.YtohameoomlehlaaCy
import Derived.WalkKit
import Derived.WalkSpells
import Derived.ProofKit
import Derived.OpenShut
import Derived.ShutString
import Derived.Below
import Derived.SliceStrings
namespace Go.Proofs.Ytohameoomlehlaa.fnCoinsBytes
open Go.ChangeShapes Go.WideShapes Go.ChangeAt Go.RowKit
open Go.ChangeMaps (open_string shut_string)
set_option maxRecDepth 100000 in
set_option maxHeartbeats 6400000 in
theorem walk (a0 : Option Addr) (len0 cap0 : Nat) (z0 : List Int) (w : World) (w0 : IsRow .u8 w a0 len0 cap0 z0) :
    Calls Try.prog 8 #[.slice a0 len0 cap0] w fun e w' => e = .returned (.bool true) ∧ Below w.heap.size w w' := by
  have hcm := w0.len
  by_cases h : (1048576 : Int) < (len0 : Int)
  · go_enter Try.func8, Try.ntmps8
    go_wp2
    go_ret
    exact ⟨rfl, Below.refl _ _⟩
  go_enter Try.func8, Try.ntmps8
  go_wp2_with fail
  refine (drawCoinsBytes_any a0 len0 cap0 z0 _ w0 (by omega)).mono ?_
  rintro e w1 ⟨a, n, c, l, rfl, HCL, HC, HDR, hB1⟩
  clear w0 h hcm
  have hn8 : n ≤ 8 := by rw [← HCL.out.1]; exact HDR.out.1
  have HL := Lib.hid HCL.out.1
  have H1 := Lib.hid (fun W (hW : Below w1.heap.size w1 W) => implCoinsBytes_any w.heap.size a n c l W (HCL.out.below hW) HC.out (by omega) HDR.out.lock)
  have H2 := Lib.hid (fun W (hW : Below w1.heap.size w1 W) => CoinsBytes_any w.heap.size a n c l W (HCL.out.below hW) (by omega))
  obtain ⟨Y, hY⟩ : ∃ x, (if Co.lok l = true then Co.bytes l else ⟨#[]⟩) = x := ⟨_, rfl⟩
  have hYs : Y.size ≤ 1048576 := by
    subst hY
    by_cases h1 : Co.lok l = true
    · rw [if_pos h1]
      have h2 := Co.bts_size (Co.fits h1) l.length (Nat.le_refl _)
      rw [Co.bts_all] at h2
      have := HDR.out.1
      omega
    · rw [if_neg h1]
      decide
  have H3 : Hid (Co.lok l = true → ∀ W, Calls Try.prog 29 #[.string Y] W fun e w' => ∃ a' c', e = .returned (.tuple #[.slice a' n c', .bool true]) ∧ Hid (CoL W.heap.size w' a' n l) ∧ Hid (n ≤ c') ∧ Below W.heap.size W w') := Lib.hid fun hk W => by
    have hr : Co.read Y = some l := by rw [← hY, if_pos hk]; exact Co.read_bytes hk
    have hq := implCoinsRead_any Y W hYs
    rw [hr] at hq
    exact hq.mono fun e w' q => q.ex HL.out
  obtain ⟨ok, hok⟩ : ∃ x, Co.lok l = x := ⟨_, rfl⟩
  simp only [hY] at H1 H2
  simp only [hok] at H1 H2 H3
  have HWC := Lib.hid (fun lo W a' c' (h1 : CoL lo W a' n l) (hW : Below w1.heap.size w1 W) => wcCoins_any lo w.heap.size a' a n c' c l W h1 (HCL.out.below hW) (by omega))
  clear hY hYs hok HCL HC HDR
  have hcs := H1.out w1 (Below.refl _ _)
  go_wp2_with fail
  refine hcs.mono ?_
  rintro e w2 ⟨rfl, hx⟩
  have hB2 := hB1.trans (hx.mono hB1.size)
  have hY2 := hx
  clear hx hcs hB1
  have hcs := H2.out w2 hY2
  go_wp2_with fail
  refine hcs.mono ?_
  rintro e w3 ⟨rfl, hx⟩
  have hB3 := hB2.trans (hx.mono hB2.size)
  have hY3 := hY2.trans (hx.mono hY2.size)
  clear hY2
  clear hx hcs hB2
  clear H1 H2
  have hyy : (Y.toList == Y.toList) = true := by simp
  cases ok
  · clear H3 HWC
    go_wp2
    go_ret
    exact ⟨rfl, hB3⟩
  have hcs := H3.out (by first | trivial | rfl) w3
  go_wp2_with fail
  refine hcs.mono ?_
  rintro e w4 ⟨a4, c4, rfl, HC4, _, hx⟩
  have hB4 := hB3.trans (hx.mono hB3.size)
  have hY4 := hY3.trans (hx.mono hY3.size)
  clear hY3
  clear hx hcs hB3
  have hcs := HWC.out _ w4 a4 c4 HC4.out hY4
  go_wp2_with fail
  refine hcs.mono ?_
  rintro e w5 ⟨rfl, hx⟩
  have hB5 := hB4.trans (hx.mono hB4.size)
  clear hx hcs hB4
  clear H3 HWC HC4
  go_wp2
  go_ret
  exact ⟨rfl, hB5⟩
/-! ### The row's step. -/
theorem own : ownKnob Try.prog.godebug = none := by kernel_rfl
theorem laidOut : laidOutB Try.prog = true := by kernel_rfl
set_option maxRecDepth 100000 in
theorem lifted (os : Os) (started : os.Started) (H : Type) (enc : TypeId × Value → H) :
    ReturnsInHanded {} Try.checked os 8 .any (Rows.fnCoinsBytesSpec.pre6 enc Try.prog Try.f8 Rows.fnCoinsBytesRow.domain false) (Rows.fnCoinsBytesSpec.post enc Try.prog Try.f8 false true false false) := by
  refine returnsInHanded_of_change (C := Try.checked) own started (by kernel_rfl) Try.func8
    (ChangeSpec.witness6 (enc := enc) (C := Try.checked) false ⟨#[], #[.slice none 0 0], []⟩ 8 (by kernel_rfl) (by kernel_rfl) (by kernel_rfl) (by kernel_rfl)) ?_
  intro W base args ds gs before hval0 hW hcnd _
  have hval : ∀ (j : Nat) t v, Try.f8.params[j]? = some t → args[j]? = some v → Value.okWide Try.prog W .any base t v := hval0
  have hW' := hW
  obtain ⟨p, q, hA0, hV, rfl, hfz, hnd⟩ := hW
  have hA : DataW.TrodAll enc Try.prog W 0 (fun _ => true) true Try.f8.params.toList args.toList ds p := hA0
  rw [Try.params8] at hA hval
  obtain ⟨v0, vs0, d0, ds0, p0, q0, hargs, rfl, rfl, h0, r0⟩ := trodAll_cons hA
  obtain ⟨rfl, rfl, rfl⟩ := trodAll_nil r0
  obtain rfl : args = #[v0] := by cases args; simp_all
  obtain ⟨rfl, rfl⟩ := trodVars_none hV
  obtain ⟨a0, len0, cap0, rfl⟩ := okWide_slice Try.underlying22 (hval 0 22 v0 rfl rfl)
  have k0 := h0
  have lt0 : ∀ x ∈ p0, x.block < W.heap.size := by obtain ⟨m, hm⟩ := k0; exact DataW.trod_lt m _ _ _ hm
  obtain ⟨z0, w0⟩ : ∃ zs, IsRow .u8 W a0 len0 cap0 zs := by
    obtain ⟨fuel, hf⟩ := h0
    rcases open_ints Try.underlying22 Try.underlying5 (by kernel_rfl) hf with ⟨hcs, _⟩ | ⟨x, l, c, zs, hcs, _, hl, hm, hz, _, hcell, hwz⟩
    · simp [Value.cells] at hcs
      obtain ⟨rfl, rfl, rfl⟩ := hcs
      exact ⟨[], .inl ⟨rfl, rfl, rfl, rfl⟩⟩
    · simp [Value.cells] at hcs
      obtain ⟨rfl, rfl, rfl⟩ := hcs
      exact ⟨zs, .inr ⟨_, rfl, hl, hm, by simpa using hz, hcell, hwz⟩⟩
  clear hA0 hval0
  refine (walk a0 len0 cap0 z0 W w0).mono fun e W' ⟨he, bel⟩ => ?_
  subst he
  exact ⟨_, rfl, _, _, _, [], _, [], hW', trodAll_mk1 (shut_bool Try.underlying4 _), (trodAll_cons_mk (Below.trod laidOut (by kernel_rfl) (of_decide_eq_true (by kernel_rfl)) k0 bel lt0) trodAll_mk0), rfl, bel.frame _, fun h => by cases h⟩
theorem over : Rows.fnCoinsBytesRow.holds Try.pinned (OpenSpec.ofChange Rows.fnCoinsBytesSpec) :=
  OpenClaim.holds_of_wide 8 Try.f8 rfl rfl rfl rfl rfl rfl rfl ⟨rfl, rfl, rfl, rfl, rfl⟩ rfl rfl rfl rfl rfl (by kernel_rfl) Try.func8 (by kernel_rfl)
    (of_decide_eq_true (by kernel_rfl)) (by unfold Func.isWrapper; first | (rw [if_pos (by decide +kernel)]; kernel_rfl) | (rw [if_neg (by decide +kernel)]; exact ⟨rfl, rfl⟩))
    (fun os started H enc _ => lifted os started H enc)
theorem proved : Rows.FnCoinsBytesSaid := over
#print axioms proved
end Go.Proofs.Ytohameoomlehlaa.fnCoinsBytes
