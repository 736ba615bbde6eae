/- For every code of at most 1<<20 bytes (longer ones are let pass by the law itself): CoinsRead answers as the model's CoinsRead; CoinsBytes gives the string. -/
import Derived.Test.YtohameoomlehlaaGreatRows
import Derived.Test.YtohameoomlehlaaGreatCk
import Derived.Test.YtohameoomlehlaaGreatCh
import Derived.Test.YtohameoomlehlaaGreatGf
import Derived.Test.YtohameoomlehlaaGreatGg
import Derived.WalkKit
import Derived.WalkSpells
import Derived.ProofKit
import Derived.OpenShut
import Derived.ShutString
import Derived.Below
import Derived.SliceStrings
namespace Go.Proofs.YtohameoomlehlaaGreat.fnCoinsRead
open Go.ChangeShapes Go.WideShapes Go.ChangeAt Go.RowKit
open Go.ChangeMaps (open_string shut_string)
set_option maxRecDepth 100000 in
set_option maxHeartbeats 6400000 in
theorem walk (a0 : Option Addr) (len0 cap0 : Nat) (z0 : List Int) (w : World) (w0 : IsRow .u8 w a0 len0 cap0 z0) :
    Calls Tryz.prog 3 #[.slice a0 len0 cap0] w fun e w' => e = .returned (.bool true) ∧ Below w.heap.size w w' := by
  have hcm := w0.len
  by_cases h : (1048576 : Int) < (len0 : Int)
  · go_enter Tryz.func3, Tryz.ntmps3
    go_wp2
    go_ret
    exact ⟨rfl, Below.refl _ _⟩
  go_enter Tryz.func3, Tryz.ntmps3
  go_wp2_with fail
  refine (drawCoinsRead_any a0 len0 cap0 z0 _ w0 (by omega)).mono ?_
  rintro e w1 ⟨s, rfl, hs, hB1⟩
  clear w0 h hcm
  obtain ⟨O, hO⟩ : ∃ x, Co.read s = x := ⟨_, rfl⟩
  obtain ⟨L, hL⟩ : ∃ x, O.getD [] = x := ⟨_, rfl⟩
  obtain ⟨IS, hIS⟩ : ∃ x, O.isSome = x := ⟨_, rfl⟩
  obtain ⟨N, hN⟩ : ∃ x, L.length = x := ⟨_, rfl⟩
  have hN80 : N ≤ 80 := by rw [← hN, ← hL, ← hO]; exact (Co.readO_len s).1
  have H1 : Hid (∀ W, Calls Tryz.prog 5 #[.string s] W fun e w' => ∃ a' c', e = .returned (.tuple #[.slice a' N c', .bool IS]) ∧ Hid (CoL W.heap.size w' a' N L) ∧ Hid (N ≤ c') ∧ Below W.heap.size W w') := Lib.hid fun W => by
    have hq := implCoinsRead_any s W (by omega)
    rw [hO, hL, hIS] at hq
    exact hq.mono fun e w' q => q.ex hN
  have H2 : Hid (∀ W, Calls Tryz.prog 6 #[.string s] W fun e w' => ∃ a' c', e = .returned (.tuple #[.slice a' N c', .bool IS]) ∧ Hid (CoL W.heap.size w' a' N L) ∧ Hid (N ≤ c') ∧ Below W.heap.size W w') := Lib.hid fun W => by
    have hq := specCoinsRead_any s W
    rw [hO, hL, hIS] at hq
    exact hq.mono fun e w' q => q.ex hN
  have HB : Hid (IS = true → ∀ lo a c W, CoL lo W a N L → N ≤ c → Calls Tryz.prog 8 #[.slice a N c] W fun e w' => e = .returned (.tuple #[.string s, .bool true]) ∧ Below W.heap.size W w') := Lib.hid fun hi lo a c W h hc => by
    have hr : Co.read s = some L := by
      rw [hO, ← hL]
      rw [← hIS] at hi
      cases O with
      | none => cases hi
      | some m => rfl
    obtain ⟨h1, h2⟩ := Co.bytes_read hr
    have hq := implCoinsBytes_any lo a N c L W h hc (by omega) (Co.lok_lock h2)
    rw [h2, if_pos rfl, h1] at hq
    exact hq
  have HWC := Lib.hid (fun lo lo' W a a' c c' (h1 : CoL lo W a N L) (h2 : CoL lo' W a' N L) => wcCoins_any lo lo' a a' N c c' L W h1 h2 (by omega))
  clear hO hL hIS hN hs
  have hcs := H1.out w1
  go_wp2_with fail
  refine hcs.mono ?_
  rintro e w2 ⟨a2, c2, rfl, HC2, HCP, hx⟩
  have hB2 := hB1.trans (hx.mono hB1.size)
  clear hcs hB1
  clear hx
  have hcs := H2.out w2
  go_wp2_with fail
  refine hcs.mono ?_
  rintro e w3 ⟨a3, c3, rfl, HC3, _, hx⟩
  have hB3 := hB2.trans (hx.mono hB2.size)
  have HD3 := Lib.hid (HC2.out.below hx)
  clear HC2
  clear hx hcs hB2
  have hcs := HWC.out _ _ w3 a2 a3 c2 c3 HD3.out HC3.out
  go_wp2_with fail
  refine hcs.mono ?_
  rintro e w4 ⟨rfl, hx⟩
  have hB4 := hB3.trans (hx.mono hB3.size)
  have HD4 := Lib.hid (HD3.out.below hx)
  clear HD3 HC3
  clear hx hcs hB3
  clear H1 H2 HWC
  have hss : (s.toList == s.toList) = true := by simp
  cases IS
  · clear HB
    go_wp2
    go_ret
    exact ⟨rfl, hB4⟩
  have hcs := HB.out (by first | trivial | rfl) _ a2 c2 w4 HD4.out HCP.out
  go_wp2_with fail
  refine hcs.mono ?_
  rintro e w5 ⟨rfl, hx⟩
  have hB5 := hB4.trans (hx.mono hB4.size)
  clear hx hcs hB4
  clear HB HD4
  go_wp2
  go_ret
  exact ⟨rfl, hB5⟩
/-! ### The row's step. -/
theorem own : ownKnob Tryz.prog.godebug = none := by kernel_rfl
theorem laidOut : laidOutB Tryz.prog = true := by kernel_rfl
set_option maxRecDepth 100000 in
theorem lifted (os : Os) (started : os.Started) (H : Type) (enc : TypeId × Value → H) :
    ReturnsInHanded {} Tryz.checked os 3 .any (Rows.fnCoinsReadSpec.pre6 enc Tryz.prog Tryz.f3 Rows.fnCoinsReadRow.domain false) (Rows.fnCoinsReadSpec.post enc Tryz.prog Tryz.f3 false true false false) := by
  refine returnsInHanded_of_change (C := Tryz.checked) own started (by kernel_rfl) Tryz.func3
    (ChangeSpec.witness6 (enc := enc) (C := Tryz.checked) false ⟨#[], #[.slice none 0 0], []⟩ 8 (by kernel_rfl) (by kernel_rfl) (by kernel_rfl) (by kernel_rfl)) ?_
  intro W base args ds gs before hval0 hW hcnd _
  have hval : ∀ (j : Nat) t v, Tryz.f3.params[j]? = some t → args[j]? = some v → Value.okWide Tryz.prog W .any base t v := hval0
  have hW' := hW
  obtain ⟨p, q, hA0, hV, rfl, hfz, hnd⟩ := hW
  have hA : DataW.TrodAll enc Tryz.prog W 0 (fun _ => true) true Tryz.f3.params.toList args.toList ds p := hA0
  rw [Tryz.params3] at hA hval
  obtain ⟨v0, vs0, d0, ds0, p0, q0, hargs, rfl, rfl, h0, r0⟩ := trodAll_cons hA
  obtain ⟨rfl, rfl, rfl⟩ := trodAll_nil r0
  obtain rfl : args = #[v0] := by cases args; simp_all
  obtain ⟨rfl, rfl⟩ := trodVars_none hV
  obtain ⟨a0, len0, cap0, rfl⟩ := okWide_slice Tryz.underlying22 (hval 0 22 v0 rfl rfl)
  have k0 := h0
  have lt0 : ∀ x ∈ p0, x.block < W.heap.size := by obtain ⟨m, hm⟩ := k0; exact DataW.trod_lt m _ _ _ hm
  obtain ⟨z0, w0⟩ : ∃ zs, IsRow .u8 W a0 len0 cap0 zs := by
    obtain ⟨fuel, hf⟩ := h0
    rcases open_ints Tryz.underlying22 Tryz.underlying5 (by kernel_rfl) hf with ⟨hcs, _⟩ | ⟨x, l, c, zs, hcs, _, hl, hm, hz, _, hcell, hwz⟩
    · simp [Value.cells] at hcs
      obtain ⟨rfl, rfl, rfl⟩ := hcs
      exact ⟨[], .inl ⟨rfl, rfl, rfl, rfl⟩⟩
    · simp [Value.cells] at hcs
      obtain ⟨rfl, rfl, rfl⟩ := hcs
      exact ⟨zs, .inr ⟨_, rfl, hl, hm, by simpa using hz, hcell, hwz⟩⟩
  clear hA0 hval0
  refine (walk a0 len0 cap0 z0 W w0).mono fun e W' ⟨he, bel⟩ => ?_
  subst he
  exact ⟨_, rfl, _, _, _, [], _, [], hW', trodAll_mk1 (shut_bool Tryz.underlying4 _), (trodAll_cons_mk (Below.trod laidOut (by kernel_rfl) (of_decide_eq_true (by kernel_rfl)) k0 bel lt0) trodAll_mk0), rfl, bel.frame _, fun h => by cases h⟩
theorem over : Rows.fnCoinsReadRow.holds Tryz.pinned (OpenSpec.ofChange Rows.fnCoinsReadSpec) :=
  OpenClaim.holds_of_wide 3 Tryz.f3 rfl rfl rfl rfl rfl rfl rfl ⟨rfl, rfl, rfl, rfl, rfl⟩ rfl rfl rfl rfl rfl (by kernel_rfl) Tryz.func3 (by kernel_rfl)
    (of_decide_eq_true (by kernel_rfl)) (by unfold Func.isWrapper; first | (rw [if_pos (by decide +kernel)]; kernel_rfl) | (rw [if_neg (by decide +kernel)]; exact ⟨rfl, rfl⟩))
    (fun os started H enc _ => lifted os started H enc)
theorem proved : Rows.FnCoinsReadSaid := over
#print axioms proved
end Go.Proofs.YtohameoomlehlaaGreat.fnCoinsRead
