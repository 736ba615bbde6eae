/- For every string of at most 1<<20 bytes (longer ones are let pass by the law itself), CoinsRead of the program answers as the model's CoinsRead, and hands back coins that share no memory with what another call hands back. -/
import Derived.Test.YtohameoomlehlabRows
import Derived.Test.YtohameoomlehlabCo
import Derived.Test.YtohameoomlehlabCh
import Derived.Test.YtohameoomlehlabCy
import Derived.WalkKit
import Derived.WalkSpells
import Derived.ProofKit
import Derived.OpenShut
import Derived.ShutString
import Derived.Below
import Derived.SliceStrings
namespace Go.Proofs.Ytohameoomlehlab.fnExactCoinsRead
open Go.ChangeShapes Go.WideShapes Go.ChangeAt Go.RowKit
open Go.ChangeMaps (open_string shut_string)
set_option maxRecDepth 100000 in
set_option maxHeartbeats 6400000 in
theorem walk (s : ByteArray) (_ : s.size ≤ maxLen) (w : World) :
    Calls Try.prog 9 #[.string s] w fun e w' => e = .returned (.bool true) ∧ Below w.heap.size w w' := by
  by_cases h : (1048576 : Int) < (s.size : Int)
  · go_enter Try.func9, Try.ntmps9
    go_wp2
    go_ret
    exact ⟨rfl, Below.refl _ _⟩
  obtain ⟨O, hO⟩ : ∃ x, Co.read s = x := ⟨_, rfl⟩
  obtain ⟨L, hL⟩ : ∃ x, O.getD [] = x := ⟨_, rfl⟩
  obtain ⟨IS, hIS⟩ : ∃ x, O.isSome = x := ⟨_, rfl⟩
  obtain ⟨N, hN⟩ : ∃ x, L.length = x := ⟨_, rfl⟩
  have hN80 : N ≤ 80 := by
    rw [← hN, ← hL, ← hO]
    cases hr : Co.read s with
    | none => simp
    | some m => exact ((Co.lok_iff m).1 (Co.bytes_read hr).2).1
  have H1 : Hid (∀ W, Calls Try.prog 31 #[.string s] W fun e w' => ∃ a c g, e = .returned (.tuple #[.slice a N c, .bool IS]) ∧ Hid (CoL W.heap.size w' a N L) ∧ Hid (N ≤ c) ∧ W.heap.size ≤ g ∧ Hid (0 < N → a = some ⟨g, 0, none⟩) ∧ Hid (0 < N → ∀ l', CB g N 0 l' w') ∧ Below W.heap.size W w') := Lib.hid fun W => by
    have hq := specCoinsRead_any s W
    rw [hO, hL, hIS] at hq
    exact hq.mono fun e w' q => q.mk hN
  have H2 : Hid (∀ W, Calls Try.prog 32 #[.string s] W fun e w' => ∃ a c g, e = .returned (.tuple #[.slice a N c, .bool IS]) ∧ Hid (CoL W.heap.size w' a N L) ∧ Hid (N ≤ c) ∧ W.heap.size ≤ g ∧ Hid (0 < N → a = some ⟨g, 0, none⟩) ∧ Hid (0 < N → ∀ l', CB g N 0 l' w') ∧ Below W.heap.size W w') := Lib.hid fun W => by
    have hq := implCoinsRead_any s W (by omega)
    rw [hO, hL, hIS] at hq
    exact hq.mono fun e w' q => q.mk hN
  have HEQ := Lib.hid (fun lo lo' W a b c c' (h1 : CoL lo W a N L) (h2 : CoL lo' W b N L) => eqCoinS_any lo lo' a b N c c' L W h1 h2 (by omega))
  clear hO hL hIS hN
  have hB0 : Below w.heap.size w w := Below.refl _ _
  go_enter Try.func9, Try.ntmps9

  have hcs := H1.out w
  go_wp2_with fail
  refine hcs.mono ?_
  rintro e w1 ⟨a1, c1, _, rfl, HW, _, _, _, _, hx⟩
  have hz1 : w.heap.size ≤ w1.heap.size := hx.size
  have hB1 := hB0.trans (hx.mono hB0.size)
  clear hx hcs hB0 
  have hY1 : Below w1.heap.size w1 w1 := Below.refl _ _
  have hcs := H2.out w1
  go_wp2_with fail
  refine hcs.mono ?_
  rintro e w2 ⟨a2, c2, g, rfl, HG2, HC2, hg2, HA, HR2, hx⟩
  have hz2 : w1.heap.size ≤ w2.heap.size := hx.size
  have hB2 := hB1.trans (hx.mono hB1.size)
  have hY2 := hY1.trans (hx.mono hY1.size)
  clear hx hcs hB1 hY1 
  have hcs := HEQ.out _ _ w2 a2 a1 c2 c1 HG2.out (HW.out.below hY2)
  go_wp2_with fail
  refine hcs.mono ?_
  rintro e w3 ⟨rfl, hx⟩
  have hz3 : w2.heap.size ≤ w3.heap.size := hx.size
  have hB3 := hB2.trans (hx.mono hB2.size)
  have hY3 := hY2.trans (hx.mono hY2.size)
  have HG3 := Lib.hid (HG2.out.below hx)
  have HR3 := Lib.hid (CB.roomBelow HR2.out hx)
  clear hx hcs hB2 hY2 HG2 HR2 
  have hcs := markCoinS_any a2 g N c2 w3 HA.out (fun h0 => HR3.out h0 _) (by omega)
  go_wp2_with fail
  refine hcs.mono ?_
  rintro e w4 ⟨rfl, hg, HM4⟩
  have hz4 : w3.heap.size ≤ w4.heap.size := hg.size
  have hB4 := Below.grown hB3 hg hB3.size (fun j hj => by cases hj; omega)
  have hY4 := Below.grown hY3 hg hY3.size (fun j hj => by cases hj; omega)
  have HG4 : Hid (CoL w1.heap.size w4 a2 N (marksCoin N)) := Lib.hid (CoL.marks HA.out HM4 hg2)
  clear hg hcs hB3 hY3 HG3 HR3 HM4
  have hcs := heldCoinS_any _ a2 N c2 w4 HG4.out (by omega)
  go_wp2_with fail
  refine hcs.mono ?_
  rintro e w5 ⟨rfl, hx⟩
  have hz5 : w4.heap.size ≤ w5.heap.size := hx.size
  have hB5 := hB4.trans (hx.mono hB4.size)
  have hY5 := hY4.trans (hx.mono hY4.size)
  have HG5 := Lib.hid (HG4.out.below hx)
  clear hx hcs hB4 hY4 HG4 
  have hcs := H2.out w5
  go_wp2_with fail
  refine hcs.mono ?_
  rintro e w6 ⟨a6, c6, _, rfl, HH6, _, _, _, _, hx⟩
  have hz6 : w5.heap.size ≤ w6.heap.size := hx.size
  have hB6 := hB5.trans (hx.mono hB5.size)
  have hY6 := hY5.trans (hx.mono hY5.size)
  have HG6 := Lib.hid (HG5.out.below hx)
  clear hx hcs hB5 hY5 HG5 
  have hcs := HEQ.out _ _ w6 a6 a1 c6 c1 HH6.out (HW.out.below hY6)
  go_wp2_with fail
  refine hcs.mono ?_
  rintro e w7 ⟨rfl, hx⟩
  have hz7 : w6.heap.size ≤ w7.heap.size := hx.size
  have hB7 := hB6.trans (hx.mono hB6.size)
  have hY7 := hY6.trans (hx.mono hY6.size)
  have HG7 := Lib.hid (HG6.out.below hx)
  have HH7 := Lib.hid (HH6.out.below hx)
  clear hx hcs hB6 hY6 HG6 HH6 
  have hcs := heldCoinS_any _ a2 N c2 w7 HG7.out (by omega)
  go_wp2_with fail
  refine hcs.mono ?_
  rintro e w8 ⟨rfl, hx⟩
  have hz8 : w7.heap.size ≤ w8.heap.size := hx.size
  have hB8 := hB7.trans (hx.mono hB7.size)
  have hY8 := hY7.trans (hx.mono hY7.size)
  have HG8 := Lib.hid (HG7.out.below hx)
  have HH8 := Lib.hid (HH7.out.below hx)
  clear hx hcs hB7 hY7 HG7 HH7 
  clear H1 H2 HEQ HW HA HC2 HG8 HH8 hY8
  go_wp2
  go_ret
  exact ⟨rfl, hB8⟩
/-! ### The row's step. -/
theorem own : ownKnob Try.prog.godebug = none := by kernel_rfl
set_option maxRecDepth 100000 in
theorem lifted (os : Os) (started : os.Started) (H : Type) (enc : TypeId × Value → H) :
    ReturnsInHanded {} Try.checked os 9 .any (Rows.fnExactCoinsReadSpec.pre6 enc Try.prog Try.f9 Rows.fnExactCoinsReadRow.domain false) (Rows.fnExactCoinsReadSpec.post enc Try.prog Try.f9 false true false false) := by
  refine returnsInHanded_of_change (C := Try.checked) own started (by kernel_rfl) Try.func9
    (ChangeSpec.witness6 (enc := enc) (C := Try.checked) false ⟨#[], #[.string ByteArray.empty], []⟩ 8 (by kernel_rfl) (by kernel_rfl) (by kernel_rfl) (by kernel_rfl)) ?_
  intro W base args ds gs before hval0 hW hcnd _
  have hval : ∀ (j : Nat) t v, Try.f9.params[j]? = some t → args[j]? = some v → Value.okWide Try.prog W .any base t v := hval0
  have hW' := hW
  obtain ⟨p, q, hA0, hV, rfl, hfz, hnd⟩ := hW
  have hA : DataW.TrodAll enc Try.prog W 0 (fun _ => true) true Try.f9.params.toList args.toList ds p := hA0
  rw [Try.params9] at hA hval
  obtain ⟨v0, vs0, d0, ds0, p0, q0, hargs, rfl, rfl, h0, r0⟩ := trodAll_cons hA
  obtain ⟨rfl, rfl, rfl⟩ := trodAll_nil r0
  obtain rfl : args = #[v0] := by cases args; simp_all
  obtain ⟨rfl, rfl⟩ := trodVars_none hV
  obtain ⟨a0, rfl, rfl, rfl, w0⟩ := open_string Try.underlying9 (hval 0 9 v0 rfl rfl) h0
  clear hA0 hval0
  refine (walk a0 w0 W).mono fun e W' ⟨he, bel⟩ => ?_
  subst he
  exact ⟨_, rfl, _, _, _, [], _, [], hW', trodAll_mk1 (shut_bool Try.underlying4 _), (trodAll_cons_mk (shut_string Try.underlying9 w0) trodAll_mk0), rfl, bel.frame _, fun h => by cases h⟩
theorem over : Rows.fnExactCoinsReadRow.holds Try.pinned (OpenSpec.ofChange Rows.fnExactCoinsReadSpec) :=
  OpenClaim.holds_of_wide 9 Try.f9 rfl rfl rfl rfl rfl rfl rfl ⟨rfl, rfl, rfl, rfl, rfl⟩ rfl rfl rfl rfl rfl (by kernel_rfl) Try.func9 (by kernel_rfl)
    (of_decide_eq_true (by kernel_rfl)) (by unfold Func.isWrapper; first | (rw [if_pos (by decide +kernel)]; kernel_rfl) | (rw [if_neg (by decide +kernel)]; exact ⟨rfl, rfl⟩))
    (fun os started H enc _ => lifted os started H enc)
theorem proved : Rows.FnExactCoinsReadSaid := over
#print axioms proved
end Go.Proofs.Ytohameoomlehlab.fnExactCoinsRead
