/- For every code of at most 1<<20 bytes (longer ones are let pass by the law itself): DigestsMeet answers as the model's DigestsMeet, and a list without its first string meets only where the list does. -/
import Derived.Test.YtlhcanokimjonabRows
import Derived.Test.YtlhcanokimjonabDu
import Derived.Test.YtlhcanokimjonabDm
import Derived.WalkKit
import Derived.WalkSpells
import Derived.ProofKit
import Derived.OpenShut
import Derived.ShutString
import Derived.Below
import Derived.SliceStrings
namespace Go.Proofs.Ytlhcanokimjonab.fnDigestsMeet
open Go.ChangeShapes Go.WideShapes Go.ChangeAt Go.RowKit
open Go.ChangeMaps (open_string shut_string)
theorem meet_drop {ss : List ByteArray} (h : Dg.meet (ss.drop 1)) : Dg.meet ss := by
  obtain ⟨i, j, h1, h2, h3, h4⟩ := h
  have e : ∀ i, (ss.drop 1).getD i ByteArray.empty = ss.getD (i + 1) ByteArray.empty := fun i => by
    rw [List.getD_eq_getElem?_getD, List.getD_eq_getElem?_getD, List.getElem?_drop, Nat.add_comm]
  rw [e, e] at h3 h4
  rw [List.length_drop] at h2
  exact ⟨i + 1, j + 1, by omega, by omega, h3, h4⟩
theorem sr_drop1 {w : World} {g n cp : Nat} {ss : List ByteArray} (h : SR w (some ⟨g, 0, none⟩) n ss) (h1 : 1 ≤ n) (hcp : n ≤ cp) :
    SR w (some (if cp = 1 then ⟨g, 0, none⟩ else ⟨g, 1, none⟩)) (n - 1) (ss.drop 1) := by
  refine ⟨by rw [List.length_drop, h.1], fun h0 => ?_⟩
  obtain ⟨b, off, he, hb, hc⟩ := h.2 (by omega)
  cases he
  rw [if_neg (by omega)]
  refine ⟨g, 1, rfl, hb, fun i hi => ?_⟩
  have := hc (1 + i) (by omega)
  rw [Nat.zero_add] at this
  rw [this, List.getD_eq_getElem?_getD, List.getD_eq_getElem?_getD, List.getElem?_drop]
set_option maxRecDepth 100000 in
set_option maxHeartbeats 1600000 in
theorem walk (a0 : Option Addr) (len0 cap0 : Nat) (z0 : List Int) (w : World) (w0 : IsRow .u8 w a0 len0 cap0 z0) :
    Calls Try.prog 6 #[.slice a0 len0 cap0] w fun e w' => e = .returned (.bool true) ∧ Below w.heap.size w w' := by
  have hcm := w0.len
  by_cases h : (1048576 : Int) < (len0 : Int)
  · go_enter Try.func6, Try.ntmps6
    go_wp2
    go_ret
    exact ⟨rfl, Below.refl _ _⟩
  go_enter Try.func6, Try.ntmps6
  go_wp2_with fail
  refine (drawDigestsMeet_any a0 len0 cap0 z0 _ w0 (by omega)).mono ?_
  rintro e w1 ⟨ss, g, cp, rfl, hm, hz, hb1, hown1⟩
  clear w0
  have hcp : ss.length ≤ cp ∧ cp ≤ 9223372036854775807 := by
    rcases hown1.2 with ⟨h, _⟩ | ⟨g', cap', cur, h, _, _, h3, h4, _⟩
    · cases h
    · cases h
      unfold maxLen at h4
      omega
  obtain ⟨hcp1, hcp2⟩ := hcp
  have HS := Lib.hid (SR.own hown1).2
  have HZ : Hid (∀ s ∈ ss, s.size ≤ 9223372036854775807) := Lib.hid fun s hs => by have := hz s hs; omega
  clear hown1 hz
  go_wp2_with fail
  refine (implDigestsMeet_any _ ss.length cp ss _ HS.out HZ.out (by omega)).mono ?_
  rintro e w2 ⟨b2, rfl, hm2, hb2⟩
  have HS2 := Lib.hid (HS.out.below hb2)
  have hbA := hb1.trans (hb2.mono hb1.size)
  clear hb1 hb2
  go_wp2_with fail
  refine (specDigestsMeet_any _ ss.length cp ss _ HS2.out HZ.out (by omega)).mono ?_
  rintro e w3 ⟨b3, rfl, hm3, hb3⟩
  have hbb : b3 = b2 := by rw [Bool.eq_iff_iff, hm2, hm3]
  subst hbb
  have HS3 := Lib.hid (HS2.out.below hb3)
  have hbB := hbA.trans (hb3.mono hbA.size)
  clear hm3 hbA hb3
  by_cases hn : ss.length = 0
  · obtain ⟨n, hN⟩ : ∃ n, ss.length = n := ⟨_, rfl⟩
    rw [hN] at hn
    subst hn
    clear HS HS2 HS3 HZ hm2
    rw [hN]
    clear hN hm hcp1
    cases b3
    · go_wp2
      go_ret
      exact ⟨rfl, hbB⟩
    · go_wp2
      go_ret
      exact ⟨rfl, hbB⟩
  · have HM := Lib.hid hm2
    have hpos : 0 < ss.length := Nat.pos_of_ne_zero hn
    have hd : decide (0 < ss.length) = true := decide_eq_true hpos
    clear hm2
    obtain ⟨ad, had⟩ : ∃ ad : Addr, (if cp = 1 then (⟨g, 0, none⟩ : Addr) else ⟨g, 1, none⟩) = ad := ⟨_, rfl⟩
    have HS4 : Hid (SR w3 (some ad) (ss.length - 1) (ss.drop 1)) := Lib.hid (by
      have h := sr_drop1 (cp := cp) HS3.out (by omega) hcp1
      rw [had] at h
      exact h)
    have hsl2 : ∀ W, (Instr.slice 33 (.slice (some ⟨g, 0, none⟩) ss.length cp) (some (.int .i64 1)) none none).run Try.prog W = .ok (.slice (some ad) (ss.length - 1) (cp - 1)) W := by
      intro W
      have e2 : (1 : Int) ≤ (ss.length : Int) := by omega
      simp [Instr.slice, Instr.sliceBounds, Instr.sliceBound, asIntOf, run_underlying Try.underlying33, e2]
      rw [← had]
      by_cases hc : cp = 1
      · simp [hc]
      · simp [hc, Addr.add]
    have HZ4 : Hid (∀ s ∈ ss.drop 1, s.size ≤ 9223372036854775807) := Lib.hid fun s hs => HZ.out s (List.mem_of_mem_drop hs)
    cases b3
    all_goals
      go_wp2_with fail
      refine (implDigestsMeet_any _ (ss.length - 1) (cp - 1) (ss.drop 1) _ HS4.out HZ4.out (by omega)).mono ?_
      rintro e w4 ⟨b4, rfl, hm4, hb4⟩
      have hbC := hbB.trans (hb4.mono hbB.size)
      clear hb4 hbB
      cases b4
      · clear hm4
        go_wp2
        go_ret
        exact ⟨rfl, hbC⟩
      · have := HM.out.2 (meet_drop (hm4.1 rfl))
        clear hm4
        first
          | exact absurd this (by decide)
          | (clear this
             go_wp2
             go_ret
             exact ⟨rfl, hbC⟩)
/-! ### The row's step. -/
theorem own : ownKnob Try.prog.godebug = none := by kernel_rfl
theorem laidOut : laidOutB Try.prog = true := by kernel_rfl
set_option maxRecDepth 100000 in
theorem lifted (os : Os) (started : os.Started) (H : Type) (enc : TypeId × Value → H) :
    ReturnsInHanded {} Try.checked os 6 .any (Rows.fnDigestsMeetSpec.pre6 enc Try.prog Try.f6 Rows.fnDigestsMeetRow.domain false) (Rows.fnDigestsMeetSpec.post enc Try.prog Try.f6 false true false false) := by
  refine returnsInHanded_of_change (C := Try.checked) own started (by kernel_rfl) Try.func6
    (ChangeSpec.witness6 (enc := enc) (C := Try.checked) false ⟨#[], #[.slice none 0 0], []⟩ 8 (by kernel_rfl) (by kernel_rfl) (by kernel_rfl) (by kernel_rfl)) ?_
  intro W base args ds gs before hval0 hW hcnd _
  have hval : ∀ (j : Nat) t v, Try.f6.params[j]? = some t → args[j]? = some v → Value.okWide Try.prog W .any base t v := hval0
  have hW' := hW
  obtain ⟨p, q, hA0, hV, rfl, hfz, hnd⟩ := hW
  have hA : DataW.TrodAll enc Try.prog W 0 (fun _ => true) true Try.f6.params.toList args.toList ds p := hA0
  rw [Try.params6] at hA hval
  obtain ⟨v0, vs0, d0, ds0, p0, q0, hargs, rfl, rfl, h0, r0⟩ := trodAll_cons hA
  obtain ⟨rfl, rfl, rfl⟩ := trodAll_nil r0
  obtain rfl : args = #[v0] := by cases args; simp_all
  obtain ⟨rfl, rfl⟩ := trodVars_none hV
  obtain ⟨a0, len0, cap0, rfl⟩ := okWide_slice Try.underlying22 (hval 0 22 v0 rfl rfl)
  have k0 := h0
  have lt0 : ∀ x ∈ p0, x.block < W.heap.size := by obtain ⟨m, hm⟩ := k0; exact DataW.trod_lt m _ _ _ hm
  obtain ⟨z0, w0⟩ : ∃ zs, IsRow .u8 W a0 len0 cap0 zs := by
    obtain ⟨fuel, hf⟩ := h0
    rcases open_ints Try.underlying22 Try.underlying5 (by kernel_rfl) hf with ⟨hcs, _⟩ | ⟨x, l, c, zs, hcs, _, hl, hm, hz, _, hcell, hwz⟩
    · simp [Value.cells] at hcs
      obtain ⟨rfl, rfl, rfl⟩ := hcs
      exact ⟨[], .inl ⟨rfl, rfl, rfl, rfl⟩⟩
    · simp [Value.cells] at hcs
      obtain ⟨rfl, rfl, rfl⟩ := hcs
      exact ⟨zs, .inr ⟨_, rfl, hl, hm, by simpa using hz, hcell, hwz⟩⟩
  clear hA0 hval0
  refine (walk a0 len0 cap0 z0 W w0).mono fun e W' ⟨he, bel⟩ => ?_
  subst he
  exact ⟨_, rfl, _, _, _, [], _, [], hW', trodAll_mk1 (shut_bool Try.underlying4 _), (trodAll_cons_mk (Below.trod laidOut (by kernel_rfl) (of_decide_eq_true (by kernel_rfl)) k0 bel lt0) trodAll_mk0), rfl, bel.frame _, fun h => by cases h⟩
theorem over : Rows.fnDigestsMeetRow.holds Try.pinned (OpenSpec.ofChange Rows.fnDigestsMeetSpec) :=
  OpenClaim.holds_of_wide 6 Try.f6 rfl rfl rfl rfl rfl rfl rfl ⟨rfl, rfl, rfl, rfl, rfl⟩ rfl rfl rfl rfl rfl (by kernel_rfl) Try.func6 (by kernel_rfl)
    (of_decide_eq_true (by kernel_rfl)) (by unfold Func.isWrapper; first | (rw [if_pos (by decide +kernel)]; kernel_rfl) | (rw [if_neg (by decide +kernel)]; exact ⟨rfl, rfl⟩))
    (fun os started H enc _ => lifted os started H enc)
theorem proved : Rows.FnDigestsMeetSaid := over
#print axioms proved
end Go.Proofs.Ytlhcanokimjonab.fnDigestsMeet
