/- For every list of strings of at most 1<<20 bytes in all, every index, every leaf and every proof of at most 1<<20 bytes and elements (longer ones are let pass by the law itself), MerkleCollision of the program answers as the model's MerkleCollision, and leaves the list and the proof as they were. -/
import Derived.Test.YtdgepneaeieogaaRows
import Derived.Test.YtdgepneaeieogaaMf
import Derived.WalkKit
import Derived.WalkSpells
import Derived.ProofKit
import Derived.OpenShut
import Derived.ShutString
import Derived.Below
import Derived.SliceStrings
namespace Go.Proofs.Ytdgepneaeieogaa.fnExactMerkleCollision
open Go.ChangeShapes Go.WideShapes Go.ChangeAt Go.RowKit
open Go.ChangeMaps (open_string shut_string)
set_option maxRecDepth 100000 in
set_option maxHeartbeats 1600000 in
theorem walk (a0 : Option Addr) (len0 cap0 : Nat) (z0 : List ByteArray) (i : Int) (_ : (Lit.int .i64 i).wf = true) (s : ByteArray) (_ : s.size ≤ maxLen) (a3 : Option Addr) (len3 cap3 : Nat) (z3 : List Int) (w : World) (w0 : IsStrs w a0 len0 cap0 z0) (w3 : IsInts w a3 len3 cap3 z3) :
    Calls Try.prog 6 #[.slice a0 len0 cap0, .int .i64 i, .string s, .slice a3 len3 cap3] w fun e w' => e = .returned (.bool true) ∧ Below w.heap.size w w' := by
  obtain ⟨hl0, hl1, hl2⟩ := w0.len
  obtain ⟨hk0, hk1, hk2⟩ := w3.len
  have HS := Lib.hid w0.sr
  have HZ := Lib.hid w0.sizes
  have HP := Lib.hid w3.ir
  clear w0 w3
  generalize z0.take len0 = ss at HS HZ
  generalize z3.take len3 = p at HP
  by_cases hs : (1048576 : Int) < (s.size : Int)
  · go_enter Try.func6, Try.ntmps6
    go_wp2
    go_ret
    exact ⟨rfl, Below.refl _ _⟩
  by_cases hp : (1048576 : Int) < (len3 : Int)
  · go_enter Try.func6, Try.ntmps6
    go_wp2
    go_ret
    exact ⟨rfl, Below.refl _ _⟩
  go_enter Try.func6, Try.ntmps6
  go_wp2_with fail
  refine (szStringS_any a0 len0 cap0 ss 1048576 _ HS.out (by omega) (by omega) hl0 HZ.out).mono ?_
  rintro e w1 ⟨v, rfl, hv, hb1⟩
  by_cases hneg : v < 0
  · go_wp2
    go_ret
    exact ⟨rfl, hb1⟩
  obtain ⟨hv', hvz⟩ : (len0 : Int) ≤ 1048576 ∧ ∀ s ∈ ss, (s.size : Int) ≤ 1048576 := by
    rcases hv with h | h
    · omega
    · exact h.2
  have HZ2 : Hid (∀ s ∈ ss, s.size ≤ 4611686018427387904) := Lib.hid fun s h => by have := hvz s h; omega
  have HZ3 : Hid (∀ s ∈ ss, s.size ≤ 4611686018427387000) := Lib.hid fun s h => by have := hvz s h; omega
  obtain ⟨r1, r2, b, HA⟩ : ∃ r1 r2 b, Hid (Me.colA ss i s p = .tuple #[.string r1, .string r2, .bool b]) := by
    unfold Me.colA
    split
    · exact ⟨_, _, _, Lib.hid rfl⟩
    · exact ⟨_, _, _, Lib.hid rfl⟩
  have hq1 : (r1.toList == r1.toList) = true := by simp
  have hq2 : (r2.toList == r2.toList) = true := by simp
  clear hv hvz
  go_wp2_with fail
  refine (toStringS_any a0 len0 cap0 ss _ (HS.out.below hb1) (by omega)).mono ?_
  rintro e w2 ⟨b2, rfl, hn2, hs2, hb2⟩
  have HS2 := Lib.hid hs2
  have hb12 := hb1.trans (hb2.mono hb1.size)
  clear hs2 hb2 hb1
  go_wp2_with fail
  refine (toIntS_any a3 len3 cap3 p _ (HP.out.below hb12) (by omega)).mono ?_
  rintro e w3 ⟨b3, rfl, hn3, hs3, hb3⟩
  have HP3 := Lib.hid hs3
  have HS3 := Lib.hid (HS2.out.below hb3)
  have hb13 := hb12.trans (hb3.mono hb12.size)
  clear hs3 hb3 hb12
  go_wp2_with fail
  refine (specMerkleCollision_any _ len0 len0 ss i s _ len3 len3 p _ HS3.out (Nat.le_refl _) (by omega) HZ2.out (by omega) HP3.out (Nat.le_refl _) (by omega)).mono ?_
  rw [HA.out]
  rintro e w4 ⟨rfl, hb4⟩
  have hb14 := hb13.trans (hb4.mono hb13.size)
  clear hb4 hb13
  go_wp2_with fail
  refine (toStringS_any a0 len0 cap0 ss _ (HS.out.below hb14) (by omega)).mono ?_
  rintro e w5 ⟨b5, rfl, hn5, hs5, hb5⟩
  have HS5 := Lib.hid hs5
  have hb15 := hb14.trans (hb5.mono hb14.size)
  clear hs5 hb5 hb14
  go_wp2_with fail
  refine (toIntS_any a3 len3 cap3 p _ (HP.out.below hb15) (by omega)).mono ?_
  rintro e w6 ⟨b6, rfl, hn6, hs6, hb6⟩
  have HP6 := Lib.hid hs6
  have HS6 := Lib.hid (HS5.out.below hb6)
  have hb16 := hb15.trans (hb6.mono hb15.size)
  clear hs6 hb6 hb15
  go_wp2_with fail
  refine (implMerkleCollision_any _ len0 len0 ss i s _ len3 len3 p _ HS6.out (Nat.le_refl _) (by omega) HZ3.out (by omega) HP6.out (Nat.le_refl _) (by omega)).mono ?_
  rw [HA.out]
  rintro e w7 ⟨rfl, hb7⟩
  have HS7 := Lib.hid (HS6.out.below hb7)
  have HP7 := Lib.hid (HP6.out.below hb7)
  have hb17 := hb16.trans (hb7.mono hb16.size)
  clear hb7 hb16
  cases b
  all_goals
    go_wp2_with fail
    refine (toStringS_any a0 len0 cap0 ss _ (HS.out.below hb17) (by omega)).mono ?_
    rintro e w8 ⟨b8, rfl, hn8, hs8, hb8⟩
    have HS8 := Lib.hid hs8
    have HS78 := Lib.hid (HS7.out.below hb8)
    have HP78 := Lib.hid (HP7.out.below hb8)
    have hb18 := hb17.trans (hb8.mono hb17.size)
    clear hs8 hb8 hb17
    go_wp2_with fail
    refine (eqStringS_any _ _ len0 len0 len0 ss _ HS78.out HS8.out hl0).mono ?_
    rintro e w9 ⟨rfl, hb9⟩
    have HP79 := Lib.hid (HP78.out.below hb9)
    have hb19 := hb18.trans (hb9.mono hb18.size)
    clear hb9 hb18
    go_wp2_with fail
    refine (toIntS_any a3 len3 cap3 p _ (HP.out.below hb19) (by omega)).mono ?_
    rintro e w10 ⟨b10, rfl, hn10, hs10, hb10⟩
    have HP10 := Lib.hid hs10
    have HP710 := Lib.hid (HP79.out.below hb10)
    have hb20 := hb19.trans (hb10.mono hb19.size)
    clear hs10 hb10 hb19
    go_wp2_with fail
    refine (eqIntS_any _ _ len3 len3 len3 p _ HP710.out HP10.out hk0).mono ?_
    rintro e w11 ⟨rfl, hb11⟩
    go_wp2
    go_ret
    exact ⟨rfl, hb20.trans (hb11.mono hb20.size)⟩
/-! ### The row's step. -/
theorem own : ownKnob Try.prog.godebug = none := by kernel_rfl
theorem laidOut : laidOutB Try.prog = true := by kernel_rfl
set_option maxRecDepth 100000 in
theorem lifted (os : Os) (started : os.Started) (H : Type) (enc : TypeId × Value → H) :
    ReturnsInHanded {} Try.checked os 6 .any (Rows.fnExactMerkleCollisionSpec.pre6 enc Try.prog Try.f6 Rows.fnExactMerkleCollisionRow.domain false) (Rows.fnExactMerkleCollisionSpec.post enc Try.prog Try.f6 false true false false) := by
  refine returnsInHanded_of_change (C := Try.checked) own started (by kernel_rfl) Try.func6
    (ChangeSpec.witness6 (enc := enc) (C := Try.checked) false ⟨#[], #[.slice none 0 0, .int .i64 0, .string ByteArray.empty, .slice none 0 0], []⟩ 8 (by kernel_rfl) (by kernel_rfl) (by kernel_rfl) (by kernel_rfl)) ?_
  intro W base args ds gs before hval0 hW hcnd _
  have hval : ∀ (j : Nat) t v, Try.f6.params[j]? = some t → args[j]? = some v → Value.okWide Try.prog W .any base t v := hval0
  have hW' := hW
  obtain ⟨p, q, hA0, hV, rfl, hfz, hnd⟩ := hW
  have hA : DataW.TrodAll enc Try.prog W 0 (fun _ => true) true Try.f6.params.toList args.toList ds p := hA0
  rw [Try.params6] at hA hval
  obtain ⟨v0, vs0, d0, ds0, p0, q0, hargs, rfl, rfl, h0, r0⟩ := trodAll_cons hA
  obtain ⟨v1, vs1, d1, ds1, p1, q1, rfl, rfl, rfl, h1, r1⟩ := trodAll_cons r0
  obtain ⟨v2, vs2, d2, ds2, p2, q2, rfl, rfl, rfl, h2, r2⟩ := trodAll_cons r1
  obtain ⟨v3, vs3, d3, ds3, p3, q3, rfl, rfl, rfl, h3, r3⟩ := trodAll_cons r2
  obtain ⟨rfl, rfl, rfl⟩ := trodAll_nil r3
  obtain rfl : args = #[v0, v1, v2, v3] := by cases args; simp_all
  obtain ⟨rfl, rfl⟩ := trodVars_none hV
  obtain ⟨a0, len0, cap0, rfl⟩ := okWide_slice Try.underlying22 (hval 0 22 v0 rfl rfl)
  have k0 := h0
  have lt0 : ∀ x ∈ p0, x.block < W.heap.size := by obtain ⟨m, hm⟩ := k0; exact DataW.trod_lt m _ _ _ hm
  obtain ⟨z0, w0⟩ : ∃ zs, IsStrs W a0 len0 cap0 zs := by
    obtain ⟨fuel, hf⟩ := h0
    rcases open_strings Try.underlying22 Try.underlying9 (by kernel_rfl) hf with ⟨hcs, _⟩ | ⟨x, l, c, zs, hcs, _, hl, hm, hz, _, hcell, hwz⟩
    · simp [Value.cells] at hcs
      obtain ⟨rfl, rfl, rfl⟩ := hcs
      exact ⟨[], .inl ⟨rfl, rfl, rfl, rfl⟩⟩
    · simp [Value.cells] at hcs
      obtain ⟨rfl, rfl, rfl⟩ := hcs
      exact ⟨zs, .inr ⟨_, rfl, hl, hm, by simpa using hz, hcell, hwz⟩⟩
  obtain ⟨a1, rfl, rfl, rfl, w1⟩ := open_int Try.underlying3 (hval 1 3 v1 rfl rfl) h1
  obtain ⟨a2, rfl, rfl, rfl, w2⟩ := open_string Try.underlying9 (hval 2 9 v2 rfl rfl) h2
  obtain ⟨a3, len3, cap3, rfl⟩ := okWide_slice Try.underlying29 (hval 3 29 v3 rfl rfl)
  have k3 := h3
  have lt3 : ∀ x ∈ p3, x.block < W.heap.size := by obtain ⟨m, hm⟩ := k3; exact DataW.trod_lt m _ _ _ hm
  obtain ⟨z3, w3⟩ : ∃ zs, IsInts W a3 len3 cap3 zs := by
    obtain ⟨fuel, hf⟩ := h3
    rcases open_ints Try.underlying29 Try.underlying3 (by kernel_rfl) hf with ⟨hcs, _⟩ | ⟨x, l, c, zs, hcs, _, hl, hm, hz, _, hcell, hwz⟩
    · simp [Value.cells] at hcs
      obtain ⟨rfl, rfl, rfl⟩ := hcs
      exact ⟨[], .inl ⟨rfl, rfl, rfl, rfl⟩⟩
    · simp [Value.cells] at hcs
      obtain ⟨rfl, rfl, rfl⟩ := hcs
      exact ⟨zs, .inr ⟨_, rfl, hl, hm, by simpa using hz, hcell, hwz⟩⟩
  clear hA0 hval0
  refine (walk a0 len0 cap0 z0 a1 w1 a2 w2 a3 len3 cap3 z3 W w0 w3).mono fun e W' ⟨he, bel⟩ => ?_
  subst he
  exact ⟨_, rfl, _, _, _, [], _, [], hW', trodAll_mk1 (shut_bool Try.underlying4 _), (trodAll_cons_mk (Below.trod laidOut (by kernel_rfl) (of_decide_eq_true (by kernel_rfl)) k0 bel lt0) (trodAll_cons_mk (shut_int Try.underlying3 w1) (trodAll_cons_mk (shut_string Try.underlying9 w2) (trodAll_cons_mk (Below.trod laidOut (by kernel_rfl) (of_decide_eq_true (by kernel_rfl)) k3 bel lt3) trodAll_mk0)))), rfl, bel.frame _, fun h => by cases h⟩
theorem over : Rows.fnExactMerkleCollisionRow.holds Try.pinned (OpenSpec.ofChange Rows.fnExactMerkleCollisionSpec) :=
  OpenClaim.holds_of_wide 6 Try.f6 rfl rfl rfl rfl rfl rfl rfl ⟨rfl, rfl, rfl, rfl, rfl⟩ rfl rfl rfl rfl rfl (by kernel_rfl) Try.func6 (by kernel_rfl)
    (of_decide_eq_true (by kernel_rfl)) (by unfold Func.isWrapper; first | (rw [if_pos (by decide +kernel)]; kernel_rfl) | (rw [if_neg (by decide +kernel)]; exact ⟨rfl, rfl⟩))
    (fun os started H enc _ => lifted os started H enc)
theorem proved : Rows.FnExactMerkleCollisionSaid := over
#print axioms proved
end Go.Proofs.Ytdgepneaeieogaa.fnExactMerkleCollision
