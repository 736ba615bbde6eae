/- For every code of at most 1<<20 bytes (longer ones are let pass by the law itself): MerkleCheck answers as the model's MerkleCheck, and where a proof without elements shows two leaves, both have the same digest. -/
import Derived.Test.YtdgepneaeieogabRows
import Derived.Test.YtdgepneaeieogabDw
import Derived.Test.YtdgepneaeieogabMd
import Derived.Test.YtdgepneaeieogabMk
import Derived.WalkKit
import Derived.WalkSpells
import Derived.ProofKit
import Derived.OpenShut
import Derived.ShutString
import Derived.Below
import Derived.SliceStrings
namespace Go.Proofs.Ytdgepneaeieogab.fnMerkleCheck
open Go.ChangeShapes Go.WideShapes Go.ChangeAt Go.RowKit
open Go.ChangeMaps (open_string shut_string)
set_option maxRecDepth 100000 in
set_option maxHeartbeats 1600000 in
theorem walk (a0 : Option Addr) (len0 cap0 : Nat) (z0 : List Int) (w : World) (w0 : IsRow .u8 w a0 len0 cap0 z0) :
    Calls Try.prog 6 #[.slice a0 len0 cap0] w fun e w' => e = .returned (.bool true) ∧ Below w.heap.size w w' := by
  have hcm := w0.len
  by_cases h : (1048576 : Int) < (len0 : Int)
  · go_enter Try.func6, Try.ntmps6
    go_wp2
    go_ret
    exact ⟨rfl, Below.refl _ _⟩
  go_enter Try.func6, Try.ntmps6
  go_wp2_with fail
  refine (drawMerkleCheck_any a0 len0 cap0 z0 _ w0 (by omega)).mono ?_
  rintro e w1 ⟨r, n, i, s, g, cp, p, rfl, hs, hpl, hI, hcc, hb1⟩
  clear w0
  have HI := Lib.hid hI
  obtain ⟨m, hm⟩ : ∃ m, p.length = m := ⟨_, rfl⟩
  have HM := Lib.hid hm
  rw [hm] at HI hcc hpl
  rw [hm]
  clear hI hm
  go_wp2_with fail
  refine (implMerkleCheck_any r n i s _ m cp p _ (by omega) HI.out hcc.1 hcc.2).mono ?_
  rintro e w2 ⟨b2, rfl, hg2, hb2⟩
  have HI2 := Lib.hid (HI.out.below hb2)
  have hb12 := hb1.trans (hb2.mono hb1.size)
  clear hb1 hb2
  go_wp2_with fail
  refine (specMerkleCheck_any r n i s _ m cp p _ (by omega) HI2.out hcc.1 hcc.2).mono ?_
  rintro e w3 ⟨b3, rfl, hg3, hb3⟩
  have hbb : b3 = b2 := by rw [Bool.eq_iff_iff, hg2, hg3]
  subst hbb
  have HI3 := Lib.hid (HI2.out.below hb3)
  have hb13 := hb12.trans (hb3.mono hb12.size)
  clear hb12 hb3 hg3
  cases b3
  · clear hg2
    go_wp2
    go_ret
    exact ⟨rfl, hb13⟩
  · have HG1 := Lib.hid (hg2.1 rfl)
    obtain ⟨u, HU⟩ : ∃ u, Hid (s ++ (⟨#[120]⟩ : ByteArray) = u) := ⟨_, Lib.hid rfl⟩
    have hu : u.size ≤ 41 := by rw [← HU.out, ByteArray.size_append]; have : (⟨#[120]⟩ : ByteArray).size = 1 := rfl; omega
    have hadd : ∀ W, (Op.stringOp .add s (⟨#[120]⟩ : ByteArray)).run Try.prog W = .ok (.string u) W := fun W => by
      rw [← HU.out]; exact run_string_add_sum (P := Try.prog) W _ _ (by have : (⟨#[120]⟩ : ByteArray).size = 1 := rfl; omega)
    clear hg2
    go_wp2_with fail
    refine (implMerkleCheck_any r n i u _ m cp p _ (by omega) HI3.out hcc.1 hcc.2).mono ?_
    rintro e w4 ⟨b4, rfl, hg4, hb4⟩
    have hb14 := hb13.trans (hb4.mono hb13.size)
    clear hb13 hb4 hadd
    cases b4
    · clear hg4
      go_wp2
      go_ret
      exact ⟨rfl, hb14⟩
    · have HG4 := Lib.hid (hg4.1 rfl)
      have hl1 : ∀ W, (Op.stringOp .add (⟨#[0]⟩ : ByteArray) s).run Try.prog W = .ok (.string (Me.leaf s)) W :=
        fun W => run_string_add_sum (P := Try.prog) W _ _ (by have : (⟨#[0]⟩ : ByteArray).size = 1 := rfl; omega)
      have hl2 : ∀ W, (Op.stringOp .add (⟨#[0]⟩ : ByteArray) u).run Try.prog W = .ok (.string (Me.leaf u)) W :=
        fun W => run_string_add_sum (P := Try.prog) W _ _ (by have : (⟨#[0]⟩ : ByteArray).size = 1 := rfl; omega)
      have hls := Me.leaf_size s
      have hlu := Me.leaf_size u
      obtain ⟨t1, HT1⟩ : ∃ t, Hid (Me.leaf s = t) := ⟨_, Lib.hid rfl⟩
      obtain ⟨t2, HT2⟩ : ∃ t, Hid (Me.leaf u = t) := ⟨_, Lib.hid rfl⟩
      rw [HT1.out] at hl1 hls
      rw [HT2.out] at hl2 hlu
      have HEQ : Hid (m = 0 → Dg.of t1 = Dg.of t2) := Lib.hid fun h0 => by
        rw [← HT1.out, ← HT2.out, Me.good_nil HG1.out (by rw [HM.out]; exact h0), Me.good_nil HG4.out (by rw [HM.out]; exact h0)]
      clear hg4
      go_wp2_with fail
      refine (implDigest_any t1 _ (by omega)).mono ?_
      rintro e w5 ⟨rfl, hb5⟩
      have hb15 := hb14.trans (hb5.mono hb14.size)
      clear hb14 hb5
      go_wp2_with fail
      refine (implDigest_any t2 _ (by omega)).mono ?_
      rintro e w6 ⟨rfl, hb6⟩
      have hb16 := hb15.trans (hb6.mono hb15.size)
      clear hb15 hb6 hl1 hl2
      obtain ⟨d1, HD1⟩ : ∃ d, Hid (Dg.of t1 = d) := ⟨_, Lib.hid rfl⟩
      obtain ⟨d2, HD2⟩ : ∃ d, Hid (Dg.of t2 = d) := ⟨_, Lib.hid rfl⟩
      rw [HD1.out, HD2.out] at HEQ
      rw [HD1.out, HD2.out]
      by_cases hd : d1 = d2
      · have hd' : (d1 == d2) = true := by simpa using hd
        clear hd
        go_wp2
        go_ret
        exact ⟨rfl, hb16⟩
      · have hd' : (d1 == d2) = false := by simpa using hd
        have hm0 : (0 : Int) < (m : Int) := by
          rcases Nat.eq_zero_or_pos m with h | h
          · exact absurd (HEQ.out h) hd
          · omega
        clear hd
        go_wp2
        go_ret
        exact ⟨congrArg Ending.returned (congrArg Value.bool (decide_eq_true (by omega))), hb16⟩
/-! ### The row's step. -/
theorem own : ownKnob Try.prog.godebug = none := by kernel_rfl
theorem laidOut : laidOutB Try.prog = true := by kernel_rfl
set_option maxRecDepth 100000 in
theorem lifted (os : Os) (started : os.Started) (H : Type) (enc : TypeId × Value → H) :
    ReturnsInHanded {} Try.checked os 6 .any (Rows.fnMerkleCheckSpec.pre6 enc Try.prog Try.f6 Rows.fnMerkleCheckRow.domain false) (Rows.fnMerkleCheckSpec.post enc Try.prog Try.f6 false true false false) := by
  refine returnsInHanded_of_change (C := Try.checked) own started (by kernel_rfl) Try.func6
    (ChangeSpec.witness6 (enc := enc) (C := Try.checked) false ⟨#[], #[.slice none 0 0], []⟩ 8 (by kernel_rfl) (by kernel_rfl) (by kernel_rfl) (by kernel_rfl)) ?_
  intro W base args ds gs before hval0 hW hcnd _
  have hval : ∀ (j : Nat) t v, Try.f6.params[j]? = some t → args[j]? = some v → Value.okWide Try.prog W .any base t v := hval0
  have hW' := hW
  obtain ⟨p, q, hA0, hV, rfl, hfz, hnd⟩ := hW
  have hA : DataW.TrodAll enc Try.prog W 0 (fun _ => true) true Try.f6.params.toList args.toList ds p := hA0
  rw [Try.params6] at hA hval
  obtain ⟨v0, vs0, d0, ds0, p0, q0, hargs, rfl, rfl, h0, r0⟩ := trodAll_cons hA
  obtain ⟨rfl, rfl, rfl⟩ := trodAll_nil r0
  obtain rfl : args = #[v0] := by cases args; simp_all
  obtain ⟨rfl, rfl⟩ := trodVars_none hV
  obtain ⟨a0, len0, cap0, rfl⟩ := okWide_slice Try.underlying28 (hval 0 28 v0 rfl rfl)
  have k0 := h0
  have lt0 : ∀ x ∈ p0, x.block < W.heap.size := by obtain ⟨m, hm⟩ := k0; exact DataW.trod_lt m _ _ _ hm
  obtain ⟨z0, w0⟩ : ∃ zs, IsRow .u8 W a0 len0 cap0 zs := by
    obtain ⟨fuel, hf⟩ := h0
    rcases open_ints Try.underlying28 Try.underlying5 (by kernel_rfl) hf with ⟨hcs, _⟩ | ⟨x, l, c, zs, hcs, _, hl, hm, hz, _, hcell, hwz⟩
    · simp [Value.cells] at hcs
      obtain ⟨rfl, rfl, rfl⟩ := hcs
      exact ⟨[], .inl ⟨rfl, rfl, rfl, rfl⟩⟩
    · simp [Value.cells] at hcs
      obtain ⟨rfl, rfl, rfl⟩ := hcs
      exact ⟨zs, .inr ⟨_, rfl, hl, hm, by simpa using hz, hcell, hwz⟩⟩
  clear hA0 hval0
  refine (walk a0 len0 cap0 z0 W w0).mono fun e W' ⟨he, bel⟩ => ?_
  subst he
  exact ⟨_, rfl, _, _, _, [], _, [], hW', trodAll_mk1 (shut_bool Try.underlying4 _), (trodAll_cons_mk (Below.trod laidOut (by kernel_rfl) (of_decide_eq_true (by kernel_rfl)) k0 bel lt0) trodAll_mk0), rfl, bel.frame _, fun h => by cases h⟩
theorem over : Rows.fnMerkleCheckRow.holds Try.pinned (OpenSpec.ofChange Rows.fnMerkleCheckSpec) :=
  OpenClaim.holds_of_wide 6 Try.f6 rfl rfl rfl rfl rfl rfl rfl ⟨rfl, rfl, rfl, rfl, rfl⟩ rfl rfl rfl rfl rfl (by kernel_rfl) Try.func6 (by kernel_rfl)
    (of_decide_eq_true (by kernel_rfl)) (by unfold Func.isWrapper; first | (rw [if_pos (by decide +kernel)]; kernel_rfl) | (rw [if_neg (by decide +kernel)]; exact ⟨rfl, rfl⟩))
    (fun os started H enc _ => lifted os started H enc)
theorem proved : Rows.FnMerkleCheckSaid := over
#print axioms proved
end Go.Proofs.Ytdgepneaeieogab.fnMerkleCheck
