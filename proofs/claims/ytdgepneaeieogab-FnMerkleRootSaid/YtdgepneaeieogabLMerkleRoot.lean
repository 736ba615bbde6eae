/- For every code of at most 1<<20 bytes (longer ones are let pass by the law itself): MerkleRoot answers as the model's MerkleRoot, and where there is a root, PeaksRoot of MerklePeaks is it. -/
import Derived.Test.YtdgepneaeieogabRows
import Derived.Test.YtdgepneaeieogabDw
import Derived.Test.YtdgepneaeieogabMg
import Derived.Test.YtdgepneaeieogabMk
import Derived.WalkKit
import Derived.WalkSpells
import Derived.ProofKit
import Derived.OpenShut
import Derived.ShutString
import Derived.Below
import Derived.SliceStrings
namespace Go.Proofs.Ytdgepneaeieogab.fnMerkleRoot
open Go.ChangeShapes Go.WideShapes Go.ChangeAt Go.RowKit
open Go.ChangeMaps (open_string shut_string)
set_option maxRecDepth 100000 in
set_option maxHeartbeats 1600000 in
theorem walk (a0 : Option Addr) (len0 cap0 : Nat) (z0 : List Int) (w : World) (w0 : IsRow .u8 w a0 len0 cap0 z0) :
    Calls Try.prog 4 #[.slice a0 len0 cap0] w fun e w' => e = .returned (.bool true) ∧ Below w.heap.size w w' := by
  have hcm := w0.len
  by_cases h : (1048576 : Int) < (len0 : Int)
  · go_enter Try.func4, Try.ntmps4
    go_wp2
    go_ret
    exact ⟨rfl, Below.refl _ _⟩
  go_enter Try.func4, Try.ntmps4
  go_wp2_with fail
  refine (drawMerkleRoot_any a0 len0 cap0 z0 _ w0 (by omega)).mono ?_
  rintro e w1 ⟨ss, g, cp, rfl, hm, hz, hb1, hown1⟩
  clear w0
  obtain ⟨hcp1, hcp2⟩ := own_capV hown1
  have HS := Lib.hid (SR.own hown1).2
  have HZ : Hid (∀ s ∈ ss, s.size ≤ 4611686018427387904) := Lib.hid fun s hs => by have := hz s hs; omega
  obtain ⟨n, hn⟩ : ∃ n, ss.length = n := ⟨_, rfl⟩
  have HN := Lib.hid hn
  rw [hn] at hcp1 HS hm
  rw [hn]
  clear hown1 hz hn
  by_cases hok : 1 ≤ n ∧ n ≤ 32
  · have HA : Hid (Me.rootA ss = .tuple #[.int .i64 (Me.root ss), .bool true]) := Lib.hid (if_pos (by rw [HN.out]; exact hok))
    have HPR : Hid (Me.prA (Me.peaks ss) = .tuple #[.int .i64 (Me.root ss), .bool true]) := Lib.hid (Me.prA_peaks (by rw [HN.out]; exact hok.1) (by rw [HN.out]; exact hok.2))
    have HPL : Hid (Me.peaksL ss = Me.peaks ss) := Lib.hid (if_pos (by rw [HN.out]; exact hok.2))
    have HPB : Hid (Me.peaksB ss = true) := Lib.hid (decide_eq_true (by rw [HN.out]; exact hok.2))
    obtain ⟨r, HR⟩ : ∃ r, Hid (Me.root ss = r) := ⟨_, Lib.hid rfl⟩
    rw [HR.out] at HA HPR
    go_wp2_with fail
    refine (implMerkleRoot_any _ n cp ss _ HS.out hcp1 hcp2 HZ.out).mono ?_
    rw [HA.out]
    rintro e w2 ⟨rfl, hb2⟩
    have HS2 := Lib.hid (HS.out.below hb2)
    have hb12 := hb1.trans (hb2.mono hb1.size)
    clear hb1 hb2
    go_wp2_with fail
    refine (specMerkleRoot_any _ n cp ss _ HS2.out hcp1 hcp2 HZ.out).mono ?_
    rw [HA.out]
    rintro e w3 ⟨rfl, hb3⟩
    have HS3 := Lib.hid (HS2.out.below hb3)
    have hb13 := hb12.trans (hb3.mono hb12.size)
    clear hb12 hb3
    go_wp2_with fail
    refine (implMerklePeaks_any _ n cp ss _ HS3.out hcp1 hcp2 HZ.out).mono ?_
    rw [HPL.out, HPB.out]
    rintro e w4 ⟨a4, cp4, rfl, hb4, hown4⟩
    have HI4 := Lib.hid (IR.own hown4).2
    have hcc4 := own_capV hown4
    have hb14 := hb13.trans (hb4.mono hb13.size)
    obtain ⟨m, hm⟩ : ∃ m, (Me.peaks ss).length = m := ⟨_, rfl⟩
    rw [hm] at HI4 hcc4
    rw [hm]
    clear hb13 hb4 hown4 hm
    go_wp2_with fail
    refine (implPeaksRoot_any a4 m cp4 _ _ HI4.out (by omega)).mono ?_
    rw [HPR.out]
    rintro e w5 ⟨rfl, hb5⟩
    have hb15 := hb14.trans (hb5.mono hb14.size)
    clear hb14 hb5 hcc4
    go_wp2
    go_ret
    exact ⟨rfl, hb15⟩
  · have HA : Hid (Me.rootA ss = .tuple #[.int .i64 0, .bool false]) := Lib.hid (if_neg (by rw [HN.out]; exact hok))
    clear hok
    go_wp2_with fail
    refine (implMerkleRoot_any _ n cp ss _ HS.out hcp1 hcp2 HZ.out).mono ?_
    rw [HA.out]
    rintro e w2 ⟨rfl, hb2⟩
    have HS2 := Lib.hid (HS.out.below hb2)
    have hb12 := hb1.trans (hb2.mono hb1.size)
    clear hb1 hb2
    go_wp2_with fail
    refine (specMerkleRoot_any _ n cp ss _ HS2.out hcp1 hcp2 HZ.out).mono ?_
    rw [HA.out]
    rintro e w3 ⟨rfl, hb3⟩
    have hb13 := hb12.trans (hb3.mono hb12.size)
    clear hb12 hb3
    go_wp2
    go_ret
    exact ⟨rfl, hb13⟩
/-! ### The row's step. -/
theorem own : ownKnob Try.prog.godebug = none := by kernel_rfl
theorem laidOut : laidOutB Try.prog = true := by kernel_rfl
set_option maxRecDepth 100000 in
theorem lifted (os : Os) (started : os.Started) (H : Type) (enc : TypeId × Value → H) :
    ReturnsInHanded {} Try.checked os 4 .any (Rows.fnMerkleRootSpec.pre6 enc Try.prog Try.f4 Rows.fnMerkleRootRow.domain false) (Rows.fnMerkleRootSpec.post enc Try.prog Try.f4 false true false false) := by
  refine returnsInHanded_of_change (C := Try.checked) own started (by kernel_rfl) Try.func4
    (ChangeSpec.witness6 (enc := enc) (C := Try.checked) false ⟨#[], #[.slice none 0 0], []⟩ 8 (by kernel_rfl) (by kernel_rfl) (by kernel_rfl) (by kernel_rfl)) ?_
  intro W base args ds gs before hval0 hW hcnd _
  have hval : ∀ (j : Nat) t v, Try.f4.params[j]? = some t → args[j]? = some v → Value.okWide Try.prog W .any base t v := hval0
  have hW' := hW
  obtain ⟨p, q, hA0, hV, rfl, hfz, hnd⟩ := hW
  have hA : DataW.TrodAll enc Try.prog W 0 (fun _ => true) true Try.f4.params.toList args.toList ds p := hA0
  rw [Try.params4] at hA hval
  obtain ⟨v0, vs0, d0, ds0, p0, q0, hargs, rfl, rfl, h0, r0⟩ := trodAll_cons hA
  obtain ⟨rfl, rfl, rfl⟩ := trodAll_nil r0
  obtain rfl : args = #[v0] := by cases args; simp_all
  obtain ⟨rfl, rfl⟩ := trodVars_none hV
  obtain ⟨a0, len0, cap0, rfl⟩ := okWide_slice Try.underlying28 (hval 0 28 v0 rfl rfl)
  have k0 := h0
  have lt0 : ∀ x ∈ p0, x.block < W.heap.size := by obtain ⟨m, hm⟩ := k0; exact DataW.trod_lt m _ _ _ hm
  obtain ⟨z0, w0⟩ : ∃ zs, IsRow .u8 W a0 len0 cap0 zs := by
    obtain ⟨fuel, hf⟩ := h0
    rcases open_ints Try.underlying28 Try.underlying5 (by kernel_rfl) hf with ⟨hcs, _⟩ | ⟨x, l, c, zs, hcs, _, hl, hm, hz, _, hcell, hwz⟩
    · simp [Value.cells] at hcs
      obtain ⟨rfl, rfl, rfl⟩ := hcs
      exact ⟨[], .inl ⟨rfl, rfl, rfl, rfl⟩⟩
    · simp [Value.cells] at hcs
      obtain ⟨rfl, rfl, rfl⟩ := hcs
      exact ⟨zs, .inr ⟨_, rfl, hl, hm, by simpa using hz, hcell, hwz⟩⟩
  clear hA0 hval0
  refine (walk a0 len0 cap0 z0 W w0).mono fun e W' ⟨he, bel⟩ => ?_
  subst he
  exact ⟨_, rfl, _, _, _, [], _, [], hW', trodAll_mk1 (shut_bool Try.underlying4 _), (trodAll_cons_mk (Below.trod laidOut (by kernel_rfl) (of_decide_eq_true (by kernel_rfl)) k0 bel lt0) trodAll_mk0), rfl, bel.frame _, fun h => by cases h⟩
theorem over : Rows.fnMerkleRootRow.holds Try.pinned (OpenSpec.ofChange Rows.fnMerkleRootSpec) :=
  OpenClaim.holds_of_wide 4 Try.f4 rfl rfl rfl rfl rfl rfl rfl ⟨rfl, rfl, rfl, rfl, rfl⟩ rfl rfl rfl rfl rfl (by kernel_rfl) Try.func4 (by kernel_rfl)
    (of_decide_eq_true (by kernel_rfl)) (by unfold Func.isWrapper; first | (rw [if_pos (by decide +kernel)]; kernel_rfl) | (rw [if_neg (by decide +kernel)]; exact ⟨rfl, rfl⟩))
    (fun os started H enc _ => lifted os started H enc)
theorem proved : Rows.FnMerkleRootSaid := over
#print axioms proved
end Go.Proofs.Ytdgepneaeieogab.fnMerkleRoot
