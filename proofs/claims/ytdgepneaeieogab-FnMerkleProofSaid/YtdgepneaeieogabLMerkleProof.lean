/- For every code of at most 1<<20 bytes (longer ones are let pass by the law itself): MerkleProof answers as the model's MerkleProof, and each proof is accepted by MerkleCheck for the list's root. -/
import Derived.Test.YtdgepneaeieogabRows
import Derived.Test.YtdgepneaeieogabDw
import Derived.Test.YtdgepneaeieogabMd
import Derived.Test.YtdgepneaeieogabMk
import Derived.WalkKit
import Derived.WalkSpells
import Derived.ProofKit
import Derived.OpenShut
import Derived.ShutString
import Derived.Below
import Derived.SliceStrings
namespace Go.Proofs.Ytdgepneaeieogab.fnMerkleProof
open Go.ChangeShapes Go.WideShapes Go.ChangeAt Go.RowKit
open Go.ChangeMaps (open_string shut_string)
set_option maxRecDepth 100000 in
set_option maxHeartbeats 1600000 in
theorem walk (a0 : Option Addr) (len0 cap0 : Nat) (z0 : List Int) (w : World) (w0 : IsRow .u8 w a0 len0 cap0 z0) :
    Calls Try.prog 5 #[.slice a0 len0 cap0] w fun e w' => e = .returned (.bool true) ∧ Below w.heap.size w w' := by
  have hcm := w0.len
  by_cases h : (1048576 : Int) < (len0 : Int)
  · go_enter Try.func5, Try.ntmps5
    go_wp2
    go_ret
    exact ⟨rfl, Below.refl _ _⟩
  go_enter Try.func5, Try.ntmps5
  go_wp2_with fail
  refine (drawMerkleProof_any a0 len0 cap0 z0 _ w0 (by omega)).mono ?_
  rintro e w1 ⟨ss, g, cp, i, rfl, hm, hz, hi0, hi1, hb1, hown1⟩
  clear w0
  obtain ⟨hcp1, hcp2⟩ := own_capV hown1
  have HS := Lib.hid (SR.own hown1).2
  have HZ : Hid (∀ s ∈ ss, s.size ≤ 4611686018427387904) := Lib.hid fun s hs => by have := hz s hs; omega
  have HZ' := Lib.hid hz
  have hplen : (Me.proofL ss i).length ≤ 64 := by
    unfold Me.proofL
    split
    · rename_i h
      have h1 := Me.steps_le ss.length i.toNat
      have h2 := (Me.told_proof ss.length ss i.toNat rfl (by have := h.2; omega)).2
      omega
    · exact Nat.zero_le _
  obtain ⟨n, hn⟩ : ∃ n, ss.length = n := ⟨_, rfl⟩
  have HN := Lib.hid hn
  rw [hn] at hcp1 HS hm
  rw [hn]
  clear hown1 hz hn
  by_cases hok : Me.proofOk ss i
  · have hn2 := hok.2
    have hn1 := hok.1
    rw [HN.out] at hn1 hn2
    obtain ⟨j, rfl⟩ := Int.eq_ofNat_of_zero_le hn2.1
    have hjn : j < n := by omega
    have HPL : Hid (Me.proofL ss (j : Int) = Me.proof ss j) := Lib.hid (by
      have : Me.proofL ss (j : Int) = Me.proof ss ((j : Int).toNat) := if_pos hok
      rw [Int.toNat_natCast] at this
      exact this)
    have HPB : Hid (Me.proofB ss (j : Int) = true) := Lib.hid (decide_eq_true hok)
    have HA : Hid (Me.rootA ss = .tuple #[.int .i64 (Me.root ss), .bool true]) := Lib.hid (if_pos (by rw [HN.out]; exact hn1))
    have HG : Hid (Me.good (Me.root ss) (n : Int) (j : Int) (ss.getD j ByteArray.empty) (Me.proof ss j)) := Lib.hid (by
      have := Me.good_proof (l := ss) (i := j) (by rw [HN.out]; exact hn1.1) (by rw [HN.out]; omega) (by rw [HN.out]; exact hjn)
      rw [HN.out] at this
      exact this)
    obtain ⟨r, HR⟩ : ∃ r, Hid (Me.root ss = r) := ⟨_, Lib.hid rfl⟩
    rw [HR.out] at HA HG
    rw [HPL.out] at hplen
    obtain ⟨p, HPP⟩ : ∃ p, Hid (Me.proof ss j = p) := ⟨_, Lib.hid rfl⟩
    rw [HPP.out] at HPL HG hplen
    have hlz := HZ'.out _ (getD_mem (ss := ss) (i := j) (by have := HN.out; omega))
    obtain ⟨t, HT⟩ : ∃ t, Hid (ss.getD j ByteArray.empty = t) := ⟨_, Lib.hid rfl⟩
    rw [HT.out] at HG hlz
    obtain ⟨m, hm2⟩ : ∃ m, p.length = m := ⟨_, rfl⟩
    have HM := Lib.hid hm2
    clear hok hm2
    go_wp2_with fail
    refine (implMerkleProof_any _ n cp ss _ _ HS.out hcp1 hcp2 HZ.out).mono ?_
    rw [HPL.out, HPB.out]
    rintro e w2 ⟨a2, cp2, rfl, hb2, hown2⟩
    have HI2 := Lib.hid (IR.own hown2).2
    have hcc2 := own_capV hown2
    have HS2 := Lib.hid (HS.out.below hb2)
    have hb12 := hb1.trans (hb2.mono hb1.size)
    clear hb1 hb2 hown2
    go_wp2_with fail
    refine (specMerkleProof_any _ n cp ss _ _ HS2.out hcp1 hcp2 HZ.out).mono ?_
    rw [HPL.out, HPB.out]
    rintro e w3 ⟨a3, cp3, rfl, hb3, hown3⟩
    have HI3 := Lib.hid (IR.own hown3).2
    have HI23 := Lib.hid (HI2.out.below hb3)
    have HS3 := Lib.hid (HS2.out.below hb3)
    have hb13 := hb12.trans (hb3.mono hb12.size)
    rw [HM.out] at HI3 HI23 hcc2 hplen
    rw [HM.out]
    clear hb12 hb3 hown3
    go_wp2_with fail
    refine (wcInts_any a2 a3 m cp2 cp3 p _ HI23.out HI3.out (by omega)).mono ?_
    rintro e w4 ⟨rfl, hb4⟩
    have HI24 := Lib.hid (HI23.out.below hb4)
    have HS4 := Lib.hid (HS3.out.below hb4)
    have hb14 := hb13.trans (hb4.mono hb13.size)
    clear hb13 hb4
    go_wp2_with fail
    refine (implMerkleRoot_any _ n cp ss _ HS4.out hcp1 hcp2 HZ.out).mono ?_
    rw [HA.out]
    rintro e w5 ⟨rfl, hb5⟩
    have HI25 := Lib.hid (HI24.out.below hb5)
    have HS5 := Lib.hid (HS4.out.below hb5)
    have hb15 := hb14.trans (hb5.mono hb14.size)
    have hcj : w5.cell? ⟨g, j, none⟩ = some (.string t) := by
      obtain ⟨b', off', he, _, hc⟩ := HS5.out.2 (by omega)
      cases he
      have := hc j hjn
      rw [Nat.zero_add, HT.out] at this
      exact this
    clear hb14 hb5
    go_wp2_with fail
    refine (implMerkleCheck_any r n j t a2 m cp2 p _ (by omega) HI25.out hcc2.1 hcc2.2).mono ?_
    rintro e w6 ⟨b6, rfl, hg6, hb6⟩
    obtain rfl : b6 = true := hg6.2 HG.out
    have hb16 := hb15.trans (hb6.mono hb15.size)
    clear hg6 hb6 hb15 hcj
    go_wp2
    go_ret
    exact ⟨rfl, hb16⟩
  · have HPL : Hid (Me.proofL ss i = []) := Lib.hid (if_neg hok)
    have HPB : Hid (Me.proofB ss i = false) := Lib.hid (decide_eq_false hok)
    clear hok
    go_wp2_with fail
    refine (implMerkleProof_any _ n cp ss _ _ HS.out hcp1 hcp2 HZ.out).mono ?_
    rw [HPL.out, HPB.out]
    rintro e w2 ⟨a2, cp2, rfl, hb2, hown2⟩
    have HI2 := Lib.hid (IR.own hown2).2
    have HS2 := Lib.hid (HS.out.below hb2)
    have hb12 := hb1.trans (hb2.mono hb1.size)
    clear hb1 hb2 hown2
    go_wp2_with fail
    refine (specMerkleProof_any _ n cp ss _ _ HS2.out hcp1 hcp2 HZ.out).mono ?_
    rw [HPL.out, HPB.out]
    rintro e w3 ⟨a3, cp3, rfl, hb3, hown3⟩
    have HI3 := Lib.hid (IR.own hown3).2
    have HI23 := Lib.hid (HI2.out.below hb3)
    have hb13 := hb12.trans (hb3.mono hb12.size)
    clear hb12 hb3 hown3
    go_wp2_with fail
    refine (wcInts_any a2 a3 0 cp2 cp3 [] _ HI23.out HI3.out (by omega)).mono ?_
    rintro e w4 ⟨rfl, hb4⟩
    have hb14 := hb13.trans (hb4.mono hb13.size)
    clear hb13 hb4
    go_wp2
    go_ret
    exact ⟨rfl, hb14⟩
/-! ### The row's step. -/
theorem own : ownKnob Try.prog.godebug = none := by kernel_rfl
theorem laidOut : laidOutB Try.prog = true := by kernel_rfl
set_option maxRecDepth 100000 in
theorem lifted (os : Os) (started : os.Started) (H : Type) (enc : TypeId × Value → H) :
    ReturnsInHanded {} Try.checked os 5 .any (Rows.fnMerkleProofSpec.pre6 enc Try.prog Try.f5 Rows.fnMerkleProofRow.domain false) (Rows.fnMerkleProofSpec.post enc Try.prog Try.f5 false true false false) := by
  refine returnsInHanded_of_change (C := Try.checked) own started (by kernel_rfl) Try.func5
    (ChangeSpec.witness6 (enc := enc) (C := Try.checked) false ⟨#[], #[.slice none 0 0], []⟩ 8 (by kernel_rfl) (by kernel_rfl) (by kernel_rfl) (by kernel_rfl)) ?_
  intro W base args ds gs before hval0 hW hcnd _
  have hval : ∀ (j : Nat) t v, Try.f5.params[j]? = some t → args[j]? = some v → Value.okWide Try.prog W .any base t v := hval0
  have hW' := hW
  obtain ⟨p, q, hA0, hV, rfl, hfz, hnd⟩ := hW
  have hA : DataW.TrodAll enc Try.prog W 0 (fun _ => true) true Try.f5.params.toList args.toList ds p := hA0
  rw [Try.params5] at hA hval
  obtain ⟨v0, vs0, d0, ds0, p0, q0, hargs, rfl, rfl, h0, r0⟩ := trodAll_cons hA
  obtain ⟨rfl, rfl, rfl⟩ := trodAll_nil r0
  obtain rfl : args = #[v0] := by cases args; simp_all
  obtain ⟨rfl, rfl⟩ := trodVars_none hV
  obtain ⟨a0, len0, cap0, rfl⟩ := okWide_slice Try.underlying28 (hval 0 28 v0 rfl rfl)
  have k0 := h0
  have lt0 : ∀ x ∈ p0, x.block < W.heap.size := by obtain ⟨m, hm⟩ := k0; exact DataW.trod_lt m _ _ _ hm
  obtain ⟨z0, w0⟩ : ∃ zs, IsRow .u8 W a0 len0 cap0 zs := by
    obtain ⟨fuel, hf⟩ := h0
    rcases open_ints Try.underlying28 Try.underlying5 (by kernel_rfl) hf with ⟨hcs, _⟩ | ⟨x, l, c, zs, hcs, _, hl, hm, hz, _, hcell, hwz⟩
    · simp [Value.cells] at hcs
      obtain ⟨rfl, rfl, rfl⟩ := hcs
      exact ⟨[], .inl ⟨rfl, rfl, rfl, rfl⟩⟩
    · simp [Value.cells] at hcs
      obtain ⟨rfl, rfl, rfl⟩ := hcs
      exact ⟨zs, .inr ⟨_, rfl, hl, hm, by simpa using hz, hcell, hwz⟩⟩
  clear hA0 hval0
  refine (walk a0 len0 cap0 z0 W w0).mono fun e W' ⟨he, bel⟩ => ?_
  subst he
  exact ⟨_, rfl, _, _, _, [], _, [], hW', trodAll_mk1 (shut_bool Try.underlying4 _), (trodAll_cons_mk (Below.trod laidOut (by kernel_rfl) (of_decide_eq_true (by kernel_rfl)) k0 bel lt0) trodAll_mk0), rfl, bel.frame _, fun h => by cases h⟩
theorem over : Rows.fnMerkleProofRow.holds Try.pinned (OpenSpec.ofChange Rows.fnMerkleProofSpec) :=
  OpenClaim.holds_of_wide 5 Try.f5 rfl rfl rfl rfl rfl rfl rfl ⟨rfl, rfl, rfl, rfl, rfl⟩ rfl rfl rfl rfl rfl (by kernel_rfl) Try.func5 (by kernel_rfl)
    (of_decide_eq_true (by kernel_rfl)) (by unfold Func.isWrapper; first | (rw [if_pos (by decide +kernel)]; kernel_rfl) | (rw [if_neg (by decide +kernel)]; exact ⟨rfl, rfl⟩))
    (fun os started H enc _ => lifted os started H enc)
theorem proved : Rows.FnMerkleProofSaid := over
#print axioms proved
end Go.Proofs.Ytdgepneaeieogab.fnMerkleProof
