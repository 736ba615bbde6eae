/- For every code of at most 1<<20 bytes (longer ones are let pass by the law itself): MerkleCollision answers as the model's MerkleCollision, and both strings of a collision differ and have the same digest. -/
import Derived.Test.YtdgepneaeieogabRows
import Derived.Test.YtdgepneaeieogabDw
import Derived.Test.YtdgepneaeieogabMf
import Derived.Test.YtdgepneaeieogabMk
import Derived.WalkKit
import Derived.WalkSpells
import Derived.ProofKit
import Derived.OpenShut
import Derived.ShutString
import Derived.Below
import Derived.SliceStrings
namespace Go.Proofs.Ytdgepneaeieogab.fnMerkleCollision
open Go.ChangeShapes Go.WideShapes Go.ChangeAt Go.RowKit
open Go.ChangeMaps (open_string shut_string)
set_option maxRecDepth 100000 in
set_option maxHeartbeats 1600000 in
theorem walk (a0 : Option Addr) (len0 cap0 : Nat) (z0 : List Int) (w : World) (w0 : IsRow .u8 w a0 len0 cap0 z0) :
    Calls Try.prog 7 #[.slice a0 len0 cap0] w fun e w' => e = .returned (.bool true) ∧ Below w.heap.size w w' := by
  have hcm := w0.len
  by_cases h : (1048576 : Int) < (len0 : Int)
  · go_enter Try.func7, Try.ntmps7
    go_wp2
    go_ret
    exact ⟨rfl, Below.refl _ _⟩
  go_enter Try.func7, Try.ntmps7
  go_wp2_with fail
  refine (drawMerkleCollision_any a0 len0 cap0 z0 _ w0 (by omega)).mono ?_
  rintro e w1 ⟨ss, g, cp, i, s, g', cp', p, rfl, h1, h2, hz, hs, hi0, hi1, hpl, hS, hcc, hI, hcc', hb1⟩
  clear w0
  have HS := Lib.hid hS
  have HI := Lib.hid hI
  have HZ : Hid (∀ s ∈ ss, s.size ≤ 4611686018427387904) := Lib.hid fun s hs => by have := hz s hs; omega
  have HZ3 : Hid (∀ s ∈ ss, s.size ≤ 4611686018427387000) := Lib.hid fun s hs => by have := hz s hs; omega
  obtain ⟨m, hm⟩ : ∃ m, p.length = m := ⟨_, rfl⟩
  obtain ⟨n, hn⟩ : ∃ n, ss.length = n := ⟨_, rfl⟩
  have HN := Lib.hid hn
  rw [hm] at HI hcc' hpl
  rw [hn] at HS hcc h1 h2
  rw [hm, hn]
  clear hI hS hm hn hz
  by_cases hok : Me.colOk ss i s p
  · have HA := Lib.hid (Me.colA_yes hok)
    obtain ⟨hg1, hg2, hg3⟩ := hok
    have hj0 : 0 ≤ i := hg2.2.1.1
    obtain ⟨j, rfl⟩ := Int.eq_ofNat_of_zero_le hj0
    rw [Int.toNat_natCast] at HA hg3
    have hjn : j < ss.length := by have := hg2.2.1.2; omega
    have hlen : p.length = Me.steps ss.length j := by have := hg2.2.2.2.1; rw [Int.toNat_natCast, Int.toNat_natCast] at this; exact this
    have hdg : Dg.of (Me.told ss.length j s p) = Dg.of (Me.str ss) := by have := hg2.2.2.2.2; rw [Int.toNat_natCast, Int.toNat_natCast] at this; exact this
    obtain ⟨hx, hy⟩ := Me.clash_meets ss.length ss j s p rfl hg1.1 hjn hlen hg2.2.2.1 hdg (fun h => hg3 h.symm)
    have hsz1 : (Me.clash ss j s p).1.size ≤ 4611686018427387904 ∧ (Me.clash ss j s p).2.size ≤ 4611686018427387904 := by
      obtain ⟨k, _, _, _, hc⟩ := Me.path_clash ss.length ss j s p rfl hg1.1 hjn (fun h => hg3 h.symm)
      have key : ∀ (l : List ByteArray) (M : Nat), (∀ t ∈ l, t.size ≤ M) → ∀ k, (l.getD k ByteArray.empty).size ≤ M := fun l M h k => by
        rcases Nat.lt_or_ge k l.length with hk | hk
        · exact h _ (getD_mem hk)
        · rw [List.getD_eq_getElem?_getD, List.getElem?_eq_none hk]
          exact Nat.zero_le _
      have hzj := HZ3.out _ (getD_mem (ss := ss) (i := j) hjn)
      rw [hc]
      refine ⟨?_, ?_⟩
      · have := key _ _ (Me.path_sizes ss.length j s p) k
        simp only []
        omega
      · have := key _ _ (Me.path_sizes ss.length j (ss.getD j ByteArray.empty) (Me.proof ss j)) k
        simp only []
        omega
    obtain ⟨c1, HC1⟩ : ∃ c, Hid ((Me.clash ss j s p).1 = c) := ⟨_, Lib.hid rfl⟩
    obtain ⟨c2, HC2⟩ : ∃ c, Hid ((Me.clash ss j s p).2 = c) := ⟨_, Lib.hid rfl⟩
    rw [HC1.out, HC2.out] at HA hx hy hsz1
    obtain ⟨hsa, hsb⟩ := hsz1
    have HY := Lib.hid hy.symm
    have hq1 : (c1.toList == c1.toList) = true := by simp
    have hq2 : (c2.toList == c2.toList) = true := by simp
    have hq3 := ba_ne hx
    clear hg1 hg2 hg3 hlen hdg hx hy
    go_wp2_with fail
    refine (implMerkleCollision_any _ n cp ss j s _ m cp' p _ HS.out hcc.1 hcc.2 HZ3.out (by omega) HI.out hcc'.1 hcc'.2).mono ?_
    rw [HA.out]
    rintro e w2 ⟨rfl, hb2⟩
    have HS2 := Lib.hid (HS.out.below hb2)
    have HI2 := Lib.hid (HI.out.below hb2)
    have hb12 := hb1.trans (hb2.mono hb1.size)
    clear hb1 hb2
    go_wp2_with fail
    refine (specMerkleCollision_any _ n cp ss j s _ m cp' p _ HS2.out hcc.1 hcc.2 HZ.out (by omega) HI2.out hcc'.1 hcc'.2).mono ?_
    rw [HA.out]
    rintro e w3 ⟨rfl, hb3⟩
    have hb13 := hb12.trans (hb3.mono hb12.size)
    clear hb12 hb3
    go_wp2_with fail
    refine (implDigest_any c1 _ (by omega)).mono ?_
    rintro e w4 ⟨rfl, hb4⟩
    have hb14 := hb13.trans (hb4.mono hb13.size)
    clear hb13 hb4
    go_wp2_with fail
    refine (implDigest_any c2 _ (by omega)).mono ?_
    rw [HY.out]
    rintro e w5 ⟨rfl, hb5⟩
    have hb15 := hb14.trans (hb5.mono hb14.size)
    clear hb14 hb5
    obtain ⟨d, HD⟩ : ∃ d, Hid (Dg.of c1 = d) := ⟨_, Lib.hid rfl⟩
    rw [HD.out]
    go_wp2
    go_ret
    exact ⟨rfl, hb15⟩
  · have HA := Lib.hid (Me.colA_no hok)
    clear hok
    go_wp2_with fail
    refine (implMerkleCollision_any _ n cp ss i s _ m cp' p _ HS.out hcc.1 hcc.2 HZ3.out (by omega) HI.out hcc'.1 hcc'.2).mono ?_
    rw [HA.out]
    rintro e w2 ⟨rfl, hb2⟩
    have HS2 := Lib.hid (HS.out.below hb2)
    have HI2 := Lib.hid (HI.out.below hb2)
    have hb12 := hb1.trans (hb2.mono hb1.size)
    clear hb1 hb2
    go_wp2_with fail
    refine (specMerkleCollision_any _ n cp ss i s _ m cp' p _ HS2.out hcc.1 hcc.2 HZ.out (by omega) HI2.out hcc'.1 hcc'.2).mono ?_
    rw [HA.out]
    rintro e w3 ⟨rfl, hb3⟩
    have hb13 := hb12.trans (hb3.mono hb12.size)
    clear hb12 hb3
    go_wp2
    go_ret
    exact ⟨rfl, hb13⟩
/-! ### The row's step. -/
theorem own : ownKnob Try.prog.godebug = none := by kernel_rfl
theorem laidOut : laidOutB Try.prog = true := by kernel_rfl
set_option maxRecDepth 100000 in
theorem lifted (os : Os) (started : os.Started) (H : Type) (enc : TypeId × Value → H) :
    ReturnsInHanded {} Try.checked os 7 .any (Rows.fnMerkleCollisionSpec.pre6 enc Try.prog Try.f7 Rows.fnMerkleCollisionRow.domain false) (Rows.fnMerkleCollisionSpec.post enc Try.prog Try.f7 false true false false) := by
  refine returnsInHanded_of_change (C := Try.checked) own started (by kernel_rfl) Try.func7
    (ChangeSpec.witness6 (enc := enc) (C := Try.checked) false ⟨#[], #[.slice none 0 0], []⟩ 8 (by kernel_rfl) (by kernel_rfl) (by kernel_rfl) (by kernel_rfl)) ?_
  intro W base args ds gs before hval0 hW hcnd _
  have hval : ∀ (j : Nat) t v, Try.f7.params[j]? = some t → args[j]? = some v → Value.okWide Try.prog W .any base t v := hval0
  have hW' := hW
  obtain ⟨p, q, hA0, hV, rfl, hfz, hnd⟩ := hW
  have hA : DataW.TrodAll enc Try.prog W 0 (fun _ => true) true Try.f7.params.toList args.toList ds p := hA0
  rw [Try.params7] at hA hval
  obtain ⟨v0, vs0, d0, ds0, p0, q0, hargs, rfl, rfl, h0, r0⟩ := trodAll_cons hA
  obtain ⟨rfl, rfl, rfl⟩ := trodAll_nil r0
  obtain rfl : args = #[v0] := by cases args; simp_all
  obtain ⟨rfl, rfl⟩ := trodVars_none hV
  obtain ⟨a0, len0, cap0, rfl⟩ := okWide_slice Try.underlying28 (hval 0 28 v0 rfl rfl)
  have k0 := h0
  have lt0 : ∀ x ∈ p0, x.block < W.heap.size := by obtain ⟨m, hm⟩ := k0; exact DataW.trod_lt m _ _ _ hm
  obtain ⟨z0, w0⟩ : ∃ zs, IsRow .u8 W a0 len0 cap0 zs := by
    obtain ⟨fuel, hf⟩ := h0
    rcases open_ints Try.underlying28 Try.underlying5 (by kernel_rfl) hf with ⟨hcs, _⟩ | ⟨x, l, c, zs, hcs, _, hl, hm, hz, _, hcell, hwz⟩
    · simp [Value.cells] at hcs
      obtain ⟨rfl, rfl, rfl⟩ := hcs
      exact ⟨[], .inl ⟨rfl, rfl, rfl, rfl⟩⟩
    · simp [Value.cells] at hcs
      obtain ⟨rfl, rfl, rfl⟩ := hcs
      exact ⟨zs, .inr ⟨_, rfl, hl, hm, by simpa using hz, hcell, hwz⟩⟩
  clear hA0 hval0
  refine (walk a0 len0 cap0 z0 W w0).mono fun e W' ⟨he, bel⟩ => ?_
  subst he
  exact ⟨_, rfl, _, _, _, [], _, [], hW', trodAll_mk1 (shut_bool Try.underlying4 _), (trodAll_cons_mk (Below.trod laidOut (by kernel_rfl) (of_decide_eq_true (by kernel_rfl)) k0 bel lt0) trodAll_mk0), rfl, bel.frame _, fun h => by cases h⟩
theorem over : Rows.fnMerkleCollisionRow.holds Try.pinned (OpenSpec.ofChange Rows.fnMerkleCollisionSpec) :=
  OpenClaim.holds_of_wide 7 Try.f7 rfl rfl rfl rfl rfl rfl rfl ⟨rfl, rfl, rfl, rfl, rfl⟩ rfl rfl rfl rfl rfl (by kernel_rfl) Try.func7 (by kernel_rfl)
    (of_decide_eq_true (by kernel_rfl)) (by unfold Func.isWrapper; first | (rw [if_pos (by decide +kernel)]; kernel_rfl) | (rw [if_neg (by decide +kernel)]; exact ⟨rfl, rfl⟩))
    (fun os started H enc _ => lifted os started H enc)
theorem proved : Rows.FnMerkleCollisionSaid := over
#print axioms proved
end Go.Proofs.Ytdgepneaeieogab.fnMerkleCollision
