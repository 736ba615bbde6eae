/- For every code of at most 1<<20 bytes (longer ones are let pass by the law itself): MerkleRoot answers as the model's MerkleRoot, and where a proof is accepted for a list's root, MerkleCollision finds a collision just if the leaf is not the list's. -/
import Derived.Test.YtdgepneaeieogacRows
import Derived.Test.YtdgepneaeieogacDw
import Derived.Test.YtdgepneaeieogacMf
import Derived.Test.YtdgepneaeieogacMk
import Derived.WalkKit
import Derived.WalkSpells
import Derived.ProofKit
import Derived.OpenShut
import Derived.ShutString
import Derived.Below
import Derived.SliceStrings
namespace Go.Proofs.Ytdgepneaeieogac.fnMerkleBinds
open Go.ChangeShapes Go.WideShapes Go.ChangeAt Go.RowKit
open Go.ChangeMaps (open_string shut_string)
theorem clash_sizes (ss : List ByteArray) (i : Nat) (s : ByteArray) (p : List Int) (h1 : 1 ≤ ss.length) (hi : i < ss.length) (hs : s.size ≤ 40) (hz : ∀ t ∈ ss, t.size ≤ 40) (hne : s ≠ ss.getD i ByteArray.empty) :
    (Me.clash ss i s p).1.size ≤ 100 ∧ (Me.clash ss i s p).2.size ≤ 100 := by
  obtain ⟨k, _, _, _, hc⟩ := Me.path_clash ss.length ss i s p rfl h1 hi hne
  have key : ∀ (l : List ByteArray) (M : Nat), (∀ t ∈ l, t.size ≤ M) → ∀ k, (l.getD k ByteArray.empty).size ≤ M := fun l M h k => by
    rcases Nat.lt_or_ge k l.length with hk | hk
    · exact h _ (getD_mem hk)
    · rw [List.getD_eq_getElem?_getD, List.getElem?_eq_none hk]
      exact Nat.zero_le _
  have hzj := hz _ (getD_mem (ss := ss) (i := i) hi)
  rw [hc]
  refine ⟨?_, ?_⟩
  · have := key _ _ (Me.path_sizes ss.length i s p) k
    simp only []
    omega
  · have := key _ _ (Me.path_sizes ss.length i (ss.getD i ByteArray.empty) (Me.proof ss i)) k
    simp only []
    omega
set_option maxRecDepth 100000 in
set_option maxHeartbeats 1600000 in
theorem walk (a0 : Option Addr) (len0 cap0 : Nat) (z0 : List Int) (w : World) (w0 : IsRow .u8 w a0 len0 cap0 z0) :
    Calls Try.prog 6 #[.slice a0 len0 cap0] w fun e w' => e = .returned (.bool true) ∧ Below w.heap.size w w' := by
  have hcm := w0.len
  by_cases h : (1048576 : Int) < (len0 : Int)
  · go_enter Try.func6, Try.ntmps6
    go_wp2
    go_ret
    exact ⟨rfl, Below.refl _ _⟩
  go_enter Try.func6, Try.ntmps6
  go_wp2_with fail
  refine (drawMerkleCollision_any a0 len0 cap0 z0 _ w0 (by omega)).mono ?_
  rintro e w1 ⟨ss, g, cp, i, s, g', cp', p, rfl, h1, h2, hz, hs, hi0, hi1, hpl, hS, hcc, hI, hcc', hb1⟩
  clear w0
  have HS := Lib.hid hS
  have HI := Lib.hid hI
  have HZ : Hid (∀ s ∈ ss, s.size ≤ 4611686018427387904) := Lib.hid fun s hs => by have := hz s hs; omega
  have HZ3 : Hid (∀ s ∈ ss, s.size ≤ 4611686018427387000) := Lib.hid fun s hs => by have := hz s hs; omega
  have HZ40 := Lib.hid hz
  have HA : Hid (Me.rootA ss = .tuple #[.int .i64 (Me.root ss), .bool true]) := Lib.hid (if_pos (by omega))
  obtain ⟨m, hm⟩ : ∃ m, p.length = m := ⟨_, rfl⟩
  obtain ⟨n, hn⟩ : ∃ n, ss.length = n := ⟨_, rfl⟩
  have HN := Lib.hid hn
  rw [hm] at HI hcc' hpl
  rw [hn] at HS hcc h1 h2
  rw [hm, hn]
  obtain ⟨r, HR⟩ : ∃ r, Hid (Me.root ss = r) := ⟨_, Lib.hid rfl⟩
  rw [HR.out] at HA
  clear hI hS hm hn hz
  go_wp2_with fail
  refine (implMerkleRoot_any _ n cp ss _ HS.out hcc.1 hcc.2 HZ.out).mono ?_
  rw [HA.out]
  rintro e w2 ⟨rfl, hb2⟩
  have HS2 := Lib.hid (HS.out.below hb2)
  have HI2 := Lib.hid (HI.out.below hb2)
  have hb12 := hb1.trans (hb2.mono hb1.size)
  clear hb1 hb2
  go_wp2_with fail
  refine (specMerkleRoot_any _ n cp ss _ HS2.out hcc.1 hcc.2 HZ.out).mono ?_
  rw [HA.out]
  rintro e w3 ⟨rfl, hb3⟩
  have HS3 := Lib.hid (HS2.out.below hb3)
  have HI3 := Lib.hid (HI2.out.below hb3)
  have hb13 := hb12.trans (hb3.mono hb12.size)
  clear hb12 hb3
  go_wp2_with fail
  refine (implMerkleCheck_any r n i s _ m cp' p _ (by omega) HI3.out hcc'.1 hcc'.2).mono ?_
  rintro e w4 ⟨b4, rfl, hg4, hb4⟩
  have HS4 := Lib.hid (HS3.out.below hb4)
  have HI4 := Lib.hid (HI3.out.below hb4)
  have hb14 := hb13.trans (hb4.mono hb13.size)
  clear hb13 hb4
  cases b4
  · clear hg4
    go_wp2
    go_ret
    exact ⟨rfl, hb14⟩
  · have hg := hg4.1 rfl
    clear hg4
    have hj0 : 0 ≤ i := hg.2.1.1
    obtain ⟨j, rfl⟩ := Int.eq_ofNat_of_zero_le hj0
    have hjn : j < n := by have := hg.2.1.2; omega
    obtain ⟨t, HT⟩ : ∃ t, Hid (ss.getD j ByteArray.empty = t) := ⟨_, Lib.hid rfl⟩
    by_cases hst : t = s
    · have HCA : Hid (Me.colA ss (j : Int) s p = .tuple #[.string ⟨#[]⟩, .string ⟨#[]⟩, .bool false]) := Lib.hid (Me.colA_no fun h => h.2.2 (by rw [Int.toNat_natCast, HT.out]; exact hst))
      have hq := ba_eq hst
      clear hg hst
      go_wp2_with fail
      refine (implMerkleCollision_any _ n cp ss j s _ m cp' p _ HS4.out hcc.1 hcc.2 HZ3.out (by omega) HI4.out hcc'.1 hcc'.2).mono ?_
      rw [HCA.out]
      rintro e w5 ⟨rfl, hb5⟩
      have HS5 := Lib.hid (HS4.out.below hb5)
      have hcj : w5.cell? ⟨g, j, none⟩ = some (.string t) := by
        obtain ⟨b', off', he, _, hc⟩ := HS5.out.2 (by omega)
        cases he
        have := hc j hjn
        rw [Nat.zero_add, HT.out] at this
        exact this
      have hb15 := hb14.trans (hb5.mono hb14.size)
      clear hb14 hb5
      go_wp2
      go_ret
      exact ⟨rfl, hb15⟩
    · have hok : Me.colOk ss (j : Int) s p := ⟨by rw [HN.out]; omega, by rw [HR.out, HN.out]; exact hg, by rw [Int.toNat_natCast, HT.out]; exact hst⟩
      have HCA := Lib.hid (Me.colA_yes hok)
      rw [Int.toNat_natCast] at HCA
      have hst' : s ≠ ss.getD j ByteArray.empty := by rw [HT.out]; exact fun h => hst h.symm
      have hlen : p.length = Me.steps ss.length j := by have := hg.2.2.2.1; rw [Int.toNat_natCast, Int.toNat_natCast] at this; rw [HN.out]; exact this
      have hdg : Dg.of (Me.told ss.length j s p) = Dg.of (Me.str ss) := by
        have := hg.2.2.2.2
        rw [Int.toNat_natCast, Int.toNat_natCast] at this
        rw [HN.out, this, ← HR.out]
        rfl
      obtain ⟨hx, hy⟩ := Me.clash_meets ss.length ss j s p rfl (by rw [HN.out]; exact h1) (by rw [HN.out]; exact hjn) hlen hg.2.2.1 hdg hst'
      obtain ⟨hsa, hsb⟩ := clash_sizes ss j s p (by rw [HN.out]; exact h1) (by rw [HN.out]; exact hjn) hs HZ40.out hst'
      obtain ⟨c1, HC1⟩ : ∃ c, Hid ((Me.clash ss j s p).1 = c) := ⟨_, Lib.hid rfl⟩
      obtain ⟨c2, HC2⟩ : ∃ c, Hid ((Me.clash ss j s p).2 = c) := ⟨_, Lib.hid rfl⟩
      rw [HC1.out, HC2.out] at HCA hx hy
      rw [HC1.out] at hsa
      rw [HC2.out] at hsb
      have HY := Lib.hid hy.symm
      have hq := ba_ne hst
      have hq3 := ba_ne hx
      clear hg hst hst' hlen hdg hx hy hok
      go_wp2_with fail
      refine (implMerkleCollision_any _ n cp ss j s _ m cp' p _ HS4.out hcc.1 hcc.2 HZ3.out (by omega) HI4.out hcc'.1 hcc'.2).mono ?_
      rw [HCA.out]
      rintro e w5 ⟨rfl, hb5⟩
      have HS5 := Lib.hid (HS4.out.below hb5)
      have hcj : w5.cell? ⟨g, j, none⟩ = some (.string t) := by
        obtain ⟨b', off', he, _, hc⟩ := HS5.out.2 (by omega)
        cases he
        have := hc j hjn
        rw [Nat.zero_add, HT.out] at this
        exact this
      have hb15 := hb14.trans (hb5.mono hb14.size)
      clear hb14 hb5
      go_wp2_with fail
      refine (implDigest_any c1 _ (by omega)).mono ?_
      rintro e w6 ⟨rfl, hb6⟩
      have hb16 := hb15.trans (hb6.mono hb15.size)
      clear hb15 hb6 hcj
      go_wp2_with fail
      refine (implDigest_any c2 _ (by omega)).mono ?_
      rw [HY.out]
      rintro e w7 ⟨rfl, hb7⟩
      have hb17 := hb16.trans (hb7.mono hb16.size)
      clear hb16 hb7
      obtain ⟨d, HD⟩ : ∃ d, Hid (Dg.of c1 = d) := ⟨_, Lib.hid rfl⟩
      rw [HD.out]
      go_wp2
      go_ret
      exact ⟨rfl, hb17⟩
/-! ### The row's step. -/
theorem own : ownKnob Try.prog.godebug = none := by kernel_rfl
theorem laidOut : laidOutB Try.prog = true := by kernel_rfl
set_option maxRecDepth 100000 in
theorem lifted (os : Os) (started : os.Started) (H : Type) (enc : TypeId × Value → H) :
    ReturnsInHanded {} Try.checked os 6 .any (Rows.fnMerkleBindsSpec.pre6 enc Try.prog Try.f6 Rows.fnMerkleBindsRow.domain false) (Rows.fnMerkleBindsSpec.post enc Try.prog Try.f6 false true false false) := by
  refine returnsInHanded_of_change (C := Try.checked) own started (by kernel_rfl) Try.func6
    (ChangeSpec.witness6 (enc := enc) (C := Try.checked) false ⟨#[], #[.slice none 0 0], []⟩ 8 (by kernel_rfl) (by kernel_rfl) (by kernel_rfl) (by kernel_rfl)) ?_
  intro W base args ds gs before hval0 hW hcnd _
  have hval : ∀ (j : Nat) t v, Try.f6.params[j]? = some t → args[j]? = some v → Value.okWide Try.prog W .any base t v := hval0
  have hW' := hW
  obtain ⟨p, q, hA0, hV, rfl, hfz, hnd⟩ := hW
  have hA : DataW.TrodAll enc Try.prog W 0 (fun _ => true) true Try.f6.params.toList args.toList ds p := hA0
  rw [Try.params6] at hA hval
  obtain ⟨v0, vs0, d0, ds0, p0, q0, hargs, rfl, rfl, h0, r0⟩ := trodAll_cons hA
  obtain ⟨rfl, rfl, rfl⟩ := trodAll_nil r0
  obtain rfl : args = #[v0] := by cases args; simp_all
  obtain ⟨rfl, rfl⟩ := trodVars_none hV
  obtain ⟨a0, len0, cap0, rfl⟩ := okWide_slice Try.underlying22 (hval 0 22 v0 rfl rfl)
  have k0 := h0
  have lt0 : ∀ x ∈ p0, x.block < W.heap.size := by obtain ⟨m, hm⟩ := k0; exact DataW.trod_lt m _ _ _ hm
  obtain ⟨z0, w0⟩ : ∃ zs, IsRow .u8 W a0 len0 cap0 zs := by
    obtain ⟨fuel, hf⟩ := h0
    rcases open_ints Try.underlying22 Try.underlying5 (by kernel_rfl) hf with ⟨hcs, _⟩ | ⟨x, l, c, zs, hcs, _, hl, hm, hz, _, hcell, hwz⟩
    · simp [Value.cells] at hcs
      obtain ⟨rfl, rfl, rfl⟩ := hcs
      exact ⟨[], .inl ⟨rfl, rfl, rfl, rfl⟩⟩
    · simp [Value.cells] at hcs
      obtain ⟨rfl, rfl, rfl⟩ := hcs
      exact ⟨zs, .inr ⟨_, rfl, hl, hm, by simpa using hz, hcell, hwz⟩⟩
  clear hA0 hval0
  refine (walk a0 len0 cap0 z0 W w0).mono fun e W' ⟨he, bel⟩ => ?_
  subst he
  exact ⟨_, rfl, _, _, _, [], _, [], hW', trodAll_mk1 (shut_bool Try.underlying4 _), (trodAll_cons_mk (Below.trod laidOut (by kernel_rfl) (of_decide_eq_true (by kernel_rfl)) k0 bel lt0) trodAll_mk0), rfl, bel.frame _, fun h => by cases h⟩
theorem over : Rows.fnMerkleBindsRow.holds Try.pinned (OpenSpec.ofChange Rows.fnMerkleBindsSpec) :=
  OpenClaim.holds_of_wide 6 Try.f6 rfl rfl rfl rfl rfl rfl rfl ⟨rfl, rfl, rfl, rfl, rfl⟩ rfl rfl rfl rfl rfl (by kernel_rfl) Try.func6 (by kernel_rfl)
    (of_decide_eq_true (by kernel_rfl)) (by unfold Func.isWrapper; first | (rw [if_pos (by decide +kernel)]; kernel_rfl) | (rw [if_neg (by decide +kernel)]; exact ⟨rfl, rfl⟩))
    (fun os started H enc _ => lifted os started H enc)
theorem proved : Rows.FnMerkleBindsSaid := over
#print axioms proved
end Go.Proofs.Ytdgepneaeieogac.fnMerkleBinds
