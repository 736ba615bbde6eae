/- For every code of at most 1<<20 bytes (longer ones are let pass by the law itself): AddressMend answers as the model's AddressMend, and what it mends is an address that differs from the string in one character at most, and is the string itself if that is an address. -/
import Derived.Test.YtacgicpkhbjdaaaRows
import Derived.Test.YtacgicpkhbjdaaaKl
import Derived.Test.YtacgicpkhbjdaaaKk
import Derived.WalkKit
import Derived.WalkSpells
import Derived.ProofKit
import Derived.OpenShut
import Derived.ShutString
import Derived.Below
import Derived.SliceStrings
namespace Go.Proofs.Ytacgicpkhbjdaaa.fnAddressMend
open Go.ChangeShapes Go.WideShapes Go.ChangeAt Go.RowKit
open Go.ChangeMaps (open_string shut_string)
set_option maxRecDepth 100000 in
set_option maxHeartbeats 3200000 in
theorem walk (a0 : Option Addr) (len0 cap0 : Nat) (z0 : List Int) (w : World) (w0 : IsRow .u8 w a0 len0 cap0 z0) :
    Calls Try.prog 5 #[.slice a0 len0 cap0] w fun e w' => e = .returned (.bool true) ∧ Below w.heap.size w w' := by
  have hcm := w0.len
  by_cases h : (1048576 : Int) < (len0 : Int)
  · go_enter Try.func5, Try.ntmps5
    go_wp2
    go_ret
    exact ⟨rfl, Below.refl _ _⟩
  go_enter Try.func5, Try.ntmps5
  go_wp2_with fail
  refine (drawAddressMend_any a0 len0 cap0 z0 _ w0 (by omega)).mono ?_
  rintro e w1 ⟨s, rfl, hs, hb1⟩
  clear w0 h hcm
  have hcon1 := fun W => implAddressMend_any s W
  have hcon2 := fun W => specAddressMend_any s W (by omega)
  cases hmm : Ka.mm s with
  | none =>
    rw [hmm] at hcon1 hcon2
    clear hmm
    go_wp2_with fail
    refine (hcon1 _).mono ?_
    rintro e w2 ⟨he2, hb2⟩
    unfold Ka.ma at he2
    subst he2
    go_wp2_with fail
    refine (hcon2 _).mono ?_
    rintro e w3 ⟨he3, hb3⟩
    unfold Ka.ma at he3
    subst he3
    go_wp2
    go_ret
    exact ⟨rfl, below_aft (below_aft hb1 hb2) hb3⟩
  | some m =>
    rw [hmm] at hcon1 hcon2
    obtain ⟨z1, z2, hr, ⟨p, hp, hdiff⟩, hself⟩ := Ka.mm_some hmm
    clear hmm
    have hcon3 := fun W => implAddressRead_any (Ka.str m) W
    have hcon4 := fun W => implAddressRead_any s W
    have HX := fun k (hk : k < (Ka.str m).size) => En.byt_eq (Ka.str m) k hk
    rw [hr] at hcon3
    unfold Ka.ma at hcon1 hcon2
    simp only [Option.isSome_some] at hcon1 hcon2
    obtain ⟨x, HXX⟩ : ∃ x, Hid (Ka.str m = x) := ⟨_, Lib.hid rfl⟩
    rw [HXX.out] at hcon1 hcon2 hcon3 hself z2
    simp only [HXX.out] at hdiff
    clear HX hr
    obtain ⟨k3, HK3⟩ : ∃ k, Hid (Ka.rk x = k) := ⟨_, Lib.hid rfl⟩
    obtain ⟨n3, HN3⟩ : ∃ n, Hid (Ka.rn x = n) := ⟨_, Lib.hid rfl⟩
    rw [HK3.out, HN3.out] at hcon3
    obtain ⟨k4, HK4⟩ : ∃ k, Hid (Ka.rk s = k) := ⟨_, Lib.hid rfl⟩
    obtain ⟨n4, HN4⟩ : ∃ n, Hid (Ka.rn s = n) := ⟨_, Lib.hid rfl⟩
    obtain ⟨is, HIS⟩ : ∃ b, Hid (Ka.rb s = b) := ⟨_, Lib.hid rfl⟩
    rw [HK4.out, HN4.out, HIS.out] at hcon4
    rw [HIS.out] at hself
    have HD := Lib.hid hdiff
    have HSELF := Lib.hid hself
    have hq : (x.toList == x.toList) = true := by simp
    have Z1 := Lib.hid z1
    have Z2 := Lib.hid z2
    clear hdiff hself HXX HK3 HN3 HK4 HN4 HIS
    go_wp2_with fail
    refine (hcon1 _).mono ?_
    rintro e w2 ⟨rfl, hb2⟩
    go_wp2_with fail
    refine (hcon2 _).mono ?_
    rintro e w3 ⟨rfl, hb3⟩
    go_wp2_with fail
    refine (hcon3 _).mono ?_
    rintro e w4 ⟨rfl, hb4⟩
    go_wp2_with fail
    refine (hcon4 _).mono ?_
    rintro e w5 ⟨rfl, hb5⟩
    have hbel := below_aft (below_aft (below_aft (below_aft hb1 hb2) hb3) hb4) hb5
    have HBEL := Lib.hid hbel
    clear hb1 hb2 hb3 hb4 hb5 hbel hcon1 hcon2 hcon3 hcon4
    go_wp2
    go_loopw [15, 16] (fun c i wr => ∃ (k : Nat) (d : Int), k ≤ 10 ∧ i = .int .i64 (k : Int) ∧ c = .int .i64 d ∧ 0 ≤ d ∧ d ≤ 1 ∧ (k ≤ p → d = 0) ∧ Below w.heap.size w wr)
      (fun _ i _ => 10 - (intOf i).toNat)
    case atStart => exact ⟨0, 0, by omega, rfl, rfl, by omega, by omega, fun _ => rfl, HBEL.out⟩
    case round =>
      obtain ⟨k, d, hk, rfl, rfl, d0, d1, hkp, hbel⟩ := hrel
      have HKP := Lib.hid hkp
      clear hkp
      by_cases hlt : k < 10
      · have hx : ∀ h : k < s.size, ((s[k]'h).toNat : Int) = En.byt s k := fun h => En.byt_eq _ _ h
        have hy : ∀ h : k < x.size, ((x[k]'h).toNat : Int) = En.byt x k := fun h => En.byt_eq _ _ h
        have HDK := Lib.hid (HD.out k hlt)
        obtain ⟨u, HU⟩ : ∃ u, Hid (En.byt s k = u) := ⟨_, Lib.hid rfl⟩
        obtain ⟨v, HV⟩ : ∃ u, Hid (En.byt x k = u) := ⟨_, Lib.hid rfl⟩
        rw [HU.out, HV.out] at HDK
        simp only [HU.out] at hx
        simp only [HV.out] at hy
        clear HU HV
        have hks : k < s.size := by omega
        have hkx : k < x.size := by omega
        by_cases huv : u = v
        · subst huv
          have q1 : (u == u) = true := by simp
          have q2 : (u != u) = false := by simp
          go_wp2
          go_quiet (fail)
          go_wp2
          go_roundw
          case rel => exact ⟨k + 1, d, by omega, by simp, rfl, d0, d1, fun h => HKP.out (by omega), below_drewN9 hbel _⟩
          case measure => simp [intOf]; omega
        · have q1 : (u == v) = false := by simpa using huv
          have q2 : (u != v) = true := by simpa using huv
          have hkp : k = p := by
            rcases Nat.lt_trichotomy k p with h | h | h
            · exact absurd (HDK.out (by omega)).symm huv
            · exact h
            · exact absurd (HDK.out (by omega)).symm huv
          obtain rfl : d = 0 := HKP.out (by omega)
          have HP := Lib.hid hkp
          clear huv hkp
          go_wp2
          go_quiet (fail)
          go_wp2
          go_roundw
          case rel => exact ⟨k + 1, 1, by omega, by simp, rfl, by omega, by omega, fun h => by have := HP.out; omega, below_drewN9 hbel _⟩
          case measure => simp [intOf]; omega
      · obtain rfl : k = 10 := by omega
        have hd : decide (d ≤ 1) = true := by simpa using d1
        cases is
        · go_wp2
          go_ret
          exact ⟨rfl, hbel⟩
        · have hxs := HSELF.out rfl
          subst hxs
          go_wp2
          go_ret
          exact ⟨rfl, hbel⟩
/-! ### The row's step. -/
theorem own : ownKnob Try.prog.godebug = none := by kernel_rfl
theorem laidOut : laidOutB Try.prog = true := by kernel_rfl
set_option maxRecDepth 100000 in
theorem lifted (os : Os) (started : os.Started) (H : Type) (enc : TypeId × Value → H) :
    ReturnsInHanded {} Try.checked os 5 .any (Rows.fnAddressMendSpec.pre6 enc Try.prog Try.f5 Rows.fnAddressMendRow.domain false) (Rows.fnAddressMendSpec.post enc Try.prog Try.f5 false true false false) := by
  refine returnsInHanded_of_change (C := Try.checked) own started (by kernel_rfl) Try.func5
    (ChangeSpec.witness6 (enc := enc) (C := Try.checked) false ⟨#[], #[.slice none 0 0], []⟩ 8 (by kernel_rfl) (by kernel_rfl) (by kernel_rfl) (by kernel_rfl)) ?_
  intro W base args ds gs before hval0 hW hcnd _
  have hval : ∀ (j : Nat) t v, Try.f5.params[j]? = some t → args[j]? = some v → Value.okWide Try.prog W .any base t v := hval0
  have hW' := hW
  obtain ⟨p, q, hA0, hV, rfl, hfz, hnd⟩ := hW
  have hA : DataW.TrodAll enc Try.prog W 0 (fun _ => true) true Try.f5.params.toList args.toList ds p := hA0
  rw [Try.params5] at hA hval
  obtain ⟨v0, vs0, d0, ds0, p0, q0, hargs, rfl, rfl, h0, r0⟩ := trodAll_cons hA
  obtain ⟨rfl, rfl, rfl⟩ := trodAll_nil r0
  obtain rfl : args = #[v0] := by cases args; simp_all
  obtain ⟨rfl, rfl⟩ := trodVars_none hV
  obtain ⟨a0, len0, cap0, rfl⟩ := okWide_slice Try.underlying22 (hval 0 22 v0 rfl rfl)
  have k0 := h0
  have lt0 : ∀ x ∈ p0, x.block < W.heap.size := by obtain ⟨m, hm⟩ := k0; exact DataW.trod_lt m _ _ _ hm
  obtain ⟨z0, w0⟩ : ∃ zs, IsRow .u8 W a0 len0 cap0 zs := by
    obtain ⟨fuel, hf⟩ := h0
    rcases open_ints Try.underlying22 Try.underlying5 (by kernel_rfl) hf with ⟨hcs, _⟩ | ⟨x, l, c, zs, hcs, _, hl, hm, hz, _, hcell, hwz⟩
    · simp [Value.cells] at hcs
      obtain ⟨rfl, rfl, rfl⟩ := hcs
      exact ⟨[], .inl ⟨rfl, rfl, rfl, rfl⟩⟩
    · simp [Value.cells] at hcs
      obtain ⟨rfl, rfl, rfl⟩ := hcs
      exact ⟨zs, .inr ⟨_, rfl, hl, hm, by simpa using hz, hcell, hwz⟩⟩
  clear hA0 hval0
  refine (walk a0 len0 cap0 z0 W w0).mono fun e W' ⟨he, bel⟩ => ?_
  subst he
  exact ⟨_, rfl, _, _, _, [], _, [], hW', trodAll_mk1 (shut_bool Try.underlying4 _), (trodAll_cons_mk (Below.trod laidOut (by kernel_rfl) (of_decide_eq_true (by kernel_rfl)) k0 bel lt0) trodAll_mk0), rfl, bel.frame _, fun h => by cases h⟩
theorem over : Rows.fnAddressMendRow.holds Try.pinned (OpenSpec.ofChange Rows.fnAddressMendSpec) :=
  OpenClaim.holds_of_wide 5 Try.f5 rfl rfl rfl rfl rfl rfl rfl ⟨rfl, rfl, rfl, rfl, rfl⟩ rfl rfl rfl rfl rfl (by kernel_rfl) Try.func5 (by kernel_rfl)
    (of_decide_eq_true (by kernel_rfl)) (by unfold Func.isWrapper; first | (rw [if_pos (by decide +kernel)]; kernel_rfl) | (rw [if_neg (by decide +kernel)]; exact ⟨rfl, rfl⟩))
    (fun os started H enc _ => lifted os started H enc)
theorem proved : Rows.FnAddressMendSaid := over
#print axioms proved
end Go.Proofs.Ytacgicpkhbjdaaa.fnAddressMend
