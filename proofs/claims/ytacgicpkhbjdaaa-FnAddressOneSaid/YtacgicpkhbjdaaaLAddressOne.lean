/- For every code and every list more of at most 1<<20 bytes (longer ones are let pass by the law itself): AddressOf answers as the model's AddressOf, an address with one other character is no address, and AddressMend mends it. -/
import Derived.Test.YtacgicpkhbjdaaaRows
import Derived.Test.YtacgicpkhbjdaaaKl
import Derived.Test.YtacgicpkhbjdaaaKk
import Derived.WalkKit
import Derived.WalkSpells
import Derived.ProofKit
import Derived.OpenShut
import Derived.ShutString
import Derived.Below
import Derived.SliceStrings
namespace Go.Proofs.Ytacgicpkhbjdaaa.fnAddressOne
open Go.ChangeShapes Go.WideShapes Go.ChangeAt Go.RowKit
open Go.ChangeMaps (open_string shut_string)
set_option maxRecDepth 100000 in
set_option maxHeartbeats 3200000 in
theorem walk (a0 : Option Addr) (len0 cap0 : Nat) (z0 : List Int) (a1 : Option Addr) (len1 cap1 : Nat) (z1 : List Int) (w : World) (w0 : IsRow .u8 w a0 len0 cap0 z0) (w1' : IsRow .u8 w a1 len1 cap1 z1) :
    Calls Try.prog 7 #[.slice a0 len0 cap0, .slice a1 len1 cap1] w fun e w' => e = .returned (.bool true) ∧ Below w.heap.size w w' := by
  have hcm := w0.len
  have hcm1 := w1'.len
  by_cases h : (1048576 : Int) < (len0 : Int)
  · go_enter Try.func7, Try.ntmps7
    go_wp2
    go_ret
    exact ⟨rfl, Below.refl _ _⟩
  have hg0 : decide ((1048576 : Int) < (len0 : Int)) = false := decide_eq_false h
  by_cases h' : (1048576 : Int) < (len1 : Int)
  · go_enter Try.func7, Try.ntmps7
    go_wp2
    go_ret
    exact ⟨rfl, Below.refl _ _⟩
  have hg1 : decide ((1048576 : Int) < (len1 : Int)) = false := decide_eq_false h'
  have HR1 := Lib.hid w1'
  have hdraw := Lib.hid (drawAddressOf_any a0 len0 cap0 z0 w w0 (by omega))
  clear w0 w1' hcm
  go_enter Try.func7, Try.ntmps7
  go_wp2_with fail
  refine hdraw.out.mono ?_
  rintro e w1 ⟨k, n, rfl, hb1⟩
  clear hdraw h h' hg0 hg1
  have hcon1 := fun W => implAddressOf_any k n W
  have hcon2 := fun W => specAddressOf_any k n W
  have HO := Lib.hid (fun h => Ka.os_yes (kind := k) (n := n) h)
  have HONE := Lib.hid (fun h => Ka.one (kind := k) (n := n) h)
  obtain ⟨s, HS⟩ : ∃ s, Hid (Ka.os k n = s) := ⟨_, Lib.hid rfl⟩
  obtain ⟨b, HB⟩ : ∃ s, Hid (Ka.ob k n = s) := ⟨_, Lib.hid rfl⟩
  rw [HS.out, HB.out] at hcon1 hcon2
  rw [HS.out, HB.out] at HO
  rw [HB.out] at HONE
  have hq : (s.toList == s.toList) = true := by simp
  have hq2 : (s.toList != s.toList) = false := by simp
  cases b
  · clear HO HONE HS HB HR1
    go_wp2_with fail
    refine (hcon1 _).mono ?_
    rintro e w2 ⟨rfl, hb2⟩
    go_wp2_with fail
    refine (hcon2 _).mono ?_
    rintro e w3 ⟨rfl, hb3⟩
    go_wp2
    go_ret
    exact ⟨rfl, below_aft (below_aft hb1 hb2) hb3⟩
  have hso := HO.out rfl
  have HONE2 := Lib.hid (HONE.out rfl)
  have hls := Ka.of_len k n
  have HIN := Lib.hid (Ka.of_in' HB.out)
  obtain ⟨l, HL⟩ : ∃ l, Hid (Ka.of k n = l) := ⟨_, Lib.hid rfl⟩
  rw [HL.out] at hso HONE2 hls HIN
  have hsz : s.size = 10 := by rw [hso, Ka.str_size, hls]
  have HSO := Lib.hid hso
  have HLS := Lib.hid hls
  have HSZ := Lib.hid hsz
  clear HO HONE HS HB hso hls hsz HL
  by_cases hm : len1 < 2
  · have hc0 : decide ((len1 : Int) < 2) = true := decide_eq_true (by omega)
    have hc1 : ((len1 : Int) == 0) = decide (len1 = 0) := by rw [Bool.eq_iff_iff]; simp
    go_wp2_with fail
    refine (hcon1 _).mono ?_
    rintro e w2 ⟨rfl, hb2⟩
    go_wp2_with fail
    refine (hcon2 _).mono ?_
    rintro e w3 ⟨rfl, hb3⟩
    go_wp2
    go_ret
    exact ⟨rfl, below_aft (below_aft hb1 hb2) hb3⟩
  have hc0 : decide ((len1 : Int) < 2) = false := decide_eq_false (by omega)
  have hc1 : ((len1 : Int) == 0) = false := by simpa using fun e : (len1 : Int) = 0 => hm (by omega)
  go_wp2_with fail
  refine (hcon1 _).mono ?_
  rintro e w2 ⟨rfl, hb2⟩
  go_wp2_with fail
  refine (hcon2 _).mono ?_
  rintro e w3 ⟨rfl, hb3⟩
  have hbel := below_aft (below_aft hb1 hb2) hb3
  have hrow := HR1.out.below hbel
  obtain ⟨g, off, rfl, hgl, hcells, hbd⟩ := hrow.at9 (by omega)
  have x0 := hcells 0 (by omega)
  have x1 := hcells 1 (by omega)
  have y0 := hbd 1
  obtain ⟨y, HY⟩ : ∃ y, Hid (z1.getD 1 0 = y) := ⟨_, Lib.hid rfl⟩
  rw [HY.out] at x1 y0
  clear HY
  obtain ⟨y00, y01⟩ := y0
  have b0 := hbd 0
  rw [Nat.add_zero] at x0
  obtain ⟨x, HX⟩ : ∃ x, Hid (z1.getD 0 0 = x) := ⟨_, Lib.hid rfl⟩
  rw [HX.out] at x0 b0
  clear HX hcells hbd hrow HR1 hb1 hb2 hb3 hcon1 hcon2
  obtain ⟨b00, b01⟩ := b0
  obtain ⟨i, hi⟩ := Int.eq_ofNat_of_zero_le (Int.emod_nonneg x (show (10 : Int) ≠ 0 by decide))
  have hi10 : i < 10 := by omega
  obtain ⟨v, hv⟩ := Int.eq_ofNat_of_zero_le (Int.emod_nonneg y (show (31 : Int) ≠ 0 by decide))
  have hv31 : v < 31 := by omega
  have d0 := Ka.dig_at v
  obtain ⟨hone, hmm⟩ := HONE2.out i (v : Int) hi10 (by omega) (by omega)
  have hstr := Ka.str_set l i (v : Int) (by rw [HLS.out]; exact hi10)
  have hcon := fun W => implAddressRead_any (Ka.str (l.set i (v : Int))) W
  have hcon2 := fun W => implAddressMend_any (Ka.str (l.set i (v : Int))) W
  rw [hmm] at hcon2
  unfold Ka.ma at hcon2
  simp only [Option.isSome_some] at hcon2
  rw [← HSO.out] at hstr hone hcon2
  have z10 := HSZ.out
  have f0 : (s.extract 0 i).size = i := by rw [ByteArray.size_extract]; omega
  have f1 : (Ka.str [(v : Int)]).size = 1 := Ka.str_size _
  have f2 : (s.extract (i + 1) s.size).size = 9 - i := by rw [ByteArray.size_extract]; omega
  have hC : Ka.str [(v : Int)] = strOfNums [Ka.dig (v : Int)] := rfl
  obtain ⟨c, HC⟩ : ∃ c, Hid (Ka.dig (v : Int) = c) := ⟨_, Lib.hid rfl⟩
  rw [HC.out] at hC
  simp only [HC.out] at d0
  rw [hC] at f1 hstr
  obtain ⟨F0, HF0⟩ : ∃ F, Hid (s.extract 0 i = F) := ⟨_, Lib.hid rfl⟩
  obtain ⟨F1, HF1⟩ : ∃ F, Hid (s.extract (i + 1) s.size = F) := ⟨_, Lib.hid rfl⟩
  obtain ⟨X, HX⟩ : ∃ F, Hid (Ka.str (l.set i (v : Int)) = F) := ⟨_, Lib.hid rfl⟩
  rw [HF0.out] at f0 hstr
  rw [HF1.out] at f2 hstr
  rw [HX.out] at hstr hone hcon hcon2
  have hsl0 : ∀ W, (Instr.slice 9 (.string s) none (some (.int .i64 (i : Int))) none).run Try.prog W = .ok (.string F0) W := fun W => by
    rw [← HF0.out]
    exact sl_lo s i (by omega) W
  have hsl1 : ∀ W, (Instr.slice 9 (.string s) (some (.int .i64 ((i : Int) + 1))) none none).run Try.prog W = .ok (.string F1) W := fun W => by
    rw [← HF1.out]
    exact sl_hi s (i + 1) _ (by omega) (by omega) W
  have c1 := conv_new_drew [c] 1 w3
  simp only [List.map, List.length] at c1
  have hadd1 : ∀ W, (Op.stringOp .add F0 (strOfNums [c])).run Try.prog W = .ok (.string (F0 ++ strOfNums [c])) W := fun W => run_string_add_sum (P := Try.prog) W _ _ (by omega)
  have hadd2 : ∀ W, (Op.stringOp .add (F0 ++ strOfNums [c]) F1).run Try.prog W = .ok (.string X) W := fun W => by
    rw [← hstr]; exact run_string_add_sum (P := Try.prog) W _ _ (by rw [ByteArray.size_append]; omega)
  have hw1 : IntKind.i64.wrap ((i : Int) + 1) = (i : Int) + 1 := IntWalk.i64_in _ (by omega)
  have hbq := beq_bytes s X
  rw [← hone] at hbq
  obtain ⟨k5, HK5⟩ : ∃ k, Hid (Ka.rk X = k) := ⟨_, Lib.hid rfl⟩
  obtain ⟨n5, HN5⟩ : ∃ n, Hid (Ka.rn X = n) := ⟨_, Lib.hid rfl⟩
  obtain ⟨q, HQQ⟩ : ∃ n, Hid (Ka.rb X = n) := ⟨_, Lib.hid rfl⟩
  rw [HK5.out, HN5.out, HQQ.out] at hcon
  rw [HQQ.out] at hbq
  have HCON := Lib.hid hcon
  have HCON2 := Lib.hid hcon2
  clear hone hmm hstr hcon hcon2 hC HC HF0 HF1 HX HK5 HN5 HQQ f0 f1 f2
  go_wp2
  go_region
  go_wp2_with fail
  refine (HCON.out _).mono ?_
  rintro e w5 ⟨rfl, hb5⟩
  have hbel2 := below_aft (hbel.alloc hbel.size (.cells #[.int .u8 c] 5)).drew hb5
  go_wp2_with fail
  refine (HCON2.out _).mono ?_
  rintro e w6 ⟨rfl, hb6⟩
  have hbel3 := below_aft hbel2 hb6
  go_wp2
  go_ret
  exact ⟨by simp, hbel3⟩
/-! ### The row's step. -/
theorem own : ownKnob Try.prog.godebug = none := by kernel_rfl
theorem laidOut : laidOutB Try.prog = true := by kernel_rfl
set_option maxRecDepth 100000 in
theorem lifted (os : Os) (started : os.Started) (H : Type) (enc : TypeId × Value → H) :
    ReturnsInHanded {} Try.checked os 7 .any (Rows.fnAddressOneSpec.pre6 enc Try.prog Try.f7 Rows.fnAddressOneRow.domain false) (Rows.fnAddressOneSpec.post enc Try.prog Try.f7 false true false false) := by
  refine returnsInHanded_of_change (C := Try.checked) own started (by kernel_rfl) Try.func7
    (ChangeSpec.witness6 (enc := enc) (C := Try.checked) false ⟨#[], #[.slice none 0 0, .slice none 0 0], []⟩ 8 (by kernel_rfl) (by kernel_rfl) (by kernel_rfl) (by kernel_rfl)) ?_
  intro W base args ds gs before hval0 hW hcnd _
  have hval : ∀ (j : Nat) t v, Try.f7.params[j]? = some t → args[j]? = some v → Value.okWide Try.prog W .any base t v := hval0
  have hW' := hW
  obtain ⟨p, q, hA0, hV, rfl, hfz, hnd⟩ := hW
  have hA : DataW.TrodAll enc Try.prog W 0 (fun _ => true) true Try.f7.params.toList args.toList ds p := hA0
  rw [Try.params7] at hA hval
  obtain ⟨v0, vs0, d0, ds0, p0, q0, hargs, rfl, rfl, h0, r0⟩ := trodAll_cons hA
  obtain ⟨v1, vs1, d1, ds1, p1, q1, rfl, rfl, rfl, h1, r1⟩ := trodAll_cons r0
  obtain ⟨rfl, rfl, rfl⟩ := trodAll_nil r1
  obtain rfl : args = #[v0, v1] := by cases args; simp_all
  obtain ⟨rfl, rfl⟩ := trodVars_none hV
  obtain ⟨a0, len0, cap0, rfl⟩ := okWide_slice Try.underlying22 (hval 0 22 v0 rfl rfl)
  have k0 := h0
  have lt0 : ∀ x ∈ p0, x.block < W.heap.size := by obtain ⟨m, hm⟩ := k0; exact DataW.trod_lt m _ _ _ hm
  obtain ⟨z0, w0⟩ : ∃ zs, IsRow .u8 W a0 len0 cap0 zs := by
    obtain ⟨fuel, hf⟩ := h0
    rcases open_ints Try.underlying22 Try.underlying5 (by kernel_rfl) hf with ⟨hcs, _⟩ | ⟨x, l, c, zs, hcs, _, hl, hm, hz, _, hcell, hwz⟩
    · simp [Value.cells] at hcs
      obtain ⟨rfl, rfl, rfl⟩ := hcs
      exact ⟨[], .inl ⟨rfl, rfl, rfl, rfl⟩⟩
    · simp [Value.cells] at hcs
      obtain ⟨rfl, rfl, rfl⟩ := hcs
      exact ⟨zs, .inr ⟨_, rfl, hl, hm, by simpa using hz, hcell, hwz⟩⟩
  obtain ⟨a1, len1, cap1, rfl⟩ := okWide_slice Try.underlying22 (hval 1 22 v1 rfl rfl)
  have k1 := h1
  have lt1 : ∀ x ∈ p1, x.block < W.heap.size := by obtain ⟨m, hm⟩ := k1; exact DataW.trod_lt m _ _ _ hm
  obtain ⟨z1, w1⟩ : ∃ zs, IsRow .u8 W a1 len1 cap1 zs := by
    obtain ⟨fuel, hf⟩ := h1
    rcases open_ints Try.underlying22 Try.underlying5 (by kernel_rfl) hf with ⟨hcs, _⟩ | ⟨x, l, c, zs, hcs, _, hl, hm, hz, _, hcell, hwz⟩
    · simp [Value.cells] at hcs
      obtain ⟨rfl, rfl, rfl⟩ := hcs
      exact ⟨[], .inl ⟨rfl, rfl, rfl, rfl⟩⟩
    · simp [Value.cells] at hcs
      obtain ⟨rfl, rfl, rfl⟩ := hcs
      exact ⟨zs, .inr ⟨_, rfl, hl, hm, by simpa using hz, hcell, hwz⟩⟩
  clear hA0 hval0
  refine (walk a0 len0 cap0 z0 a1 len1 cap1 z1 W w0 w1).mono fun e W' ⟨he, bel⟩ => ?_
  subst he
  exact ⟨_, rfl, _, _, _, [], _, [], hW', trodAll_mk1 (shut_bool Try.underlying4 _), (trodAll_cons_mk (Below.trod laidOut (by kernel_rfl) (of_decide_eq_true (by kernel_rfl)) k0 bel lt0) (trodAll_cons_mk (Below.trod laidOut (by kernel_rfl) (of_decide_eq_true (by kernel_rfl)) k1 bel lt1) trodAll_mk0)), rfl, bel.frame _, fun h => by cases h⟩
theorem over : Rows.fnAddressOneRow.holds Try.pinned (OpenSpec.ofChange Rows.fnAddressOneSpec) :=
  OpenClaim.holds_of_wide 7 Try.f7 rfl rfl rfl rfl rfl rfl rfl ⟨rfl, rfl, rfl, rfl, rfl⟩ rfl rfl rfl rfl rfl (by kernel_rfl) Try.func7 (by kernel_rfl)
    (of_decide_eq_true (by kernel_rfl)) (by unfold Func.isWrapper; first | (rw [if_pos (by decide +kernel)]; kernel_rfl) | (rw [if_neg (by decide +kernel)]; exact ⟨rfl, rfl⟩))
    (fun os started H enc _ => lifted os started H enc)
theorem proved : Rows.FnAddressOneSaid := over
#print axioms proved
end Go.Proofs.Ytacgicpkhbjdaaa.fnAddressOne
