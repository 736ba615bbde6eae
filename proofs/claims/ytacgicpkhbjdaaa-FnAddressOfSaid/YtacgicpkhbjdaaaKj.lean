/-
  Contracts of addresses: AddressMend; of the model.
-/
import Derived.Test.YtacgicpkhbjdaaaKh
import Derived.Deep.RegionWith
namespace Go.Proofs.Ytacgicpkhbjdaaa
open Go.RowKit

theorem ir_one (W : World) (v : Int) : IR (W.alloc (.cells #[.int .i64 v] 3)) (some ⟨W.heap.size, 0, none⟩) 1 [v] := by
  refine ⟨rfl, fun _ => ⟨W.heap.size, 0, rfl, by simp, fun i hi => ?_⟩⟩
  obtain rfl : i = 0 := by omega
  exact (World.cell?_alloc_mark W _ _ _ 0).trans rfl
theorem ir_one9 (W : World) (v : Int) : IR (W.alloc (.cells #[.int .i64 v] 3)).drew (some ⟨W.heap.size, 0, none⟩) 1 [v] := ir_one W v
theorem ka_in1 {v : Int} (h0 : 0 ≤ v) (h1 : v < 31) : Ka.In [v] := by
  intro x hx
  simp only [List.mem_cons, List.not_mem_nil, or_false] at hx
  subst hx
  exact ⟨h0, h1⟩
theorem Ka.rb_set {s : ByteArray} (hg : Ka.gd s = true) (i : Nat) (v : Int) (h0 : 0 ≤ v) (h1 : v < 31) : Ka.rb (Ka.str ((Ka.vals s).set i v)) = Ka.ok ((Ka.vals s).set i v) := by
  have hin := (Ka.vals_in ((Ka.gd_iff s).1 hg).2).set i h0 h1
  have hl : ((Ka.vals s).set i v).length = 10 := by rw [List.length_set, Ka.vals_len]
  unfold Ka.rb
  rw [Ka.gd_str hl hin, Ka.vals_str hl hin]
  rfl
set_option maxRecDepth 100000 in
set_option maxHeartbeats 6400000 in
theorem specAddressMend_any (s : ByteArray) (w : World) (hs : s.size ≤ 4194304) : Calls Try.prog 19 #[.string s] w fun e w' => Ka.ma (Ka.mm s) e ∧ Below w.heap.size w w' := by
  have HV := Lib.hid (l9Values_any s w hs)
  cases hg : Ka.gd s
  · have hm : Ka.mm s = none := by unfold Ka.mm; rw [hg]; rfl
    rw [hm]
    have HG := Lib.hid hg
    clear hg hm
    go_enter Try.func19, Try.ntmps19
    go_wp2_with fail
    refine HV.out.mono ?_
    rintro e1 w1 ⟨hv, hb1⟩
    obtain ⟨a, n, cp, rfl⟩ : ∃ a n cp, e1 = .returned (.tuple #[.slice a n cp, .bool false]) := by
      rcases hv with ⟨h, _⟩ | ⟨_, h⟩
      · rw [HG.out] at h; cases h
      · exact h
    clear hv
    go_wp2
    go_ret2
    exact ⟨rfl, hb1⟩
  · have hm : Ka.mm s = Ka.seek (Ka.vals s) 0 10 := by unfold Ka.mm; rw [hg]; rfl
    have hz := ((Ka.gd_iff s).1 hg).1
    rw [hm]
    have HG := Lib.hid hg
    have HZ := Lib.hid hz
    have HT := Lib.hid (fun i v hi => Ka.str_set1 hg i v hi)
    have HR := Lib.hid (fun i v h0 h1 => Ka.rb_set hg i v h0 h1)
    have HFO := Lib.hid (fun i v hi h0 h1 h => Ka.fit_only (l := Ka.vals s) (i := i) (v := v) (Ka.vals_len s) hi h0 h1 h)
    have HFB := Lib.hid (fun i => Ka.fit_bd (Ka.vals s) i)
    have HHERE := Lib.hid (fun i n h => Ka.seek_here (l := Ka.vals s) (k := i) (n := n) h)
    have HSTEP := Lib.hid (fun i n h => Ka.seek_step (l := Ka.vals s) (k := i) (n := n) h)
    have HVL := Lib.hid (Ka.vals_len s)
    obtain ⟨l, HLL⟩ : ∃ l, Hid (Ka.vals s = l) := ⟨_, Lib.hid rfl⟩
    rw [HLL.out] at HT HR HFO HFB HHERE HSTEP HVL ⊢
    clear hg hz hm
    go_enter Try.func19, Try.ntmps19
    go_wp2_with fail
    refine HV.out.mono ?_
    rintro e1 w1 ⟨hv, hb1⟩
    obtain ⟨b, cp, he1⟩ : ∃ b cap, e1 = .returned (.tuple #[.slice (some ⟨b, 0, none⟩) 10 cap, .bool true]) := by
      rcases hv with ⟨_, b, cap, h, _⟩ | ⟨h, _⟩
      · exact ⟨b, cap, h⟩
      · rw [HG.out] at h; cases h
    subst he1
    clear hv HV HG HLL
    go_wp2
    go_loopw [6] (fun ii wr => ∃ i : Nat, i ≤ 10 ∧ ii = .int .i64 (i : Int) ∧ Hid (Ka.seek l 0 10 = Ka.seek l i (10 - i)) ∧ Below w.heap.size w wr)
      (fun ii _ => 10 - (intOf ii).toNat)
    case atStart => exact ⟨0, by omega, rfl, Lib.hid rfl, hb1⟩
    case round =>
      obtain ⟨i, hi, rfl, HK, hbel⟩ := hrel
      clear hb1
      by_cases hlt : i < 10
      · have his : i < s.size := by rw [HZ.out]; exact hlt
        go_wp2
        go_loopw [7] (fun vv wr => ∃ v : Nat, v ≤ 31 ∧ vv = .int .i64 (v : Int) ∧ Hid (∀ u : Nat, u < v → ¬ Ka.Good (l.set i (u : Int))) ∧ Below w.heap.size w wr)
          (fun vv _ => 31 - (intOf vv).toNat)
        case atStart => exact ⟨0, by omega, rfl, Lib.hid fun u hu => absurd hu (by omega), hbel⟩
        case round =>
          clear hbel
          obtain ⟨v, hv, rfl, HN, hbel⟩ := hrel
          by_cases hvt : v < 31
          · have hT0 := HT.out i (v : Int) hlt
            have hR0 := HR.out i (v : Int) (by omega) (by omega)
            have hin1 := ka_in1 (v := (v : Int)) (by omega) (by omega)
            have hTx : Calls Try.prog 27 #[.slice (some ⟨wr.heap.size, 0, none⟩) 1 1] (wr.alloc (.cells #[.int .i64 (v : Int)] 3)).drew fun e w' => e = .returned (.string (Ka.str [(v : Int)])) ∧ Below (wr.alloc (.cells #[.int .i64 (v : Int)] 3)).drew.heap.size (wr.alloc (.cells #[.int .i64 (v : Int)] 3)).drew w' :=
              l9Text_any _ 1 1 [(v : Int)] _ (ir_one9 wr v) hin1 (by omega)
            have hsz1 : (Ka.str [(v : Int)]).size = 1 := Ka.str_size _
            have hF1 : (s.extract 0 i).size = i := by rw [ByteArray.size_extract]; omega
            have hF2 : (s.extract (i + 1) s.size).size = s.size - (i + 1) := by rw [ByteArray.size_extract]; omega
            have hT2 : ∀ q, (Ka.str (l.set i q)).size = 10 := fun q => by rw [Ka.str_size, List.length_set, HVL.out]
            have hT3 := hT2 (v : Int)
            have hz10 := HZ.out
            obtain ⟨F, HF⟩ : ∃ F, Hid (s.extract 0 i = F) := ⟨_, Lib.hid rfl⟩
            obtain ⟨G, HGG⟩ : ∃ F, Hid (s.extract (i + 1) s.size = F) := ⟨_, Lib.hid rfl⟩
            obtain ⟨C, HC⟩ : ∃ F, Hid (Ka.str [(v : Int)] = F) := ⟨_, Lib.hid rfl⟩
            obtain ⟨X, HX⟩ : ∃ F, Hid (Ka.str (l.set i (v : Int)) = F) := ⟨_, Lib.hid rfl⟩
            rw [HF.out] at hF1 hT0
            rw [HGG.out] at hF2 hT0
            rw [HC.out] at hsz1 hT0 hTx
            rw [HX.out] at hT0 hR0 hT3
            have hadd : ∀ W, (Op.stringOp .add F C).run Try.prog W = .ok (.string (F ++ C)) W := fun W => run_string_add_sum (P := Try.prog) W _ _ (by omega)
            have hadd2 : ∀ W, (Op.stringOp .add (F ++ C) G).run Try.prog W = .ok (.string X) W := fun W => by
              rw [← hT0]; exact run_string_add_sum (P := Try.prog) W _ _ (by rw [ByteArray.size_append]; omega)
            have hi0 : i ≤ s.size := by omega
            have hk1 : (i : Int) + 1 ≤ (s.size : Int) := by omega
            have hk0 : (0 : Int) ≤ (i : Int) + 1 := by omega
            have hsl1 : ∀ W, (Instr.slice 9 (.string s) none (some (.int .i64 (i : Int))) none).run Try.prog W = .ok (.string F) W := by
              intro W
              rw [← HF.out]
              simp [Instr.slice, Instr.sliceBounds, Instr.sliceBound, asIntOf, run_underlying Try.underlying9, hi0]
            have hsl2 : ∀ W, (Instr.slice 9 (.string s) (some (.int .i64 ((i : Int) + 1))) none none).run Try.prog W = .ok (.string G) W := by
              intro W
              rw [← HGG.out]
              simp [Instr.slice, Instr.sliceBounds, Instr.sliceBound, asIntOf, run_underlying Try.underlying9, hk0, hk1]
            have hwr : IntKind.i64.wrap ((i : Int) + 1) = (i : Int) + 1 := IntWalk.i64_in _ (by omega)
            have hcon := fun W => specAddressRead_any X W (by omega)
            obtain ⟨K1, HK1⟩ : ∃ k, Hid (Ka.rk X = k) := ⟨_, Lib.hid rfl⟩
            obtain ⟨K2, HK2⟩ : ∃ k, Hid (Ka.rn X = k) := ⟨_, Lib.hid rfl⟩
            rw [HK1.out, HK2.out, hR0] at hcon
            have HOK := Lib.hid (Ka.ok_iff (l.set i (v : Int)))
            have HXX : Hid (Ka.str (l.set i (v : Int)) = X) := Lib.hid HX.out
            obtain ⟨O, HO⟩ : ∃ o, Hid (Ka.ok (l.set i (v : Int)) = o) := ⟨_, Lib.hid rfl⟩
            rw [HO.out] at hcon HOK
            have HCON := Lib.hid hcon
            have hbs := hbel.size
            clear hT0 hR0 hin1 hsz1 hF1 hF2 hT2 hT3 hz10 hcon HF HGG HC HX HK1 HK2 HO hk0 hk1
            go_wp2
            go_region_with (go_at_call 27; go_must (refine hTx.mono ?_); go_must (rintro e2 w2 ⟨rfl, hb2⟩))
            all_goals
              have hbel2 := below_aft (hbel.alloc hbs (.cells #[.int .i64 (v : Int)] 3)).drew hb2
              clear hadd hadd2 hsl1 hsl2 hwr hTx hb2 hbel hbs
              cases O
              · have HN2 : Hid (∀ u : Nat, u < v + 1 → ¬ Ka.Good (l.set i (u : Int))) := Lib.hid (fun u hu => by
                  by_cases huv : u < v
                  · exact HN.out u huv
                  · obtain rfl : u = v := by omega
                    exact fun g => by have := HOK.out.2 g; cases this)
                clear HOK HXX
                go_wp2_with fail
                refine (HCON.out _).mono ?_
                rintro e3 w3 ⟨rfl, hb3⟩
                have hbel3 := below_aft hbel2 hb3
                clear hbel2 hb3
                go_wp2
                go_roundw
                case rel => exact ⟨v + 1, by omega, by simp, HN2, hbel3⟩
                case measure => simp [intOf]; omega
              · have HS : Hid (Ka.seek l 0 10 = some (l.set i (v : Int))) := Lib.hid (by
                  have g := HOK.out.1 rfl
                  have hv2 := HFO.out i (v : Int) hlt (by omega) (by omega) g
                  have g2 : Ka.Good (l.set i (Ka.fit l i)) := by rw [← hv2]; exact g
                  have h3 := HHERE.out i (10 - (i + 1)) g2
                  rw [show 10 - (i + 1) + 1 = 10 - i by omega, ← HK.out, ← hv2] at h3
                  exact h3)
                clear HOK
                go_wp2_with fail
                refine (HCON.out _).mono ?_
                rintro e3 w3 ⟨rfl, hb3⟩
                have hbel3 := below_aft hbel2 hb3
                clear hbel2 hb3
                go_wp2
                go_ret2
                exact ⟨by rw [HS.out]; show _ = Ending.returned (.tuple #[.string (Ka.str (l.set i (v : Int))), .bool true]); rw [HXX.out]; rfl, hbel3⟩
          · obtain rfl : v = 31 := by omega
            have HST : Hid (Ka.seek l 0 10 = Ka.seek l (i + 1) (10 - (i + 1))) := Lib.hid (by
              have hb := HFB.out i
              obtain ⟨u, hu⟩ := Int.eq_ofNat_of_zero_le hb.1
              have h3 := HSTEP.out i (10 - (i + 1)) (by rw [hu]; exact HN.out u (by omega))
              rw [show 10 - (i + 1) + 1 = 10 - i by omega, ← HK.out] at h3
              exact h3)
            go_wp2
            go_roundw
            case rel => exact ⟨i + 1, by omega, by simp, HST, hbel⟩
            case measure => simp [intOf]; omega
      · obtain rfl : i = 10 := by omega
        have HE : Hid (Ka.seek l 0 10 = none) := Lib.hid HK.out
        have hq : decide ((10 : Int) < (s.size : Int)) = false := decide_eq_false (by have := HZ.out; omega)
        go_wp2
        go_ret2
        exact ⟨by rw [HE.out]; rfl, hbel⟩

end Go.Proofs.Ytacgicpkhbjdaaa
