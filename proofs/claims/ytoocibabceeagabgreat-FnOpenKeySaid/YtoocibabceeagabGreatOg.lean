/-
  Contracts of scripts: SigItem, ItemSig; of the model.
-/
import Derived.Test.YtoocibabceeagabGreatDg
import Derived.Test.YtoocibabceeagabGreatOc
import Derived.Test.YtoocibabceeagabGreatBk
namespace Go.Proofs.YtoocibabceeagabGreat
open Go.RowKit

theorem below_alc9 {n : Nat} {w w1 : World} (h : Below n w w1) (hn : n ≤ w1.heap.size) (o : Obj) : Below n w (w1.alloc o) := h.alloc hn o
/-- Is it a digest? -/
def Jo.isd (x : Int) : Bool := decide (0 ≤ x ∧ x ≤ 4294967295)
/-- The item of a signature. -/
def Jo.item (r s : Int) : ByteArray := if Jo.isd r = true ∧ Jo.isd s = true then Dg.bytes r ++ Dg.bytes s else ⟨#[]⟩
theorem Dg.bytes_ne (d : Int) : (Dg.bytes d).toList.isEmpty = false := by
  rw [str_empty_iff, Dg.bytes_size]; rfl
theorem Dg.add8 (a b : Int) (W : World) : (Op.stringOp .add (Dg.bytes a) (Dg.bytes b)).run Tryz.prog W = .ok (.string (Dg.bytes a ++ Dg.bytes b)) W :=
  run_string_add_sum (P := Tryz.prog) W _ _ (by rw [Dg.bytes_size, Dg.bytes_size]; decide)
set_option maxRecDepth 100000 in
set_option maxHeartbeats 1600000 in
theorem specSigItem_any (r s : Int) (w : World) : Calls Tryz.prog 90 #[.agg #[.int .i64 r, .int .i64 s]] w fun e w' => e = .returned (.string (Jo.item r s)) ∧ Below w.heap.size w w' := by
  have hv0 : Bk w.heap.size 38 #[.int .i64 r, .int .i64 s] (w.alloc (.cells #[.int .i64 r, .int .i64 s] 38 (0, 0))) := Bk.new _ _ _
  have hb0 : Below w.heap.size w (w.alloc (.cells #[.int .i64 r, .int .i64 s] 38 (0, 0))) := (Below.refl _ _).alloc (Nat.le_refl _) _
  have hE : (⟨#[]⟩ : ByteArray).toList.isEmpty = true := by rw [str_empty_iff]; rfl
  cases hr : Jo.isd r
  · have HI : Hid (Jo.item r s = ⟨#[]⟩) := Lib.hid (if_neg (by rw [hr]; simp))
    have hn : r < 0 ∨ 4294967295 < r := by
      unfold Jo.isd at hr
      simp at hr
      omega
    have hcr := fun W => specDigestBytes_no r W hn
    cases hs : Jo.isd s
    · have hn2 : s < 0 ∨ 4294967295 < s := by
        unfold Jo.isd at hs
        simp at hs
        omega
      have hcs := fun W => specDigestBytes_no s W hn2
      clear hr hs hn hn2
      go_enter Tryz.func90, Tryz.ntmps90
      go_wp2_with fail
      refine (hcr _).mono ?_
      rintro e1 w1 ⟨rfl, hb1⟩
      have hv1 := hv0.below hb1
      have hbel1 := below_aft9 hb0 hb1
      obtain ⟨c0, c1⟩ := Bk.c2 hv1
      go_wp2_with fail
      refine (hcs _).mono ?_
      rintro e2 w2 ⟨rfl, hb2⟩
      have hbel2 := below_aft9 hbel1 hb2
      go_wp2
      go_ret
      exact ⟨by rw [HI.out]; rfl, hbel2⟩
    · obtain ⟨s0, s1⟩ : 0 ≤ s ∧ s ≤ 4294967295 := by
        unfold Jo.isd at hs
        simpa using hs
      have hcs := fun W => specDigestBytes_ok s W s0 s1
      clear hr hs hn
      go_enter Tryz.func90, Tryz.ntmps90
      go_wp2_with fail
      refine (hcr _).mono ?_
      rintro e1 w1 ⟨rfl, hb1⟩
      have hv1 := hv0.below hb1
      have hbel1 := below_aft9 hb0 hb1
      obtain ⟨c0, c1⟩ := Bk.c2 hv1
      go_wp2_with fail
      refine (hcs _).mono ?_
      rintro e2 w2 ⟨rfl, hb2⟩
      have hbel2 := below_aft9 hbel1 hb2
      go_wp2
      go_ret
      exact ⟨by rw [HI.out]; rfl, hbel2⟩
  · obtain ⟨r0, r1⟩ : 0 ≤ r ∧ r ≤ 4294967295 := by
      unfold Jo.isd at hr
      simpa using hr
    have hcr := fun W => specDigestBytes_ok r W r0 r1
    have hne := Dg.bytes_ne r
    cases hs : Jo.isd s
    · have HI : Hid (Jo.item r s = ⟨#[]⟩) := Lib.hid (if_neg (by rw [hs]; simp))
      have hn2 : s < 0 ∨ 4294967295 < s := by
        unfold Jo.isd at hs
        simp at hs
        omega
      have hcs := fun W => specDigestBytes_no s W hn2
      clear hr hs hn2
      go_enter Tryz.func90, Tryz.ntmps90
      go_wp2_with fail
      refine (hcr _).mono ?_
      rintro e1 w1 ⟨rfl, hb1⟩
      have hv1 := hv0.below hb1
      have hbel1 := below_aft9 hb0 hb1
      obtain ⟨c0, c1⟩ := Bk.c2 hv1
      go_wp2_with fail
      refine (hcs _).mono ?_
      rintro e2 w2 ⟨rfl, hb2⟩
      have hbel2 := below_aft9 hbel1 hb2
      go_wp2
      go_ret
      exact ⟨by rw [HI.out]; rfl, hbel2⟩
    · have HI : Hid (Jo.item r s = Dg.bytes r ++ Dg.bytes s) := Lib.hid (if_pos ⟨hr, hs⟩)
      obtain ⟨s0, s1⟩ : 0 ≤ s ∧ s ≤ 4294967295 := by
        unfold Jo.isd at hs
        simpa using hs
      have hcs := fun W => specDigestBytes_ok s W s0 s1
      have hne2 := Dg.bytes_ne s
      have hadd := Dg.add8 r s
      clear hr hs
      go_enter Tryz.func90, Tryz.ntmps90
      go_wp2_with fail
      refine (hcr _).mono ?_
      rintro e1 w1 ⟨rfl, hb1⟩
      have hv1 := hv0.below hb1
      have hbel1 := below_aft9 hb0 hb1
      obtain ⟨c0, c1⟩ := Bk.c2 hv1
      go_wp2_with fail
      refine (hcs _).mono ?_
      rintro e2 w2 ⟨rfl, hb2⟩
      have hbel2 := below_aft9 hbel1 hb2
      go_wp2
      go_ret
      exact ⟨by rw [HI.out]; rfl, hbel2⟩
theorem results_cell_tmp3 {P : Program} {fn : Func} {p u : Tmp} {ty : TypeId} (h : fn.results = #[.cell p ty, .tmp u]) (tmps : Array Value) (w : World) (g : Nat) (t : TypeId) (cs : Array Value) (fr : Nat × Nat) (d : TypeDesc)
    (hp : tmps.getD p undef = .pointer (some ⟨g, 0, none⟩)) (hg : w.heap[g]? = some (.cells cs t fr))
    (hu : P.underlying ty = some d) (hd : (match d with | .struct _ | .array _ _ => true | _ => false) = true) (hi : (P.info? ty).map (·.size) = some cs.size) :
    (results fn tmps).run P w = .ok (.tuple #[.agg cs, tmps.getD u undef]) w := by
  rw [results_cell_tmp h]
  have hp' : tmps[p]?.getD undef = .pointer (some ⟨g, 0, none⟩) := by simpa using hp
  simp [Result.andThen, hp', asAddr, run_loadVar_row w g t ty cs fr d hg hu hd hi]
set_option maxRecDepth 100000 in
set_option maxHeartbeats 1600000 in
theorem specItemSig_yes (s : ByteArray) (w : World) (h : s.size = 8) : Calls Tryz.prog 207 #[.string s] w fun e w' => e = .returned (.tuple #[.agg #[.int .i64 (Dg.num (s.extract 0 4)), .int .i64 (Dg.num (s.extract 4 s.size))], .bool true]) ∧ Below w.heap.size w w' := by
  have h1 : (s.extract 0 4).size = 4 := by rw [ByteArray.size_extract]; omega
  have h2 : (s.extract 4 s.size).size = 4 := by rw [ByteArray.size_extract]; omega
  have hc1 := fun W => specBytesDigest_ok _ W h1
  have hc2 := fun W => specBytesDigest_ok _ W h2
  have hs1 : ∀ W, (Instr.slice 9 (.string s) none (some (.int .i64 4)) none).run Tryz.prog W = .ok (.string (s.extract 0 4)) W := fun W => by
    simp [Instr.slice, Instr.sliceBounds, Instr.sliceBound, asIntOf, run_underlying Tryz.underlying9, h]
  have hs2 : ∀ W, (Instr.slice 9 (.string s) (some (.int .i64 4)) none none).run Tryz.prog W = .ok (.string (s.extract 4 s.size)) W := fun W => by
    simp [Instr.slice, Instr.sliceBounds, Instr.sliceBound, asIntOf, run_underlying Tryz.underlying9, h]
  have hz : ((s.size : Int) == 8) = true := by simp [h]
  have hz2 : ((s.size : Int) != 8) = false := by simp [h]
  have hv0 : Bk w.heap.size 38 #[.int .i64 0, .int .i64 0] (w.alloc (.cells #[.int .i64 0, .int .i64 0] 38 (0, 0))) := Bk.new _ _ _
  have hb0 : Below w.heap.size w (w.alloc (.cells #[.int .i64 0, .int .i64 0] 38 (0, 0))) := (Below.refl _ _).alloc (Nat.le_refl _) _
  obtain ⟨X, HX⟩ : ∃ X, Hid (s.extract 0 4 = X) := ⟨_, Lib.hid rfl⟩
  obtain ⟨Y, HY⟩ : ∃ X, Hid (s.extract 4 s.size = X) := ⟨_, Lib.hid rfl⟩
  rw [HX.out] at hc1 hs1 ⊢
  rw [HY.out] at hc2 hs2 ⊢
  clear h1 h2 h HX HY
  go_enter Tryz.func207, Tryz.ntmps207
  go_wp2_with fail
  refine (hc1 _).mono ?_
  rintro e1 w1 ⟨rfl, hb1⟩
  have hv1 := hv0.below hb1
  have hbel1 := below_aft9 hb0 hb1
  go_wp2_with fail
  refine (hc2 _).mono ?_
  rintro e2 w2 ⟨rfl, hb2⟩
  have hv2 := hv1.below hb2
  have hbel2 := below_aft9 hbel1 hb2
  obtain ⟨c0, c1⟩ := Bk.c2 hv2
  obtain ⟨f0, f1⟩ := hv2.f2
  have hv3 := Bk.store2 hv2 (.int .i64 (Dg.num X)) (.int .i64 (Dg.num Y))
  have hbel3 := below_store2 hbel2 w.heap.size (Nat.le_refl _) (.int .i64 (Dg.num X)) (.int .i64 (Dg.num Y))
  clear hv0 hb0 hv1 hbel1 hb1 hb2 hbel2 hv2
  go_wp2
  refine bodyPost_ret (results_cell_tmp3 (P := Tryz.prog) rfl _ _ w.heap.size 38 _ (0, 0) _ rfl hv3.held Tryz.underlying38 rfl (by kernel_rfl)) rfl ?_
  exact ⟨rfl, hbel3⟩
set_option maxRecDepth 100000 in
set_option maxHeartbeats 1600000 in
theorem specItemSig_no (s : ByteArray) (w : World) (h : s.size ≠ 8) : Calls Tryz.prog 207 #[.string s] w fun e w' => e = .returned (.tuple #[.agg #[.int .i64 0, .int .i64 0], .bool false]) ∧ Below w.heap.size w w' := by
  have hz : ((s.size : Int) == 8) = false := by simpa using fun e : (s.size : Int) = 8 => h (by omega)
  have hz2 : ((s.size : Int) != 8) = true := by simpa using fun e : (s.size : Int) = 8 => h (by omega)
  have hv0 : Bk w.heap.size 38 #[.int .i64 0, .int .i64 0] (w.alloc (.cells #[.int .i64 0, .int .i64 0] 38 (0, 0))) := Bk.new _ _ _
  have hb0 : Below w.heap.size w (w.alloc (.cells #[.int .i64 0, .int .i64 0] 38 (0, 0))) := (Below.refl _ _).alloc (Nat.le_refl _) _
  clear h
  go_enter Tryz.func207, Tryz.ntmps207
  go_wp2
  refine bodyPost_ret (results_cell_tmp3 (P := Tryz.prog) rfl _ _ w.heap.size 38 _ (0, 0) _ rfl hv0.held Tryz.underlying38 rfl (by kernel_rfl)) rfl ?_
  exact ⟨rfl, hb0⟩
end Go.Proofs.YtoocibabceeagabGreat
