/-
  Contracts of scripts: SigItem, ItemSig; of the model.
-/
import Derived.Test.YtcbpdibkindnfaaDg
import Derived.Test.YtcbpdibkindnfaaOc
import Derived.Test.YtcbpdibkindnfaaBk
namespace Go.Proofs.Ytcbpdibkindnfaa
open Go.RowKit

theorem below_alc9 {n : Nat} {w w1 : World} (h : Below n w w1) (hn : n ≤ w1.heap.size) (o : Obj) : Below n w (w1.alloc o) := h.alloc hn o
/-- Is it a digest? -/
def Jo.isd (x : Int) : Bool := decide (0 ≤ x ∧ x ≤ 4294967295)
/-- The item of a signature. -/
def Jo.item (r s : Int) : ByteArray := if Jo.isd r = true ∧ Jo.isd s = true then Dg.bytes r ++ Dg.bytes s else ⟨#[]⟩
theorem Dg.bytes_ne (d : Int) : (Dg.bytes d).toList.isEmpty = false := by
  rw [str_empty_iff, Dg.bytes_size]; rfl
theorem Dg.add8 (a b : Int) (W : World) : (Op.stringOp .add (Dg.bytes a) (Dg.bytes b)).run Try.prog W = .ok (.string (Dg.bytes a ++ Dg.bytes b)) W :=
  run_string_add_sum (P := Try.prog) W _ _ (by rw [Dg.bytes_size, Dg.bytes_size]; decide)
set_option maxRecDepth 100000 in
set_option maxHeartbeats 1600000 in
theorem specSigItem_any (r s : Int) (w : World) : Calls Try.prog 103 #[.agg #[.int .i64 r, .int .i64 s]] w fun e w' => e = .returned (.string (Jo.item r s)) ∧ Below w.heap.size w w' := by
  have hv0 : Bk w.heap.size 124 #[.int .i64 r, .int .i64 s] (w.alloc (.cells #[.int .i64 r, .int .i64 s] 124 (0, 0))) := Bk.new _ _ _
  have hb0 : Below w.heap.size w (w.alloc (.cells #[.int .i64 r, .int .i64 s] 124 (0, 0))) := (Below.refl _ _).alloc (Nat.le_refl _) _
  have hE : (⟨#[]⟩ : ByteArray).toList.isEmpty = true := by rw [str_empty_iff]; rfl
  cases hr : Jo.isd r
  · have HI : Hid (Jo.item r s = ⟨#[]⟩) := Lib.hid (if_neg (by rw [hr]; simp))
    have hn : r < 0 ∨ 4294967295 < r := by
      unfold Jo.isd at hr
      simp at hr
      omega
    have hcr := fun W => specDigestBytes_no r W hn
    cases hs : Jo.isd s
    · have hn2 : s < 0 ∨ 4294967295 < s := by
        unfold Jo.isd at hs
        simp at hs
        omega
      have hcs := fun W => specDigestBytes_no s W hn2
      clear hr hs hn hn2
      go_enter Try.func103, Try.ntmps103
      go_wp2_with fail
      refine (hcr _).mono ?_
      rintro e1 w1 ⟨rfl, hb1⟩
      have hv1 := hv0.below hb1
      have hbel1 := below_aft9 hb0 hb1
      obtain ⟨c0, c1⟩ := Bk.c2 hv1
      go_wp2_with fail
      refine (hcs _).mono ?_
      rintro e2 w2 ⟨rfl, hb2⟩
      have hbel2 := below_aft9 hbel1 hb2
      go_wp2
      go_ret
      exact ⟨by rw [HI.out]; rfl, hbel2⟩
    · obtain ⟨s0, s1⟩ : 0 ≤ s ∧ s ≤ 4294967295 := by
        unfold Jo.isd at hs
        simpa using hs
      have hcs := fun W => specDigestBytes_ok s W s0 s1
      clear hr hs hn
      go_enter Try.func103, Try.ntmps103
      go_wp2_with fail
      refine (hcr _).mono ?_
      rintro e1 w1 ⟨rfl, hb1⟩
      have hv1 := hv0.below hb1
      have hbel1 := below_aft9 hb0 hb1
      obtain ⟨c0, c1⟩ := Bk.c2 hv1
      go_wp2_with fail
      refine (hcs _).mono ?_
      rintro e2 w2 ⟨rfl, hb2⟩
      have hbel2 := below_aft9 hbel1 hb2
      go_wp2
      go_ret
      exact ⟨by rw [HI.out]; rfl, hbel2⟩
  · obtain ⟨r0, r1⟩ : 0 ≤ r ∧ r ≤ 4294967295 := by
      unfold Jo.isd at hr
      simpa using hr
    have hcr := fun W => specDigestBytes_ok r W r0 r1
    have hne := Dg.bytes_ne r
    cases hs : Jo.isd s
    · have HI : Hid (Jo.item r s = ⟨#[]⟩) := Lib.hid (if_neg (by rw [hs]; simp))
      have hn2 : s < 0 ∨ 4294967295 < s := by
        unfold Jo.isd at hs
        simp at hs
        omega
      have hcs := fun W => specDigestBytes_no s W hn2
      clear hr hs hn2
      go_enter Try.func103, Try.ntmps103
      go_wp2_with fail
      refine (hcr _).mono ?_
      rintro e1 w1 ⟨rfl, hb1⟩
      have hv1 := hv0.below hb1
      have hbel1 := below_aft9 hb0 hb1
      obtain ⟨c0, c1⟩ := Bk.c2 hv1
      go_wp2_with fail
      refine (hcs _).mono ?_
      rintro e2 w2 ⟨rfl, hb2⟩
      have hbel2 := below_aft9 hbel1 hb2
      go_wp2
      go_ret
      exact ⟨by rw [HI.out]; rfl, hbel2⟩
    · have HI : Hid (Jo.item r s = Dg.bytes r ++ Dg.bytes s) := Lib.hid (if_pos ⟨hr, hs⟩)
      obtain ⟨s0, s1⟩ : 0 ≤ s ∧ s ≤ 4294967295 := by
        unfold Jo.isd at hs
        simpa using hs
      have hcs := fun W => specDigestBytes_ok s W s0 s1
      have hne2 := Dg.bytes_ne s
      have hadd := Dg.add8 r s
      clear hr hs
      go_enter Try.func103, Try.ntmps103
      go_wp2_with fail
      refine (hcr _).mono ?_
      rintro e1 w1 ⟨rfl, hb1⟩
      have hv1 := hv0.below hb1
      have hbel1 := below_aft9 hb0 hb1
      obtain ⟨c0, c1⟩ := Bk.c2 hv1
      go_wp2_with fail
      refine (hcs _).mono ?_
      rintro e2 w2 ⟨rfl, hb2⟩
      have hbel2 := below_aft9 hbel1 hb2
      go_wp2
      go_ret
      exact ⟨by rw [HI.out]; rfl, hbel2⟩
theorem results_cell_tmp3 {P : Program} {fn : Func} {p u : Tmp} {ty : TypeId} (h : fn.results = #[.cell p ty, .tmp u]) (tmps : Array Value) (w : World) (g : Nat) (t : TypeId) (cs : Array Value) (fr : Nat × Nat) (d : TypeDesc)
    (hp : tmps.getD p undef = .pointer (some ⟨g, 0, none⟩)) (hg : w.heap[g]? = some (.cells cs t fr))
    (hu : P.underlying ty = some d) (hd : (match d with | .struct _ | .array _ _ => true | _ => false) = true) (hi : (P.info? ty).map (·.size) = some cs.size) :
    (results fn tmps).run P w = .ok (.tuple #[.agg cs, tmps.getD u undef]) w := by
  rw [results_cell_tmp h]
  have hp' : tmps[p]?.getD undef = .pointer (some ⟨g, 0, none⟩) := by simpa using hp
  simp [Result.andThen, hp', asAddr, run_loadVar_row w g t ty cs fr d hg hu hd hi]
end Go.Proofs.Ytcbpdibkindnfaa
