/- For every number and every two strings of at most 1<<20 bytes each (longer ones are let pass by the law itself), OpenPayee of the program answers as the model's OpenPayee; what it hands back shares no memory with what another call hands back. -/
import Derived.Test.YtoocibabceeagabRows
import Derived.Test.YtoocibabceeagabUh
import Derived.Test.YtoocibabceeagabSm
import Derived.WalkKit
import Derived.WalkSpells
import Derived.ProofKit
import Derived.OpenShut
import Derived.ShutString
import Derived.Below
import Derived.SliceStrings
namespace Go.Proofs.Ytoocibabceeagab.fnExactOpenPayee
open Go.ChangeShapes Go.WideShapes Go.ChangeAt Go.RowKit
open Go.ChangeMaps (open_string shut_string)
/-- The marks 1, 2, .. n. -/
def marks (n : Nat) : List ByteArray := (List.range n).map fun (j : Nat) => Mk.mark (1 + (j : Int))
theorem marks_getD (n j : Nat) (h : j < n) : (marks n).getD j ByteArray.empty = Mk.mark (1 + (j : Int)) := by
  unfold marks
  rw [List.getD_eq_getElem?_getD, List.getElem?_map, List.getElem?_range h]
  rfl
set_option maxRecDepth 100000 in
set_option maxHeartbeats 3200000 in
theorem walk (x : Int) (_ : (Lit.int .i64 x).wf = true) (p : ByteArray) (_ : p.size ≤ maxLen) (t : ByteArray) (_ : t.size ≤ maxLen) (w : World) :
    Calls Try.prog 5 #[.int .i64 x, .string p, .string t] w fun e w' => e = .returned (.bool true) ∧ Below w.heap.size w w' := by
  by_cases hg0 : (1048576 : Int) < (p.size : Int)
  · go_enter Try.func5, Try.ntmps5
    go_wp2
    go_ret
    exact ⟨rfl, Below.refl _ _⟩
  by_cases hg1 : (1048576 : Int) < (t.size : Int)
  · go_enter Try.func5, Try.ntmps5
    go_wp2
    go_ret
    exact ⟨rfl, Below.refl _ _⟩
  have hp : p.size ≤ 1048576 := by omega
  have ht : t.size ≤ 1048576 := by omega
  obtain ⟨L, ok, hlen, hsp, hip⟩ : ∃ (L : List ByteArray) (ok : Bool), L.length ≤ 3 ∧ (∀ W, Calls Try.prog 17 #[.int .i64 x, .string p, .string t] W (WtR L ok W)) ∧ (∀ W, Calls Try.prog 18 #[.int .i64 x, .string p, .string t] W (WtR L ok W)) := by
    cases hx : Wt.sec x
    · exact ⟨[], false, by simp, fun W => OpenPayee_no x p t W hx, fun W => (implOpenPayee_any x p t W (by omega) ht).mono fun e w' h => h.2 (fun g => by rw [hx] at g; cases g.1)⟩
    · by_cases h80 : p.size ≤ 80
      · exact ⟨[Wt.sig x t, p, Wt.tr true], true, by simp, fun W => OpenPayee_yes x p t W hx h80 ht, fun W => (implOpenPayee_any x p t W (by omega) ht).mono fun e w' h => h.1 ⟨hx, h80⟩⟩
      · exact ⟨[], false, by simp, fun W => OpenPayee_long x p t W h80 (by omega), fun W => (implOpenPayee_any x p t W (by omega) ht).mono fun e w' h => h.2 (fun g => h80 g.2)⟩
  have HSP := Lib.hid hsp
  have HIP := Lib.hid hip
  obtain ⟨n, hn⟩ : ∃ n, L.length = n := ⟨_, rfl⟩
  unfold WtR at HSP HIP
  rw [hn] at HSP HIP hlen
  clear hsp hip
  go_enter Try.func5, Try.ntmps5
  go_wp2_with fail
  refine (HSP.out _).mono ?_
  rintro e w1 ⟨a1, cap1, rfl, hb1, hown1⟩
  have HS1 := Lib.hid (SR.own hown1).2
  clear hown1
  go_wp2_with fail
  refine (HIP.out _).mono ?_
  rintro e w2 ⟨a2, cap2, rfl, hb2, hown2⟩
  have HS2 := Lib.hid (SR.own hown2).2
  obtain ⟨g, hg1, hg2, hg3, hg4⟩ := own_cellsN hown2 hb2.size
  have HS12 := Lib.hid (HS1.out.below hb2)
  have hne : 0 < n → ∀ b off, a1 = some ⟨b, off, none⟩ → some b ≠ some g := by
    intro h0 b off he hbg
    obtain ⟨b', off', he', hb', _⟩ := HS1.out.2 h0
    rw [he] at he'
    cases he'
    cases hbg
    omega
  have HNE := Lib.hid hne
  have HG := Lib.hid (And.intro hg1 (And.intro hg2 hg4))
  have hbA := hb1.trans (hb2.mono hb1.size)
  have hgb : w.heap.size ≤ g := Nat.le_trans hb1.size hg3
  clear hown2 hne hg1 hg2 hg4 hb2 HS1 hg3
  cases hok : ok
  all_goals
    subst hok
    go_wp2_with fail
    refine (eqStringS_any a2 a1 n cap2 cap1 L _ HS2.out HS12.out (by omega)).mono ?_
    rintro e w3 ⟨rfl, hb3⟩
    have HS13 := Lib.hid (HS12.out.below hb3)
    have hcell : ∀ j, j < n → (w3.cell? ⟨g, j, none⟩).isSome = true ∧ w3.frozen? ⟨g, j, none⟩ = false := by
      intro j hj
      have hk := hb3.block g (HG.out.2.1 (by omega))
      have h1 := HG.out.2.2 j hj
      refine ⟨?_, ?_⟩
      · rw [World.cell?_of_block (w := w2) (a := ⟨g, j, none⟩) hk]; exact h1.1
      · have : w3.frozen? ⟨g, j, none⟩ = w2.frozen? ⟨g, j, none⟩ := by unfold World.frozen?; rw [hk]
        rw [this]; exact h1.2
    have HC := Lib.hid hcell
    have hlt3 : 0 < n → g < w3.heap.size := fun h0 => Nat.lt_of_lt_of_le (HG.out.2.1 h0) hb3.size
    have HLT := Lib.hid hlt3
    have hbB := hbA.trans (hb3.mono hbA.size)
    clear hcell hlt3 hbA hb3
    go_wp2_with fail
    refine (markStringS_any a2 g n cap2 1 _ HG.out.1 HLT.out HC.out (by omega) (by omega) (by omega)).mono ?_
    rintro e w4 ⟨rfl, hgr4, hm4⟩
    have HS14 := Lib.hid (HS13.out.grown hgr4 HNE.out)
    have HM4 : Hid (SR w4 a2 n (marks n)) := Lib.hid ⟨by simp [marks], fun h0 => ⟨g, 0, HG.out.1 h0, Nat.lt_of_lt_of_le (HLT.out h0) hgr4.size, fun j hj => by rw [Nat.zero_add, marks_getD _ _ hj]; exact hm4 j hj⟩⟩
    have hbC := Below.grown hbB hgr4 hbB.size (fun j hj => by cases hj; exact hgb)
    clear hm4 hgr4 hbB
    go_wp2_with fail
    refine (heldStringS_any a2 n cap2 (marks n) 1 _ HM4.out (marks_getD n) (by omega) (by omega) (by omega)).mono ?_
    rintro e w5 ⟨rfl, hb5⟩
    have HS15 := Lib.hid (HS14.out.below hb5)
    have HM5 := Lib.hid (HM4.out.below hb5)
    have hbD := hbC.trans (hb5.mono hbC.size)
    clear hb5 hbC
    go_wp2_with fail
    refine (HIP.out _).mono ?_
    rintro e w6 ⟨a6, cap6, rfl, hb6, hown6⟩
    have HS6 := Lib.hid (SR.own hown6).2
    have HS16 := Lib.hid (HS15.out.below hb6)
    have HM6 := Lib.hid (HM5.out.below hb6)
    have hbE := hbD.trans (hb6.mono hbD.size)
    clear hown6 hb6 hbD
    go_wp2_with fail
    refine (eqStringS_any a6 a1 n cap6 cap1 L _ HS6.out HS16.out (by omega)).mono ?_
    rintro e w7 ⟨rfl, hb7⟩
    have HM7 := Lib.hid (HM6.out.below hb7)
    have hbF := hbE.trans (hb7.mono hbE.size)
    clear hb7 hbE
    go_wp2_with fail
    refine (heldStringS_any a2 n cap2 (marks n) 1 _ HM7.out (marks_getD n) (by omega) (by omega) (by omega)).mono ?_
    rintro e w8 ⟨rfl, hb8⟩
    have hbG := hbF.trans (hb8.mono hbF.size)
    clear hb8 hbF
    go_wp2
    go_ret
    exact ⟨rfl, hbG⟩
/-! ### The row's step. -/
theorem own : ownKnob Try.prog.godebug = none := by kernel_rfl
set_option maxRecDepth 100000 in
theorem lifted (os : Os) (started : os.Started) (H : Type) (enc : TypeId × Value → H) :
    ReturnsInHanded {} Try.checked os 5 .any (Rows.fnExactOpenPayeeSpec.pre6 enc Try.prog Try.f5 Rows.fnExactOpenPayeeRow.domain false) (Rows.fnExactOpenPayeeSpec.post enc Try.prog Try.f5 false true false false) := by
  refine returnsInHanded_of_change (C := Try.checked) own started (by kernel_rfl) Try.func5
    (ChangeSpec.witness6 (enc := enc) (C := Try.checked) false ⟨#[], #[.int .i64 0, .string ByteArray.empty, .string ByteArray.empty], []⟩ 8 (by kernel_rfl) (by kernel_rfl) (by kernel_rfl) (by kernel_rfl)) ?_
  intro W base args ds gs before hval0 hW hcnd _
  have hval : ∀ (j : Nat) t v, Try.f5.params[j]? = some t → args[j]? = some v → Value.okWide Try.prog W .any base t v := hval0
  have hW' := hW
  obtain ⟨p, q, hA0, hV, rfl, hfz, hnd⟩ := hW
  have hA : DataW.TrodAll enc Try.prog W 0 (fun _ => true) true Try.f5.params.toList args.toList ds p := hA0
  rw [Try.params5] at hA hval
  obtain ⟨v0, vs0, d0, ds0, p0, q0, hargs, rfl, rfl, h0, r0⟩ := trodAll_cons hA
  obtain ⟨v1, vs1, d1, ds1, p1, q1, rfl, rfl, rfl, h1, r1⟩ := trodAll_cons r0
  obtain ⟨v2, vs2, d2, ds2, p2, q2, rfl, rfl, rfl, h2, r2⟩ := trodAll_cons r1
  obtain ⟨rfl, rfl, rfl⟩ := trodAll_nil r2
  obtain rfl : args = #[v0, v1, v2] := by cases args; simp_all
  obtain ⟨rfl, rfl⟩ := trodVars_none hV
  obtain ⟨a0, rfl, rfl, rfl, w0⟩ := open_int Try.underlying3 (hval 0 3 v0 rfl rfl) h0
  obtain ⟨a1, rfl, rfl, rfl, w1⟩ := open_string Try.underlying9 (hval 1 9 v1 rfl rfl) h1
  obtain ⟨a2, rfl, rfl, rfl, w2⟩ := open_string Try.underlying9 (hval 2 9 v2 rfl rfl) h2
  clear hA0 hval0
  refine (walk a0 w0 a1 w1 a2 w2 W).mono fun e W' ⟨he, bel⟩ => ?_
  subst he
  exact ⟨_, rfl, _, _, _, [], _, [], hW', trodAll_mk1 (shut_bool Try.underlying4 _), (trodAll_cons_mk (shut_int Try.underlying3 w0) (trodAll_cons_mk (shut_string Try.underlying9 w1) (trodAll_cons_mk (shut_string Try.underlying9 w2) trodAll_mk0))), rfl, bel.frame _, fun h => by cases h⟩
theorem over : Rows.fnExactOpenPayeeRow.holds Try.pinned (OpenSpec.ofChange Rows.fnExactOpenPayeeSpec) :=
  OpenClaim.holds_of_wide 5 Try.f5 rfl rfl rfl rfl rfl rfl rfl ⟨rfl, rfl, rfl, rfl, rfl⟩ rfl rfl rfl rfl rfl (by kernel_rfl) Try.func5 (by kernel_rfl)
    (of_decide_eq_true (by kernel_rfl)) (by unfold Func.isWrapper; first | (rw [if_pos (by decide +kernel)]; kernel_rfl) | (rw [if_neg (by decide +kernel)]; exact ⟨rfl, rfl⟩))
    (fun os started H enc _ => lifted os started H enc)
theorem proved : Rows.FnExactOpenPayeeSaid := over
#print axioms proved
end Go.Proofs.Ytoocibabceeagab.fnExactOpenPayee
