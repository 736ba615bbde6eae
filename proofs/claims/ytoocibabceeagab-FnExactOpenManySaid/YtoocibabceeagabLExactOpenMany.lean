/- For every list of at most 1<<20 numbers and every string of at most 1<<20 bytes (longer ones are let pass by the law itself), OpenMany of the program answers as the model's OpenMany, leaves the list as it was, and hands back strings that share no memory with the list or with what another call hands back. -/
import Derived.Test.YtoocibabceeagabRows
import Derived.Test.YtoocibabceeagabUh
import Derived.Test.YtoocibabceeagabSm
import Derived.WalkKit
import Derived.WalkSpells
import Derived.ProofKit
import Derived.OpenShut
import Derived.ShutString
import Derived.Below
import Derived.SliceStrings
namespace Go.Proofs.Ytoocibabceeagab.fnExactOpenMany
open Go.ChangeShapes Go.WideShapes Go.ChangeAt Go.RowKit
open Go.ChangeMaps (open_string shut_string)
/-- The marks 1, 2, .. n. -/
def marks (n : Nat) : List ByteArray := (List.range n).map fun (j : Nat) => Mk.mark (1 + (j : Int))
theorem marks_getD (n j : Nat) (h : j < n) : (marks n).getD j ByteArray.empty = Mk.mark (1 + (j : Int)) := by
  unfold marks
  rw [List.getD_eq_getElem?_getD, List.getElem?_map, List.getElem?_range h]
  rfl
set_option maxRecDepth 100000 in
set_option maxHeartbeats 6400000 in
theorem walk (a0 : Option Addr) (len0 cap0 : Nat) (z0 : List Int) (t : ByteArray) (_ : t.size ≤ maxLen) (w : World) (w0 : IsInts w a0 len0 cap0 z0) :
    Calls Try.prog 4 #[.slice a0 len0 cap0, .string t] w fun e w' => e = .returned (.bool true) ∧ Below w.heap.size w w' := by
  obtain ⟨hl0, hl1, hl2⟩ := w0.len
  have HZ := Lib.hid w0.ir
  clear w0
  generalize z0.take len0 = zs at HZ
  by_cases hbig : (1048576 : Int) < (len0 : Int)
  · go_enter Try.func4, Try.ntmps4
    go_wp2
    go_ret
    exact ⟨rfl, Below.refl _ _⟩
  by_cases hbig2 : (1048576 : Int) < (t.size : Int)
  · go_enter Try.func4, Try.ntmps4
    go_wp2
    go_ret
    exact ⟨rfl, Below.refl _ _⟩
  have hlen0 : len0 ≤ 1048576 := by omega
  have ht : t.size ≤ 1048576 := by omega
  obtain ⟨L, ok, hlen, hsp, hip⟩ : ∃ (L : List ByteArray) (ok : Bool), L.length ≤ 5 ∧ (∀ W b, IR W (some ⟨b, 0, none⟩) len0 zs → Calls Try.prog 12 #[.slice (some ⟨b, 0, none⟩) len0 len0, .string t] W (WtR L ok W)) ∧ (∀ W b, IR W (some ⟨b, 0, none⟩) len0 zs → Calls Try.prog 14 #[.slice (some ⟨b, 0, none⟩) len0 len0, .string t] W (WtR L ok W)) := by
    cases hm : Wt.manyOk zs
    · exact ⟨[], false, by simp, fun W b h => (OpenMany_eq _ len0 len0 zs t W h hlen0 ht).mono fun e w' h => h.2 hm, fun W b h => (implOpenMany_any _ len0 len0 zs t W h (by omega) ht).mono fun e w' h => h.2 hm⟩
    · refine ⟨zs.map fun x => Wt.sig x t, true, ?_, fun W b h => (OpenMany_eq _ len0 len0 zs t W h hlen0 ht).mono fun e w' h => h.1 hm, fun W b h => (implOpenMany_any _ len0 len0 zs t W h (by omega) ht).mono fun e w' h => h.1 hm⟩
      unfold Wt.manyOk at hm
      simp at hm
      simp
      omega
  have HSP := Lib.hid hsp
  have HIP := Lib.hid hip
  obtain ⟨n, hn⟩ : ∃ n, L.length = n := ⟨_, rfl⟩
  unfold WtR at HSP HIP
  rw [hn] at HSP HIP hlen
  clear hsp hip
  go_enter Try.func4, Try.ntmps4
  go_wp2_with fail
  refine (toIntS_any a0 len0 cap0 zs _ HZ.out hlen0).mono ?_
  rintro e w1 ⟨b1, rfl, _, hi1, hb1⟩
  have HI1 := Lib.hid hi1
  clear hi1
  go_wp2_with fail
  refine (HSP.out _ _ HI1.out).mono ?_
  rintro e w2 ⟨a2, cp2, rfl, hx, hown2⟩
  have HS2 := Lib.hid (SR.own hown2).2
  have hb2 := hb1.trans (hx.mono hb1.size)
  clear hown2 hx hb1 HI1
  go_wp2_with fail
  refine (toIntS_own a0 len0 cap0 zs _ (HZ.out.below hb2) hlen0).mono ?_
  rintro e w3 ⟨b3, rfl, hn3, hi3, hx, hl3, hc3⟩
  have HI3 := Lib.hid hi3
  have HS3 := Lib.hid (HS2.out.below hx)
  have HNE23 : Hid (0 < n → ∀ b off, a2 = some ⟨b, off, none⟩ → some b ≠ some b3) := Lib.hid (fun h0 b off he hbg => by
    obtain ⟨b', off', he', hb', _⟩ := HS2.out.2 h0
    rw [he] at he'
    cases he'
    cases hbg
    omega)
  have HW3 : Hid (Wr w3 b3 len0) := Lib.hid ⟨fun _ => hl3, hc3⟩
  have hb3 := hb2.trans (hx.mono hb2.size)
  have hwb3 : w.heap.size ≤ b3 := Nat.le_trans hb2.size hn3
  clear hi3 hx hc3 HS2 hn3 hb2
  go_wp2_with fail
  refine (HIP.out _ _ HI3.out).mono ?_
  rintro e w4 ⟨a4, cp4, rfl, hx, hown4⟩
  have HS4 := Lib.hid (SR.own hown4).2
  obtain ⟨g, hg1, hg2, hg3, hg4⟩ := own_cellsN hown4 hx.size
  have hgb : g ≠ b3 := by omega
  have hwg : w.heap.size ≤ g := Nat.le_trans hb3.size hg3
  have HNE43 := Lib.hid (addr_ne hg1 hgb)
  have HG := Lib.hid hg1
  have HW4 : Hid (Wr w4 g n) := Lib.hid ⟨hg2, hg4⟩
  have HW34 := Lib.hid (HW3.out.below hx)
  have HI4 := Lib.hid (HI3.out.below hx)
  have HS24 := Lib.hid (HS3.out.below hx)
  have HNE2g : Hid (0 < n → ∀ b off, a2 = some ⟨b, off, none⟩ → some b ≠ some g) := Lib.hid (fun h0 b off he hbg => by
    obtain ⟨b', off', he', hb', _⟩ := HS3.out.2 h0
    rw [he] at he'
    cases he'
    cases hbg
    omega)
  have hb4 := hb3.trans (hx.mono hb3.size)
  clear hown4 hx hg1 hg2 hg3 hg4 hb3 hl3 HS3 HI3
  cases ok
  all_goals
    go_wp2_with fail
    refine (eqStringS_any a4 a2 n cp4 cp2 L _ HS4.out HS24.out (by omega)).mono ?_
    rintro e w5 ⟨rfl, hx⟩
    have HS5 := Lib.hid (HS4.out.below hx)
    have HS25 := Lib.hid (HS24.out.below hx)
    have HW35 := Lib.hid (HW34.out.below hx)
    have HW5 := Lib.hid (HW4.out.below hx)
    have HI5 := Lib.hid (HI4.out.below hx)
    have hb5 := hb4.trans (hx.mono hb4.size)
    clear hx
    go_wp2_with fail
    refine (toIntS_any a0 len0 cap0 zs _ (HZ.out.below hb5) hlen0).mono ?_
    rintro e w6 ⟨b6, rfl, _, hi6, hx⟩
    have HI66 := Lib.hid hi6
    have HI6 := Lib.hid (HI5.out.below hx)
    have HS6 := Lib.hid (HS5.out.below hx)
    have HS26 := Lib.hid (HS25.out.below hx)
    have HW36 := Lib.hid (HW35.out.below hx)
    have HW6 := Lib.hid (HW5.out.below hx)
    have hb6 := hb5.trans (hx.mono hb5.size)
    clear hx hi6
    go_wp2_with fail
    refine (eqIntS_any _ _ len0 len0 len0 zs _ HI6.out HI66.out hl0).mono ?_
    rintro e w7 ⟨rfl, hx⟩
    have HS7 := Lib.hid (HS6.out.below hx)
    have HS27 := Lib.hid (HS26.out.below hx)
    have HW37 := Lib.hid (HW36.out.below hx)
    have HW7 := Lib.hid (HW6.out.below hx)
    have hb7 := hb6.trans (hx.mono hb6.size)
    clear hx
    go_wp2_with fail
    refine (markIntS_any _ b3 len0 len0 1 _ (fun _ => rfl) HW37.out.1 HW37.out.2 (by omega) (by omega) (by omega)).mono ?_
    rintro e w8 ⟨rfl, hgr8, _⟩
    have HS8 := Lib.hid (HS7.out.grown hgr8 HNE43.out)
    have HS28 := Lib.hid (HS27.out.grown hgr8 HNE23.out)
    have HW8 := Lib.hid (HW7.out.grown hgr8 (by intro h; cases h; exact hgb rfl))
    have hb8 := Below.grown hb7 hgr8 hb7.size (fun j hj => by cases hj; exact hwb3)
    clear hgr8 hb7
    go_wp2_with fail
    refine (eqStringS_any a4 a2 n cp4 cp2 L _ HS8.out HS28.out (by omega)).mono ?_
    rintro e w9 ⟨rfl, hx⟩
    have HS29 := Lib.hid (HS28.out.below hx)
    have HW9 := Lib.hid (HW8.out.below hx)
    have hb9 := hb8.trans (hx.mono hb8.size)
    clear hx hb8
    go_wp2_with fail
    refine (markStringS_any a4 g n cp4 1 _ HG.out HW9.out.1 HW9.out.2 (by omega) (by omega) (by omega)).mono ?_
    rintro e w10 ⟨rfl, hgr10, hm10⟩
    have HS210 := Lib.hid (HS29.out.grown hgr10 HNE2g.out)
    have HM10 : Hid (SR w10 a4 n (marks n)) := Lib.hid ⟨by simp [marks], fun h0 => ⟨g, 0, HG.out h0, Nat.lt_of_lt_of_le (HW9.out.1 h0) hgr10.size, fun j hj => by rw [Nat.zero_add, marks_getD _ _ hj]; exact hm10 j hj⟩⟩
    have hb10 := Below.grown hb9 hgr10 hb9.size (fun j hj => by cases hj; exact hwg)
    clear hgr10 hm10 hb9
    go_wp2_with fail
    refine (heldStringS_any a4 n cp4 (marks n) 1 _ HM10.out (marks_getD n) (by omega) (by omega) (by omega)).mono ?_
    rintro e w11 ⟨rfl, hx⟩
    have HS211 := Lib.hid (HS210.out.below hx)
    have HM11 := Lib.hid (HM10.out.below hx)
    have hb11 := hb10.trans (hx.mono hb10.size)
    clear hx hb10
    go_wp2_with fail
    refine (toIntS_any a0 len0 cap0 zs _ (HZ.out.below hb11) hlen0).mono ?_
    rintro e w12 ⟨b12, rfl, _, hi12, hx⟩
    have HI12 := Lib.hid hi12
    have HS212 := Lib.hid (HS211.out.below hx)
    have HM12 := Lib.hid (HM11.out.below hx)
    have hb12 := hb11.trans (hx.mono hb11.size)
    clear hx hi12 hb11
    go_wp2_with fail
    refine (HIP.out _ _ HI12.out).mono ?_
    rintro e w13 ⟨a13, cp13, rfl, hx, hown13⟩
    have HS13 := Lib.hid (SR.own hown13).2
    have HS213 := Lib.hid (HS212.out.below hx)
    have HM13 := Lib.hid (HM12.out.below hx)
    have hb13 := hb12.trans (hx.mono hb12.size)
    clear hx hown13 hb12
    go_wp2_with fail
    refine (eqStringS_any a13 a2 n cp13 cp2 L _ HS13.out HS213.out (by omega)).mono ?_
    rintro e w14 ⟨rfl, hx⟩
    have HM14 := Lib.hid (HM13.out.below hx)
    have hb14 := hb13.trans (hx.mono hb13.size)
    clear hx hb13
    go_wp2_with fail
    refine (heldStringS_any a4 n cp4 (marks n) 1 _ HM14.out (marks_getD n) (by omega) (by omega) (by omega)).mono ?_
    rintro e w15 ⟨rfl, hx⟩
    have hb15 := hb14.trans (hx.mono hb14.size)
    clear hx hb14
    go_wp2
    go_ret
    exact ⟨rfl, hb15⟩
/-! ### The row's step. -/
theorem own : ownKnob Try.prog.godebug = none := by kernel_rfl
theorem laidOut : laidOutB Try.prog = true := by kernel_rfl
set_option maxRecDepth 100000 in
theorem lifted (os : Os) (started : os.Started) (H : Type) (enc : TypeId × Value → H) :
    ReturnsInHanded {} Try.checked os 4 .any (Rows.fnExactOpenManySpec.pre6 enc Try.prog Try.f4 Rows.fnExactOpenManyRow.domain false) (Rows.fnExactOpenManySpec.post enc Try.prog Try.f4 false true false false) := by
  refine returnsInHanded_of_change (C := Try.checked) own started (by kernel_rfl) Try.func4
    (ChangeSpec.witness6 (enc := enc) (C := Try.checked) false ⟨#[], #[.slice none 0 0, .string ByteArray.empty], []⟩ 8 (by kernel_rfl) (by kernel_rfl) (by kernel_rfl) (by kernel_rfl)) ?_
  intro W base args ds gs before hval0 hW hcnd _
  have hval : ∀ (j : Nat) t v, Try.f4.params[j]? = some t → args[j]? = some v → Value.okWide Try.prog W .any base t v := hval0
  have hW' := hW
  obtain ⟨p, q, hA0, hV, rfl, hfz, hnd⟩ := hW
  have hA : DataW.TrodAll enc Try.prog W 0 (fun _ => true) true Try.f4.params.toList args.toList ds p := hA0
  rw [Try.params4] at hA hval
  obtain ⟨v0, vs0, d0, ds0, p0, q0, hargs, rfl, rfl, h0, r0⟩ := trodAll_cons hA
  obtain ⟨v1, vs1, d1, ds1, p1, q1, rfl, rfl, rfl, h1, r1⟩ := trodAll_cons r0
  obtain ⟨rfl, rfl, rfl⟩ := trodAll_nil r1
  obtain rfl : args = #[v0, v1] := by cases args; simp_all
  obtain ⟨rfl, rfl⟩ := trodVars_none hV
  obtain ⟨a0, len0, cap0, rfl⟩ := okWide_slice Try.underlying28 (hval 0 28 v0 rfl rfl)
  have k0 := h0
  have lt0 : ∀ x ∈ p0, x.block < W.heap.size := by obtain ⟨m, hm⟩ := k0; exact DataW.trod_lt m _ _ _ hm
  obtain ⟨z0, w0⟩ : ∃ zs, IsInts W a0 len0 cap0 zs := by
    obtain ⟨fuel, hf⟩ := h0
    rcases open_ints Try.underlying28 Try.underlying3 (by kernel_rfl) hf with ⟨hcs, _⟩ | ⟨x, l, c, zs, hcs, _, hl, hm, hz, _, hcell, hwz⟩
    · simp [Value.cells] at hcs
      obtain ⟨rfl, rfl, rfl⟩ := hcs
      exact ⟨[], .inl ⟨rfl, rfl, rfl, rfl⟩⟩
    · simp [Value.cells] at hcs
      obtain ⟨rfl, rfl, rfl⟩ := hcs
      exact ⟨zs, .inr ⟨_, rfl, hl, hm, by simpa using hz, hcell, hwz⟩⟩
  obtain ⟨a1, rfl, rfl, rfl, w1⟩ := open_string Try.underlying9 (hval 1 9 v1 rfl rfl) h1
  clear hA0 hval0
  refine (walk a0 len0 cap0 z0 a1 w1 W w0).mono fun e W' ⟨he, bel⟩ => ?_
  subst he
  exact ⟨_, rfl, _, _, _, [], _, [], hW', trodAll_mk1 (shut_bool Try.underlying4 _), (trodAll_cons_mk (Below.trod laidOut (by kernel_rfl) (of_decide_eq_true (by kernel_rfl)) k0 bel lt0) (trodAll_cons_mk (shut_string Try.underlying9 w1) trodAll_mk0)), rfl, bel.frame _, fun h => by cases h⟩
theorem over : Rows.fnExactOpenManyRow.holds Try.pinned (OpenSpec.ofChange Rows.fnExactOpenManySpec) :=
  OpenClaim.holds_of_wide 4 Try.f4 rfl rfl rfl rfl rfl rfl rfl ⟨rfl, rfl, rfl, rfl, rfl⟩ rfl rfl rfl rfl rfl (by kernel_rfl) Try.func4 (by kernel_rfl)
    (of_decide_eq_true (by kernel_rfl)) (by unfold Func.isWrapper; first | (rw [if_pos (by decide +kernel)]; kernel_rfl) | (rw [if_neg (by decide +kernel)]; exact ⟨rfl, rfl⟩))
    (fun os started H enc _ => lifted os started H enc)
theorem proved : Rows.FnExactOpenManySaid := over
#print axioms proved
end Go.Proofs.Ytoocibabceeagab.fnExactOpenMany
