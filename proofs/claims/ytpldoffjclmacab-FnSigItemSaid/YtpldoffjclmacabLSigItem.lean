/- For every code of at most 1<<20 bytes (longer ones are let pass by the law itself): SigItem answers as the model's SigItem, and what it writes has eight bytes and is read back by ItemSig. -/
import Derived.Test.YtpldoffjclmacabRows
import Derived.Test.YtpldoffjclmacabYa
import Derived.Test.YtpldoffjclmacabYd
import Derived.Test.YtpldoffjclmacabSi
import Derived.WalkKit
import Derived.WalkSpells
import Derived.ProofKit
import Derived.OpenShut
import Derived.ShutString
import Derived.Below
import Derived.SliceStrings
namespace Go.Proofs.Ytpldoffjclmacab.fnSigItem
open Go.ChangeShapes Go.WideShapes Go.ChangeAt Go.RowKit
open Go.ChangeMaps (open_string shut_string)
set_option maxRecDepth 100000 in
set_option maxHeartbeats 3200000 in
theorem walk (a0 : Option Addr) (len0 cap0 : Nat) (z0 : List Int) (w : World) (w0 : IsRow .u8 w a0 len0 cap0 z0) :
    Calls Try.prog 3 #[.slice a0 len0 cap0] w fun e w' => e = .returned (.bool true) ∧ Below w.heap.size w w' := by
  have hcm := w0.len
  by_cases h : (1048576 : Int) < (len0 : Int)
  · go_enter Try.func3, Try.ntmps3
    go_wp2
    go_ret
    exact ⟨rfl, Below.refl _ _⟩
  have hq2 := noGuard_sig
  go_enter Try.func3, Try.ntmps3
  go_wp2_with fail
  refine (drawSigItem_any a0 len0 cap0 z0 _ w0 (by omega)).mono ?_
  rintro e w1 ⟨R, S, rfl, hb1⟩
  clear w0 h hcm
  have hcon1 := fun W => implSigItem_any R S W
  have hcon2 := fun W => specSigItem_any R S W
  have HX1 : Bk w1.heap.size 24 #[.int .i64 R, .int .i64 S] (w1.alloc (.cells #[.int .i64 R, .int .i64 S] 24 (0, 0))) := Bk.new _ _ _
  have hbel1 := hb1.alloc hb1.size (.cells #[.int .i64 R, .int .i64 S] 24 (0, 0))
  have hlen := Jo.item_len R S
  by_cases hok : Jo.isd R = true ∧ Jo.isd S = true
  · obtain ⟨g1, g2⟩ := Jo.read_item hok
    rw [if_pos hok] at hlen
    have hcon3 := fun W => implItemSig_any (Jo.item R S) W
    rw [g1, g2] at hcon3
    obtain ⟨s, HS⟩ : ∃ s, Hid (Jo.item R S = s) := ⟨_, Lib.hid rfl⟩
    rw [HS.out] at hcon1 hcon2 hcon3 hlen
    have hz : ((s.size : Int) == 8) = true := by simp [hlen]
    have hne : s.toList.isEmpty = false := by rw [str_empty_iff, hlen]; rfl
    have hq : (s.toList == s.toList) = true := by simp
    have hq1 := fun W => eq_sig R S R S W
    simp only [beq_self_eq_true, Bool.and_true] at hq1
    rw [decide_eq_true hlen] at hcon3
    clear HS hok g1 g2 hlen
    go_wp2_with fail
    refine (hcon1 _).mono ?_
    rintro e w2 ⟨rfl, hb2⟩
    have HX2 := HX1.below hb2
    have hbel2 := below_aft9 hbel1 hb2
    obtain ⟨c0, c1⟩ := Bk.c2 HX2
    go_wp2_with fail
    refine (hcon2 _).mono ?_
    rintro e w3 ⟨rfl, hb3⟩
    have HX3 := HX2.below hb3
    have hbel3 := below_aft9 hbel2 hb3
    go_wp2_with fail
    refine (hcon3 _).mono ?_
    rintro e w4 ⟨rfl, hb4⟩
    have HX4 := (HX3.below hb4).alloc (.cells #[.int .i64 R, .int .i64 S] 24 (0, 0))
    have hbel4 := below_aft9 hbel3 hb4
    have hbel5 := hbel4.alloc hbel4.size (.cells #[.int .i64 R, .int .i64 S] 24 (0, 0))
    obtain ⟨x0, x1⟩ := Bk.c2 HX4
    clear HX1 hbel1 hb1 hb2 HX2 hbel2 HX3 hbel3 hb3 hb4 hbel4 HX4 c0 c1
    go_wp2
    go_ret
    exact ⟨rfl, hbel5⟩
  · have e : Jo.item R S = ⟨#[]⟩ := if_neg hok
    rw [e] at hcon1 hcon2
    have hne : (⟨#[]⟩ : ByteArray).toList.isEmpty = true := by rw [str_empty_iff]; rfl
    clear hok hlen e
    go_wp2_with fail
    refine (hcon1 _).mono ?_
    rintro e w2 ⟨rfl, hb2⟩
    have HX2 := HX1.below hb2
    have hbel2 := below_aft9 hbel1 hb2
    obtain ⟨c0, c1⟩ := Bk.c2 HX2
    go_wp2_with fail
    refine (hcon2 _).mono ?_
    rintro e w3 ⟨rfl, hb3⟩
    have hbel3 := below_aft9 hbel2 hb3
    go_wp2
    go_ret
    exact ⟨rfl, hbel3⟩
/-! ### The row's step. -/
theorem own : ownKnob Try.prog.godebug = none := by kernel_rfl
theorem laidOut : laidOutB Try.prog = true := by kernel_rfl
set_option maxRecDepth 100000 in
theorem lifted (os : Os) (started : os.Started) (H : Type) (enc : TypeId × Value → H) :
    ReturnsInHanded {} Try.checked os 3 .any (Rows.fnSigItemSpec.pre6 enc Try.prog Try.f3 Rows.fnSigItemRow.domain false) (Rows.fnSigItemSpec.post enc Try.prog Try.f3 false true false false) := by
  refine returnsInHanded_of_change (C := Try.checked) own started (by kernel_rfl) Try.func3
    (ChangeSpec.witness6 (enc := enc) (C := Try.checked) false ⟨#[], #[.slice none 0 0], []⟩ 8 (by kernel_rfl) (by kernel_rfl) (by kernel_rfl) (by kernel_rfl)) ?_
  intro W base args ds gs before hval0 hW hcnd _
  have hval : ∀ (j : Nat) t v, Try.f3.params[j]? = some t → args[j]? = some v → Value.okWide Try.prog W .any base t v := hval0
  have hW' := hW
  obtain ⟨p, q, hA0, hV, rfl, hfz, hnd⟩ := hW
  have hA : DataW.TrodAll enc Try.prog W 0 (fun _ => true) true Try.f3.params.toList args.toList ds p := hA0
  rw [Try.params3] at hA hval
  obtain ⟨v0, vs0, d0, ds0, p0, q0, hargs, rfl, rfl, h0, r0⟩ := trodAll_cons hA
  obtain ⟨rfl, rfl, rfl⟩ := trodAll_nil r0
  obtain rfl : args = #[v0] := by cases args; simp_all
  obtain ⟨rfl, rfl⟩ := trodVars_none hV
  obtain ⟨a0, len0, cap0, rfl⟩ := okWide_slice Try.underlying22 (hval 0 22 v0 rfl rfl)
  have k0 := h0
  have lt0 : ∀ x ∈ p0, x.block < W.heap.size := by obtain ⟨m, hm⟩ := k0; exact DataW.trod_lt m _ _ _ hm
  obtain ⟨z0, w0⟩ : ∃ zs, IsRow .u8 W a0 len0 cap0 zs := by
    obtain ⟨fuel, hf⟩ := h0
    rcases open_ints Try.underlying22 Try.underlying5 (by kernel_rfl) hf with ⟨hcs, _⟩ | ⟨x, l, c, zs, hcs, _, hl, hm, hz, _, hcell, hwz⟩
    · simp [Value.cells] at hcs
      obtain ⟨rfl, rfl, rfl⟩ := hcs
      exact ⟨[], .inl ⟨rfl, rfl, rfl, rfl⟩⟩
    · simp [Value.cells] at hcs
      obtain ⟨rfl, rfl, rfl⟩ := hcs
      exact ⟨zs, .inr ⟨_, rfl, hl, hm, by simpa using hz, hcell, hwz⟩⟩
  clear hA0 hval0
  refine (walk a0 len0 cap0 z0 W w0).mono fun e W' ⟨he, bel⟩ => ?_
  subst he
  exact ⟨_, rfl, _, _, _, [], _, [], hW', trodAll_mk1 (shut_bool Try.underlying4 _), (trodAll_cons_mk (Below.trod laidOut (by kernel_rfl) (of_decide_eq_true (by kernel_rfl)) k0 bel lt0) trodAll_mk0), rfl, bel.frame _, fun h => by cases h⟩
theorem over : Rows.fnSigItemRow.holds Try.pinned (OpenSpec.ofChange Rows.fnSigItemSpec) :=
  OpenClaim.holds_of_wide 3 Try.f3 rfl rfl rfl rfl rfl rfl rfl ⟨rfl, rfl, rfl, rfl, rfl⟩ rfl rfl rfl rfl rfl (by kernel_rfl) Try.func3 (by kernel_rfl)
    (of_decide_eq_true (by kernel_rfl)) (by unfold Func.isWrapper; first | (rw [if_pos (by decide +kernel)]; kernel_rfl) | (rw [if_neg (by decide +kernel)]; exact ⟨rfl, rfl⟩))
    (fun os started H enc _ => lifted os started H enc)
theorem proved : Rows.FnSigItemSaid := over
#print axioms proved
end Go.Proofs.Ytpldoffjclmacab.fnSigItem
