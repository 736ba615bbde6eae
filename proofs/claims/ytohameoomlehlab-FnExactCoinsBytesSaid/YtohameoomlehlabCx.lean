/-
  The coins of a map collected into a slice, and put in order.
-/
import Derived.Test.YtohameoomlehlabCw
import Derived.Test.YtohameoomlehlabCr
import Derived.Test.YtohameoomlehlabCe
namespace Go.Proofs.Ytohameoomlehlab
open Go.RowKit Go.Shelf Go.Maps
attribute [local go_sem] Oper.semAt_some

set_option maxHeartbeats 400000 in
theorem values_any (mb : Option Nat) (w : World) :
    Calls Try.prog 68 #[.map mb] w fun e w' => e = .returned (.func (.func 90) #[] #[.pointer (some ⟨w.heap.size, 0, none⟩)]) ∧ w' = w.alloc (.cells #[.map mb] 56) := by
  have hmf := makeFunc_run14
  go_enter Try.func68, Try.ntmps68
  go_wp2
  go_ret
  exact ⟨rfl, rfl⟩
theorem values_stops (F : Fence) (n : Nat) (hf : F.fn 90) (hro : F.round = none) (hn : 1 ≤ n) (Bm b nn : Nat) (cl : List Co) (w : World) (hBm : Bm < w.heap.size)
    (hm : w.cell? ⟨Bm, 0, none⟩ = some (.map (some b))) (hown : CM w b nn cl) :
    SeqStopsK F n Try.prog 90 #[.pointer (some ⟨Bm, 0, none⟩)] (fun c : Co => #[Co.val c]) KeepsWalks (fun xs => xs.Perm cl) (fun _ => True) cl.length w := fun l J Jx W hW hJ _ hY h0 =>
  values1_in F n hf hro hn l Bm b nn cl J Jx hY W hJ ((hW.cell (p := ⟨Bm, 0, none⟩) hBm).trans hm) (hown.below hW) h0
theorem Bk.ownC {B : Nat} {t : TypeId} {cs : Array Value} {A A' : World} {row : Option Nat} (h : Bk B t cs A) (hg : A.grownBy A' row) (hr : ∀ r, row = some r → ∃ o : Obj, A.heap[r]? = some o ∧ o.isCells = false) : Bk B t cs A' := by
  refine ⟨(hg.block B h.lt (fun e => ?_)).trans h.held⟩
  obtain ⟨o, ho, hc⟩ := hr B e.symm
  rw [h.held] at ho
  cases ho
  cases hc
/-- What a round of AppendSeq begins with. -/
def ApAx (sv : Value) (B : Nat) (x : Co) (a' : Act) (W : World) : Prop :=
  ∃ D, a' = { tmps := #[.slice none 0 0, sv, .pointer (some ⟨B, 0, none⟩), undef, .slice none 0 0, .pointer (some ⟨D, 0, none⟩), sv, Co.val x, undef, undef, undef, undef, undef], defers := [] } ∧ Bk D 30 #[.int .i64 x.tx, .int .i64 x.out, .int .i64 x.amt, .string x.lock, .int .i64 x.ht, .bool x.rew] W
theorem ap_types : (25 : TypeId) ≠ 30 := by decide
set_option maxRecDepth 100000 in
set_option maxHeartbeats 1600000 in
theorem appendSeq_any (Bm b nn : Nat) (cl : List Co) (w : World) (hBm : Bm < w.heap.size) (hm : w.cell? ⟨Bm, 0, none⟩ = some (.map (some b))) (hown : CM w b nn cl) (hlen : cl.length ≤ 1000) :
    Calls Try.prog 107 #[.slice none 0 0, (Value.func (.func 90) #[] #[.pointer (some ⟨Bm, 0, none⟩)])] w fun e w' => ∃ v xs, e = .returned v ∧ Hid (List.Perm xs cl) ∧ Hid (OwnC w.heap.size w' v xs) ∧ Below w.heap.size w w' := by
  obtain ⟨i0, hi, hz0, hz1, hz2⟩ := info_parts info_coin
  refine (callsIn_wide (n := 4)).1 ?_
  refine callsIn_of_wp_marks Try.func107 rfl trivial ?_ rfl
  simp only [Try.ntmps107, List.size_toArray, List.length_cons, List.length_nil, Nat.reduceAdd, Nat.reduceSub, Array.replicate_succ, Array.replicate_zero, List.push_toArray, List.append_toArray, List.nil_append, List.cons_append]
  gi_wp2
  have bO := Boxed.new w 25 (.slice none 0 0)
  have hB0 : Below w.heap.size w (w.alloc (.cells #[.slice none 0 0] 25)) := (Below.refl _ w).alloc (Nat.le_refl _) _
  refine wpIn_rangeFunc_ownH rfl (by omega) (gf := 90) (lb := #[.pointer (some ⟨Bm, 0, none⟩)]) rfl trivial (enters_of Try.func90 (by kernel_rfl) rfl)
    (values_stops Fence.wide _ trivial rfl (by omega) Bm b nn cl _ (Nat.lt_of_lt_of_le hBm hB0.size) ((hB0.cell (p := ⟨Bm, 0, none⟩) hBm).trans hm) (hown.below hB0)) walksK_t (fun W l o o' hl h hc hw => walksK_b (w := w) W l o o' (by simp at hl; omega) h hc hw) (Below.refl _ _) (fun _ => rfl)
    (fun pre W => (∃ v, Boxed W w.heap.size 25 v ∧ W.ownsRow w.heap.size 30 6 v pre.length (Co.cs pre) ∧ True) ∧ Below w.heap.size w W)
    (fun _ _ _ => False)
    (OwnFrom.and (Own.from (holdsRow_own w.heap.size w.heap.size 25 30 6 (fun pre => pre.length) Co.cs (fun _ _ => True)) _) (ownFrom_below (Nat.le_refl _) (by simp)))
    (fun _ _ _ _ _ hs _ _ => hs)
    ⟨⟨_, bO, World.ownsRow_nil _ _ _ _, trivial⟩, hB0⟩
    (ApAx (Value.func (.func 90) #[] #[.pointer (some ⟨Bm, 0, none⟩)]) w.heap.size)
    (fun x a' _ A B row hs hg hr => by obtain ⟨D, h1, h2⟩ := hs; exact ⟨D, h1, h2.ownC hg (fun r e => (hr r e).2)⟩)
    ?assign ?body ?done ?stop
  case assign =>
    rintro l pre x W K ⟨⟨v, hv, hrow, _⟩, hB⟩ hK
    have hK2 := hK { tmps := #[.slice none 0 0, (Value.func (.func 90) #[] #[.pointer (some ⟨Bm, 0, none⟩)]), .pointer (some ⟨w.heap.size, 0, none⟩), undef, .slice none 0 0, .pointer (some ⟨W.heap.size, 0, none⟩), (Value.func (.func 90) #[] #[.pointer (some ⟨Bm, 0, none⟩)]), Co.val x, undef, undef, undef, undef, undef], defers := [] } (W.alloc (.cells #[.int .i64 x.tx, .int .i64 x.out, .int .i64 x.amt, .string x.lock, .int .i64 x.ht, .bool x.rew] 30 (0, 0)))
      ((KeepsOthers.alloc W _).from _) (KeepsWalks.alloc W _) ⟨⟨v, hv.alloc _, hrow.alloc _, trivial⟩, hB.alloc hB.size _⟩ ⟨W.heap.size, rfl, Bk.new _ _ _⟩
    clear hK hv hrow hB bO hB0 hown hm
    unfold Co.val at hK2
    dsimp only [Co.val]
    gi_wp2
    exact hK2
  case body =>
    rintro l pre x a' W hwl hlp ⟨⟨v, hv, hrow, _⟩, hB⟩ ⟨D, rfl, hD⟩ hlt
    obtain ⟨c0, c1, c2, c3, c4, c5⟩ := Bk.c6 hD
    have hc := hv.cell
    have hlt2 : pre.length < 1000 := by omega
    have HX : Hid (Co.cs (pre ++ [x]) = Co.cs pre ++ [.int .i64 x.tx, .int .i64 x.out, .int .i64 x.amt, .string x.lock, .int .i64 x.ht, .bool x.rew]) := Lib.hid (by rw [Co.cs_append]; rfl)
    clear hwl hlp hown hm bO hB0
    gi_wp2_with (gi_at_builtin; refine wpListIn_append_own _ rfl _ _ 25 rfl w.heap.size 30 i0 (.agg #[.int .i64 0, .int .i64 0, .int .i64 0, .string ⟨#[]⟩, .int .i64 0, .bool false]) 6 56 Try.underlying25 hi hz0 hz1 hz2 rfl (by decide) _ _ _ rfl (hrow.alloc (.cells #[.int .i64 x.tx, .int .i64 x.out, .int .i64 x.amt, .string x.lock, .int .i64 x.ht, .bool x.rew] 30 (0, 0))) ⟨W.heap.size, 0, none⟩ 1 1 [.int .i64 x.tx, .int .i64 x.out, .int .i64 x.amt, .string x.lock, .int .i64 x.ht, .bool x.rew] rfl rfl (newsC _ _ _) (by simp [Value.oneCell']) (by unfold maxLen; omega) (by omega) (by have := hB.size; simp; omega) ?_; intro v' w1 hown' hgrow _; obtain ⟨g', cap', rfl⟩ := ownsRow_succ hown'; obtain ⟨hv1, hv2, hr2, hk2, hb2⟩ := hv.appended ap_types hrow hB.size (Nat.le_refl _) hown' hgrow; have hc1 := hv1.cell; have hf1 := hv1.frozen)
    exact ⟨hk2.from _, hk2.walks, ⟨_, hv2, by rw [HX.out, List.length_append]; exact hr2, trivial⟩, hB.trans hb2⟩
  case done =>
    rintro D ys W hD hS ⟨⟨v, hv, hrow, _⟩, hB⟩ hK
    have hc := hv.cell
    have HS := Lib.hid hS
    clear hS hown hm bO hB0
    gi_wp2
    refine ⟨by simp, .inl ⟨_, _, rfl, run_takeDeferred hK, ?_⟩⟩
    exact ⟨_, results_tmp rfl _ _ _, v, ys, rfl, HS, Lib.hid (ownsRow_putObj hrow _ hK rfl), hB.trans (belowK_b (w := w) (Nat.le_refl _) W D _ _ (by simp at hD; omega) hK rfl rfl)⟩
  case stop =>
    rintro D c pre W _ _ h _
    exact h.elim
end Go.Proofs.Ytohameoomlehlab
