/-
  The coins of a map, one after another; collected; in order.
-/
import Derived.Test.YtohameoomlehlabCq
import Derived.RangeFuncNested
import Derived.RangeFuncBound
import Derived.RangeFuncCalls
import Derived.RangeFuncLeaves
import Derived.RangeFuncFrom
import Derived.RangeFuncBox
import Derived.RangeFuncMany
import Derived.Sort.MapsRangeIn
import Derived.Sort.KeysCollected
import Derived.Shelf.Abstract
import Derived.Shelf.AbstractIn
import Derived.Shelf.RegionOpen
import Derived.WalkKit
import Derived.OwnWalkIn
import Derived.TacticsInMore
import Derived.RegionIn
import Derived.LoopNIn
import Derived.LoopIn
namespace Go.Proofs.Ytohameoomlehlab
open Go.RowKit Go.Shelf Go.Maps
attribute [local go_sem] Oper.semAt_some

theorem makeFunc_run14 : ∀ (fn : Fn) (first cap : Array Value) (w : World), (Instr.makeFunc fn first cap).run Try.prog w = .ok (.func fn first cap) w := fun _ _ _ _ => rfl
set_option maxRecDepth 100000 in
set_option maxHeartbeats 1600000 in
theorem values1_in (F : Fence) (n : Nat) (hf : F.fn 90) (hro : F.round = none) (hn : 1 ≤ n) (l Bm b nn : Nat) (cl : List Co) (J Jx : List Co → World → Prop)
    (hY : ∀ pre x W, J pre W → pre.length < cl.length → YieldAt F (n - 1) Try.prog l #[Co.val x] W fun e W' =>
      (e = .returned (.bool true) ∧ J (pre ++ [x]) W' ∧ KeepsWalks W W') ∨ (e = .returned (.bool false) ∧ Jx (pre ++ [x]) W'))
    (W : World) (hJ : AbidesFrom W.heap.size J) (hm : W.cell? ⟨Bm, 0, none⟩ = some (.map (some b))) (hown : CM W b nn cl) (h0 : J [] W) :
    CallsIn F n Try.prog 90 #[.func (.yield l) #[] #[], .pointer (some ⟨Bm, 0, none⟩)] W fun e W' => (∃ v, e = .returned v) ∧
      ((∃ xs, xs.Perm cl ∧ J xs W') ∨ (∃ pre, True ∧ Jx pre W')) := by
  obtain ⟨D0, hD, hIs⟩ := hown
  have HIS := Lib.hid hIs
  have hsz := hIs.size
  clear hIs
  refine callsIn_of_wp Try.func90 rfl hf ?_ hro
  simp only [Try.ntmps90, List.size_toArray, List.length_cons, List.length_nil, Nat.reduceAdd, Nat.reduceSub, Array.replicate_succ, Array.replicate_zero, List.push_toArray, List.append_toArray, List.nil_append, List.cons_append]
  gi_wp2_with (first
    | (gi_at_range; refine wpListIn_range_own _ rfl _ 56 rfl 60 30 place_law Try.underlying56 Co.rdr b nn D0 rfl hD ?_; intro w0 hrg0 hg0 hs0)
    | gi_in)
  go_frame
  gi_loopw [7] (fun _ wr => ∃ (left : Lit → Bool) (cnt : Nat) (ps : List Co), wr.ranges Try.prog 60 Co.rdr b W.heap.size nn D0 left cnt ∧ ps.length + cnt ≤ Maps.size D0 ∧ Hid (Co.Got cl left ps) ∧ J ps wr)
    (fun _ wr => wr.rangeLeft b W.heap.size)
  case atStart =>
    exact ⟨_, _, [], hrg0, by simp, Lib.hid (Co.Got.start HIS.out), hJ [] W w0 none h0 hg0 (fun r e => by cases e)⟩
  case round =>
    obtain ⟨left, cnt, ps, hrg, hcs, HG, hJs⟩ := hrel
    gi_wp2_with (first
      | (gi_at_next; refine wpListIn_next_ranges _ rfl _ rfl 60 place_law Co.rdr (id : Value → Value) Co.val (fun key kl hk => ⟨key, rfl⟩) (fun v y hv => by obtain ⟨c, rfl, _⟩ := Co.rdr_inv hv; exact ⟨c, rfl⟩) b W.heap.size nn _ _ _ rfl hrg ?_ ?_)
      | gi_in)
    · intro hc0 hl0
      have HP := Lib.hid (HG.out.perm HIS.out.apart.nodup hl0)
      clear hl0 HG
      gi_wp2
      go_end0
      exact ⟨⟨_, rfl⟩, .inl ⟨ps, HP.out, hJs⟩⟩
    · intro x c kl yd yp w2 cnt2 hkey hlk hv hat hrg2 hlt hg2 hs2 hen
      have hJ2 : J ps w2 := hJ ps wr w2 (some W.heap.size) hJs hg2 (fun r e => by cases e; exact ⟨Nat.le_refl _, hrg.iter_walk⟩)
      obtain ⟨hcl, rfl⟩ := HIS.out.which (y := (yd, yp)) hv hat
      have HG2 := Lib.hid (HG.out.step HIS.out hcl hlk)
      have hJ3 : J ps (w2.alloc (.cells #[.int .i64 c.tx, .int .i64 c.out, .int .i64 c.amt, .string c.lock, .int .i64 c.ht, .bool c.rew] 30 (0, 0))) := hJ ps w2 _ none hJ2 (World.grownBy_alloc _ _ _) (fun r e => by cases e)
      have hrg3 := hrg2.alloc (.cells #[.int .i64 c.tx, .int .i64 c.out, .int .i64 c.amt, .string c.lock, .int .i64 c.ht, .bool c.rew] 30 (0, 0))
      obtain ⟨fn, tmps, assign, body, hy, hR⟩ := hY ps c _ hJ3 (by omega)
      have vc := Bk.new w2 30 #[.int .i64 c.tx, .int .i64 c.out, .int .i64 c.amt, .string c.lock, .int .i64 c.ht, .bool c.rew]
      obtain ⟨c0, c1, c2, c3, c4, c5⟩ := Bk.c6 vc
      obtain ⟨tx, out, amt, lock, ht, rew⟩ := c
      dsimp only [Co.val, id] at hy hen ⊢
      simp only at c0 c1 c2 c3 c4 c5 hR hrg3 hJ3
      clear hs2 hkey hlk hv hat hJ2 vc HG hcl
      gi_wp2
      refine hR.mono ?_
      rintro e W3 (⟨rfl, hJ4, hk3⟩ | ⟨rfl, hJx3⟩)
      · have hrg4 := hrg3.of_walks hk3
        clear hR hy c0 c1 c2 c3 c4 c5 hen
        gi_wp2
        go_roundw
        case rel => exact ⟨_, cnt2, ps ++ [⟨tx, out, amt, lock, ht, rew⟩], hrg4, by simp; omega, HG2, hJ4⟩
        case measure => rw [hrg4.left_eq, hrg.left_eq]; exact hlt
      · clear hR hy c0 c1 c2 c3 c4 c5 hen
        gi_wp2
        refine bodyPost_ret (results_none rfl _ _ _) rfl ?_
        exact ⟨⟨_, rfl⟩, .inr ⟨_, trivial, hJx3⟩⟩
end Go.Proofs.Ytohameoomlehlab
