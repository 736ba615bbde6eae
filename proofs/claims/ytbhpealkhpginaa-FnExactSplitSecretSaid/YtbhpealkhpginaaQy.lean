/-
  Chapter 8: what the laws need besides: answers of SplitSecret apart, nil lists of shares.
-/
import Derived.Test.YtbhpealkhpginaaQi
import Derived.Test.YtbhpealkhpginaaQx
namespace Go.Proofs.Ytbhpealkhpginaa
open Go.RowKit

theorem SP.nope {s : Int} {cs : List Int} {n : Int} {w w' : World} {e : Ending} (h : SP s cs n w e w') (k : Po.spOk s cs n = false) : Below w.heap.size w w' ∧ e = .returned (.tuple #[.slice none 0 0, .bool false]) := by
  refine ⟨h.1, ?_⟩
  rcases h.2 with ⟨_, h⟩ | ⟨h, _⟩
  · exact h
  · rw [k] at h; cases h
theorem SP.yes {s : Int} {cs : List Int} {m : Nat} {w w' : World} {e : Ending} (h : SP s cs (m : Int) w e w') (k : Po.spOk s cs (m : Int) = true) : Below w.heap.size w w' ∧ ∃ g cp, e = .returned (.tuple #[.slice (some ⟨g, 0, none⟩) m cp, .bool true]) ∧ w'.ownsRow w.heap.size 35 2 (.slice (some ⟨g, 0, none⟩) m cp) m (Po.enc (Po.sh (s :: cs) (Po.to m))) := by
  refine ⟨h.1, ?_⟩
  rcases h.2 with ⟨h, _⟩ | ⟨_, g, cp, m', hm, he, ho⟩
  · rw [k] at h; cases h
  · have : m' = m := by omega
    subst this
    exact ⟨g, cp, he, ho⟩
theorem QR.nil (w : World) : QR w none 0 [] := ⟨rfl, fun h => absurd h (by omega)⟩
/-- All shares have the secret. -/
theorem Po.split_ok {s : Int} {cs : List Int} {m : Nat} (h : Po.spOk s cs (m : Int) = true) : Po.ok (Po.sh (s :: cs) (Po.to m)) = true ∧ Po.val (Po.sh (s :: cs) (Po.to m)) 0 = s ∧ (0 ≤ s ∧ s ≤ 1073741788) ∧ (1 ≤ m ∧ m ≤ 8) ∧ cs.length + 1 ≤ m := by
  obtain ⟨⟨h1, h8⟩, hl, hc⟩ := (Po.spOk_iff s cs (m : Int)).mp h
  have hg := (Po.sub_gro (fun _ => true) m).1
  have hlen := Po.to_len m
  have hs : 0 ≤ s ∧ s ≤ 1073741788 := Po.cg_at (s :: cs) _ hc 0 (by omega)
  refine ⟨Po.sh_ok (m := (m : Int)) hg (by omega) ⟨by show 1 ≤ (Po.to m).length; omega, by show (Po.to m).length ≤ 8; omega⟩, ?_, hs, by omega, by omega⟩
  show Po.val (Po.sh (s :: cs) (Po.to m)) 0 = s
  rw [Po.sh_val (m := (m : Int)) (xs := Po.to m) hg (by omega) ⟨by omega, by omega⟩ (by rw [List.length_cons]; omega)]
  exact Po.hv_zero s cs hs.1 hs.2
theorem Po.hide_ok {l : List (Int × Int)} {x s : Int} (h : Po.hiOk l x s = true) : Po.ok (l ++ [(x, Po.val (Po.all s l) x)]) = true ∧ Po.val (l ++ [(x, Po.val (Po.all s l) x)]) 0 = s := by
  unfold Po.hiOk at h
  rw [Bool.and_eq_true, Bool.and_eq_true, Bool.and_eq_true, Bool.and_eq_true, decide_eq_true_iff] at h
  obtain ⟨⟨⟨⟨h1, h2⟩, h3⟩, h4⟩, h5⟩ := h
  exact Po.hide h1 s x ((Po.inX_iff x).mp h3) ((Po.inY_iff s).mp h4) h5 h2
set_option maxRecDepth 100000 in
theorem eqPartS_nil (w : World) : Calls Try.prog 26 #[.slice none 0 0, .slice none 0 0] w fun e w' => e = .returned (.bool true) ∧ Below w.heap.size w w' := by
  go_enter Try.func26, Try.ntmps26
  go_wp2
  go_loopw [5] (fun i wr => i = .int .i64 0 ∧ Below w.heap.size w wr) (fun _ _ => 0)
  case atStart => exact ⟨rfl, Below.refl _ _⟩
  case round =>
    obtain ⟨rfl, hbel⟩ := hrel
    go_wp2
    go_ret
    exact ⟨rfl, hbel⟩
set_option maxRecDepth 100000 in
theorem markPartS_nil (w : World) : Calls Try.prog 29 #[.slice none 0 0, .int .i64 1] w fun e w' => e = .returned (.int .i64 1) ∧ Below w.heap.size w w' := by
  go_enter Try.func29, Try.ntmps29
  go_wp2
  go_loopw [1, 5] (fun v i wr => v = .int .i64 1 ∧ i = .int .i64 0 ∧ Below w.heap.size w wr) (fun _ _ _ => 0)
  case atStart => exact ⟨rfl, rfl, Below.refl _ _⟩
  case round =>
    obtain ⟨rfl, rfl, hbel⟩ := hrel
    go_wp2
    go_ret
    exact ⟨rfl, hbel⟩
set_option maxRecDepth 100000 in
theorem heldPartS_nil (w : World) : Calls Try.prog 30 #[.slice none 0 0, .int .i64 1] w fun e w' => e = .returned (.int .i64 1) ∧ Below w.heap.size w w' := by
  go_enter Try.func30, Try.ntmps30
  go_wp2
  go_loopw [1, 5] (fun v i wr => v = .int .i64 1 ∧ i = .int .i64 0 ∧ Below w.heap.size w wr) (fun _ _ _ => 0)
  case atStart => exact ⟨rfl, rfl, Below.refl _ _⟩
  case round =>
    obtain ⟨rfl, rfl, hbel⟩ := hrel
    go_wp2
    go_ret
    exact ⟨rfl, hbel⟩
end Go.Proofs.Ytbhpealkhpginaa
