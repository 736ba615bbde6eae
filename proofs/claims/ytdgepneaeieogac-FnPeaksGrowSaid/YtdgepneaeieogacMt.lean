/-
  Contracts of the model's chapter 3: proofs, checks.
-/
import Derived.Test.YtdgepneaeieogacMs
namespace Go.Proofs.Ytdgepneaeieogac
open Go.RowKit

/-- A list of numbers that the call owns, and whether there is one. -/
def OwnIB (base : Nat) (p : List Int) (ok : Bool) (w : World) (e : Ending) (w' : World) : Prop :=
  ∃ a cp, e = .returned (.tuple #[.slice a p.length cp, .bool ok]) ∧ Below base w w' ∧ w'.ownsRow base 3 1 (.slice a p.length cp) p.length (p.map (Value.int .i64))
def Me.proofOk (ss : List ByteArray) (i : Int) : Prop := (1 ≤ ss.length ∧ ss.length ≤ 32) ∧ 0 ≤ i ∧ i < ss.length
instance (ss : List ByteArray) (i : Int) : Decidable (Me.proofOk ss i) := by unfold Me.proofOk; infer_instance
def Me.proofL (ss : List ByteArray) (i : Int) : List Int := if Me.proofOk ss i then Me.proof ss i.toNat else []
def Me.proofB (ss : List ByteArray) (i : Int) : Bool := decide (Me.proofOk ss i)

set_option maxRecDepth 100000 in
set_option maxHeartbeats 800000 in
theorem l3Digests_any (a : Option Addr) (n cap : Nat) (zs : List Int) (w : World) (hs : IR w a n zs) (hlen : n ≤ 9223372036854775807) :
    Calls Try.prog 33 #[.slice a n cap] w fun e w' => ∃ b, e = .returned (.bool b) ∧ (b = true ↔ Me.digests zs) ∧ w' = w := by
  have h1 := hs.1
  have HD : Hid (Me.digests zs ↔ ∀ j, j < n → 0 ≤ zs.getD j 0 ∧ zs.getD j 0 ≤ 4294967295) := Lib.hid ⟨fun h j hj => h _ (getD_memI (by omega)), fun h d hd => by
    obtain ⟨j, hj, rfl⟩ := List.getElem_of_mem hd
    have := h j (by omega)
    rwa [List.getD_eq_getElem?_getD, List.getElem?_eq_getElem hj] at this⟩
  go_enter Try.func33, Try.ntmps33
  go_wp2
  go_loopw [3] (fun i wr => ∃ k : Nat, k ≤ n ∧ i = .int .i64 (k : Int) ∧ (∀ j, j < k → 0 ≤ zs.getD j 0 ∧ zs.getD j 0 ≤ 4294967295) ∧ wr = w)
    (fun i _ => n - (intOf i).toNat)
  case atStart => exact ⟨0, by omega, rfl, fun j hj => absurd hj (by omega), rfl⟩
  case round =>
    obtain ⟨k, hk, rfl, hsm, hw⟩ := hrel
    subst hw
    have HM := Lib.hid hsm
    clear hsm
    by_cases hlt : k < n
    · obtain ⟨g, off, rfl, _, hc⟩ := hs.2 (by omega)
      have hck := hc k hlt
      clear hc hs
      obtain ⟨t, HT⟩ : ∃ t, Hid (zs.getD k 0 = t) := ⟨_, Lib.hid rfl⟩
      rw [HT.out] at hck
      by_cases hin : 0 ≤ t ∧ t ≤ 4294967295
      · have HI := Lib.hid (In.yes hin.1 hin.2)
        go_wp2_with fail
        refine (l6In_any _ _ _ _).mono ?_
        rw [HI.out]
        rintro e w1 ⟨rfl, rfl⟩
        go_wp2
        go_roundw
        case rel =>
          refine ⟨k + 1, by omega, by simp, fun j hj => ?_, trivial⟩
          by_cases hjk : j < k
          · exact HM.out j hjk
          · have : j = k := by omega
            rw [this, HT.out]
            exact hin
        case measure => simp [intOf]; omega
      · have HI := Lib.hid (In.no (n := t) (a := 0) (b := 4294967295) (by omega))
        have HNO : Hid (¬ Me.digests zs) := Lib.hid fun h => hin (by have := HD.out.1 h k hlt; rw [HT.out] at this; exact this)
        go_wp2_with fail
        refine (l6In_any _ _ _ _).mono ?_
        rw [HI.out]
        rintro e w1 ⟨rfl, rfl⟩
        go_wp2
        go_ret
        exact ⟨_, rfl, ⟨fun h => (Bool.noConfusion h), fun h => absurd h HNO.out⟩, rfl⟩
    · have HY : Hid (Me.digests zs) := Lib.hid (HD.out.2 fun j hj => HM.out j (by omega))
      clear hs
      go_wp2
      go_ret
      exact ⟨_, rfl, ⟨fun _ => HY.out, fun _ => rfl⟩, rfl⟩

theorem IR.front {w : World} {a : Option Addr} {n : Nat} {zs : List Int} (h : IR w a n zs) (k : Nat) (hk : k ≤ n) : IR w a k (zs.take k) := by
  refine ⟨by rw [List.length_take, h.1]; omega, fun h0 => ?_⟩
  obtain ⟨b, off, he, hb, hc⟩ := h.2 (by omega)
  exact ⟨b, off, he, hb, fun i hi => by rw [getD_takeI hi]; exact hc i (by omega)⟩
theorem slice_frontI (b off n cap k : Nat) (hk : k ≤ cap) (W : World) :
    (Instr.slice 23 (.slice (some ⟨b, off, none⟩) n cap) none (some (.int .i64 (k : Int))) none).run Try.prog W = .ok (.slice (some ⟨b, off, none⟩) k cap) W := by
  have e1 : (0 : Int) ≤ (k : Int) := by omega
  simp [Instr.slice, Instr.sliceBounds, Instr.sliceBound, asIntOf, run_underlying Try.underlying23, e1, hk, Addr.add]
theorem Me.told_size (n i : Nat) (s : ByteArray) (p : List Int) : (Me.told n i s p).size ≤ s.size + 9 := by
  by_cases h : n ≤ 1
  · rw [Me.told_one h, Me.leaf_size]; omega
  · by_cases hi : i < Me.half n
    · rw [Me.told_left (by omega) hi, Dg.pair_size]; omega
    · rw [Me.told_right (by omega) hi, Dg.pair_size]; omega
theorem Me.digests_take {p : List Int} (h : Me.digests p) (k : Nat) : Me.digests (p.take k) := fun d hd => h d (List.mem_of_mem_take hd)

end Go.Proofs.Ytdgepneaeieogac
