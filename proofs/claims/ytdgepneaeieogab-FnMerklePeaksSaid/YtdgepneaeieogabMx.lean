/-
  Contracts of the model's chapter 3: MerkleCollision.
-/
import Derived.Test.YtdgepneaeieogabMw
namespace Go.Proofs.Ytdgepneaeieogab
open Go.RowKit

/-- Whether MerkleCollision answers with a collision, and what it answers. -/
def Me.colOk (ss : List ByteArray) (i : Int) (s : ByteArray) (p : List Int) : Prop :=
  (1 ≤ ss.length ∧ ss.length ≤ 32) ∧ Me.good (Me.root ss) ss.length i s p ∧ ss.getD i.toNat ByteArray.empty ≠ s
noncomputable def Me.colA (ss : List ByteArray) (i : Int) (s : ByteArray) (p : List Int) : Value :=
  open Classical in if Me.colOk ss i s p then .tuple #[.string (Me.clash ss i.toNat s p).1, .string (Me.clash ss i.toNat s p).2, .bool true] else .tuple #[.string ⟨#[]⟩, .string ⟨#[]⟩, .bool false]
theorem Me.colA_yes {ss : List ByteArray} {i : Int} {s : ByteArray} {p : List Int} (h : Me.colOk ss i s p) : Me.colA ss i s p = .tuple #[.string (Me.clash ss i.toNat s p).1, .string (Me.clash ss i.toNat s p).2, .bool true] := if_pos h
theorem Me.colA_no {ss : List ByteArray} {i : Int} {s : ByteArray} {p : List Int} (h : ¬ Me.colOk ss i s p) : Me.colA ss i s p = .tuple #[.string ⟨#[]⟩, .string ⟨#[]⟩, .bool false] := if_neg h
theorem ba_eq {s t : ByteArray} (h : s = t) : (s.toList == t.toList) = true := by simp [h]
theorem ba_ne {s t : ByteArray} (h : s ≠ t) : (s.toList == t.toList) = false := by
  rw [Bool.eq_false_iff]
  intro h1
  have h' : s.toList = t.toList := by simpa using h1
  rw [ByteArray.toList_eq, ByteArray.toList_eq] at h'
  exact h (ByteArray.ext (Array.toList_inj.1 h'))

set_option maxRecDepth 100000 in
set_option maxHeartbeats 1600000 in
theorem specMerkleCollision_any (a : Option Addr) (n cap : Nat) (ss : List ByteArray) (i : Int) (s : ByteArray) (a' : Option Addr) (m cap' : Nat) (p : List Int) (w : World) (hs : SR w a n ss) (hcap : n ≤ cap) (hcap2 : cap ≤ 9223372036854775807) (hz : ∀ s ∈ ss, s.size ≤ 4611686018427387904)
    (hsz : s.size ≤ 4611686018427387000) (hp : IR w a' m p) (hc1 : m ≤ cap') (hc2 : cap' ≤ 9223372036854775807) :
    Calls Try.prog 27 #[.slice a n cap, .int .i64 i, .string s, .slice a' m cap'] w fun e w' => e = .returned (Me.colA ss i s p) ∧ Below w.heap.size w w' := by
  have hl := hs.1
  have hpl := hp.1
  by_cases hn : 1 ≤ n ∧ n ≤ 32
  · have HR : Hid (Me.rootA ss = .tuple #[.int .i64 (Me.root ss), .bool true]) := Lib.hid (if_pos (by omega))
    have HC0 : Hid (Calls Try.prog 15 #[.slice a n cap] w fun e w' => e = .returned (.tuple #[.int .i64 (Me.root ss), .bool true]) ∧ Below w.heap.size w w') := Lib.hid (by
      have := specMerkleRoot_any a n cap ss w hs hcap hcap2 hz
      rw [HR.out] at this
      exact this)
    have HC1 : Hid (∀ W, Below w.heap.size w W → Calls Try.prog 23 #[.int .i64 (Me.root ss), .int .i64 (n : Int), .int .i64 i, .string s, .slice a' m cap'] W fun e w' => ∃ b, e = .returned (.bool b) ∧ (b = true ↔ Me.good (Me.root ss) n i s p) ∧ Below W.heap.size W w') :=
      Lib.hid fun W h => specMerkleCheck_any _ _ _ _ _ _ _ _ _ hsz (hp.below h) hc1 hc2
    obtain ⟨r, HRR⟩ : ∃ r, Hid (Me.root ss = r) := ⟨_, Lib.hid rfl⟩
    rw [HRR.out] at HC0 HC1
    by_cases hg : Me.good r n i s p
    · obtain ⟨b, off, rfl, hbw, hc⟩ := hs.2 (by omega)
      obtain ⟨j, rfl⟩ := Int.eq_ofNat_of_zero_le hg.2.1.1
      have hjn : j < n := by have := hg.2.1.2; omega
      have hcj := hc j hjn
      obtain ⟨t, HT⟩ : ∃ t, Hid (ss.getD j ByteArray.empty = t) := ⟨_, Lib.hid rfl⟩
      rw [HT.out] at hcj
      have HG := Lib.hid hg
      by_cases hts : t = s
      · have HA : Hid (Me.colA ss (j : Int) s p = .tuple #[.string ⟨#[]⟩, .string ⟨#[]⟩, .bool false]) := Lib.hid (Me.colA_no fun h => h.2.2 (by rw [Int.toNat_natCast, HT.out]; exact hts))
        rw [HA.out]
        have hq := ba_eq hts
        clear hs hz hp hg hc hts
        go_enter Try.func27, Try.ntmps27
        go_wp2_with fail
        refine HC0.out.mono ?_
        rintro e w1 ⟨rfl, hb1⟩
        go_wp2_with fail
        refine (HC1.out _ hb1).mono ?_
        rintro e w2 ⟨b2, rfl, hg2, hb2⟩
        obtain rfl : b2 = true := hg2.2 HG.out
        have hbel := hb1.trans (hb2.mono hb1.size)
        have hcj2 : w2.cell? ⟨b, off + j, none⟩ = some (.string t) := (World.cell?_of_block (w := w) (a := ⟨b, off + j, none⟩) (hbel.block b hbw)).trans hcj
        clear hb1 hb2 hg2
        go_wp2
        go_ret3
        exact ⟨rfl, hbel⟩
      · have hok : Me.colOk ss (j : Int) s p := ⟨by omega, by rw [HRR.out, hl]; exact hg, by rw [Int.toNat_natCast, HT.out]; exact hts⟩
        have HA : Hid (Me.colA ss (j : Int) s p = .tuple #[.string (Me.clash ss j s p).1, .string (Me.clash ss j s p).2, .bool true]) := Lib.hid (by
          have := Me.colA_yes hok
          rw [Int.toNat_natCast] at this
          exact this)
        rw [HA.out]
        have hq := ba_ne hts
        have hst := hg.2.2.2.1
        rw [Int.toNat_natCast, Int.toNat_natCast] at hst
        have HC2 : Hid (∀ W, Below w.heap.size w W → Calls Try.prog 52 #[.slice (some ⟨b, off, none⟩) n cap, .int .i64 (j : Int), .string s, .slice a' m cap'] W fun e w' => e = .returned (Me.clashV ss j s p) ∧ Below W.heap.size W w') :=
          Lib.hid fun W h => l3Clash_any n b off cap j ss s a' m cap' p W (hs.below h) hn.1 (by omega) hcap hcap2 hz hjn hsz (hp.below h) (by omega) hc1 hc2 hg.2.2.1
        obtain ⟨V1, HV1⟩ : ∃ V, Hid ((Me.clash ss j s p).1 = V) := ⟨_, Lib.hid rfl⟩
        obtain ⟨V2, HV2⟩ : ∃ V, Hid ((Me.clash ss j s p).2 = V) := ⟨_, Lib.hid rfl⟩
        have HVV : Hid (Me.clashV ss j s p = .tuple #[.string V1, .string V2]) := Lib.hid (by unfold Me.clashV; rw [HV1.out, HV2.out])
        rw [HVV.out] at HC2
        rw [HV1.out, HV2.out]
        clear hs hz hp hg hc hts hok hst
        go_enter Try.func27, Try.ntmps27
        go_wp2_with fail
        refine HC0.out.mono ?_
        rintro e w1 ⟨rfl, hb1⟩
        go_wp2_with fail
        refine (HC1.out _ hb1).mono ?_
        rintro e w2 ⟨b2, rfl, hg2, hb2⟩
        obtain rfl : b2 = true := hg2.2 HG.out
        have hbel := hb1.trans (hb2.mono hb1.size)
        have hcj2 : w2.cell? ⟨b, off + j, none⟩ = some (.string t) := (World.cell?_of_block (w := w) (a := ⟨b, off + j, none⟩) (hbel.block b hbw)).trans hcj
        clear hb1 hb2 hg2
        go_wp2_with fail
        refine (HC2.out _ hbel).mono ?_
        rintro e w3 ⟨rfl, hb3⟩
        have hbel3 := hbel.trans (hb3.mono hbel.size)
        clear hbel hb3
        go_wp2
        go_ret3
        exact ⟨rfl, hbel3⟩
    · have HA : Hid (Me.colA ss i s p = .tuple #[.string ⟨#[]⟩, .string ⟨#[]⟩, .bool false]) := Lib.hid (Me.colA_no fun h => hg (by have := h.2.1; rw [HRR.out, hl] at this; exact this))
      rw [HA.out]
      have HG := Lib.hid hg
      clear hs hz hp hg
      go_enter Try.func27, Try.ntmps27
      go_wp2_with fail
      refine HC0.out.mono ?_
      rintro e w1 ⟨rfl, hb1⟩
      go_wp2_with fail
      refine (HC1.out _ hb1).mono ?_
      rintro e w2 ⟨b2, rfl, hg2, hb2⟩
      obtain rfl : b2 = false := by
        rw [Bool.eq_false_iff]
        exact fun h => HG.out (hg2.1 h)
      have hbel := hb1.trans (hb2.mono hb1.size)
      clear hb1 hb2 hg2
      go_wp2
      go_ret3
      exact ⟨rfl, hbel⟩
  · have HR : Hid (Me.rootA ss = .tuple #[.int .i64 0, .bool false]) := Lib.hid (if_neg (by omega))
    have HC0 : Hid (Calls Try.prog 15 #[.slice a n cap] w fun e w' => e = .returned (.tuple #[.int .i64 0, .bool false]) ∧ Below w.heap.size w w') := Lib.hid (by
      have := specMerkleRoot_any a n cap ss w hs hcap hcap2 hz
      rw [HR.out] at this
      exact this)
    have HA : Hid (Me.colA ss i s p = .tuple #[.string ⟨#[]⟩, .string ⟨#[]⟩, .bool false]) := Lib.hid (Me.colA_no fun h => hn (by have := h.1; omega))
    rw [HA.out]
    clear hs hz hp
    go_enter Try.func27, Try.ntmps27
    go_wp2_with fail
    refine HC0.out.mono ?_
    rintro e w1 ⟨rfl, hb1⟩
    go_wp2
    go_ret3
    exact ⟨rfl, hb1⟩
end Go.Proofs.Ytdgepneaeieogab
