/-
  Contracts of the model's chapter 3: MerkleCheck, peaks.
-/
import Derived.Test.YtdgepneaeieogacMt
namespace Go.Proofs.Ytdgepneaeieogac
open Go.RowKit

/-- What MerkleCheck tells. -/
def Me.good (root n i : Int) (s : ByteArray) (p : List Int) : Prop :=
  (1 ≤ n ∧ n ≤ 32) ∧ (0 ≤ i ∧ i ≤ n - 1) ∧ Me.digests p ∧ p.length = Me.steps n.toNat i.toNat ∧ Dg.of (Me.told n.toNat i.toNat s p) = root

/-! ### peaks -/
/-- What MerklePeaks answers. -/
def Me.peaksL (ss : List ByteArray) : List Int := if ss.length ≤ 32 then Me.peaks ss else []
def Me.peaksB (ss : List ByteArray) : Bool := decide (ss.length ≤ 32)
theorem Me.peaks_len : ∀ (n : Nat) (l : List ByteArray), l.length = n → (Me.peaks l).length ≤ n := by
  intro n
  induction n using Nat.strongRecOn with
  | ind n ih =>
    intro l hl
    subst hl
    by_cases h : l.length = 0
    · rw [Me.peaks_nil h]; simp
    · have h0 := Me.half_pos (l.length + 1)
      rw [Me.peaks_cons (by omega), List.length_cons]
      have := ih (l.length - Me.half (l.length + 1)) (by omega) (l.drop (Me.half (l.length + 1))) List.length_drop
      omega

set_option maxRecDepth 100000 in
set_option maxHeartbeats 1600000 in
theorem specMerklePeaks_any (a : Option Addr) (n cap : Nat) (ss : List ByteArray) (w : World) (hs : SR w a n ss) (hcap : n ≤ cap) (hcap2 : cap ≤ 9223372036854775807) (hz : ∀ s ∈ ss, s.size ≤ 4611686018427387904) :
    Calls Try.prog 17 #[.slice a n cap] w (OwnIB w.heap.size (Me.peaksL ss) (Me.peaksB ss) w) := by
  have hl := hs.1
  obtain ⟨i0, hi, hz0, hz1, hz2⟩ := info_parts info_int
  by_cases h : 32 < n
  · have HL : Hid (Me.peaksL ss = []) := Lib.hid (if_neg (by omega))
    have HB : Hid (Me.peaksB ss = false) := Lib.hid (decide_eq_false (by omega))
    rw [HL.out, HB.out]
    clear hs hz
    go_enter Try.func17, Try.ntmps17
    go_wp2
    go_ret2
    exact ⟨none, 0, rfl, Below.refl _ _, ⟨rfl, .inl ⟨rfl, rfl⟩⟩⟩
  · have HL : Hid (Me.peaksL ss = Me.peaks ss) := Lib.hid (if_pos (by omega))
    have HB : Hid (Me.peaksB ss = true) := Lib.hid (decide_eq_true (by omega))
    rw [HL.out, HB.out]
    have HPK : Hid (∀ P, Me.peaks ss = P → P.length ≤ 32) := Lib.hid fun P hP => by have := Me.peaks_len n ss hl; rw [hP] at this; omega
    obtain ⟨P, HP⟩ : ∃ P, Hid (Me.peaks ss = P) := ⟨_, Lib.hid rfl⟩
    have hP32 := HPK.out P HP.out
    rw [HP.out]
    go_enter Try.func17, Try.ntmps17
    go_wp2
    go_loopw [0, 4] (fun l o wr => ∃ (a' : Option Addr) (n' cap' : Nat) (rs : List ByteArray) (g cp : Nat) (q : List Int), l = .slice a' n' cap' ∧ o = .slice (some ⟨g, 0, none⟩) q.length cp ∧ SR w a' n' rs ∧ n' ≤ 32 ∧ n' ≤ cap' ∧ cap' ≤ 9223372036854775807 ∧ (∀ s ∈ rs, s.size ≤ 4611686018427387904) ∧ P = q ++ Me.peaks rs ∧
        wr.ownsRow w.heap.size 3 1 (.slice (some ⟨g, 0, none⟩) q.length cp) q.length (q.map (Value.int .i64)) ∧ Below w.heap.size w wr)
      (fun l _ _ => match l with | .slice _ n _ => n | _ => 0)
    case atStart => exact ⟨a, n, cap, ss, w.heap.size, 0, [], rfl, rfl, hs, by omega, hcap, hcap2, hz, HP.out.symm, World.ownsRow_made (e := 3) (size := 1) w #[] 0 (Nat.le_refl _) (by decide) rfl, (Below.refl _ _).alloc (Nat.le_refl _) _⟩
    case round =>
      clear hs hz
      obtain ⟨a', n', cap', rs, g, cp, q, rfl, rfl, hsr, hn32, hc1, hc2, hzr, hPq, hown, hbel⟩ := hrel
      have hrl := hsr.1
      by_cases h0 : n' = 0
      · subst h0
        have HE : Hid (P = q) := Lib.hid (by rw [hPq, Me.peaks_nil (by omega), List.append_nil])
        clear hsr hzr hPq
        go_wp2
        go_ret2
        exact ⟨some ⟨g, 0, none⟩, cp, by rw [HE.out]; rfl, hbel, by rw [HE.out]; exact hown⟩
      · have hk0 := Me.half_pos (n' + 1)
        have hk1 := Me.half_lt (n' + 1) (by omega)
        obtain ⟨k, HK⟩ : ∃ k, Hid (Me.half (n' + 1) = k) := ⟨_, Lib.hid rfl⟩
        rw [HK.out] at hk0 hk1
        obtain ⟨b, off, rfl, hbw, _⟩ := hsr.2 (by omega)
        have HF := Lib.hid ((hsr.front k (by omega)).below hbel)
        have HBK := Lib.hid (hsr.back k (by omega) hc1)
        have HZF : Hid (∀ s ∈ rs.take k, s.size ≤ 4611686018427387904) := Lib.hid fun s h => hzr s (List.mem_of_mem_take h)
        have HZB : Hid (∀ s ∈ rs.drop k, s.size ≤ 4611686018427387904) := Lib.hid fun s h => hzr s (List.mem_of_mem_drop h)
        obtain ⟨r, HR⟩ : ∃ r, Hid (Me.root (rs.take k) = r) := ⟨_, Lib.hid rfl⟩
        have HP2 : Hid (P = (q ++ [r]) ++ Me.peaks (rs.drop k)) := Lib.hid (by rw [hPq, Me.peaks_cons (by omega), hrl, HK.out, HR.out, List.append_assoc]; rfl)
        have hql : q.length ≤ 32 := by have := hP32; rw [hPq, List.length_append] at this; omega
        obtain ⟨b2, off2, hcut⟩ : ∃ b2 off2, cutAt b off k cap' = ⟨b2, off2, none⟩ := by
          unfold cutAt
          split
          · exact ⟨_, _, rfl⟩
          · exact ⟨_, _, rfl⟩
        have hsl1 := slice_front b off n' cap' k (by omega)
        have hsl2 := slice_back b off n' cap' k (by omega)
        rw [hcut] at hsl2 HBK
        have hpos : ((0 : Int) < (n' : Int)) := by omega
        clear hsr hzr hPq hrl hcut
        go_wp2_with fail
        refine (l3Half_any (n' + 1) _ (by omega)).mono ?_
        rw [HK.out]
        rintro e w1 ⟨rfl, rfl⟩
        go_wp2_with fail
        refine (l3Root_any k b off cap' _ _ HF.out hk0 (by omega) (by omega) hc2 HZF.out).mono ?_
        rw [HR.out]
        rintro e w2 ⟨rfl, hb2⟩
        have hown2 := hown.kept (row := none) ⟨hb2.os, hb2.tape, hb2.output, hb2.size, fun j hj _ => hb2.block j hj⟩ (.inr (by simp [Value.ownBlock]))
        have hbel2 := hbel.trans (hb2.mono hbel.size)
        have hbs := hbel2.size
        clear hown hbel hb2
        go_wp2_with (at_builtin; refine wpList_append_own _ rfl _ _ 23 rfl w.heap.size 3 i0 (.int .i64 0) 1 8 Try.underlying23 hi hz0 hz1 hz2 rfl (by decide) _ _ _ rfl (hown2.alloc _) ⟨w2.heap.size, 0, none⟩ 1 1 [.int .i64 r] rfl rfl ?c1 ?c2 ?c3 ?c4 ?c5 ?_)
        case c1 => exact one_new _ _ _
        case c2 => intro u hu; simp at hu; subst hu; rfl
        case c3 => unfold maxLen; omega
        case c4 => omega
        case c5 => simp; omega
        intro v' w5 hown5 hgrow5 _
        have hbel5 := (hbel2.alloc hbs (.cells #[.int .i64 r] 3)).grown hgrow5 (by simp; omega) (fun j hj => (hown2.lt _ hj).1)
        have hql2 : (q ++ [r]).length = q.length + 1 := by simp
        obtain ⟨g5, cp5, rfl⟩ : ∃ g cp, v' = .slice (some ⟨g, 0, none⟩) (q.length + 1) cp := by
          rcases hown5.2 with ⟨h, h0⟩ | ⟨g, cap, cur, h, _⟩
          · omega
          · exact ⟨_, _, h⟩
        have hown6 : w5.ownsRow w.heap.size 3 1 (.slice (some ⟨g5, 0, none⟩) (q ++ [r]).length cp5) (q ++ [r]).length ((q ++ [r]).map (Value.int .i64)) := by
          rw [hql2, List.map_append]
          exact hown5
        clear hown2 hown5 hgrow5 hbel2
        go_wp2
        go_roundw
        case rel =>
          exact ⟨_, n' - k, cap' - k, rs.drop k, g5, cp5, q ++ [r], rfl, by rw [hql2], HBK.out, by omega, by omega, by omega, HZB.out, HP2.out, hown6, hbel5⟩
        case measure => show n' - k < n'; omega
end Go.Proofs.Ytdgepneaeieogac
