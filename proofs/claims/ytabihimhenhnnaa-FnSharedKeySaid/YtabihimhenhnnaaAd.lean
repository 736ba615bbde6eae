/-
  Adaptor signatures, plain: what is signed is valid; it becomes a signature just with the secret of the point; the secret is revealed.
-/
import Derived.Test.YtabihimhenhnnaaSg
namespace Go.Proofs.Ytabihimhenhnnaa

def Ad.fin (r p : Int) : Int := r * p % 2147483579
def Ad.ch (key : Int) (t : ByteArray) (r p : Int) : Int := Sg.ch (Ad.fin r p) key t
theorem Ad.ch_bd (key : Int) (t : ByteArray) (r p : Int) : 0 ≤ Ad.ch key t r p ∧ Ad.ch key t r p < 1073741789 := Sg.ch_bd _ _ _
def Ad.shape (key r s p : Int) : Bool := Sg.shape key r s && Gr.kok p
def Ad.ver (key : Int) (t : ByteArray) (r s p : Int) : Bool := Ad.shape key r s p && Sg.eqn key (Ad.ch key t r p) r s
def Ad.ss (u : Int) (t : ByteArray) (p : Int) : Int := (Sg.no u t + Ad.ch (Sg.gp u) t (Sg.sr u t) p * u) % 1073741789
theorem Ad.ss_bd (u : Int) (t : ByteArray) (p : Int) : 0 ≤ Ad.ss u t p ∧ Ad.ss u t p < 1073741789 := ⟨Int.emod_nonneg _ (by decide), Int.emod_lt_of_pos _ (by decide)⟩
theorem Ad.fin_bd (r p : Int) : 0 ≤ Ad.fin r p ∧ Ad.fin r p < 2147483579 := ⟨Int.emod_nonneg _ (by decide), Int.emod_lt_of_pos _ (by decide)⟩
theorem Ad.fin_E {r p : Int} (hr : Gr.E r) (hp : Gr.E p) : Gr.E (Ad.fin r p) := Gr.El.mul (by decide) hr hp
theorem Ad.ver_iff (key : Int) (t : ByteArray) (r s p : Int) : Ad.ver key t r s p = true ↔ (((Gr.E key ∧ key ≠ 1) ∧ Gr.E r ∧ 0 ≤ s ∧ s < 1073741789) ∧ Gr.E p ∧ p ≠ 1) ∧ Sg.gp s = Sg.rt key (Ad.ch key t r p) r := by
  unfold Ad.ver Ad.shape
  rw [Bool.and_eq_true, Bool.and_eq_true, Sg.shape_iff, Sg.kok_iff, Sg.eqn_iff]
theorem Ad.sign_ver (u : Int) (t : ByteArray) (p : Int) (h : Gr.sok u = true) (hp : Gr.kok p = true) : Ad.ver (Sg.gp u) t (Sg.sr u t) (Ad.ss u t p) p = true := by
  have hs := (Gr.sok_iff u).mp h
  have hn := Sg.no_bd u t
  have hk := Gr.key_kok h
  rw [Sg.key_ok h] at hk
  have hc := Ad.ch_bd (Sg.gp u) t (Sg.sr u t) p
  refine (Ad.ver_iff _ _ _ _ _).mpr ⟨⟨⟨(Sg.kok_iff _).mp hk, Sg.gp_E (by omega), Ad.ss_bd u t p⟩, (Sg.kok_iff _).mp hp⟩, ?_⟩
  have hm : 0 ≤ Ad.ch (Sg.gp u) t (Sg.sr u t) p * u := Int.mul_nonneg hc.1 (by omega)
  unfold Ad.ss
  rw [Sg.gp_cyc _ (by omega), Sg.gp_add _ _ (by omega) hm, Int.mul_comm (Ad.ch (Sg.gp u) t (Sg.sr u t) p), Sg.gp_mul u (Ad.ch (Sg.gp u) t (Sg.sr u t) p) (by omega) hc.1]
  rfl
/-- Valid both as an adaptor signature and as a signature: then both challenges are the same. -/
theorem Ad.both {key : Int} {t : ByteArray} {r s p : Int} (h : Ad.ver key t r s p = true) (k : Sg.ver key t r s = true) : Sg.ch r key t = Ad.ch key t r p := by
  obtain ⟨⟨⟨⟨hk, hk1⟩, hr, s0, s1⟩, hp, hp1⟩, he⟩ := (Ad.ver_iff _ _ _ _ _).mp h
  have v2 := (Sg.ver_iff _ _ _ _).mp k
  have h3 := v2.2.symm.trans he
  have c1 := Sg.ch_bd r key t
  have c2 := Ad.ch_bd key t r p
  unfold Sg.rt at h3
  rw [Int.mul_comm r, Int.mul_comm r] at h3
  have p1 := Gr.pb key (Sg.ch r key t)
  have p2 := Gr.pb key (Ad.ch key t r p)
  exact Gr.inj hk hk1 _ _ c1.1 c1.2 c2.1 c2.2 (Gr.cancel hr p1.1 p1.2 p2.1 p2.2 h3)
theorem Ad.rt_fin (key e r p : Int) : Sg.rt key e (Ad.fin r p) = p * Sg.rt key e r % 2147483579 := by
  unfold Sg.rt Ad.fin
  rw [Gr.mulm, Gr.mulm']
  congr 1
  ac_rfl
theorem Ad.gp_sum (s k : Int) (s0 : 0 ≤ s) (k0 : 0 ≤ k) : Sg.gp ((s + k) % 1073741789) = Sg.gp k * Sg.gp s % 2147483579 := by
  rw [Sg.gp_cyc _ (by omega), Sg.gp_add _ _ s0 k0, Int.mul_comm]
/-- It becomes a signature just with the secret of the point. -/
theorem Ad.becomes {key : Int} {t : ByteArray} {r s p : Int} (h : Ad.ver key t r s p = true) (k : Int) (k0 : 0 ≤ k) : Sg.ver key t (Ad.fin r p) ((s + k) % 1073741789) = (Sg.gp k == p) := by
  obtain ⟨⟨⟨hk, hr, s0, s1⟩, hp, hp1⟩, he⟩ := (Ad.ver_iff _ _ _ _ _).mp h
  have c2 := Ad.ch_bd key t r p
  have hE := Sg.rt_E hk.1 hr c2.1
  have hiff : Sg.ver key t (Ad.fin r p) ((s + k) % 1073741789) = true ↔ Sg.gp k = p := by
    rw [Sg.ver_iff, Sg.shape_iff, show Sg.ch (Ad.fin r p) key t = Ad.ch key t r p from rfl, Ad.rt_fin, Ad.gp_sum s k s0 k0, he]
    constructor
    · intro h2
      have b := Gr.E_bd hp
      exact Gr.cancel hE (Sg.gp_bd k).1 (Sg.gp_bd k).2 (by omega) (by omega) h2.2
    · intro h2
      refine ⟨⟨hk, Ad.fin_E hr hp, Int.emod_nonneg _ (by decide), Int.emod_lt_of_pos _ (by decide)⟩, ?_⟩
      rw [h2]
  by_cases hg : Sg.gp k = p
  · rw [hiff.mpr hg, hg, beq_self_eq_true]
  · have h1 : Sg.ver key t (Ad.fin r p) ((s + k) % 1073741789) = false := by
      cases h2 : Sg.ver key t (Ad.fin r p) ((s + k) % 1073741789)
      · rfl
      · exact absurd (hiff.mp h2) hg
    rw [h1]
    exact (beq_eq_false_iff_ne.mpr hg).symm
def Ad.fok (r s p u : Int) : Bool := Gr.sok u && (Sg.gp u == p) && Gr.ok r && Sg.win s
theorem Ad.fok_iff (r s p u : Int) : Ad.fok r s p u = true ↔ (1 ≤ u ∧ u < 1073741789) ∧ Sg.gp u = p ∧ Gr.E r ∧ 0 ≤ s ∧ s < 1073741789 := by
  unfold Ad.fok
  rw [Bool.and_eq_true, Bool.and_eq_true, Bool.and_eq_true, Gr.sok_iff, beq_iff_eq, Gr.ok_iff, Sg.win_iff]
  constructor
  · rintro ⟨⟨⟨a, b⟩, c⟩, d⟩; exact ⟨a, b, c, d⟩
  · rintro ⟨a, b, c, d⟩; exact ⟨⟨⟨a, b⟩, c⟩, d⟩
def Ad.rok (key : Int) (t : ByteArray) (r s p r2 s2 : Int) : Bool := Ad.ver key t r s p && Sg.ver key t r2 s2 && (r2 == Ad.fin r p)
def Ad.dif (s s2 : Int) : Int := (s2 - s + 1073741789) % 1073741789
theorem Ad.dif_add (s u : Int) (u0 : 0 ≤ u) (u1 : u < 1073741789) : Ad.dif s ((s + u) % 1073741789) = u := by unfold Ad.dif; omega
theorem Ad.add_dif (s s2 : Int) (u0 : 0 ≤ s2) (u1 : s2 < 1073741789) : (s + Ad.dif s s2) % 1073741789 = s2 := by unfold Ad.dif; omega
theorem Ad.dif_bd (s s2 : Int) : 0 ≤ Ad.dif s s2 ∧ Ad.dif s s2 < 1073741789 := ⟨Int.emod_nonneg _ (by decide), Int.emod_lt_of_pos _ (by decide)⟩
/-- What is revealed is the secret of the point, and with it the adaptor signature becomes this signature. -/
theorem Ad.reveal {key : Int} {t : ByteArray} {r s p r2 s2 : Int} (h : Ad.rok key t r s p r2 s2 = true) : Gr.sok (Ad.dif s s2) = true ∧ Sg.gp (Ad.dif s s2) = p ∧ r2 = Ad.fin r p ∧ (s + Ad.dif s s2) % 1073741789 = s2 ∧ Ad.fok r s p (Ad.dif s s2) = true := by
  unfold Ad.rok at h
  rw [Bool.and_eq_true, Bool.and_eq_true, beq_iff_eq] at h
  obtain ⟨⟨h1, h2⟩, h3⟩ := h
  have h4 := Sg.ver_kok h2
  obtain ⟨⟨⟨hk, hr, s0, s1⟩, hp, hp1⟩, he⟩ := (Ad.ver_iff _ _ _ _ _).mp h1
  have e1 := Ad.add_dif s s2 h4.2.2.1 h4.2.2.2
  have b := Ad.dif_bd s s2
  have h5 := Ad.becomes h1 (Ad.dif s s2) b.1
  rw [e1, ← h3, h2] at h5
  have h6 : Sg.gp (Ad.dif s s2) = p := beq_iff_eq.mp h5.symm
  have h7 : Ad.dif s s2 ≠ 0 := by
    intro h0
    rw [h0] at h6
    exact hp1 (h6.symm.trans (by decide))
  have h8 : Gr.sok (Ad.dif s s2) = true := (Gr.sok_iff _).mpr ⟨by omega, b.2⟩
  exact ⟨h8, h6, h3, e1, (Ad.fok_iff _ _ _ _).mpr ⟨(Gr.sok_iff _).mp h8, h6, hr, s0, s1⟩⟩
end Go.Proofs.Ytabihimhenhnnaa
