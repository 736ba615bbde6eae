/-
  Plain mathematics of chapter 5: signatures, their equation, what a nonce used twice tells, and sums of equations with weights.
-/
import Derived.Test.YtohameoomlehlaaGreatGk
import Derived.Test.YtohameoomlehlaaGreatDg
namespace Go.Proofs.YtohameoomlehlaaGreat

/-! Powers that cancel -/
theorem Gr.mulm (a b : Int) : a % 2147483579 * b % 2147483579 = a * b % 2147483579 := by rw [Int.mul_emod, Int.emod_emod, ← Int.mul_emod]
theorem Gr.mulm' (a b : Int) : a * (b % 2147483579) % 2147483579 = a * b % 2147483579 := by rw [Int.mul_comm, Gr.mulm, Int.mul_comm]
theorem Gr.cancel {c x y : Int} (hc : Gr.E c) (x0 : 0 ≤ x) (x1 : x < 2147483579) (y0 : 0 ≤ y) (y1 : y < 2147483579) (h : x * c % 2147483579 = y * c % 2147483579) : x = y := by
  have hi : c * Gr.pw 2147483579 c 1073741788 % 2147483579 = 1 := Gr.El.inv (q := 1073741789) (by decide) hc
  have key : ∀ z : Int, 0 ≤ z → z < 2147483579 → z * c % 2147483579 * Gr.pw 2147483579 c 1073741788 % 2147483579 = z := by
    intro z z0 z1
    rw [Gr.mulm, Int.mul_assoc, ← Gr.mulm', hi, Int.mul_one]
    exact Int.emod_eq_of_lt z0 z1
  rw [← key x x0 x1, h, key y y0 y1]
theorem Gr.pb (a e : Int) : 0 ≤ Gr.pw 2147483579 a e ∧ Gr.pw 2147483579 a e < 2147483579 := Gr.pw_bd _ _ _ (by decide)
theorem Gr.pcyc {a : Int} (ha : Gr.E a) (e : Int) (he : 0 ≤ e) : Gr.pw 2147483579 a (e % 1073741789) = Gr.pw 2147483579 a e := Gr.El.cyc (q := 1073741789) (by decide) ha e he
theorem Gr.pE {a : Int} (ha : Gr.E a) (e : Int) (he : 0 ≤ e) : Gr.E (Gr.pw 2147483579 a e) := Gr.El.pow (by decide) ha e he
theorem Gr.p1 {a : Int} (ha : Gr.E a) : Gr.pw 2147483579 a 1 = a := Gr.pw_one _ a (by have := ha.pos; omega) ha.lt
theorem Gr.pn1 {a : Int} (ha : Gr.E a) (h1 : a ≠ 1) (s : Int) (hs0 : 1 ≤ s) (hs1 : s < 1073741789) : Gr.pw 2147483579 a s ≠ 1 :=
  Gr.El.not_one (q := 1073741789) Gr.order_prime ha h1 s hs0 hs1
theorem Gr.inj_lt {a : Int} (ha : Gr.E a) (h1 : a ≠ 1) (s t : Int) (s0 : 0 ≤ s) (st : s < t) (t1 : t < 1073741789) : Gr.pw 2147483579 a s ≠ Gr.pw 2147483579 a t := by
  intro h
  have h2 := Gr.pw_add 2147483579 a (t - s) s (by omega) s0
  rw [show t - s + s = t by omega, ← h] at h2
  have hb := Gr.pb a (t - s)
  have h3 : Gr.pw 2147483579 a (t - s) = 1 := Gr.cancel (Gr.pE ha s s0) hb.1 hb.2 (by decide) (by decide) (by
    rw [← h2, Int.one_mul]
    have := Gr.pb a s
    exact (Int.emod_eq_of_lt this.1 this.2).symm)
  exact Gr.pn1 ha h1 (t - s) (by omega) (by omega) h3
theorem Gr.inj {a : Int} (ha : Gr.E a) (h1 : a ≠ 1) (s t : Int) (s0 : 0 ≤ s) (s1 : s < 1073741789) (t0 : 0 ≤ t) (t1 : t < 1073741789) (h : Gr.pw 2147483579 a s = Gr.pw 2147483579 a t) : s = t := by
  rcases Int.lt_trichotomy s t with hl | he | hg
  · exact absurd h (Gr.inj_lt ha h1 s t s0 hl t1)
  · exact he
  · exact absurd h.symm (Gr.inj_lt ha h1 t s t0 hg s1)

/-! Signatures -/
/-- The words in front. -/
def Sg.cw : ByteArray := ⟨#[99, 104, 97, 108, 108, 101, 110, 103, 101]⟩
def Sg.nw : ByteArray := ⟨#[110, 111, 110, 99, 101]⟩
def Sg.chs (r key : Int) (text : ByteArray) : ByteArray := Sg.cw ++ Dg.bytes r ++ Dg.bytes key ++ text
def Sg.ch (r key : Int) (text : ByteArray) : Int := Dg.of (Sg.chs r key text) % 1073741789
theorem Sg.ch_bd (r key : Int) (text : ByteArray) : 0 ≤ Sg.ch r key text ∧ Sg.ch r key text < 1073741789 := by unfold Sg.ch; omega
def Sg.chal (r key : Int) (text : ByteArray) : Int := if Gr.ok r && Gr.ok key then Sg.ch r key text else -1
def Sg.nos (secret : Int) (text : ByteArray) : ByteArray := Sg.nw ++ Dg.bytes secret ++ text
def Sg.no (secret : Int) (text : ByteArray) : Int := 1 + Dg.of (Sg.nos secret text) % 1073741788
theorem Sg.no_bd (secret : Int) (text : ByteArray) : 1 ≤ Sg.no secret text ∧ Sg.no secret text < 1073741789 := by unfold Sg.no; omega
def Sg.gp (e : Int) : Int := Gr.pw 2147483579 4 e
def Sg.sr (secret : Int) (text : ByteArray) : Int := Sg.gp (Sg.no secret text)
def Sg.sc (secret : Int) (text : ByteArray) : Int := Sg.ch (Sg.sr secret text) (Sg.gp secret) text
def Sg.ss (secret : Int) (text : ByteArray) : Int := (Sg.no secret text + Sg.sc secret text * secret) % 1073741789
def Sg.shape (key r s : Int) : Bool := Gr.kok key && Gr.ok r && (decide (0 ≤ s) && decide (s ≤ 1073741788))
def Sg.rt (key e r : Int) : Int := r * Gr.pw 2147483579 key e % 2147483579
def Sg.eqn (key e r s : Int) : Bool := Sg.gp s == Sg.rt key e r
def Sg.ver (key : Int) (text : ByteArray) (r s : Int) : Bool := Sg.shape key r s && Sg.eqn key (Sg.ch r key text) r s
theorem Sg.kok_iff (key : Int) : Gr.kok key = true ↔ Gr.E key ∧ key ≠ 1 := by
  unfold Gr.kok
  rw [Bool.and_eq_true, Gr.ok_iff]
  simp
theorem Sg.shape_iff (key r s : Int) : Sg.shape key r s = true ↔ (Gr.E key ∧ key ≠ 1) ∧ Gr.E r ∧ 0 ≤ s ∧ s < 1073741789 := by
  unfold Sg.shape
  rw [Bool.and_eq_true, Bool.and_eq_true, Bool.and_eq_true, Sg.kok_iff, Gr.ok_iff, decide_eq_true_iff, decide_eq_true_iff]
  constructor
  · rintro ⟨⟨h1, h2⟩, h3, h4⟩; exact ⟨h1, h2, h3, by omega⟩
  · rintro ⟨h1, h2, h3, h4⟩; exact ⟨⟨h1, h2⟩, h3, by omega⟩
theorem Sg.eqn_iff (key e r s : Int) : Sg.eqn key e r s = true ↔ Sg.gp s = Sg.rt key e r := by unfold Sg.eqn; simp
theorem Sg.ver_iff (key : Int) (text : ByteArray) (r s : Int) : Sg.ver key text r s = true ↔ Sg.shape key r s = true ∧ Sg.gp s = Sg.rt key (Sg.ch r key text) r := by
  unfold Sg.ver
  rw [Bool.and_eq_true, Sg.eqn_iff]
theorem Sg.gp_bd (e : Int) : 0 ≤ Sg.gp e ∧ Sg.gp e < 2147483579 := Gr.pb 4 e
theorem Sg.rt_bd (key e r : Int) : 0 ≤ Sg.rt key e r ∧ Sg.rt key e r < 2147483579 := ⟨Int.emod_nonneg _ (by decide), Int.emod_lt_of_pos _ (by decide)⟩
theorem Sg.gp_E {e : Int} (he : 0 ≤ e) : Gr.E (Sg.gp e) := Gr.pE Gr.base e he
theorem Sg.rt_E {key e r : Int} (hk : Gr.E key) (hr : Gr.E r) (he : 0 ≤ e) : Gr.E (Sg.rt key e r) := Gr.El.mul (by decide) hr (Gr.pE hk e he)
theorem Sg.gp_inj (s t : Int) (s0 : 0 ≤ s) (s1 : s < 1073741789) (t0 : 0 ≤ t) (t1 : t < 1073741789) (h : Sg.gp s = Sg.gp t) : s = t :=
  Gr.inj Gr.base (by decide) s t s0 s1 t0 t1 h
theorem Sg.gp_add (e f : Int) (he : 0 ≤ e) (hf : 0 ≤ f) : Sg.gp (e + f) = Sg.gp e * Sg.gp f % 2147483579 := Gr.pw_add _ _ _ _ he hf
theorem Sg.gp_cyc (e : Int) (he : 0 ≤ e) : Sg.gp (e % 1073741789) = Sg.gp e := Gr.pcyc Gr.base e he
theorem Sg.gp_mul (e f : Int) (he : 0 ≤ e) (hf : 0 ≤ f) : Sg.gp (e * f) = Gr.pw 2147483579 (Sg.gp e) f := (Gr.pw_pw _ _ _ _ he hf).symm
theorem Sg.key_ok {x : Int} (h : Gr.sok x = true) : Gr.key x = Sg.gp x := by unfold Gr.key; rw [h, if_pos rfl]; rfl
/-- What is signed is valid. -/
theorem Sg.sign_ver (secret : Int) (text : ByteArray) (h : Gr.sok secret = true) : Sg.ver (Sg.gp secret) text (Sg.sr secret text) (Sg.ss secret text) = true := by
  have hs := (Gr.sok_iff secret).mp h
  have hn := Sg.no_bd secret text
  have hk := Gr.key_kok h
  rw [Sg.key_ok h] at hk
  have hc := Sg.ch_bd (Sg.sr secret text) (Sg.gp secret) text
  refine (Sg.ver_iff _ _ _ _).mpr ⟨(Sg.shape_iff _ _ _).mpr ⟨(Sg.kok_iff _).mp hk, Sg.gp_E (by omega), ?_, ?_⟩, ?_⟩
  · exact Int.emod_nonneg _ (by decide)
  · exact Int.emod_lt_of_pos _ (by decide)
  · have hm : 0 ≤ Sg.sc secret text * secret := Int.mul_nonneg hc.1 (by omega)
    unfold Sg.ss
    rw [Sg.gp_cyc _ (by omega), Sg.gp_add _ _ (by omega) hm, Int.mul_comm (Sg.sc secret text), Sg.gp_mul secret (Sg.sc secret text) (by omega) (show 0 ≤ Sg.sc secret text from hc.1)]
    rfl
/-- Of each R there is one S. -/
theorem Sg.uniq {key e r s t : Int} (s0 : 0 ≤ s) (s1 : s < 1073741789) (t0 : 0 ≤ t) (t1 : t < 1073741789) (h : Sg.gp s = Sg.rt key e r) (k : Sg.gp t = Sg.rt key e r) : s = t :=
  Sg.gp_inj s t s0 s1 t0 t1 (h.trans k.symm)
theorem Sg.ver_next {key : Int} {text : ByteArray} {r s : Int} (h : Sg.ver key text r s = true) : Sg.ver key text r ((s + 1) % 1073741789) = false := by
  cases h2 : Sg.ver key text r ((s + 1) % 1073741789)
  · rfl
  · have h3 := (Sg.ver_iff _ _ _ _).mp h
    have h4 := (Sg.ver_iff _ _ _ _).mp h2
    have h5 := ((Sg.shape_iff _ _ _).mp h3.1).2.2
    have := Sg.uniq h5.1 h5.2 (Int.emod_nonneg _ (by decide)) (Int.emod_lt_of_pos _ (by decide)) h3.2 h4.2
    omega
theorem Sg.ver_kok {key : Int} {text : ByteArray} {r s : Int} (h : Sg.ver key text r s = true) : Gr.kok key = true ∧ Gr.ok r = true ∧ 0 ≤ s ∧ s < 1073741789 := by
  have h3 := ((Sg.shape_iff _ _ _).mp ((Sg.ver_iff _ _ _ _).mp h).1)
  exact ⟨(Sg.kok_iff _).mpr h3.1, Gr.ok_yes h3.2.1, h3.2.2⟩

/-! A nonce that is used twice -/
theorem Sg.same_iff {key : Int} {t1 t2 : ByteArray} {r s1 s2 : Int} (h1 : Sg.ver key t1 r s1 = true) (h2 : Sg.ver key t2 r s2 = true) : s1 = s2 ↔ Sg.ch r key t1 = Sg.ch r key t2 := by
  have v1 := (Sg.ver_iff _ _ _ _).mp h1
  have v2 := (Sg.ver_iff _ _ _ _).mp h2
  obtain ⟨⟨hk, hk1⟩, hr, a0, a1⟩ := (Sg.shape_iff _ _ _).mp v1.1
  obtain ⟨_, _, b0, b1⟩ := (Sg.shape_iff _ _ _).mp v2.1
  have c1 := Sg.ch_bd r key t1
  have c2 := Sg.ch_bd r key t2
  constructor
  · intro h
    have h3 := v1.2.symm.trans ((congrArg Sg.gp h).trans v2.2)
    unfold Sg.rt at h3
    rw [Int.mul_comm r, Int.mul_comm r] at h3
    have p1 := Gr.pb key (Sg.ch r key t1)
    have p2 := Gr.pb key (Sg.ch r key t2)
    exact Gr.inj hk hk1 _ _ c1.1 c1.2 c2.1 c2.2 (Gr.cancel hr p1.1 p1.2 p2.1 p2.2 h3)
  · intro h
    refine Sg.uniq a0 a1 b0 b1 v1.2 ?_
    rw [v2.2, h]
/-- The secret that two signatures tell. -/
def Sg.two (s1 s2 e1 e2 : Int) : Int := (s1 - s2 + 1073741789) % 1073741789 * Gr.pw 1073741789 ((e1 - e2 + 1073741789) % 1073741789) 1073741787 % 1073741789
theorem Sg.two_bd (s1 s2 e1 e2 : Int) : 0 ≤ Sg.two s1 s2 e1 e2 ∧ Sg.two s1 s2 e1 e2 < 1073741789 := ⟨Int.emod_nonneg _ (by decide), Int.emod_lt_of_pos _ (by decide)⟩
theorem Sg.two_key {key : Int} {t1 t2 : ByteArray} {r s1 s2 : Int} (h1 : Sg.ver key t1 r s1 = true) (h2 : Sg.ver key t2 r s2 = true) (hd : Sg.ch r key t1 ≠ Sg.ch r key t2) :
    Sg.gp (Sg.two s1 s2 (Sg.ch r key t1) (Sg.ch r key t2)) = key ∧ Gr.sok (Sg.two s1 s2 (Sg.ch r key t1) (Sg.ch r key t2)) = true := by
  have v1 := (Sg.ver_iff _ _ _ _).mp h1
  have v2 := (Sg.ver_iff _ _ _ _).mp h2
  obtain ⟨⟨hk, hk1⟩, hr, a0, a1⟩ := (Sg.shape_iff _ _ _).mp v1.1
  obtain ⟨_, _, b0, b1⟩ := (Sg.shape_iff _ _ _).mp v2.1
  have c1 := Sg.ch_bd r key t1
  have c2 := Sg.ch_bd r key t2
  have q1 := v1.2
  have q2 := v2.2
  have hT := Sg.two_bd s1 s2 (Sg.ch r key t1) (Sg.ch r key t2)
  generalize Sg.ch r key t1 = e1 at *
  generalize Sg.ch r key t2 = e2 at *
  clear v1 v2 h1 h2
  have hgp : Sg.gp (Sg.two s1 s2 e1 e2) = key := by
    unfold Sg.two
    obtain ⟨T, HT⟩ : ∃ T, (s1 - s2 + 1073741789) % 1073741789 = T := ⟨_, rfl⟩
    obtain ⟨D, HD⟩ : ∃ D, (e1 - e2 + 1073741789) % 1073741789 = D := ⟨_, rfl⟩
    rw [HT, HD]
    have hI := Gr.scalar D (by omega) (by omega)
    have hI0 := (Gr.pw_bd 1073741789 D 1073741787 (by decide)).1
    generalize Gr.pw 1073741789 D 1073741787 = I at hI hI0 ⊢
    rw [Sg.gp_cyc _ (Int.mul_nonneg (by omega) hI0), Sg.gp_mul _ _ (by omega) hI0]
    have e3 : Sg.gp T = Gr.pw 2147483579 key D := by
      have u1 : Sg.gp T * Sg.gp s2 % 2147483579 = Sg.gp s1 := by
        rw [← Sg.gp_add _ _ (by omega) b0, ← Sg.gp_cyc _ (by omega), show (T + s2) % 1073741789 = s1 by omega]
      have u2 : Gr.pw 2147483579 key D * Gr.pw 2147483579 key e2 % 2147483579 = Gr.pw 2147483579 key e1 := by
        rw [← Gr.pw_add _ _ _ _ (by omega) c2.1, ← Gr.pcyc hk _ (by omega), show (D + e2) % 1073741789 = e1 by omega]
      have g1 := Sg.gp_bd T
      have g2 := Gr.pb key D
      refine Gr.cancel (Sg.gp_E b0) g1.1 g1.2 g2.1 g2.2 ?_
      rw [u1, q1, q2]
      unfold Sg.rt
      rw [← u2, Gr.mulm', Gr.mulm', ← Int.mul_assoc, ← Int.mul_assoc, Int.mul_comm r]
    rw [e3, Gr.pw_pw _ _ _ _ (by omega) hI0, ← Gr.pcyc hk _ (Int.mul_nonneg (by omega) hI0), hI]
    exact Gr.p1 hk
  refine ⟨hgp, (Gr.sok_iff _).mpr ⟨?_, hT.2⟩⟩
  rcases Int.lt_or_le 0 (Sg.two s1 s2 e1 e2) with h | h
  · omega
  · exfalso
    rw [show Sg.two s1 s2 e1 e2 = 0 by omega] at hgp
    exact hk1 (hgp.symm.trans (Gr.pw_zero 2147483579 4 0 (by decide) (by decide)))

/-! Many at once -/
/-- A signed message. -/
structure Sg.It where
  key : Int
  text : ByteArray
  r : Int
  s : Int
def Sg.it0 : Sg.It := ⟨0, ⟨#[]⟩, 0, 0⟩
def Sg.It.sh (x : Sg.It) : Bool := Sg.shape x.key x.r x.s
def Sg.It.ch (x : Sg.It) : Int := Sg.ch x.r x.key x.text
def Sg.It.ver (x : Sg.It) : Bool := Sg.ver x.key x.text x.r x.s
def Sg.It.rt (x : Sg.It) : Int := Sg.rt x.key x.ch x.r
def Sg.win (w : Int) : Bool := decide (0 ≤ w) && decide (w ≤ 1073741788)
theorem Sg.win_iff (w : Int) : Sg.win w = true ↔ 0 ≤ w ∧ w < 1073741789 := by
  unfold Sg.win
  rw [Bool.and_eq_true, decide_eq_true_iff, decide_eq_true_iff]
  omega
/-- The term of one message: the right side of its equation to the power of its weight. -/
def Sg.It.term (x : Sg.It) (w : Int) : Int := Gr.pw 2147483579 x.r w * Gr.pw 2147483579 x.key (w * x.ch % 1073741789) % 2147483579
theorem Sg.It.term_bd (x : Sg.It) (w : Int) : 0 ≤ x.term w ∧ x.term w < 2147483579 := ⟨Int.emod_nonneg _ (by decide), Int.emod_lt_of_pos _ (by decide)⟩
def Sg.left (l : List Sg.It) (ws : List Int) : Nat → Int
  | 0 => 0
  | k + 1 => (Sg.left l ws k + ws.getD k 0 * (l.getD k Sg.it0).s) % 1073741789
def Sg.right (l : List Sg.It) (ws : List Int) : Nat → Int
  | 0 => 1
  | k + 1 => Sg.right l ws k * (l.getD k Sg.it0).term (ws.getD k 0) % 2147483579
def Sg.good (l : List Sg.It) (ws : List Int) : Nat → Bool
  | 0 => true
  | k + 1 => Sg.good l ws k && ((l.getD k Sg.it0).sh && Sg.win (ws.getD k 0))
def Sg.room (n m : Nat) : Bool := decide (1 ≤ n) && decide (n ≤ 8) && decide (m = n)
def Sg.batch (l : List Sg.It) (ws : List Int) : Bool := Sg.room l.length ws.length && (Sg.good l ws l.length && (Sg.gp (Sg.left l ws l.length) == Sg.right l ws l.length))
theorem Sg.left_bd (l : List Sg.It) (ws : List Int) (k : Nat) : 0 ≤ Sg.left l ws k ∧ Sg.left l ws k < 1073741789 := by
  cases k with
  | zero => exact ⟨Int.le_refl (0 : Int), (by decide : (0 : Int) < 1073741789)⟩
  | succ k => exact ⟨Int.emod_nonneg _ (by decide), Int.emod_lt_of_pos _ (by decide)⟩
theorem Sg.right_bd (l : List Sg.It) (ws : List Int) (k : Nat) : 0 ≤ Sg.right l ws k ∧ Sg.right l ws k < 2147483579 := by
  cases k with
  | zero => exact ⟨(by decide : (0 : Int) ≤ 1), (by decide : (1 : Int) < 2147483579)⟩
  | succ k => exact ⟨Int.emod_nonneg _ (by decide), Int.emod_lt_of_pos _ (by decide)⟩
theorem Sg.good_at (l : List Sg.It) (ws : List Int) : ∀ k, Sg.good l ws k = true → ∀ j, j < k → (l.getD j Sg.it0).sh = true ∧ Sg.win (ws.getD j 0) = true := by
  intro k
  induction k with
  | zero => intro _ j hj; omega
  | succ k ih =>
    intro h j hj
    rw [Sg.good, Bool.and_eq_true, Bool.and_eq_true] at h
    by_cases hjk : j = k
    · rw [hjk]; exact h.2
    · exact ih h.1 j (by omega)
theorem Sg.good_no (l : List Sg.It) (ws : List Int) (k : Nat) (h : ((l.getD k Sg.it0).sh && Sg.win (ws.getD k 0)) = false) : ∀ n, k < n → Sg.good l ws n = false := by
  intro n
  induction n with
  | zero => intro h; omega
  | succ n ih =>
    intro hn
    rw [Sg.good]
    by_cases hkn : k = n
    · rw [← hkn, h, Bool.and_false]
    · rw [ih (by omega), Bool.false_and]
theorem Sg.It.elems (x : Sg.It) (h : x.sh = true) : Gr.E x.key ∧ Gr.E x.r ∧ 0 ≤ x.s ∧ x.s < 1073741789 ∧ 0 ≤ x.ch ∧ x.ch < 1073741789 := by
  obtain ⟨⟨hk, _⟩, hr, a0, a1⟩ := (Sg.shape_iff _ _ _).mp h
  have hc := Sg.ch_bd x.r x.key x.text
  exact ⟨hk, hr, a0, a1, hc.1, hc.2⟩
theorem Sg.It.term_E (x : Sg.It) (w : Int) (h : x.sh = true) (hw : 0 ≤ w) : Gr.E (x.term w) := by
  obtain ⟨hk, hr, _, _, _, _⟩ := x.elems h
  exact Gr.El.mul (by decide) (Gr.pE hr w hw) (Gr.pE hk _ (Int.emod_nonneg _ (by decide)))
/-- The term with a weight is the right side to its power. -/
theorem Sg.It.term_eq (x : Sg.It) (w : Int) (h : x.sh = true) (hw : 0 ≤ w) : x.term w = Gr.pw 2147483579 x.rt w := by
  obtain ⟨hk, hr, _, _, c0, _⟩ := x.elems h
  unfold Sg.It.term Sg.It.rt Sg.rt
  rw [Gr.pw_prod, Gr.pcyc hk _ (Int.mul_nonneg hw c0), Int.mul_comm w, Gr.pw_pw _ _ _ _ c0 hw]
theorem Sg.right_E (l : List Sg.It) (ws : List Int) : ∀ k, Sg.good l ws k = true → Gr.E (Sg.right l ws k) := by
  intro k
  induction k with
  | zero => intro _; exact ⟨(by decide : (1 : Int) ≤ 1), (by decide : (1 : Int) < 2147483579), Gr.pw_unit _ _ (by decide)⟩
  | succ k ih =>
    intro h
    have ha := Sg.good_at l ws (k + 1) h k (by omega)
    rw [Sg.good, Bool.and_eq_true] at h
    exact Gr.El.mul (by decide) (ih h.1) (Sg.It.term_E _ _ ha.1 ((Sg.win_iff _).mp ha.2).1)
theorem Sg.left_step (l : List Sg.It) (ws : List Int) (k : Nat) (h0 : 0 ≤ ws.getD k 0) (h1 : 0 ≤ (l.getD k Sg.it0).s) :
    Sg.gp (Sg.left l ws (k + 1)) = Sg.gp (Sg.left l ws k) * Gr.pw 2147483579 (Sg.gp (l.getD k Sg.it0).s) (ws.getD k 0) % 2147483579 := by
  have hb := (Sg.left_bd l ws k).1
  rw [Sg.left, Sg.gp_cyc _ (Int.add_nonneg hb (Int.mul_nonneg h0 h1)), Sg.gp_add _ _ hb (Int.mul_nonneg h0 h1), Int.mul_comm (ws.getD k 0), Sg.gp_mul _ _ h1 h0]
/-- Valid signatures satisfy the equation for all weights. -/
theorem Sg.all_valid (l : List Sg.It) (ws : List Int) : ∀ n, (∀ j, j < n → (l.getD j Sg.it0).ver = true ∧ Sg.win (ws.getD j 0) = true) → Sg.good l ws n = true ∧ Sg.gp (Sg.left l ws n) = Sg.right l ws n := by
  intro n
  induction n with
  | zero => intro _; exact ⟨rfl, Gr.pw_zero 2147483579 4 0 (by decide) (by decide)⟩
  | succ n ih =>
    intro h
    obtain ⟨i1, i2⟩ := ih fun j hj => h j (by omega)
    obtain ⟨hv, hw⟩ := h n (by omega)
    have v := (Sg.ver_iff _ _ _ _).mp hv
    have hsh : (l.getD n Sg.it0).sh = true := v.1
    have hwi := (Sg.win_iff _).mp hw
    refine ⟨by rw [Sg.good, i1, hsh, hw]; rfl, ?_⟩
    rw [Sg.left_step l ws n hwi.1 (Sg.It.elems _ hsh).2.2.1, i2, Sg.right, Sg.It.term_eq _ _ hsh hwi.1]
    have e : Sg.gp (l.getD n Sg.it0).s = (l.getD n Sg.it0).rt := v.2
    rw [e]
theorem Sg.batch_valid (l : List Sg.It) (ws : List Int) (h0 : 1 ≤ l.length) (h8 : l.length ≤ 8) (hw : ws.length = l.length) (h : ∀ j, j < l.length → (l.getD j Sg.it0).ver = true ∧ Sg.win (ws.getD j 0) = true) : Sg.batch l ws = true := by
  obtain ⟨h1, h2⟩ := Sg.all_valid l ws l.length h
  unfold Sg.batch Sg.room
  rw [h1, h2]
  simp [h0, h8, hw]
theorem Sg.batch_iff (l : List Sg.It) (ws : List Int) : Sg.batch l ws = true ↔ (1 ≤ l.length ∧ l.length ≤ 8 ∧ ws.length = l.length) ∧ Sg.good l ws l.length = true ∧ Sg.gp (Sg.left l ws l.length) = Sg.right l ws l.length := by
  unfold Sg.batch Sg.room
  simp [and_assoc]
/-- One weight more: the sum. -/
theorem Sg.left_set (l : List Sg.It) (ws : List Int) (i : Nat) (hi : i < ws.length) : ∀ n, Sg.left l (ws.set i ((ws.getD i 0 + 1) % 1073741789)) n = if i < n then (Sg.left l ws n + (l.getD i Sg.it0).s) % 1073741789 else Sg.left l ws n := by
  intro n
  induction n with
  | zero => rfl
  | succ n ih =>
    rw [Sg.left, ih]
    by_cases hin : i = n
    · subst hin
      rw [if_neg (by omega), if_pos (by omega), show (ws.set i ((ws.getD i 0 + 1) % 1073741789)).getD i 0 = (ws.getD i 0 + 1) % 1073741789 by simp [hi], Sg.left]
      generalize ws.getD i 0 = x
      generalize (l.getD i Sg.it0).s = y
      generalize Sg.left l ws i = z
      rw [Int.add_emod z, Int.mul_emod, Int.emod_emod, ← Int.mul_emod, ← Int.add_emod, Int.add_mul, Int.one_mul, Int.emod_add_emod, Int.add_assoc]
    · have e : (ws.set i ((ws.getD i 0 + 1) % 1073741789)).getD n 0 = ws.getD n 0 := by simp [List.getD_eq_getElem?_getD, hin]
      rw [e]
      by_cases hlt : i < n
      · rw [if_pos hlt, if_pos (by omega), Sg.left]
        generalize ws.getD n 0 * (l.getD n Sg.it0).s = x
        rw [Int.emod_add_emod, Int.emod_add_emod]
        congr 1
        omega
      · rw [if_neg hlt, if_neg (by omega), Sg.left]
theorem Sg.right_set (l : List Sg.It) (ws : List Int) (i : Nat) (hi : i < ws.length) (hx : (l.getD i Sg.it0).sh = true) (hw : 0 ≤ ws.getD i 0) : ∀ n, Sg.right l (ws.set i ((ws.getD i 0 + 1) % 1073741789)) n = if i < n then Sg.right l ws n * (l.getD i Sg.it0).rt % 2147483579 else Sg.right l ws n := by
  intro n
  induction n with
  | zero => rfl
  | succ n ih =>
    rw [Sg.right, ih]
    by_cases hin : i = n
    · subst hin
      obtain ⟨hk, hr, _, _, c0, _⟩ := Sg.It.elems _ hx
      rw [if_neg (by omega), if_pos (by omega), show (ws.set i ((ws.getD i 0 + 1) % 1073741789)).getD i 0 = (ws.getD i 0 + 1) % 1073741789 by simp [hi], Sg.right,
        Sg.It.term_eq _ _ hx (Int.emod_nonneg _ (by decide)), Sg.It.term_eq _ _ hx hw, Gr.pcyc (show Gr.E (l.getD i Sg.it0).rt from Sg.rt_E hk hr c0) _ (by omega), Gr.pw_step _ _ _ hw, Gr.mulm', Gr.mulm, Int.mul_assoc]
    · have e : (ws.set i ((ws.getD i 0 + 1) % 1073741789)).getD n 0 = ws.getD n 0 := by simp [List.getD_eq_getElem?_getD, hin]
      rw [e]
      by_cases hlt : i < n
      · rw [if_pos hlt, if_pos (by omega), Sg.right, Gr.mulm, Gr.mulm]
        congr 1
        rw [Int.mul_assoc, Int.mul_assoc, Int.mul_comm (l.getD i Sg.it0).rt]
      · rw [if_neg hlt, if_neg (by omega), Sg.right]
/-- A wrong signature is found by one of two weights. -/
theorem Sg.batch_two (l : List Sg.It) (ws : List Int) (i : Nat) (hi : i < l.length) (hbad : (l.getD i Sg.it0).ver = false) (h : Sg.batch l ws = true) : Sg.batch l (ws.set i ((ws.getD i 0 + 1) % 1073741789)) = false := by
  cases h2 : Sg.batch l (ws.set i ((ws.getD i 0 + 1) % 1073741789))
  · rfl
  · exfalso
    obtain ⟨⟨_, _, hl⟩, hg, he⟩ := (Sg.batch_iff _ _).mp h
    obtain ⟨_, _, he'⟩ := (Sg.batch_iff _ _).mp h2
    obtain ⟨hx, hw⟩ := Sg.good_at l ws _ hg i hi
    obtain ⟨hk, hr, s0, s1, c0, c1⟩ := Sg.It.elems _ hx
    have hb := Sg.left_bd l ws l.length
    rw [Sg.left_set l ws i (by omega), if_pos hi, Sg.right_set l ws i (by omega) hx ((Sg.win_iff _).mp hw).1, if_pos hi, Sg.gp_cyc _ (by omega), Sg.gp_add _ _ hb.1 s0, he] at he'
    rw [Int.mul_comm (Sg.right l ws l.length), Int.mul_comm (Sg.right l ws l.length)] at he'
    have g := Sg.gp_bd (l.getD i Sg.it0).s
    have t := Sg.rt_bd (l.getD i Sg.it0).key (l.getD i Sg.it0).ch (l.getD i Sg.it0).r
    have e := Gr.cancel (Sg.right_E l ws _ hg) g.1 g.2 t.1 t.2 he'
    have : (l.getD i Sg.it0).ver = true := (Sg.ver_iff _ _ _ _).mpr ⟨hx, e⟩
    rw [hbad] at this
    cases this
end Go.Proofs.YtohameoomlehlaaGreat
