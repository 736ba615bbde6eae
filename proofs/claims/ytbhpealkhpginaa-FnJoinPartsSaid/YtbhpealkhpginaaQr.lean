/-
  Contracts of chapter 8: shares; of the model.
-/
import Derived.Test.YtbhpealkhpginaaGe
import Derived.Test.YtbhpealkhpginaaPq
import Derived.Test.YtbhpealkhpginaaBk
import Derived.Deep.RegionHeld3
namespace Go.Proofs.Ytbhpealkhpginaa
open Go.RowKit

/-- The slice at a holds the len shares l. -/
def QR (w : World) (a : Option Addr) (len : Nat) (l : List (Int × Int)) : Prop :=
  l.length = len ∧ (0 < len → ∃ b off, a = some ⟨b, off, none⟩ ∧ b < w.heap.size ∧ ∀ j, j < len → w.cell? ⟨b, off + j * 2, none⟩ = some (.int .i64 (Po.X l j)) ∧ w.cell? ⟨b, off + j * 2 + 1, none⟩ = some (.int .i64 (Po.Y l j)))
theorem QR.grown {w w' : World} {a : Option Addr} {len : Nat} {l : List (Int × Int)} {row : Option Nat} (h : QR w a len l) (hg : w.grownBy w' row) (hne : 0 < len → ∀ b off, a = some ⟨b, off, none⟩ → some b ≠ row) : QR w' a len l :=
  ⟨h.1, fun h0 => by
    obtain ⟨b, off, rfl, hb, hc⟩ := h.2 h0
    have hn : some b ≠ row := by simpa using hne h0 b off rfl
    exact ⟨b, off, rfl, Nat.lt_of_lt_of_le hb hg.size, fun j hj => ⟨hg.cell (hc j hj).1 (by simpa using hn), hg.cell (hc j hj).2 (by simpa using hn)⟩⟩⟩
theorem QR.below {w w' : World} {a : Option Addr} {len : Nat} {l : List (Int × Int)} (h : QR w a len l) (hb : Below w.heap.size w w') : QR w' a len l :=
  h.grown (row := none) ⟨hb.os, hb.tape, hb.output, hb.size, fun k hk _ => hb.block k hk⟩ (fun _ _ _ _ => by simp)
theorem QR.alloc {w : World} {a : Option Addr} {len : Nat} {l : List (Int × Int)} (h : QR w a len l) (o : Obj) : QR (w.alloc o) a len l :=
  h.grown (World.grownBy_alloc w o none) (fun _ _ _ _ => by simp)
theorem QR.drew {w : World} {a : Option Addr} {len : Nat} {l : List (Int × Int)} (h : QR w a len l) : QR w.drew a len l := ⟨h.1, h.2⟩
set_option maxRecDepth 100000 in
set_option maxHeartbeats 800000 in
theorem l8Less_any (a b : Int) (w : World) (a0 : 0 ≤ a) (a1 : a ≤ 1073741788) (b0 : 0 ≤ b) (b1 : b ≤ 1073741788) :
    Calls Try.prog 63 #[.int .i64 a, .int .i64 b] w fun e w' => e = .returned (.int .i64 (Po.less a b)) ∧ w' = w := by
  have HL : Hid (Po.less a b = (a - b + 1073741789) % 1073741789) := Lib.hid rfl
  rw [HL.out]
  have d0 : -1073741788 ≤ a - b := by omega
  have d1 : a - b ≤ 1073741788 := by omega
  go_enter Try.func63, Try.ntmps63
  go_wp2
  go_ret
  exact ⟨rfl, rfl⟩
set_option maxRecDepth 100000 in
set_option maxHeartbeats 1600000 in
theorem l8Part_any (a : Option Addr) (len cap : Nat) (l : List (Int × Int)) (i : Nat) (x : Int) (w : World) (h : QR w a len l) (hi : i < len) (h9 : len ≤ 9) (hX : ∀ j, j < len → 0 ≤ Po.X l j ∧ Po.X l j ≤ 1073741788) (x0 : 0 ≤ x) (x1 : x ≤ 1073741788) :
    Calls Try.prog 58 #[.slice a len cap, .int .i64 (i : Int), .int .i64 x] w fun e w' => e = .returned (.int .i64 (Po.part l i x)) ∧ Below w.heap.size w w' := by
  have hl := h.1
  obtain ⟨xi0, xi1⟩ := hX i hi
  go_enter Try.func58, Try.ntmps58
  go_wp2
  go_loopw [7, 8, 9] (fun u d k wr => ∃ j : Nat, j ≤ len ∧ k = .int .i64 (j : Int) ∧ u = .int .i64 (Po.up l i x j) ∧ d = .int .i64 (Po.up l i (Po.X l i) j) ∧ Below w.heap.size w wr)
    (fun _ _ k _ => len - (intOf k).toNat)
  case atStart => exact ⟨0, by omega, rfl, rfl, rfl, Below.refl _ _⟩
  case round =>
    obtain ⟨j, hj, rfl, rfl, rfl, hbel⟩ := hrel
    by_cases hlt : j < len
    · by_cases hji : j = i
      · have HU : Hid (Po.up l i x (j + 1) = Po.up l i x j) := Lib.hid (by show (if j = i then _ else _) = _; rw [if_pos hji])
        have HD : Hid (Po.up l i (Po.X l i) (j + 1) = Po.up l i (Po.X l i) j) := Lib.hid (by show (if j = i then _ else _) = _; rw [if_pos hji])
        have hn : ((j : Int) != (i : Int)) = false := by simp [hji]
        have hn2 : ((j : Int) == (i : Int)) = true := by simp [hji]
        obtain ⟨U, HU2⟩ : ∃ U, Hid (Po.up l i x j = U) := ⟨_, Lib.hid rfl⟩
        obtain ⟨D, HD2⟩ : ∃ U, Hid (Po.up l i (Po.X l i) j = U) := ⟨_, Lib.hid rfl⟩
        rw [HU2.out] at HU ⊢
        rw [HD2.out] at HD ⊢
        clear h hX HU2 HD2 xi0 xi1 hji
        go_wp2
        go_roundw
        case rel => exact ⟨j + 1, by omega, by simp, by rw [HU.out], by rw [HD.out], hbel⟩
        case measure => simp [intOf]; omega
      · have HU : Hid (Po.up l i x (j + 1) = Po.up l i x j * Po.less x (Po.X l j) % 1073741789) := Lib.hid (by show (if j = i then _ else _) = _; rw [if_neg hji])
        have HD : Hid (Po.up l i (Po.X l i) (j + 1) = Po.up l i (Po.X l i) j * Po.less (Po.X l i) (Po.X l j) % 1073741789) := Lib.hid (by show (if j = i then _ else _) = _; rw [if_neg hji])
        have hn : ((j : Int) != (i : Int)) = true := by simp; omega
        have hn2 : ((j : Int) == (i : Int)) = false := by simp; omega
        obtain ⟨u0, u1⟩ := Po.up_bd l i x j
        obtain ⟨d0, d1⟩ := Po.up_bd l i (Po.X l i) j
        obtain ⟨U, HU2⟩ : ∃ U, Hid (Po.up l i x j = U) := ⟨_, Lib.hid rfl⟩
        obtain ⟨D, HD2⟩ : ∃ U, Hid (Po.up l i (Po.X l i) j = U) := ⟨_, Lib.hid rfl⟩
        rw [HU2.out] at HU u0 u1 ⊢
        rw [HD2.out] at HD d0 d1 ⊢
        obtain ⟨b, off, rfl, hb, hc⟩ := (h.below hbel).2 (by omega)
        have cj := (hc j hlt).1
        have ci := (hc i hi).1
        obtain ⟨xj0, xj1⟩ := hX j hlt
        obtain ⟨V, HV⟩ : ∃ V, Hid (Po.X l j = V) := ⟨_, Lib.hid rfl⟩
        obtain ⟨T, HT⟩ : ∃ V, Hid (Po.X l i = V) := ⟨_, Lib.hid rfl⟩
        obtain ⟨D2, HD3⟩ : ∃ U, Hid (Po.up l i (Po.X l i) (j + 1) = U) := ⟨_, Lib.hid rfl⟩
        rw [HD3.out] at HD
        rw [HV.out] at cj xj0 xj1 HU HD
        rw [HT.out] at ci xi0 xi1 HD
        have hcon1 := fun W => l8Less_any x V W x0 x1 xj0 xj1
        have hcon2 := fun W => l8Less_any T V W xi0 xi1 xj0 xj1
        have hl1 : 0 ≤ Po.less x V ∧ Po.less x V < 1073741789 := ⟨Int.emod_nonneg _ (by decide), Int.emod_lt_of_pos _ (by decide)⟩
        have hl2 : 0 ≤ Po.less T V ∧ Po.less T V < 1073741789 := ⟨Int.emod_nonneg _ (by decide), Int.emod_lt_of_pos _ (by decide)⟩
        obtain ⟨Q, HQ⟩ : ∃ P, Hid (Po.less T V = P) := ⟨_, Lib.hid rfl⟩
        obtain ⟨P, HP⟩ : ∃ P, Hid (Po.less x V = P) := ⟨_, Lib.hid rfl⟩
        rw [HP.out] at hcon1 hl1 HU
        rw [HQ.out] at hcon2 hl2 HD
        obtain ⟨p0, p1⟩ := hl1
        obtain ⟨q0, q1⟩ := hl2
        obtain ⟨m0, m1⟩ := Gr.mul_bd U P 1073741789 u0 u1 p0 p1 (by omega)
        obtain ⟨r0, r1⟩ := Gr.mul_bd D Q 1073741789 d0 d1 q0 q1 (by omega)
        have k1 : IntKind.i64.wrap (D * Q) = D * Q := IntWalk.i64_in _ (by omega)
        have k2 : Int.tmod (D * Q) 1073741789 = D * Q % 1073741789 := Int.tmod_eq_emod_of_nonneg (by omega)
        have hS0 : wr.drew.cell? ⟨b, off + j * 2, none⟩ = some (.int .i64 V) ∧ wr.drew.cell? ⟨b, off + i * 2, none⟩ = some (.int .i64 T) := ⟨cj, ci⟩
        clear h hX HU2 HD2 hji hc HV HT HP HQ
        go_wp2_with fail
        refine (hcon1 _).mono ?_
        rintro e1 w1 ⟨rfl, h1⟩
        subst h1
        go_wp2
        go_region_held3 (fun W => W.cell? ⟨b, off + j * 2, none⟩ = some (.int .i64 V) ∧ W.cell? ⟨b, off + i * 2, none⟩ = some (.int .i64 T)) (first | with_reducible exact hS0)
          (first | (go_at_call 63; refine (hcon2 _).mono ?_; rintro e2 w2 ⟨rfl, h2⟩; subst h2))
        all_goals
          go_wp2
          go_roundw
          case rel => exact ⟨j + 1, by omega, by simp, by rw [HU.out], by rw [HD3.out, HD.out], hbel.drew⟩
          case measure => simp [intOf]; omega
    · have hj2 : j = len := by omega
      subst hj2
      have HP : Hid (Po.part l i x = Po.up l i x j * Gr.pw 1073741789 (Po.up l i (Po.X l i) j) 1073741787 % 1073741789) := Lib.hid (by unfold Po.part Po.inv; rw [hl])
      obtain ⟨u0, u1⟩ := Po.up_bd l i x j
      obtain ⟨d0, d1⟩ := Po.up_bd l i (Po.X l i) j
      obtain ⟨U, HU2⟩ : ∃ U, Hid (Po.up l i x j = U) := ⟨_, Lib.hid rfl⟩
      obtain ⟨D, HD2⟩ : ∃ U, Hid (Po.up l i (Po.X l i) j = U) := ⟨_, Lib.hid rfl⟩
      rw [HU2.out] at u0 u1 HP ⊢
      rw [HD2.out] at d0 d1 HP ⊢
      have hcon := fun W => l4Inv_any D W d0 d1
      obtain ⟨q0, q1⟩ := Gr.pw_bd 1073741789 D 1073741787 (by decide)
      obtain ⟨G, HG⟩ : ∃ G, Hid (Gr.pw 1073741789 D 1073741787 = G) := ⟨_, Lib.hid rfl⟩
      rw [HG.out] at hcon q0 q1 HP
      obtain ⟨m0, m1⟩ := Gr.mul_bd U G 1073741789 u0 u1 q0 q1 (by omega)
      clear h hX HU2 HD2 HG hl
      go_wp2_with fail
      refine (hcon _).mono ?_
      rintro e1 w1 ⟨rfl, h1⟩
      subst h1
      go_wp2
      go_ret
      exact ⟨by rw [HP.out]; rfl, hbel⟩
set_option maxRecDepth 100000 in
set_option maxHeartbeats 1600000 in
theorem l8At_any (a : Option Addr) (len cap : Nat) (l : List (Int × Int)) (x : Int) (w : World) (h : QR w a len l) (h9 : len ≤ 9) (hX : ∀ j, j < len → 0 ≤ Po.X l j ∧ Po.X l j ≤ 1073741788) (hY : ∀ j, j < len → 0 ≤ Po.Y l j ∧ Po.Y l j ≤ 1073741788) (x0 : 0 ≤ x) (x1 : x ≤ 1073741788) :
    Calls Try.prog 47 #[.slice a len cap, .int .i64 x] w fun e w' => e = .returned (.int .i64 (Po.val l x)) ∧ Below w.heap.size w w' := by
  have hl := h.1
  go_enter Try.func47, Try.ntmps47
  go_wp2
  go_loopw [5, 6] (fun s k wr => ∃ j : Nat, j ≤ len ∧ k = .int .i64 (j : Int) ∧ s = .int .i64 (Po.sum l x j) ∧ Below w.heap.size w wr)
    (fun _ k _ => len - (intOf k).toNat)
  case atStart => exact ⟨0, by omega, rfl, rfl, Below.refl _ _⟩
  case round =>
    obtain ⟨j, hj, rfl, rfl, hbel⟩ := hrel
    by_cases hlt : j < len
    · have h1 := h.below hbel
      have hcon := l8Part_any a len cap l j x wr.drew h1.drew hlt h9 hX x0 x1
      obtain ⟨b, off, rfl, hb, hc⟩ := h1.2 (by omega)
      have cj := (hc j hlt).2
      obtain ⟨y0, y1⟩ := hY j hlt
      obtain ⟨s0, s1⟩ := Po.sum_bd l x j
      obtain ⟨p0, p1⟩ := Po.part_bd l j x
      have HS : Hid (Po.sum l x (j + 1) = (Po.sum l x j + Po.Y l j * Po.part l j x) % 1073741789) := Lib.hid rfl
      obtain ⟨S, HS2⟩ : ∃ U, Hid (Po.sum l x j = U) := ⟨_, Lib.hid rfl⟩
      obtain ⟨P, HP⟩ : ∃ U, Hid (Po.part l j x = U) := ⟨_, Lib.hid rfl⟩
      obtain ⟨Y, HY⟩ : ∃ U, Hid (Po.Y l j = U) := ⟨_, Lib.hid rfl⟩
      rw [HS2.out] at s0 s1 HS ⊢
      rw [HP.out] at p0 p1 hcon HS
      rw [HY.out] at cj y0 y1 HS
      obtain ⟨m0, m1⟩ := Gr.mul_bd Y P 1073741789 y0 (by omega) p0 p1 (by omega)
      have k1 : IntKind.i64.wrap (Y * P) = Y * P := IntWalk.i64_in _ (by omega)
      have k2 : IntKind.i64.wrap (S + Y * P) = S + Y * P := IntWalk.i64_in _ (by omega)
      have k3 : Int.tmod (S + Y * P) 1073741789 = (S + Y * P) % 1073741789 := Int.tmod_eq_emod_of_nonneg (by omega)
      have hS0 : wr.drew.cell? ⟨b, off + j * 2 + 1, none⟩ = some (.int .i64 Y) := cj
      have hbd : ∀ W, Below wr.drew.heap.size wr.drew W → W.cell? ⟨b, off + j * 2 + 1, none⟩ = some (.int .i64 Y) := fun W hq => (hq.cell hb).trans hS0
      have hbe : ∀ W, Below wr.drew.heap.size wr.drew W → Below w.heap.size w W := fun W hq => below_after hbel.drew hq
      clear h hX hY HS2 HP HY hc h1 hbel
      go_wp2
      go_region_held3 (fun W => W.cell? ⟨b, off + j * 2 + 1, none⟩ = some (.int .i64 Y)) (first | with_reducible exact hS0 | with_reducible exact hS1)
        (first | (go_at_call 58; refine hcon.mono ?_; rintro e1 w1 ⟨rfl, hb1⟩; have hS1 := hbd _ hb1; have hc1 := hbe _ hb1))
      all_goals
        go_wp2
        go_roundw
        case rel => exact ⟨j + 1, by omega, by simp, by rw [HS.out], hc1⟩
        case measure => simp [intOf]; omega
    · have hj2 : j = len := by omega
      subst hj2
      have HV : Hid (Po.val l x = Po.sum l x j) := Lib.hid (by unfold Po.val; rw [hl])
      clear h hX hY hl
      go_wp2
      go_ret
      exact ⟨by rw [HV.out]; rfl, hbel⟩
end Go.Proofs.Ytbhpealkhpginaa
