/-
  Drawing for chapter 11: a stack, what a script is run with.
-/
import Derived.Test.YtcbpdibkindnfaaGreatYl
import Derived.Test.YtcbpdibkindnfaaGreatDs
import Derived.Test.YtcbpdibkindnfaaGreatSl
import Derived.Test.YtcbpdibkindnfaaGreatSj
import Derived.Test.YtcbpdibkindnfaaGreatYa
import Derived.Test.YtcbpdibkindnfaaGreatOg
import Derived.Deep.RegionWith
namespace Go.Proofs.YtcbpdibkindnfaaGreat
open Go.RowKit

/-- Drawing a stack: at most m strings of at most L bytes each; the place goes on by at most c. -/
def StackR (B : Nat) (a : Option Addr) (len cap : Nat) (zs : List Int) (p c : Nat) (m L : Nat) (w : World) (e : Ending) (w' : World) : Prop :=
  ∃ (ss : List ByteArray) (q g cp : Nat), e = .returned (.slice (some ⟨g, 0, none⟩) ss.length cp) ∧ ss.length ≤ m ∧ (∀ s ∈ ss, s.size ≤ L) ∧ p ≤ q ∧ q ≤ p + c ∧ Dw B a len cap zs w' q ∧ w.grownBy w' (some B) ∧
    w'.ownsRow w.heap.size 9 1 (.slice (some ⟨g, 0, none⟩) ss.length cp) ss.length (ss.map Value.string)
theorem Jo.item_size (r s : Int) : (Jo.item r s).size ≤ 8 := by
  rw [Jo.item_len]
  split <;> omega
set_option maxRecDepth 100000 in
set_option maxHeartbeats 1600000 in
theorem l12Sig_any (x : Int) (t : ByteArray) (w : World) (x0 : 1 ≤ x) (x1 : x ≤ 1073741788) (ht : t.size ≤ 1048576) :
    Calls Tryz.prog 59 #[.int .i64 x, .string t] w fun e w' => ∃ s : ByteArray, e = .returned (.string s) ∧ s.size ≤ 8 ∧ Below w.heap.size w w' := by
  have hcon := l5Sign_any x t w x0 x1 ht
  clear x0 x1 ht
  generalize Sg.sr x t = r at hcon
  generalize Sg.ss x t = s at hcon
  go_enter Tryz.func59, Tryz.ntmps59
  go_wp2_with fail
  refine hcon.mono ?_
  rintro e w1 ⟨rfl, hb1⟩
  go_wp2_with fail
  refine (specSigItem_any r s _).mono ?_
  rintro e w2 ⟨rfl, hb2⟩
  go_wp2
  go_ret
  exact ⟨_, rfl, Jo.item_size r s, hb1.trans (hb2.mono hb1.size)⟩
set_option maxRecDepth 100000 in
set_option maxHeartbeats 3200000 in
theorem l91Stack_any (B : Nat) (a : Option Addr) (len cap : Nat) (zs : List Int) (p : Nat) (w : World) (hp : p ≤ 500000000) (hD0 : Dw B a len cap zs w p) :
    Calls Tryz.prog 32 #[.pointer (some ⟨B, 0, none⟩)] w (StackR B a len cap zs p 400 6 81 w) := by
  obtain ⟨i0, hi, hz0, hz1, hz2⟩ := info_parts info_str
  have hBw := hD0.lt
  obtain ⟨pv0, pv1⟩ := Gr.pw_bd 2147483579 4 11 (by omega)
  obtain ⟨PV, HPV⟩ : ∃ z, Hid (Gr.pw 2147483579 4 11 = z) := ⟨_, Lib.hid rfl⟩
  have hconB := fun W => l4Base_any 11 W (by omega)
  rw [HPV.out] at pv0 pv1
  simp only [HPV.out] at hconB
  have hconP := fun W => l2Bytes_any PV W (by omega) (by omega)
  have sP := Dg.bytes_size PV
  obtain ⟨P1, HP1⟩ : ∃ z, Hid (Dg.bytes PV = z) := ⟨_, Lib.hid rfl⟩
  rw [HP1.out] at sP
  simp only [HP1.out] at hconP
  have HB := Lib.hid hconB
  have HP := Lib.hid hconP
  clear HPV HP1 hconB hconP pv0 pv1
  go_enter Tryz.func32, Tryz.ntmps32
  go_wp2_with fail
  refine (pick_any B a len cap zs _ _ _ (by omega) (by omega) (hD0.alloc (.cells #[] 9 (0, 0)))).mono ?_
  rintro e w1 ⟨v1, rfl, a1, b1, hD1, hG1⟩
  have hown1 : w1.ownsRow w.heap.size 9 1 (.slice (some ⟨w.heap.size, 0, none⟩) 0 0) 0 [] :=
    (World.ownsRow_made (e := 9) (size := 1) w #[] 0 (Nat.le_refl _) (by decide) rfl).kept hG1 (.inr (by simp [Value.ownBlock]; omega))
  have hG := gtrans (World.grownBy_alloc w (.cells #[] 9 (0, 0)) (some B)) hG1
  clear hG1 hD0
  go_wp2
  go_loopw [3, 4] (fun v i wr => ∃ (k : Nat) (ss : List ByteArray) (q g cp : Nat), i = .int .i64 (k : Int) ∧ (k : Int) + ss.length = v1 ∧ v = .slice (some ⟨g, 0, none⟩) ss.length cp ∧ (∀ s ∈ ss, s.size ≤ 81) ∧ p ≤ q ∧ q ≤ p + 1 + 45 * ss.length ∧ Dw B a len cap zs wr q ∧ w.grownBy wr (some B) ∧
      wr.ownsRow w.heap.size 9 1 (.slice (some ⟨g, 0, none⟩) ss.length cp) ss.length (ss.map Value.string))
    (fun _ i _ => (intOf i).toNat)
  case atStart => exact ⟨v1.toNat, [], p + 1, w.heap.size, 0, by rw [Int.toNat_of_nonneg a1], by simp; omega, rfl, fun s hs => absurd hs (by simp), by omega, by simp, hD1, hG, hown1⟩
  case round =>
    obtain ⟨k, ss, q, g, cp, rfl, hks, rfl, hsz, q0, q1, hD, hGr, hown⟩ := hrel
    clear hD1 hG hown1
    have hne := own_ne hown hBw
    have hbw := hGr.size
    by_cases hlt : 0 < k
    · have HSZ := Lib.hid hsz
      have HNE := Lib.hid hne
      clear hsz hne
      go_wp2_with fail
      refine (l91Word_any B a len cap zs _ _ (by omega) hD).mono ?_
      rintro e w2 ⟨s2, q2, rfl, z2, p2, r2, hD2, hG2⟩
      have hown2 := hown.kept hG2 HNE.out
      have hGr2 := gtrans hGr hG2
      clear hD hown hG2 hGr
      go_wp2_with fail
      refine (l12Sig_any 11 ⟨#[99, 111, 105, 110]⟩ _ (by omega) (by omega) (by decide)).mono ?_
      rintro e w3 ⟨s3, rfl, z3, hb3⟩
      have hD3 := hD2.belK hb3
      have hown3 := hown2.kept (gb_belK hb3 B) HNE.out
      have hGr3 := gtrans hGr2 (gb_belK hb3 B)
      clear hD2 hown2 hb3 hGr2
      go_wp2_with fail
      refine (HB.out _).mono ?_
      rintro e w4 ⟨rfl, rfl⟩
      go_wp2_with fail
      refine (HP.out _).mono ?_
      rintro e w5 ⟨rfl, hb5⟩
      have hD5 := hD3.belK hb5
      have hown5 := hown3.kept (gb_belK hb5 B) HNE.out
      have hGr5 := gtrans hGr3 (gb_belK hb5 B)
      clear hD3 hown3 hb5 hGr3
      go_wp2_with fail
      refine (l91Bytes_any B a len cap zs _ _ (by omega) hD5).mono ?_
      rintro e w6 ⟨s6, q6, rfl, z6, p6, r6, hD6, hG6⟩
      have hown6 := hown5.kept hG6 HNE.out
      have hGr6 := gtrans hGr5 hG6
      clear hD5 hown5 hG6 hGr5
      go_wp2_with fail
      refine (pick_any B a len cap zs _ 6 _ (by omega) (by omega) (hD6.alloc _)).mono ?_
      rintro e w7 ⟨x, rfl, x0, x1, hD7, hG7⟩
      have hne7 : w6.heap.size ≠ B := by have := hD6.lt; omega
      obtain ⟨j, rfl⟩ := Int.eq_ofNat_of_zero_le x0
      obtain ⟨t, ht, htz⟩ : ∃ t : ByteArray, ([.string ⟨#[]⟩, .string ⟨#[1]⟩, .string s2, .string s3, .string P1, .string s6] : List Value)[j]? = some (.string t) ∧ t.size ≤ 81 := by
        match j, x1 with
        | 0, _ => exact ⟨_, rfl, by decide⟩
        | 1, _ => exact ⟨_, rfl, by decide⟩
        | 2, _ => exact ⟨s2, rfl, by omega⟩
        | 3, _ => exact ⟨s3, rfl, by omega⟩
        | 4, _ => exact ⟨P1, rfl, by omega⟩
        | 5, _ => exact ⟨s6, rfl, by omega⟩
      have hc : w7.cell? ⟨w6.heap.size, j, none⟩ = some (.string t) := hG7.cell (lit_cellV [.string ⟨#[]⟩, .string ⟨#[1]⟩, .string s2, .string s3, .string P1, .string s6] 9 w6 j _ ht) (by simpa using hne7)
      have hown7 := (hown6.alloc (.cells #[.string ⟨#[]⟩, .string ⟨#[1]⟩, .string s2, .string s3, .string P1, .string s6] 9)).kept hG7 HNE.out
      have hGr7 := gtrans hGr6 (gtrans (World.grownBy_alloc _ (.cells #[.string ⟨#[]⟩, .string ⟨#[1]⟩, .string s2, .string s3, .string P1, .string s6] 9) _) hG7)
      have hbw7 := hGr7.size
      clear hD6 hown6 hG7 hGr6 ht
      go_wp2_with (at_builtin; refine wpList_append_own _ rfl _ _ 61 rfl w.heap.size 9 i0 (.string ByteArray.empty) 1 16 Tryz.underlying61 hi hz0 hz1 hz2 rfl (by decide) _ _ _ rfl (hown7.alloc _) ⟨w7.heap.size, 0, none⟩ 1 1 [.string t] rfl rfl ?c1 ?c2 ?c3 ?c4 ?c5 ?_)
      case c1 => exact one_new _ _ _
      case c2 => intro u hu; simp at hu; subst hu; rfl
      case c3 => unfold maxLen; omega
      case c4 => omega
      case c5 => simp; omega
      intro v' w8 hown8 hgrow _
      have hD8 : Dw B a len cap zs w8 (q6 + 1) := (hD7.alloc _).of fun k hk => hgrow.block k (by have := hD7.lt; simp; omega) (fun e => by have := (hown7.lt _ e.symm).1; omega)
      have hG8 := gtrans_own (gtrans hGr7 (World.grownBy_alloc _ _ _)) hgrow (fun j he => (hown7.lt _ he).1)
      obtain ⟨g8, cp8, rfl⟩ : ∃ g cp, v' = .slice (some ⟨g, 0, none⟩) (ss.length + 1) cp := by
        rcases hown8.2 with ⟨h, h0⟩ | ⟨g, cap, cur, h, _⟩
        · omega
        · exact ⟨_, _, h⟩
      have hown9 : w8.ownsRow w.heap.size 9 1 (.slice (some ⟨g8, 0, none⟩) (ss ++ [t]).length cp8) (ss ++ [t]).length ((ss ++ [t]).map Value.string) := by
        rw [List.length_append, List.map_append]
        exact hown8
      clear hown7 hgrow hGr7 hD7 hown8
      go_wp2
      go_roundw
      case rel =>
        refine ⟨k - 1, ss ++ [t], q6 + 1, g8, cp8, by rw [Int.ofNat_sub hlt]; rfl, by simp; omega, by simp, fun s hs => ?_, by omega, by simp; omega, hD8, hG8, hown9⟩
        rcases List.mem_append.1 hs with h | h
        · exact HSZ.out s h
        · simp at h; subst h; exact htz
      case measure => simp [intOf]; omega
    · have HSZ := Lib.hid hsz
      have HNE := Lib.hid hne
      clear hsz hne
      go_wp2_with fail
      refine (pick_any B a len cap zs _ 40 _ (by omega) (by omega) hD).mono ?_
      rintro e w2 ⟨y, rfl, y0, y1, hD2, hG2⟩
      have hown2 := hown.kept hG2 HNE.out
      have hGr2 := gtrans hGr hG2
      clear hD hown hG2 hGr
      by_cases hy : y = 0
      · subst hy
        go_wp2_with fail
        refine (pick_any B a len cap zs _ 3 _ (by omega) (by omega) hD2).mono ?_
        rintro e w3 ⟨x, rfl, x0, x1, hD3, hG3⟩
        have hown3 := hown2.kept hG3 HNE.out
        have hGr3 := gtrans hGr2 hG3
        have hw1 : IntKind.i64.wrap (79 + x) = 79 + x := IntWalk.i64_in _ (by omega)
        clear hD2 hown2 hG3 hGr2
        go_wp2_with fail
        refine (l6Many_any ⟨#[120]⟩ (79 + x) 81 _ (by omega) (by omega) (by rw [show (ByteArray.mk #[120]).size = 1 from rfl]; omega) (by omega)).mono ?_
        rintro e w4 ⟨t, rfl, htz, hw4⟩
        subst hw4
        have hbw7 := hGr3.size
        clear hw1
        go_wp2_with (at_builtin; refine wpList_append_own _ rfl _ _ 61 rfl w.heap.size 9 i0 (.string ByteArray.empty) 1 16 Tryz.underlying61 hi hz0 hz1 hz2 rfl (by decide) _ _ _ rfl (hown3.alloc _) ⟨w3.heap.size, 0, none⟩ 1 1 [.string t] rfl rfl ?c1 ?c2 ?c3 ?c4 ?c5 ?_)
        case c1 => exact one_new _ _ _
        case c2 => intro u hu; simp at hu; subst hu; rfl
        case c3 => unfold maxLen; omega
        case c4 => omega
        case c5 => simp; omega
        intro v' w8 hown8 hgrow _
        have hD8 : Dw B a len cap zs w8 (q + 1 + 1) := (hD3.alloc _).of fun k hk => hgrow.block k (by have := hD3.lt; simp; omega) (fun e => by have := (hown3.lt _ e.symm).1; omega)
        have hG8 := gtrans_own (gtrans hGr3 (World.grownBy_alloc _ _ _)) hgrow (fun j he => (hown3.lt _ he).1)
        obtain ⟨g8, cp8, rfl⟩ : ∃ g cp, v' = .slice (some ⟨g, 0, none⟩) (ss.length + 1) cp := by
          rcases hown8.2 with ⟨h, h0⟩ | ⟨g, cap, cur, h, _⟩
          · omega
          · exact ⟨_, _, h⟩
        have hown9 : w8.ownsRow w.heap.size 9 1 (.slice (some ⟨g8, 0, none⟩) (ss ++ [t]).length cp8) (ss ++ [t]).length ((ss ++ [t]).map Value.string) := by
          rw [List.length_append, List.map_append]
          exact hown8
        clear hown3 hgrow hGr3 hD3 hown8
        go_wp2
        go_ret
        refine ⟨ss ++ [t], q + 1 + 1, g8, cp8, by simp, by simp; omega, fun s hs => ?_, by omega, by omega, hD8, hG8, hown9⟩
        rcases List.mem_append.1 hs with h | h
        · exact HSZ.out s h
        · simp at h; subst h; exact htz
      · have hyq : (y == 0) = false := by simpa using hy
        clear hy
        go_wp2
        go_ret
        exact ⟨ss, q + 1, g, cp, rfl, by omega, HSZ.out, by omega, by omega, hD2, hGr2, hown2⟩
end Go.Proofs.YtcbpdibkindnfaaGreat
