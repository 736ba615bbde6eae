/-
  Drawing of addresses.
-/
import Derived.Test.YtacgicpkhbjdaaaKj
import Derived.Test.YtacgicpkhbjdaaaDs
namespace Go.Proofs.Ytacgicpkhbjdaaa
open Go.RowKit

theorem grownBy_of_below {w w' : World} (h : Below w.heap.size w w') (row : Option Nat) : w.grownBy w' row := ⟨h.os, h.tape, h.output, h.size, fun k hk _ => h.block k hk⟩
theorem Ka.os_size {kind n : Int} (h : Ka.ob kind n = true) : (Ka.os kind n).size = 10 := by rw [Ka.os_yes h, Ka.str_size, Ka.of_len]
set_option maxRecDepth 100000 in
set_option maxHeartbeats 3200000 in
theorem l93Address_any (B : Nat) (a : Option Addr) (len cap : Nat) (zs : List Int) (p : Nat) (w : World) (hp : p ≤ 600000000) (hD0 : Dw B a len cap zs w p) :
    Calls Try.prog 31 #[.pointer (some ⟨B, 0, none⟩)] w (StrR B a len cap zs p 12 20 w) := by
  go_enter Try.func31, Try.ntmps31
  go_wp2_with fail
  refine (pick_any B a len cap zs _ 31 _ (by omega) (by omega) hD0).mono ?_
  rintro e w1 ⟨v1, rfl, a1, b1, hD1, hG1⟩
  go_wp2_with fail
  refine (l91Digest_any B a len cap zs _ _ (by omega) hD1).mono ?_
  rintro e w2 ⟨v2, q2, rfl, a2, b2, p2, r2, hD2, hG2⟩
  replace hG2 := gtrans hG1 hG2
  have hob : Ka.ob v1 v2 = true := (Ka.ob_iff _ _).2 ⟨a1, b1, a2, b2⟩
  have hcon := fun W => specAddressOf_any v1 v2 W
  have hsz := Ka.os_size hob
  rw [hob] at hcon
  obtain ⟨s, HS⟩ : ∃ s, Hid (Ka.os v1 v2 = s) := ⟨_, Lib.hid rfl⟩
  rw [HS.out] at hcon hsz
  clear hD0 hD1 hG1 hob
  go_wp2_with fail
  refine (hcon _).mono ?_
  rintro e w3 ⟨rfl, hb3⟩
  have hD3 := hD2.of (w' := w3) (fun k hk => hb3.block k (by have := hD2.lt; omega))
  have hG3 : w.grownBy w3 (some B) := gtrans hG2 (grownBy_of_below hb3 _)
  clear hD2 hG2 hb3 hcon
  go_wp2_with fail
  refine (pick_any B a len cap zs _ 2 _ (by omega) (by omega) hD3).mono ?_
  rintro e w4 ⟨v4, rfl, a4, b4, hD4, hG4⟩
  replace hG4 := gtrans hG3 hG4
  clear hD3 hG3
  by_cases h0 : v4 = 0
  · have h1 : (v4 == 0) = true := by simpa using h0
    clear h0
    go_wp2_with fail
    refine (pick_any B a len cap zs _ _ _ (by omega) (by omega) hD4).mono ?_
    rintro e w5 ⟨k, rfl, a5, b5, hD5, hG5⟩
    replace hG5 := gtrans hG4 hG5
    clear hD4 hG4
    obtain ⟨i, rfl⟩ := Int.eq_ofNat_of_zero_le a5
    have hi : i < 10 := by omega
    have hF1 : (s.extract 0 i).size = i := by rw [ByteArray.size_extract]; omega
    have hF2 : (s.extract (i + 1) s.size).size = s.size - (i + 1) := by rw [ByteArray.size_extract]; omega
    have hi0 : i ≤ s.size := by omega
    have hk1 : (i : Int) + 1 ≤ (s.size : Int) := by omega
    have hk0 : (0 : Int) ≤ (i : Int) + 1 := by omega
    obtain ⟨F, HF⟩ : ∃ F, Hid (s.extract 0 i = F) := ⟨_, Lib.hid rfl⟩
    obtain ⟨G, HGG⟩ : ∃ F, Hid (s.extract (i + 1) s.size = F) := ⟨_, Lib.hid rfl⟩
    rw [HF.out] at hF1
    rw [HGG.out] at hF2
    have hsl1 : ∀ W, (Instr.slice 9 (.string s) none (some (.int .i64 (i : Int))) none).run Try.prog W = .ok (.string F) W := by
      intro W
      rw [← HF.out]
      simp [Instr.slice, Instr.sliceBounds, Instr.sliceBound, asIntOf, run_underlying Try.underlying9, hi0]
    have hsl2 : ∀ W, (Instr.slice 9 (.string s) (some (.int .i64 ((i : Int) + 1))) none none).run Try.prog W = .ok (.string G) W := by
      intro W
      rw [← HGG.out]
      simp [Instr.slice, Instr.sliceBounds, Instr.sliceBound, asIntOf, run_underlying Try.underlying9, hk0, hk1]
    have hwr : IntKind.i64.wrap ((i : Int) + 1) = (i : Int) + 1 := IntWalk.i64_in _ (by omega)
    have c1 := fun (y : Int) (W : World) => conv_new [y] 1 W
    simp only [List.map, List.length] at c1
    have hadd : ∀ y W, (Op.stringOp .add F (strOfNums [y])).run Try.prog W = .ok (.string (F ++ strOfNums [y])) W :=
      fun y W => run_string_add_sum (P := Try.prog) W _ _ (by rw [strOfNums_size]; simp; omega)
    have hadd2 : ∀ y W, (Op.stringOp .add (F ++ strOfNums [y]) G).run Try.prog W = .ok (.string (F ++ strOfNums [y] ++ G)) W :=
      fun y W => run_string_add_sum (P := Try.prog) W _ _ (by rw [ByteArray.size_append, strOfNums_size]; simp; omega)
    clear HF HGG
    go_wp2
    go_region_with (go_at_call 21; go_must (refine (pick_any B a len cap zs (q2 + 1 + 1) 32 _ (by omega) (by omega) (by exact ⟨hD5.held, hD5.row, hD5.byt, hD5.len⟩)).mono ?_); go_must (rintro e w6 ⟨y, rfl, a6, b6, hD6, hG6⟩); obtain ⟨j, rfl⟩ := Int.eq_ofNat_of_zero_le a6)
    all_goals
      clear hwr hadd hadd2 c1 hsl1 hsl2
      go_wp2_with fail
      refine (pick_any B a len cap zs _ 8 _ (by omega) (by omega) (hD6.alloc _)).mono ?_
      rintro e w8 ⟨v8, rfl, a8, b8, hD8, hG8⟩
      replace hG8 := gtrans (gtrans (gtrans (grownBy_drew hG5) hG6) (World.grownBy_alloc _ _ _)) hG8
      by_cases k0 : v8 = 0
      · have k1 : (v8 == 0) = true := by simpa using k0
        clear k0
        go_wp2_with fail
        refine (l91Spoil_any B a len cap zs _ _ _ (by rw [ByteArray.size_append, ByteArray.size_append, strOfNums_size]; simp; omega) (by omega) hD8).mono ?_
        rintro e w9 ⟨t, q9, rfl, ht, p9, r9, hD9, hG9⟩
        go_wp2
        go_ret
        exact ⟨t, q9, rfl, by rw [ByteArray.size_append, ByteArray.size_append, strOfNums_size] at ht; simp at ht; omega, by omega, by omega, hD9, gtrans hG8 hG9⟩
      · have k1 : (v8 == 0) = false := by simpa using k0
        clear k0
        go_wp2
        go_ret
        exact ⟨_, _, rfl, by rw [ByteArray.size_append, ByteArray.size_append, strOfNums_size]; simp; omega, by omega, by omega, hD8, hG8⟩
  · have h1 : (v4 == 0) = false := by simpa using h0
    clear h0
    go_wp2_with fail
    refine (pick_any B a len cap zs _ 8 _ (by omega) (by omega) hD4).mono ?_
    rintro e w8 ⟨v8, rfl, a8, b8, hD8, hG8⟩
    replace hG8 := gtrans hG4 hG8
    clear hD4 hG4
    by_cases k0 : v8 = 0
    · have k1 : (v8 == 0) = true := by simpa using k0
      clear k0
      go_wp2_with fail
      refine (l91Spoil_any B a len cap zs _ _ _ (by omega) (by omega) hD8).mono ?_
      rintro e w9 ⟨t, q9, rfl, ht, p9, r9, hD9, hG9⟩
      go_wp2
      go_ret
      exact ⟨t, q9, rfl, by omega, by omega, by omega, hD9, gtrans hG8 hG9⟩
    · have k1 : (v8 == 0) = false := by simpa using k0
      clear k0
      go_wp2
      go_ret
      exact ⟨_, _, rfl, by omega, by omega, by omega, hD8, hG8⟩
/-- What DrawAddressOf hands back. -/
def DrawKn (w : World) (e : Ending) (w' : World) : Prop := ∃ k n : Int, e = .returned (.tuple #[.int .i64 k, .int .i64 n]) ∧ Below w.heap.size w w'
set_option maxRecDepth 100000 in
set_option maxHeartbeats 1600000 in
theorem drawAddressOf_any (a : Option Addr) (len cap : Nat) (zs : List Int) (w : World) (hr : IsRow .u8 w a len cap zs) (hlm : len ≤ 1048576) :
    Calls Try.prog 11 #[.slice a len cap] w (DrawKn w) := by
  go_enter Try.func11, Try.ntmps11
  go_wp2_with fail
  refine (l6Open_any a len cap zs _ hr hlm).mono ?_
  rintro e w1 ⟨B, a', l', c', zs', rfl, hB, hD, hb1⟩
  clear hr
  go_wp2_with fail
  refine (pick_any B a' l' c' zs' _ 33 _ (by omega) (by omega) hD).mono ?_
  rintro e w2 ⟨v2, rfl, a2, b2, hD2, hG2⟩
  go_wp2_with fail
  refine (l91Num_any B a' l' c' zs' _ _ (by omega) hD2).mono ?_
  rintro e w3 ⟨v3, q3, rfl, a3, b3, p3, r3, hD3, hG3⟩
  replace hG3 := gtrans hG2 hG3
  go_wp2
  go_ret2
  exact ⟨_, _, rfl, Below.grown hb1 hG3 hb1.size (fun j hj => by cases hj; exact hB)⟩
set_option maxRecDepth 100000 in
set_option maxHeartbeats 1600000 in
theorem drawAddressRead_any (a : Option Addr) (len cap : Nat) (zs : List Int) (w : World) (hr : IsRow .u8 w a len cap zs) (hlm : len ≤ 1048576) :
    Calls Try.prog 15 #[.slice a len cap] w (DrawStr 20 w) := by
  go_enter Try.func15, Try.ntmps15
  go_wp2_with fail
  refine (l6Open_any a len cap zs _ hr hlm).mono ?_
  rintro e w1 ⟨B, a', l', c', zs', rfl, hB, hD, hb1⟩
  clear hr
  go_wp2_with fail
  refine (l93Address_any B a' l' c' zs' _ _ (by omega) hD).mono ?_
  rintro e w2 ⟨s, q, rfl, z, _, _, _, hG⟩
  go_wp2
  go_ret
  exact ⟨s, rfl, z, Below.grown hb1 hG hb1.size (fun j hj => by cases hj; exact hB)⟩
set_option maxRecDepth 100000 in
set_option maxHeartbeats 1600000 in
theorem drawAddressMend_any (a : Option Addr) (len cap : Nat) (zs : List Int) (w : World) (hr : IsRow .u8 w a len cap zs) (hlm : len ≤ 1048576) :
    Calls Try.prog 17 #[.slice a len cap] w (DrawStr 20 w) := by
  go_enter Try.func17, Try.ntmps17
  go_wp2_with fail
  refine (l6Open_any a len cap zs _ hr hlm).mono ?_
  rintro e w1 ⟨B, a', l', c', zs', rfl, hB, hD, hb1⟩
  clear hr
  go_wp2_with fail
  refine (l93Address_any B a' l' c' zs' _ _ (by omega) hD).mono ?_
  rintro e w2 ⟨s, q, rfl, z, _, _, _, hG⟩
  go_wp2
  go_ret
  exact ⟨s, rfl, z, Below.grown hb1 hG hb1.size (fun j hj => by cases hj; exact hB)⟩
end Go.Proofs.Ytacgicpkhbjdaaa
