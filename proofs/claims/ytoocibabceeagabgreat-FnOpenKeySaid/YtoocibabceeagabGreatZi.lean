/-
  Witnesses of the model, whole.
-/
import Derived.Test.YtoocibabceeagabGreatUw
import Derived.Test.YtoocibabceeagabGreatSm
import Derived.Test.YtoocibabceeagabGreatSk
import Derived.Test.YtoocibabceeagabGreatOw
namespace Go.Proofs.YtoocibabceeagabGreat
open Go.RowKit

/-- What a witness's function hands back. -/
def WtR (L : List ByteArray) (ok : Bool) (w : World) (e : Ending) (w' : World) : Prop :=
  ∃ a c, e = .returned (.tuple #[.slice a L.length c, .bool ok]) ∧ Below w.heap.size w w' ∧ w'.ownsRow w.heap.size 9 1 (.slice a L.length c) L.length (L.map Value.string)
theorem WtR.no {w w' : World} (hb : Below w.heap.size w w') : WtR [] false w (.returned (.tuple #[.slice none 0 0, .bool false])) w' :=
  ⟨none, 0, rfl, hb, World.ownsRow_nil _ _ _ _⟩
set_option maxRecDepth 100000 in
set_option maxHeartbeats 1600000 in
theorem l12Sig_eq (x : Int) (t : ByteArray) (w : World) (x0 : 1 ≤ x) (x1 : x ≤ 1073741788) (ht : t.size ≤ 1048576) :
    Calls Tryz.prog 55 #[.int .i64 x, .string t] w fun e w' => e = .returned (.string (Wt.sig x t)) ∧ Below w.heap.size w w' := by
  have hcon := l5Sign_any x t w x0 x1 ht
  unfold Wt.sig
  clear x0 x1 ht
  generalize Sg.sr x t = r at hcon
  generalize Sg.ss x t = s at hcon
  go_enter Tryz.func55, Tryz.ntmps55
  go_wp2_with fail
  refine hcon.mono ?_
  rintro e w1 ⟨rfl, hb1⟩
  go_wp2_with fail
  refine (specSigItem_any r s _).mono ?_
  rintro e w2 ⟨rfl, hb2⟩
  go_wp2
  go_ret
  exact ⟨rfl, hb1.trans (hb2.mono hb1.size)⟩
theorem l12Secret_eq (x : Int) (w : World) :
    Calls Tryz.prog 54 #[.int .i64 x] w fun e w' => e = .returned (.bool (Wt.sec x)) ∧ w' = w := by
  have hcon := fun W => l6In_any x 1 1073741788 W
  unfold Wt.sec
  generalize (decide (1 ≤ x) && decide (x ≤ 1073741788)) = q at hcon
  go_enter Tryz.func54, Tryz.ntmps54
  go_wp2_with fail
  refine (hcon _).mono ?_
  rintro e w1 ⟨rfl, rfl⟩
  go_wp2
  go_ret
  exact ⟨rfl, rfl⟩
theorem l11BoolU_any (b : Bool) (w : World) : Calls Tryz.prog 69 #[.bool b] w fun e w' => e = .returned (.string (Wt.tr b)) ∧ w' = w := by
  cases b
  · go_enter Tryz.func69, Tryz.ntmps69
    go_wp2
    go_ret
    exact ⟨rfl, rfl⟩
  · go_enter Tryz.func69, Tryz.ntmps69
    go_wp2
    go_ret
    exact ⟨rfl, rfl⟩
set_option maxRecDepth 100000 in
set_option maxHeartbeats 1600000 in
theorem OpenKey_yes (x : Int) (t : ByteArray) (w : World) (hx : Wt.sec x = true) (ht : t.size ≤ 1048576) :
    Calls Tryz.prog 13 #[.int .i64 x, .string t] w (WtR ([Wt.sig x t]) true w) := by
  obtain ⟨x0, x1⟩ := (Wt.sec_iff x).1 hx
  have hcon1 := fun W => l12Secret_eq x W
  rw [hx] at hcon1
  have hcon2 := fun W => l12Sig_eq x t W x0 x1 ht
  obtain ⟨s, HS⟩ : ∃ s, Hid (Wt.sig x t = s) := ⟨_, Lib.hid rfl⟩
  rw [HS.out] at hcon2 ⊢
  clear HS x0 x1 hx
  go_enter Tryz.func13, Tryz.ntmps13
  go_wp2_with fail
  refine (hcon1 _).mono ?_
  rintro e w1 ⟨rfl, hw1⟩
  rw [hw1]
  clear hw1
  go_wp2_with fail
  refine (hcon2 _).mono ?_
  rintro e w2 ⟨rfl, hb2⟩
  have hown := own_newS w2 w.heap.size hb2.size ([s] : List ByteArray) #[.string s] rfl (by simp)
  have hbz := below_alloc hb2 (.cells #[.string s] 9 (0, 0))
  go_wp2
  go_ret2
  exact ⟨_, _, rfl, hbz, hown⟩
set_option maxRecDepth 100000 in
theorem OpenKey_no (x : Int) (t : ByteArray) (w : World) (hx : Wt.sec x = false) :
    Calls Tryz.prog 13 #[.int .i64 x, .string t] w (WtR [] false w) := by
  have hcon1 := fun W => l12Secret_eq x W
  rw [hx] at hcon1
  clear hx
  go_enter Tryz.func13, Tryz.ntmps13
  go_wp2_with fail
  refine (hcon1 _).mono ?_
  rintro e w1 ⟨rfl, hw1⟩
  rw [hw1]
  clear hw1
  go_wp2
  go_ret2
  exact WtR.no (Below.refl _ _)
set_option maxRecDepth 100000 in
set_option maxHeartbeats 1600000 in
theorem OpenPayee_yes (x : Int) (p : ByteArray) (t : ByteArray) (w : World) (hx : Wt.sec x = true) (hp : p.size ≤ 80) (ht : t.size ≤ 1048576) :
    Calls Tryz.prog 26 #[.int .i64 x, .string p, .string t] w (WtR ([Wt.sig x t, p, Wt.tr true]) true w) := by
  obtain ⟨x0, x1⟩ := (Wt.sec_iff x).1 hx
  have hcon1 := fun W => l12Secret_eq x W
  rw [hx] at hcon1
  have hcon2 := fun W => l12Sig_eq x t W x0 x1 ht
  obtain ⟨s, HS⟩ : ∃ s, Hid (Wt.sig x t = s) := ⟨_, Lib.hid rfl⟩
  rw [HS.out] at hcon2 ⊢
  clear HS x0 x1 hx
  have hcon3 := fun W => l11BoolU_any true W
  obtain ⟨b1, HB⟩ : ∃ b, Hid (Wt.tr true = b) := ⟨_, Lib.hid rfl⟩
  rw [HB.out] at hcon3 ⊢
  clear HB
  go_enter Tryz.func26, Tryz.ntmps26
  go_wp2_with fail
  refine (hcon1 _).mono ?_
  rintro e w1 ⟨rfl, hw1⟩
  rw [hw1]
  clear hw1
  go_wp2_with fail
  refine (hcon2 _).mono ?_
  rintro e w2 ⟨rfl, hb2⟩
  go_wp2_with fail
  refine (hcon3 _).mono ?_
  rintro e w3 ⟨rfl, hw3⟩
  rw [hw3]
  clear hw3
  have hown := own_newS w2 w.heap.size hb2.size ([s, p, b1] : List ByteArray) #[.string s, .string p, .string b1] rfl (by simp)
  have hbz := below_alloc hb2 (.cells #[.string s, .string p, .string b1] 9 (0, 0))
  go_wp2
  go_ret2
  exact ⟨_, _, rfl, hbz, hown⟩
set_option maxRecDepth 100000 in
theorem OpenPayee_no (x : Int) (p : ByteArray) (t : ByteArray) (w : World) (hx : Wt.sec x = false) :
    Calls Tryz.prog 26 #[.int .i64 x, .string p, .string t] w (WtR [] false w) := by
  have hcon1 := fun W => l12Secret_eq x W
  rw [hx] at hcon1
  clear hx
  go_enter Tryz.func26, Tryz.ntmps26
  go_wp2_with fail
  refine (hcon1 _).mono ?_
  rintro e w1 ⟨rfl, hw1⟩
  rw [hw1]
  clear hw1
  go_wp2
  go_ret2
  exact WtR.no (Below.refl _ _)
set_option maxRecDepth 100000 in
theorem OpenPayee_long (x : Int) (p : ByteArray) (t : ByteArray) (w : World) (hp : ¬ p.size ≤ 80) (hpm : p.size ≤ 9223372036854775807) :
    Calls Tryz.prog 26 #[.int .i64 x, .string p, .string t] w (WtR [] false w) := by
  cases hx : Wt.sec x
  · exact OpenPayee_no x p t w hx
  have hcon1 := fun W => l12Secret_eq x W
  rw [hx] at hcon1
  have hp2 : (80 : Int) < (p.size : Int) := by omega
  clear hx hp
  go_enter Tryz.func26, Tryz.ntmps26
  go_wp2_with fail
  refine (hcon1 _).mono ?_
  rintro e w1 ⟨rfl, hw1⟩
  rw [hw1]
  clear hw1
  go_wp2
  go_ret2
  exact WtR.no (Below.refl _ _)
set_option maxRecDepth 100000 in
set_option maxHeartbeats 1600000 in
theorem OpenLast_yes (x : Int) (t : ByteArray) (w : World) (hx : Wt.sec x = true) (ht : t.size ≤ 1048576) :
    Calls Tryz.prog 32 #[.int .i64 x, .string t] w (WtR ([Wt.sig x t, ⟨#[]⟩]) true w) := by
  obtain ⟨x0, x1⟩ := (Wt.sec_iff x).1 hx
  have hcon1 := fun W => l12Secret_eq x W
  rw [hx] at hcon1
  have hcon2 := fun W => l12Sig_eq x t W x0 x1 ht
  obtain ⟨s, HS⟩ : ∃ s, Hid (Wt.sig x t = s) := ⟨_, Lib.hid rfl⟩
  rw [HS.out] at hcon2 ⊢
  clear HS x0 x1 hx
  go_enter Tryz.func32, Tryz.ntmps32
  go_wp2_with fail
  refine (hcon1 _).mono ?_
  rintro e w1 ⟨rfl, hw1⟩
  rw [hw1]
  clear hw1
  go_wp2_with fail
  refine (hcon2 _).mono ?_
  rintro e w2 ⟨rfl, hb2⟩
  have hown := own_newS w2 w.heap.size hb2.size ([s, ⟨#[]⟩] : List ByteArray) #[.string s, .string ⟨#[]⟩] rfl (by simp)
  have hbz := below_alloc hb2 (.cells #[.string s, .string ⟨#[]⟩] 9 (0, 0))
  go_wp2
  go_ret2
  exact ⟨_, _, rfl, hbz, hown⟩
set_option maxRecDepth 100000 in
theorem OpenLast_no (x : Int) (t : ByteArray) (w : World) (hx : Wt.sec x = false) :
    Calls Tryz.prog 32 #[.int .i64 x, .string t] w (WtR [] false w) := by
  have hcon1 := fun W => l12Secret_eq x W
  rw [hx] at hcon1
  clear hx
  go_enter Tryz.func32, Tryz.ntmps32
  go_wp2_with fail
  refine (hcon1 _).mono ?_
  rintro e w1 ⟨rfl, hw1⟩
  rw [hw1]
  clear hw1
  go_wp2
  go_ret2
  exact WtR.no (Below.refl _ _)
set_option maxRecDepth 100000 in
set_option maxHeartbeats 1600000 in
theorem OpenRevoked_yes (x : Int) (t : ByteArray) (w : World) (hx : Wt.sec x = true) (ht : t.size ≤ 1048576) :
    Calls Tryz.prog 36 #[.int .i64 x, .string t] w (WtR ([Wt.sig x t, Wt.tr true]) true w) := by
  obtain ⟨x0, x1⟩ := (Wt.sec_iff x).1 hx
  have hcon1 := fun W => l12Secret_eq x W
  rw [hx] at hcon1
  have hcon2 := fun W => l12Sig_eq x t W x0 x1 ht
  obtain ⟨s, HS⟩ : ∃ s, Hid (Wt.sig x t = s) := ⟨_, Lib.hid rfl⟩
  rw [HS.out] at hcon2 ⊢
  clear HS x0 x1 hx
  have hcon3 := fun W => l11BoolU_any true W
  obtain ⟨b1, HB⟩ : ∃ b, Hid (Wt.tr true = b) := ⟨_, Lib.hid rfl⟩
  rw [HB.out] at hcon3 ⊢
  clear HB
  go_enter Tryz.func36, Tryz.ntmps36
  go_wp2_with fail
  refine (hcon1 _).mono ?_
  rintro e w1 ⟨rfl, hw1⟩
  rw [hw1]
  clear hw1
  go_wp2_with fail
  refine (hcon2 _).mono ?_
  rintro e w2 ⟨rfl, hb2⟩
  go_wp2_with fail
  refine (hcon3 _).mono ?_
  rintro e w3 ⟨rfl, hw3⟩
  rw [hw3]
  clear hw3
  have hown := own_newS w2 w.heap.size hb2.size ([s, b1] : List ByteArray) #[.string s, .string b1] rfl (by simp)
  have hbz := below_alloc hb2 (.cells #[.string s, .string b1] 9 (0, 0))
  go_wp2
  go_ret2
  exact ⟨_, _, rfl, hbz, hown⟩
set_option maxRecDepth 100000 in
theorem OpenRevoked_no (x : Int) (t : ByteArray) (w : World) (hx : Wt.sec x = false) :
    Calls Tryz.prog 36 #[.int .i64 x, .string t] w (WtR [] false w) := by
  have hcon1 := fun W => l12Secret_eq x W
  rw [hx] at hcon1
  clear hx
  go_enter Tryz.func36, Tryz.ntmps36
  go_wp2_with fail
  refine (hcon1 _).mono ?_
  rintro e w1 ⟨rfl, hw1⟩
  rw [hw1]
  clear hw1
  go_wp2
  go_ret2
  exact WtR.no (Below.refl _ _)
set_option maxRecDepth 100000 in
set_option maxHeartbeats 3200000 in
theorem OpenMany_eq (a : Option Addr) (len cap : Nat) (zs : List Int) (t : ByteArray) (w : World) (hz : IR w a len zs) (hlen : len ≤ 1048576) (ht : t.size ≤ 1048576) :
    Calls Tryz.prog 22 #[.slice a len cap, .string t] w fun e w' => (Wt.manyOk zs = true → WtR (zs.map fun x => Wt.sig x t) true w e w') ∧ (Wt.manyOk zs = false → WtR [] false w e w') := by
  obtain ⟨i0, hi, hz0, hz1, hz2⟩ := info_parts info_str
  have hzl := hz.1
  have HZ := Lib.hid hz
  have HL := Lib.hid hzl
  have hown0 : (w.alloc (.cells #[] 9 (0, 0))).ownsRow w.heap.size 9 1 (.slice (some ⟨w.heap.size, 0, none⟩) 0 0) 0 [] := World.ownsRow_made (e := 9) (size := 1) w #[] 0 (Nat.le_refl _) (by decide) rfl
  have hb0 : Below w.heap.size w (w.alloc (.cells #[] 9 (0, 0))) := below_alloc (Below.refl _ _) _
  have HO0 := Lib.hid hown0
  obtain ⟨ok, HOK⟩ : ∃ x, Hid (Wt.manyOk zs = x) := ⟨_, Lib.hid rfl⟩
  rw [HOK.out]
  clear hz hown0 hzl
  go_enter Tryz.func22, Tryz.ntmps22
  go_wp2
  go_loopw [6, 7] (fun v i wr => ∃ (k g cp : Nat), k ≤ len ∧ i = .int .i64 (k : Int) ∧ v = .slice (some ⟨g, 0, none⟩) k cp ∧ Hid (∀ j, j < k → Wt.sec (zs.getD j 0) = true) ∧ Below w.heap.size w wr ∧ Hid (wr.ownsRow w.heap.size 9 1 (.slice (some ⟨g, 0, none⟩) k cp) k ((Wt.items zs t k).map Value.string)))
    (fun _ i _ => len - (intOf i).toNat)
  case atStart => exact ⟨0, w.heap.size, 0, by omega, rfl, rfl, Lib.hid (fun j hj => absurd hj (by omega)), hb0, HO0⟩
  case round =>
    obtain ⟨k, g, cp, hk, rfl, rfl, HV, hbel, HOWN⟩ := hrel
    clear hb0 HO0
    by_cases hlt : k < len
    · obtain ⟨b, off, rfl, _, hc⟩ := (HZ.out.below hbel).2 (by omega)
      have hck := hc k hlt
      obtain ⟨x, HX⟩ : ∃ x, Hid (zs.getD k 0 = x) := ⟨_, Lib.hid rfl⟩
      rw [HX.out] at hck
      have hcon1 := fun W => l12Secret_eq x W
      obtain ⟨f, HF⟩ : ∃ f, Hid (Wt.sec x = f) := ⟨_, Lib.hid rfl⟩
      rw [HF.out] at hcon1
      clear hc
      cases f
      · have HN : Hid (ok = false) := Lib.hid (HOK.out.symm.trans (Wt.many_no (zs := zs) (k := k) (by rw [HL.out]; exact hlt) (by rw [HX.out]; exact HF.out)))
        go_wp2_with fail
        refine (hcon1 _).mono ?_
        rintro e w1 ⟨rfl, hw1⟩
        rw [hw1]
        clear hw1
        go_wp2
        go_ret2
        exact ⟨(fun h => by rw [HN.out] at h; cases h), fun _ => WtR.no hbel⟩
      · obtain ⟨r0, r1⟩ := (Wt.sec_iff x).1 HF.out
        have hcon2 := fun W => l12Sig_eq x t W r0 r1 ht
        obtain ⟨s, HS⟩ : ∃ s, Hid (Wt.sig x t = s) := ⟨_, Lib.hid rfl⟩
        rw [HS.out] at hcon2
        clear r0 r1
        go_wp2_with fail
        refine (hcon1 _).mono ?_
        rintro e w1 ⟨rfl, hw1⟩
        rw [hw1]
        clear hw1
        go_wp2_with fail
        refine (hcon2 _).mono ?_
        rintro e w2 ⟨rfl, hb2⟩
        have hown2 := HOWN.out.kept (row := none) ⟨hb2.os, hb2.tape, hb2.output, hb2.size, fun k hk _ => hb2.block k hk⟩ (.inr (by simp [Value.ownBlock]))
        have hb3 := hbel.trans (hb2.mono hbel.size)
        have hsz3 := hb3.size
        clear HOWN hck hb2
        go_wp2_with (at_builtin; refine wpList_append_own _ rfl _ _ 25 rfl w.heap.size 9 i0 (.string ByteArray.empty) 1 16 Tryz.underlying25 hi hz0 hz1 hz2 rfl (by decide) _ _ _ rfl (hown2.alloc _) ⟨w2.heap.size, 0, none⟩ 1 1 [.string s] rfl rfl ?c1 ?c2 ?c3 ?c4 ?c5 ?_)
        case c1 => exact one_new _ _ _
        case c2 => intro u hu; simp at hu; subst hu; rfl
        case c3 => unfold maxLen; omega
        case c4 => omega
        case c5 => simp; omega
        intro v' w8 hown8 hgrow _
        have hb8 := Below.grown (below_alloc hb3 (.cells #[.string s] 9 (0, 0))) hgrow (below_alloc hb3 (.cells #[.string s] 9 (0, 0))).size (fun j he => (hown2.lt j he).1)
        obtain ⟨g8, cp8, rfl⟩ : ∃ g cp, v' = .slice (some ⟨g, 0, none⟩) (k + 1) cp := by
          rcases hown8.2 with ⟨h, h0⟩ | ⟨g, cap, cur, h, _⟩
          · omega
          · exact ⟨_, _, h⟩
        have hown9 : Hid (w8.ownsRow w.heap.size 9 1 (.slice (some ⟨g8, 0, none⟩) (k + 1) cp8) (k + 1) ((Wt.items zs t (k + 1)).map Value.string)) := Lib.hid (by
          rw [Wt.items_snoc zs t k (by rw [HL.out]; exact hlt), List.map_append, HX.out, HS.out]
          exact hown8)
        have HV2 : Hid (∀ j, j < k + 1 → Wt.sec (zs.getD j 0) = true) := Lib.hid fun j hj => by
          by_cases hjk : j = k
          · rw [hjk, HX.out]; exact HF.out
          · exact HV.out j (by omega)
        clear hown2 hgrow hown8 hb3
        go_wp2
        go_roundw
        case rel => exact ⟨k + 1, g8, cp8, by omega, by simp, by simp, HV2, hb8, hown9⟩
        case measure => simp [intOf]; omega
    · obtain rfl : k = len := by omega
      have HA := Lib.hid (Wt.many_all (zs := zs) (fun j hj => HV.out j (by rw [← HL.out]; exact hj)))
      have hcon := fun W => l6In_any (k : Int) 1 5 W
      have hq : (decide ((1 : Int) ≤ (k : Int)) && decide ((k : Int) ≤ 5)) = ok := by
        rw [← HOK.out, HA.out, HL.out]
        congr 1
        · exact decide_eq_decide.2 (by omega)
        · exact decide_eq_decide.2 (by omega)
      rw [hq] at hcon
      have HTK : Hid (Wt.items zs t k = zs.map fun x => Wt.sig x t) := Lib.hid (by unfold Wt.items; rw [List.take_of_length_le (by rw [HL.out]; exact Nat.le_refl _)])
      clear hq
      cases ok
      · go_wp2_with fail
        refine (hcon _).mono ?_
        rintro e w1 ⟨rfl, rfl⟩
        go_wp2
        go_ret2
        first | exact WtR.no hbel | exact ⟨(fun h => by cases h), fun _ => WtR.no hbel⟩
      · go_wp2_with fail
        refine (hcon _).mono ?_
        rintro e w1 ⟨rfl, rfl⟩
        have hown := HOWN.out
        rw [HTK.out] at hown
        have hml : (zs.map fun x => Wt.sig x t).length = k := by rw [List.length_map]; exact HL.out
        have HML := Lib.hid hml
        have HOWN2 := Lib.hid hown
        clear hml hown
        go_wp2
        go_ret2
        first
          | refine ⟨some ⟨g, 0, none⟩, cp, ?_, hbel, ?_⟩
          | refine ⟨fun _ => ⟨some ⟨g, 0, none⟩, cp, ?_, hbel, ?_⟩, (fun h => by cases h)⟩
        · rw [HML.out]; rfl
        · rw [HML.out]; exact HOWN2.out
end Go.Proofs.YtoocibabceeagabGreat
