import Derived.Test.YtoocibabceeagabGreatOf
import Derived.Test.YtoocibabceeagabGreatUa
import Derived.Test.YtoocibabceeagabGreatDg
import Derived.Test.YtoocibabceeagabGreatGk
import Derived.Test.YtoocibabceeagabGreatBk
import Derived.Test.YtoocibabceeagabGreatSm
/-
  Locks of the model: how long their bytes are.
-/
namespace Go.Proofs.YtoocibabceeagabGreat
open Go.RowKit

theorem Jo.bs_size (l : List Jo) : (Jo.bs l).size ≤ 4000 := by
  unfold Jo.bs
  split
  · rename_i hok
    obtain ⟨h1, h2, _⟩ := (Jo.ok_iff l).1 hok
    have := Jo.bytes_size h2
    omega
  · exact Nat.zero_le _
/-- A new block that holds the cells of operations is a slice of them. -/
theorem OL.new (W : World) (l : List Jo) (cs : Array Value) (hc : cs.toList = Jo.cells l) (hm : l.length ≤ 100) : OL (W.alloc (.cells cs 77 (0, 0))) (some ⟨W.heap.size, 0, none⟩) l.length l :=
  (OL.own (base := 0) (cap := l.length) (e := 77) ⟨Jo.cells_length l, .inr ⟨W.heap.size, l.length, cs, rfl, Nat.zero_le _, heap_alloc_new W _, Nat.le_refl _, by unfold maxLen; omega, by
    have := congrArg List.length hc
    rw [Jo.cells_length] at this
    simpa using this, by
    rw [hc, ← Jo.cells_length l, List.take_length]⟩⟩).2
theorem four_newZ (W : World) (a b c d : Value) (t : TypeId) (B : Nat) (hB : B = W.heap.size) : ∀ j u, [a, b, c, d][j]? = some u → (W.alloc (.cells #[a, b, c, d] t (0, 0))).cell? ((⟨B, 0, none⟩ : Addr).add j) = some u := by
  subst hB
  intro j u hj
  have hadr : (⟨W.heap.size, 0, none⟩ : Addr).add j = ⟨W.heap.size, j, none⟩ := by unfold Addr.add; split <;> simp_all
  rw [hadr]
  exact (World.cell?_alloc_mark W #[a, b, c, d] t (0, 0) j).trans (by simpa using hj)
/-- What a lock's function hands back. -/
def LockR (w : World) (e : Ending) (w' : World) : Prop := ∃ (s : ByteArray) (ok : Bool), e = .returned (.tuple #[.string s, .bool ok]) ∧ s.size ≤ 4000 ∧ Below w.heap.size w w'
set_option maxRecDepth 100000 in
set_option maxHeartbeats 3200000 in
theorem l12Code_any (c : Int) (w : World) :
    Calls Tryz.prog 86 #[.int .i64 c] w fun e w' => e = .returned (.agg #[.int .i64 c, .int .i64 0, .int .i64 0, .string ⟨#[]⟩]) ∧ Below w.heap.size w w' := by
  have vX := Bk.new w 77 #[.int .i64 c, .int .i64 0, .int .i64 0, .string ⟨#[]⟩]
  have hb := (Below.refl w.heap.size w).alloc (Nat.le_refl _) (.cells #[.int .i64 c, .int .i64 0, .int .i64 0, .string ⟨#[]⟩] 77 (0, 0))
  go_enter Tryz.func86, Tryz.ntmps86
  go_wp2
  refine bodyPost_ret (results_cell_row (P := Tryz.prog) rfl _ _ w.heap.size 77 _ (0, 0) _ rfl vX.held Tryz.underlying77 rfl (by kernel_rfl)) rfl ?_
  exact ⟨rfl, hb⟩
set_option maxRecDepth 100000 in
set_option maxHeartbeats 3200000 in
theorem l12Push_any (n : Int) (w : World) (h0 : 0 ≤ n) (h1 : n ≤ 4294967295) :
    Calls Tryz.prog 85 #[.int .i64 n] w fun e w' => e = .returned (.agg #[.int .i64 0, .int .i64 0, .int .i64 0, .string (Dg.bytes n)]) ∧ Below w.heap.size w w' := by
  have vR0 := Bk.new w 77 #[.int .i64 0, .int .i64 0, .int .i64 0, .string ⟨#[]⟩]
  have hb0 : Below w.heap.size w (w.alloc (.cells #[.int .i64 0, .int .i64 0, .int .i64 0, .string ⟨#[]⟩] 77 (0, 0))) := (Below.refl _ _).alloc (Nat.le_refl _) _
  go_enter Tryz.func85, Tryz.ntmps85
  go_wp2_with fail
  refine (l2Bytes_any n _ h0 h1).mono ?_
  rintro e w2 ⟨rfl, hb2⟩
  have vR2 := vR0.below hb2
  have hbel2 := below_aft9 hb0 hb2
  obtain ⟨r0, r1, r2, r3⟩ := Bk.c4 vR2
  obtain ⟨z0, z1, z2, z3⟩ := vR2.f4
  obtain ⟨t, HT⟩ : ∃ t, Hid (Dg.bytes n = t) := ⟨_, Lib.hid rfl⟩
  simp only [HT.out]
  have vR9 := Bk.store4 vR2 (.int .i64 0) (.int .i64 0) (.int .i64 0) (.string t)
  have hb9 := below_store4 hbel2 w.heap.size (Nat.le_refl _) (.int .i64 0) (.int .i64 0) (.int .i64 0) (.string t)
  clear vR0 hb0 hb2 vR2 hbel2
  go_wp2
  refine bodyPost_ret (results_cell_row (P := Tryz.prog) rfl _ _ w.heap.size 77 _ (0, 0) _ rfl vR9.held Tryz.underlying77 rfl (by kernel_rfl)) rfl ?_
  exact ⟨by rw [HT.out], hb9⟩
set_option maxRecDepth 100000 in
set_option maxHeartbeats 3200000 in
theorem l12Lock_any (a : Option Addr) (len cap : Nat) (l : List Jo) (w : World) (h : OL w a len l) (hm : len ≤ 100) :
    Calls Tryz.prog 84 #[.slice a len cap] w (LockR w) := by
  have hcon := specScriptBytes_any a len cap l w h (by omega)
  have hz := Jo.bs_size l
  obtain ⟨X, HX⟩ : ∃ x, Hid (Jo.bs l = x) := ⟨_, Lib.hid rfl⟩
  obtain ⟨f, HF⟩ : ∃ x, Hid (Jo.ok l = x) := ⟨_, Lib.hid rfl⟩
  rw [HX.out] at hcon hz
  rw [HF.out] at hcon
  clear HX HF h
  go_enter Tryz.func84, Tryz.ntmps84
  go_wp2_with fail
  refine hcon.mono ?_
  rintro e w2 ⟨rfl, hb2⟩
  go_wp2
  go_ret2
  exact ⟨X, f, rfl, hz, hb2⟩
set_option maxRecDepth 100000 in
set_option maxHeartbeats 3200000 in
theorem LockKey_any (key : Int) (w : World) : Calls Tryz.prog 42 #[.int .i64 key] w (LockR w) := by
  have hbd := @Gr.kok_bd key
  go_enter Tryz.func42, Tryz.ntmps42
  go_wp2_with fail
  refine (specKeyOk_any key _).mono ?_
  rintro e w1 ⟨rfl, hw1⟩
  have hb1 : Below w.heap.size w w1 := by rw [hw1]; exact Below.refl _ _
  clear hw1
  obtain ⟨f, HF⟩ : ∃ f, Hid (Gr.kok key = f) := ⟨_, Lib.hid rfl⟩
  rw [HF.out] at hbd ⊢
  clear HF
  cases f
  · clear hbd
    go_wp2
    go_ret2
    exact ⟨⟨#[]⟩, false, rfl, by decide, hb1⟩
  obtain ⟨k0, k1⟩ := hbd rfl
  go_wp2_with fail
  refine (l12Push_any key _ k0 k1).mono ?_
  rintro e w2 ⟨rfl, hb2⟩
  obtain ⟨t2, HT2⟩ : ∃ t, Hid (Dg.bytes key = t) := ⟨_, Lib.hid rfl⟩
  rw [HT2.out]
  clear HT2
  replace hb2 := below_aft9 hb1 hb2
  clear hb1
  go_wp2_with fail
  refine (l12Code_any 11 _).mono ?_
  rintro e w3 ⟨rfl, hb3⟩
  replace hb3 := below_aft9 hb2 hb3
  clear hb2
  have ol := OL.new w3 [⟨0, 0, 0, t2⟩, ⟨11, 0, 0, ⟨#[]⟩⟩] #[.int .i64 0, .int .i64 0, .int .i64 0, .string t2, .int .i64 11, .int .i64 0, .int .i64 0, .string ⟨#[]⟩] rfl (by simp)
  have hb9 := hb3.alloc hb3.size (.cells #[.int .i64 0, .int .i64 0, .int .i64 0, .string t2, .int .i64 11, .int .i64 0, .int .i64 0, .string ⟨#[]⟩] 77 (0, 0))
  clear hb3
  go_wp2_with fail
  refine (l12Lock_any _ 2 2 _ _ ol (by decide)).mono ?_
  rintro e wz ⟨s, ok, rfl, hs, hbz⟩
  replace hbz := below_aft9 hb9 hbz
  clear hb9 ol
  go_wp2
  go_ret2
  exact ⟨s, ok, rfl, hs, hbz⟩
set_option maxRecDepth 100000 in
set_option maxHeartbeats 3200000 in
theorem LockDigest_any (d : Int) (w : World) (k0 : 0 ≤ d) (k1 : d ≤ 4294967295) : Calls Tryz.prog 148 #[.int .i64 d] w (LockR w) := by
  have H1 : (decide (0 ≤ d) && decide (d ≤ 4294967295)) = true := by simp [k0, k1]
  go_enter Tryz.func148, Tryz.ntmps148
  go_wp2_with fail
  refine (l6In_any d 0 4294967295 _).mono ?_
  rintro e w1 ⟨rfl, hw1⟩
  have hb1 : Below w.heap.size w w1 := by rw [hw1]; exact Below.refl _ _
  clear hw1
  go_wp2_with fail
  refine (l12Code_any 10 _).mono ?_
  rintro e w2 ⟨rfl, hb2⟩
  replace hb2 := below_aft9 hb1 hb2
  clear hb1
  go_wp2_with fail
  refine (l12Push_any d _ k0 k1).mono ?_
  rintro e w3 ⟨rfl, hb3⟩
  obtain ⟨t3, HT3⟩ : ∃ t, Hid (Dg.bytes d = t) := ⟨_, Lib.hid rfl⟩
  rw [HT3.out]
  clear HT3
  replace hb3 := below_aft9 hb2 hb3
  clear hb2
  go_wp2_with fail
  refine (l12Code_any 4 _).mono ?_
  rintro e w4 ⟨rfl, hb4⟩
  replace hb4 := below_aft9 hb3 hb4
  clear hb3
  have ol := OL.new w4 [⟨10, 0, 0, ⟨#[]⟩⟩, ⟨0, 0, 0, t3⟩, ⟨4, 0, 0, ⟨#[]⟩⟩] #[.int .i64 10, .int .i64 0, .int .i64 0, .string ⟨#[]⟩, .int .i64 0, .int .i64 0, .int .i64 0, .string t3, .int .i64 4, .int .i64 0, .int .i64 0, .string ⟨#[]⟩] rfl (by simp)
  have hb9 := hb4.alloc hb4.size (.cells #[.int .i64 10, .int .i64 0, .int .i64 0, .string ⟨#[]⟩, .int .i64 0, .int .i64 0, .int .i64 0, .string t3, .int .i64 4, .int .i64 0, .int .i64 0, .string ⟨#[]⟩] 77 (0, 0))
  clear hb4
  go_wp2_with fail
  refine (l12Lock_any _ 3 3 _ _ ol (by decide)).mono ?_
  rintro e wz ⟨s, ok, rfl, hs, hbz⟩
  replace hbz := below_aft9 hb9 hbz
  clear hb9 ol
  go_wp2
  go_ret2
  exact ⟨s, ok, rfl, hs, hbz⟩
set_option maxRecDepth 100000 in
set_option maxHeartbeats 3200000 in
theorem l12Timed_any (d : Int) (payee : Int) (height : Int) (payer : Int) (w : World) (d0 : 0 ≤ d) (d1 : d ≤ 4294967295) (e0 : 0 ≤ payee) (e1 : payee ≤ 4294967295) (r0 : 0 ≤ payer) (r1 : payer ≤ 4294967295) :
    Calls Tryz.prog 114 #[.int .i64 d, .int .i64 payee, .int .i64 height, .int .i64 payer] w fun e w' => ∃ b l, e = .returned (.slice (some ⟨b, 0, none⟩) 12 12) ∧ OL w' (some ⟨b, 0, none⟩) 12 l ∧ Below w.heap.size w w' := by
  go_enter Tryz.func114, Tryz.ntmps114
  go_wp2_with fail
  refine (l12Code_any 6 _).mono ?_
  rintro e w1 ⟨rfl, hb1⟩
  go_wp2_with fail
  refine (l12Code_any 10 _).mono ?_
  rintro e w2 ⟨rfl, hb2⟩
  replace hb2 := below_aft9 hb1 hb2
  clear hb1
  go_wp2_with fail
  refine (l12Push_any d _ d0 d1).mono ?_
  rintro e w3 ⟨rfl, hb3⟩
  obtain ⟨t3, HT3⟩ : ∃ t, Hid (Dg.bytes d = t) := ⟨_, Lib.hid rfl⟩
  rw [HT3.out]
  clear HT3
  replace hb3 := below_aft9 hb2 hb3
  clear hb2
  go_wp2_with fail
  refine (l12Code_any 4 _).mono ?_
  rintro e w4 ⟨rfl, hb4⟩
  replace hb4 := below_aft9 hb3 hb4
  clear hb3
  go_wp2_with fail
  refine (l12Code_any 9 _).mono ?_
  rintro e w5 ⟨rfl, hb5⟩
  replace hb5 := below_aft9 hb4 hb5
  clear hb4
  go_wp2_with fail
  refine (l12Push_any payee _ e0 e1).mono ?_
  rintro e w6 ⟨rfl, hb6⟩
  obtain ⟨t6, HT6⟩ : ∃ t, Hid (Dg.bytes payee = t) := ⟨_, Lib.hid rfl⟩
  rw [HT6.out]
  clear HT6
  replace hb6 := below_aft9 hb5 hb6
  clear hb5
  go_wp2_with fail
  refine (l12Code_any 11 _).mono ?_
  rintro e w7 ⟨rfl, hb7⟩
  replace hb7 := below_aft9 hb6 hb7
  clear hb6
  go_wp2_with fail
  refine (l12Code_any 7 _).mono ?_
  rintro e w8 ⟨rfl, hb8⟩
  replace hb8 := below_aft9 hb7 hb8
  clear hb7
  go_wp2_with fail
  refine (l12Push_any payer _ r0 r1).mono ?_
  rintro e w9 ⟨rfl, hb9⟩
  obtain ⟨t9, HT9⟩ : ∃ t, Hid (Dg.bytes payer = t) := ⟨_, Lib.hid rfl⟩
  rw [HT9.out]
  clear HT9
  replace hb9 := below_aft9 hb8 hb9
  clear hb8
  go_wp2_with fail
  refine (l12Code_any 11 _).mono ?_
  rintro e w10 ⟨rfl, hb10⟩
  replace hb10 := below_aft9 hb9 hb10
  clear hb9
  go_wp2_with fail
  refine (l12Code_any 8 _).mono ?_
  rintro e w11 ⟨rfl, hb11⟩
  replace hb11 := below_aft9 hb10 hb11
  clear hb10
  have ol := OL.new w11 [⟨6, 0, 0, ⟨#[]⟩⟩, ⟨10, 0, 0, ⟨#[]⟩⟩, ⟨0, 0, 0, t3⟩, ⟨4, 0, 0, ⟨#[]⟩⟩, ⟨9, 0, 0, ⟨#[]⟩⟩, ⟨0, 0, 0, t6⟩, ⟨11, 0, 0, ⟨#[]⟩⟩, ⟨7, 0, 0, ⟨#[]⟩⟩, ⟨13, height, 0, ⟨#[]⟩⟩, ⟨0, 0, 0, t9⟩, ⟨11, 0, 0, ⟨#[]⟩⟩, ⟨8, 0, 0, ⟨#[]⟩⟩] #[.int .i64 6, .int .i64 0, .int .i64 0, .string ⟨#[]⟩, .int .i64 10, .int .i64 0, .int .i64 0, .string ⟨#[]⟩, .int .i64 0, .int .i64 0, .int .i64 0, .string t3, .int .i64 4, .int .i64 0, .int .i64 0, .string ⟨#[]⟩, .int .i64 9, .int .i64 0, .int .i64 0, .string ⟨#[]⟩, .int .i64 0, .int .i64 0, .int .i64 0, .string t6, .int .i64 11, .int .i64 0, .int .i64 0, .string ⟨#[]⟩, .int .i64 7, .int .i64 0, .int .i64 0, .string ⟨#[]⟩, .int .i64 13, .int .i64 height, .int .i64 0, .string ⟨#[]⟩, .int .i64 0, .int .i64 0, .int .i64 0, .string t9, .int .i64 11, .int .i64 0, .int .i64 0, .string ⟨#[]⟩, .int .i64 8, .int .i64 0, .int .i64 0, .string ⟨#[]⟩] rfl (by simp)
  have hb9 := hb11.alloc hb11.size (.cells #[.int .i64 6, .int .i64 0, .int .i64 0, .string ⟨#[]⟩, .int .i64 10, .int .i64 0, .int .i64 0, .string ⟨#[]⟩, .int .i64 0, .int .i64 0, .int .i64 0, .string t3, .int .i64 4, .int .i64 0, .int .i64 0, .string ⟨#[]⟩, .int .i64 9, .int .i64 0, .int .i64 0, .string ⟨#[]⟩, .int .i64 0, .int .i64 0, .int .i64 0, .string t6, .int .i64 11, .int .i64 0, .int .i64 0, .string ⟨#[]⟩, .int .i64 7, .int .i64 0, .int .i64 0, .string ⟨#[]⟩, .int .i64 13, .int .i64 height, .int .i64 0, .string ⟨#[]⟩, .int .i64 0, .int .i64 0, .int .i64 0, .string t9, .int .i64 11, .int .i64 0, .int .i64 0, .string ⟨#[]⟩, .int .i64 8, .int .i64 0, .int .i64 0, .string ⟨#[]⟩] 77 (0, 0))
  clear hb11
  go_wp2
  go_ret
  exact ⟨_, _, rfl, ol, hb9⟩
set_option maxRecDepth 100000 in
set_option maxHeartbeats 3200000 in
theorem l12Revocable_any (revoke : Int) (delay : Int) (owner : Int) (w : World) (e0 : 0 ≤ revoke) (e1 : revoke ≤ 4294967295) (r0 : 0 ≤ owner) (r1 : owner ≤ 4294967295) :
    Calls Tryz.prog 193 #[.int .i64 revoke, .int .i64 delay, .int .i64 owner] w fun e w' => ∃ b l, e = .returned (.slice (some ⟨b, 0, none⟩) 8 8) ∧ OL w' (some ⟨b, 0, none⟩) 8 l ∧ Below w.heap.size w w' := by
  go_enter Tryz.func193, Tryz.ntmps193
  go_wp2_with fail
  refine (l12Code_any 6 _).mono ?_
  rintro e w1 ⟨rfl, hb1⟩
  go_wp2_with fail
  refine (l12Push_any revoke _ e0 e1).mono ?_
  rintro e w2 ⟨rfl, hb2⟩
  obtain ⟨t2, HT2⟩ : ∃ t, Hid (Dg.bytes revoke = t) := ⟨_, Lib.hid rfl⟩
  rw [HT2.out]
  clear HT2
  replace hb2 := below_aft9 hb1 hb2
  clear hb1
  go_wp2_with fail
  refine (l12Code_any 11 _).mono ?_
  rintro e w3 ⟨rfl, hb3⟩
  replace hb3 := below_aft9 hb2 hb3
  clear hb2
  go_wp2_with fail
  refine (l12Code_any 7 _).mono ?_
  rintro e w4 ⟨rfl, hb4⟩
  replace hb4 := below_aft9 hb3 hb4
  clear hb3
  go_wp2_with fail
  refine (l12Push_any owner _ r0 r1).mono ?_
  rintro e w5 ⟨rfl, hb5⟩
  obtain ⟨t5, HT5⟩ : ∃ t, Hid (Dg.bytes owner = t) := ⟨_, Lib.hid rfl⟩
  rw [HT5.out]
  clear HT5
  replace hb5 := below_aft9 hb4 hb5
  clear hb4
  go_wp2_with fail
  refine (l12Code_any 11 _).mono ?_
  rintro e w6 ⟨rfl, hb6⟩
  replace hb6 := below_aft9 hb5 hb6
  clear hb5
  go_wp2_with fail
  refine (l12Code_any 8 _).mono ?_
  rintro e w7 ⟨rfl, hb7⟩
  replace hb7 := below_aft9 hb6 hb7
  clear hb6
  have ol := OL.new w7 [⟨6, 0, 0, ⟨#[]⟩⟩, ⟨0, 0, 0, t2⟩, ⟨11, 0, 0, ⟨#[]⟩⟩, ⟨7, 0, 0, ⟨#[]⟩⟩, ⟨14, delay, 0, ⟨#[]⟩⟩, ⟨0, 0, 0, t5⟩, ⟨11, 0, 0, ⟨#[]⟩⟩, ⟨8, 0, 0, ⟨#[]⟩⟩] #[.int .i64 6, .int .i64 0, .int .i64 0, .string ⟨#[]⟩, .int .i64 0, .int .i64 0, .int .i64 0, .string t2, .int .i64 11, .int .i64 0, .int .i64 0, .string ⟨#[]⟩, .int .i64 7, .int .i64 0, .int .i64 0, .string ⟨#[]⟩, .int .i64 14, .int .i64 delay, .int .i64 0, .string ⟨#[]⟩, .int .i64 0, .int .i64 0, .int .i64 0, .string t5, .int .i64 11, .int .i64 0, .int .i64 0, .string ⟨#[]⟩, .int .i64 8, .int .i64 0, .int .i64 0, .string ⟨#[]⟩] rfl (by simp)
  have hb9 := hb7.alloc hb7.size (.cells #[.int .i64 6, .int .i64 0, .int .i64 0, .string ⟨#[]⟩, .int .i64 0, .int .i64 0, .int .i64 0, .string t2, .int .i64 11, .int .i64 0, .int .i64 0, .string ⟨#[]⟩, .int .i64 7, .int .i64 0, .int .i64 0, .string ⟨#[]⟩, .int .i64 14, .int .i64 delay, .int .i64 0, .string ⟨#[]⟩, .int .i64 0, .int .i64 0, .int .i64 0, .string t5, .int .i64 11, .int .i64 0, .int .i64 0, .string ⟨#[]⟩, .int .i64 8, .int .i64 0, .int .i64 0, .string ⟨#[]⟩] 77 (0, 0))
  clear hb7
  go_wp2
  go_ret
  exact ⟨_, _, rfl, ol, hb9⟩
set_option maxRecDepth 100000 in
set_option maxHeartbeats 3200000 in
theorem LockTimed_any (d payee height payer : Int) (w : World) (d0 : 0 ≤ d) (d1 : d ≤ 4294967295) : Calls Tryz.prog 76 #[.int .i64 d, .int .i64 payee, .int .i64 height, .int .i64 payer] w (LockR w) := by
  have H1 : (decide (0 ≤ d) && decide (d ≤ 4294967295)) = true := by simp [d0, d1]
  have hbe := @Gr.kok_bd payee
  have hbr := @Gr.kok_bd payer
  go_enter Tryz.func76, Tryz.ntmps76
  go_wp2_with fail
  refine (l6In_any d 0 4294967295 _).mono ?_
  rintro e w1 ⟨rfl, hw1⟩
  have hb1 : Below w.heap.size w w1 := by rw [hw1]; exact Below.refl _ _
  clear hw1
  go_wp2_with fail
  refine (specKeyOk_any payee _).mono ?_
  rintro e w2 ⟨rfl, hw2⟩
  have hb2 : Below w.heap.size w w2 := by rw [hw2]; first | exact hb1 | exact Below.refl _ _
  clear hw2
  obtain ⟨f2, HF2⟩ : ∃ f, Hid (Gr.kok payee = f) := ⟨_, Lib.hid rfl⟩
  rw [HF2.out] at hbe ⊢
  clear HF2
  cases f2
  · clear hbe
    go_wp2
    go_ret2
    exact ⟨⟨#[]⟩, false, rfl, by decide, hb2⟩
  replace hbe := hbe rfl
  go_wp2_with fail
  refine (specKeyOk_any payer _).mono ?_
  rintro e w3 ⟨rfl, hw3⟩
  have hb3 : Below w.heap.size w w3 := by rw [hw3]; first | exact hb2 | exact Below.refl _ _
  clear hw3
  obtain ⟨f3, HF3⟩ : ∃ f, Hid (Gr.kok payer = f) := ⟨_, Lib.hid rfl⟩
  rw [HF3.out] at hbr ⊢
  clear HF3
  cases f3
  · clear hbr
    go_wp2
    go_ret2
    exact ⟨⟨#[]⟩, false, rfl, by decide, hb3⟩
  replace hbr := hbr rfl
  go_wp2_with fail
  refine (l6In_any height 0 9999 _).mono ?_
  rintro e w4 ⟨rfl, hw4⟩
  have hb4 : Below w.heap.size w w4 := by rw [← hw4]; exact hb3
  clear hw4
  obtain ⟨g4, HG4⟩ : ∃ g, Hid ((decide (0 ≤ height) && decide (height ≤ 9999)) = g) := ⟨_, Lib.hid rfl⟩
  rw [HG4.out]
  clear HG4
  cases g4
  · go_wp2
    go_ret2
    exact ⟨⟨#[]⟩, false, rfl, by decide, hb4⟩
  go_wp2_with fail
  refine (l12Timed_any d payee height payer _ d0 d1 hbe.1 hbe.2 hbr.1 hbr.2).mono ?_
  rintro e w5 ⟨b, l, rfl, ol, hb5⟩
  replace hb5 := below_aft9 hb4 hb5
  go_wp2_with fail
  refine (l12Lock_any _ 12 12 _ _ ol (by decide)).mono ?_
  rintro e wz ⟨s, ok, rfl, hs, hbz⟩
  replace hbz := below_aft9 hb5 hbz
  clear hb5 ol
  go_wp2
  go_ret2
  exact ⟨s, ok, rfl, hs, hbz⟩
set_option maxRecDepth 100000 in
set_option maxHeartbeats 3200000 in
theorem LockRevocable_any (revoke delay owner : Int) (w : World) : Calls Tryz.prog 150 #[.int .i64 revoke, .int .i64 delay, .int .i64 owner] w (LockR w) := by
  have hbe := @Gr.kok_bd revoke
  have hbr := @Gr.kok_bd owner
  have hb0 := Below.refl w.heap.size w
  go_enter Tryz.func150, Tryz.ntmps150
  go_wp2_with fail
  refine (specKeyOk_any revoke _).mono ?_
  rintro e w1 ⟨rfl, hw1⟩
  have hb1 : Below w.heap.size w w1 := by rw [hw1]; first | exact hb0 | exact Below.refl _ _
  clear hw1
  obtain ⟨f1, HF1⟩ : ∃ f, Hid (Gr.kok revoke = f) := ⟨_, Lib.hid rfl⟩
  rw [HF1.out] at hbe ⊢
  clear HF1
  cases f1
  · clear hbe
    go_wp2
    go_ret2
    exact ⟨⟨#[]⟩, false, rfl, by decide, hb1⟩
  replace hbe := hbe rfl
  go_wp2_with fail
  refine (specKeyOk_any owner _).mono ?_
  rintro e w2 ⟨rfl, hw2⟩
  have hb2 : Below w.heap.size w w2 := by rw [hw2]; first | exact hb1 | exact Below.refl _ _
  clear hw2
  obtain ⟨f2, HF2⟩ : ∃ f, Hid (Gr.kok owner = f) := ⟨_, Lib.hid rfl⟩
  rw [HF2.out] at hbr ⊢
  clear HF2
  cases f2
  · clear hbr
    go_wp2
    go_ret2
    exact ⟨⟨#[]⟩, false, rfl, by decide, hb2⟩
  replace hbr := hbr rfl
  go_wp2_with fail
  refine (l6In_any delay 1 99 _).mono ?_
  rintro e w3 ⟨rfl, hw3⟩
  have hb3 : Below w.heap.size w w3 := by rw [← hw3]; exact hb2
  clear hw3
  obtain ⟨g3, HG3⟩ : ∃ g, Hid ((decide (1 ≤ delay) && decide (delay ≤ 99)) = g) := ⟨_, Lib.hid rfl⟩
  rw [HG3.out]
  clear HG3
  cases g3
  · go_wp2
    go_ret2
    exact ⟨⟨#[]⟩, false, rfl, by decide, hb3⟩
  go_wp2_with fail
  refine (l12Revocable_any revoke delay owner _ hbe.1 hbe.2 hbr.1 hbr.2).mono ?_
  rintro e w4 ⟨b, l, rfl, ol, hb4⟩
  replace hb4 := below_aft9 hb3 hb4
  go_wp2_with fail
  refine (l12Lock_any _ 8 8 _ _ ol (by decide)).mono ?_
  rintro e wz ⟨s, ok, rfl, hs, hbz⟩
  replace hbz := below_aft9 hb4 hbz
  clear hb4 ol
  go_wp2
  go_ret2
  exact ⟨s, ok, rfl, hs, hbz⟩
end Go.Proofs.YtoocibabceeagabGreat

/-
  Locks of the model, whole.
-/
namespace Go.Proofs.YtoocibabceeagabGreat
open Go.RowKit

/-- The bytes of operations are handed back. -/
def LkR (l : List Jo) (w : World) (e : Ending) (w' : World) : Prop := e = .returned (.tuple #[.string (Jo.bs l), .bool (Jo.ok l)]) ∧ Below w.heap.size w w'
/-- Nothing is handed back. -/
def LkN (w : World) (e : Ending) (w' : World) : Prop := e = .returned (.tuple #[.string ⟨#[]⟩, .bool false]) ∧ Below w.heap.size w w'
set_option maxRecDepth 100000 in
set_option maxHeartbeats 3200000 in
theorem l12Lock_eq (a : Option Addr) (len cap : Nat) (l : List Jo) (w : World) (h : OL w a len l) (hm : len ≤ 100) :
    Calls Tryz.prog 84 #[.slice a len cap] w (LkR l w) := by
  have hcon := specScriptBytes_any a len cap l w h (by omega)
  unfold LkR
  generalize Jo.bs l = X at hcon ⊢
  generalize Jo.ok l = f at hcon ⊢
  clear h
  go_enter Tryz.func84, Tryz.ntmps84
  go_wp2_with fail
  refine hcon.mono ?_
  rintro e w2 ⟨rfl, hb2⟩
  go_wp2
  go_ret2
  exact ⟨rfl, hb2⟩
set_option maxRecDepth 100000 in
set_option maxHeartbeats 3200000 in
theorem l12Timed_eq (d payee height payer : Int) (w : World) (d0 : 0 ≤ d) (d1 : d ≤ 4294967295) (payee0 : 0 ≤ payee) (payee1 : payee ≤ 4294967295) (payer0 : 0 ≤ payer) (payer1 : payer ≤ 4294967295) :
    Calls Tryz.prog 114 #[.int .i64 d, .int .i64 payee, .int .i64 height, .int .i64 payer] w fun e w' => ∃ b, e = .returned (.slice (some ⟨b, 0, none⟩) 12 12) ∧ OL w' (some ⟨b, 0, none⟩) 12 (Lk.timed d payee height payer) ∧ Below w.heap.size w w' := by
  unfold Lk.timed Lk.push Lk.code
  have hpd := fun W => l12Push_any d W (by omega) (by omega)
  obtain ⟨td, HTd⟩ : ∃ t, Hid (Dg.bytes d = t) := ⟨_, Lib.hid rfl⟩
  rw [HTd.out] at hpd ⊢
  clear HTd
  have hppayee := fun W => l12Push_any payee W (by omega) (by omega)
  obtain ⟨tpayee, HTpayee⟩ : ∃ t, Hid (Dg.bytes payee = t) := ⟨_, Lib.hid rfl⟩
  rw [HTpayee.out] at hppayee ⊢
  clear HTpayee
  have hppayer := fun W => l12Push_any payer W (by omega) (by omega)
  obtain ⟨tpayer, HTpayer⟩ : ∃ t, Hid (Dg.bytes payer = t) := ⟨_, Lib.hid rfl⟩
  rw [HTpayer.out] at hppayer ⊢
  clear HTpayer
  clear d0 d1 payee0 payee1 payer0 payer1
  go_enter Tryz.func114, Tryz.ntmps114
  go_wp2_with fail
  refine (l12Code_any 6 _).mono ?_
  rintro e v1 ⟨rfl, hc1⟩
  go_wp2_with fail
  refine (l12Code_any 10 _).mono ?_
  rintro e v2 ⟨rfl, hc2⟩
  have hd2 := below_aft9 hc1 hc2
  clear hc1 hc2
  go_wp2_with fail
  refine (hpd _).mono ?_
  rintro e v3 ⟨rfl, hc3⟩
  have hd3 := below_aft9 hd2 hc3
  clear hd2 hc3
  go_wp2_with fail
  refine (l12Code_any 4 _).mono ?_
  rintro e v4 ⟨rfl, hc4⟩
  have hd4 := below_aft9 hd3 hc4
  clear hd3 hc4
  go_wp2_with fail
  refine (l12Code_any 9 _).mono ?_
  rintro e v5 ⟨rfl, hc5⟩
  have hd5 := below_aft9 hd4 hc5
  clear hd4 hc5
  go_wp2_with fail
  refine (hppayee _).mono ?_
  rintro e v6 ⟨rfl, hc6⟩
  have hd6 := below_aft9 hd5 hc6
  clear hd5 hc6
  go_wp2_with fail
  refine (l12Code_any 11 _).mono ?_
  rintro e v7 ⟨rfl, hc7⟩
  have hd7 := below_aft9 hd6 hc7
  clear hd6 hc7
  go_wp2_with fail
  refine (l12Code_any 7 _).mono ?_
  rintro e v8 ⟨rfl, hc8⟩
  have hd8 := below_aft9 hd7 hc8
  clear hd7 hc8
  go_wp2_with fail
  refine (hppayer _).mono ?_
  rintro e v9 ⟨rfl, hc9⟩
  have hd9 := below_aft9 hd8 hc9
  clear hd8 hc9
  go_wp2_with fail
  refine (l12Code_any 11 _).mono ?_
  rintro e v10 ⟨rfl, hc10⟩
  have hd10 := below_aft9 hd9 hc10
  clear hd9 hc10
  go_wp2_with fail
  refine (l12Code_any 8 _).mono ?_
  rintro e v11 ⟨rfl, hc11⟩
  have hd11 := below_aft9 hd10 hc11
  clear hd10 hc11
  have ol := OL.new v11 [⟨6, 0, 0, ⟨#[]⟩⟩, ⟨10, 0, 0, ⟨#[]⟩⟩, ⟨0, 0, 0, td⟩, ⟨4, 0, 0, ⟨#[]⟩⟩, ⟨9, 0, 0, ⟨#[]⟩⟩, ⟨0, 0, 0, tpayee⟩, ⟨11, 0, 0, ⟨#[]⟩⟩, ⟨7, 0, 0, ⟨#[]⟩⟩, ⟨13, height, 0, ⟨#[]⟩⟩, ⟨0, 0, 0, tpayer⟩, ⟨11, 0, 0, ⟨#[]⟩⟩, ⟨8, 0, 0, ⟨#[]⟩⟩] #[.int .i64 6, .int .i64 0, .int .i64 0, .string ⟨#[]⟩, .int .i64 10, .int .i64 0, .int .i64 0, .string ⟨#[]⟩, .int .i64 0, .int .i64 0, .int .i64 0, .string td, .int .i64 4, .int .i64 0, .int .i64 0, .string ⟨#[]⟩, .int .i64 9, .int .i64 0, .int .i64 0, .string ⟨#[]⟩, .int .i64 0, .int .i64 0, .int .i64 0, .string tpayee, .int .i64 11, .int .i64 0, .int .i64 0, .string ⟨#[]⟩, .int .i64 7, .int .i64 0, .int .i64 0, .string ⟨#[]⟩, .int .i64 13, .int .i64 height, .int .i64 0, .string ⟨#[]⟩, .int .i64 0, .int .i64 0, .int .i64 0, .string tpayer, .int .i64 11, .int .i64 0, .int .i64 0, .string ⟨#[]⟩, .int .i64 8, .int .i64 0, .int .i64 0, .string ⟨#[]⟩] rfl (by simp)
  have hb9 := hd11.alloc hd11.size (.cells #[.int .i64 6, .int .i64 0, .int .i64 0, .string ⟨#[]⟩, .int .i64 10, .int .i64 0, .int .i64 0, .string ⟨#[]⟩, .int .i64 0, .int .i64 0, .int .i64 0, .string td, .int .i64 4, .int .i64 0, .int .i64 0, .string ⟨#[]⟩, .int .i64 9, .int .i64 0, .int .i64 0, .string ⟨#[]⟩, .int .i64 0, .int .i64 0, .int .i64 0, .string tpayee, .int .i64 11, .int .i64 0, .int .i64 0, .string ⟨#[]⟩, .int .i64 7, .int .i64 0, .int .i64 0, .string ⟨#[]⟩, .int .i64 13, .int .i64 height, .int .i64 0, .string ⟨#[]⟩, .int .i64 0, .int .i64 0, .int .i64 0, .string tpayer, .int .i64 11, .int .i64 0, .int .i64 0, .string ⟨#[]⟩, .int .i64 8, .int .i64 0, .int .i64 0, .string ⟨#[]⟩] 77 (0, 0))
  clear hd11
  go_wp2
  go_ret
  exact ⟨_, rfl, ol, hb9⟩
set_option maxRecDepth 100000 in
set_option maxHeartbeats 3200000 in
theorem l12Revocable_eq (revoke delay owner : Int) (w : World) (revoke0 : 0 ≤ revoke) (revoke1 : revoke ≤ 4294967295) (owner0 : 0 ≤ owner) (owner1 : owner ≤ 4294967295) :
    Calls Tryz.prog 193 #[.int .i64 revoke, .int .i64 delay, .int .i64 owner] w fun e w' => ∃ b, e = .returned (.slice (some ⟨b, 0, none⟩) 8 8) ∧ OL w' (some ⟨b, 0, none⟩) 8 (Lk.revocable revoke delay owner) ∧ Below w.heap.size w w' := by
  unfold Lk.revocable Lk.push Lk.code
  have hprevoke := fun W => l12Push_any revoke W (by omega) (by omega)
  obtain ⟨trevoke, HTrevoke⟩ : ∃ t, Hid (Dg.bytes revoke = t) := ⟨_, Lib.hid rfl⟩
  rw [HTrevoke.out] at hprevoke ⊢
  clear HTrevoke
  have hpowner := fun W => l12Push_any owner W (by omega) (by omega)
  obtain ⟨towner, HTowner⟩ : ∃ t, Hid (Dg.bytes owner = t) := ⟨_, Lib.hid rfl⟩
  rw [HTowner.out] at hpowner ⊢
  clear HTowner
  clear revoke0 revoke1 owner0 owner1
  go_enter Tryz.func193, Tryz.ntmps193
  go_wp2_with fail
  refine (l12Code_any 6 _).mono ?_
  rintro e v1 ⟨rfl, hc1⟩
  go_wp2_with fail
  refine (hprevoke _).mono ?_
  rintro e v2 ⟨rfl, hc2⟩
  have hd2 := below_aft9 hc1 hc2
  clear hc1 hc2
  go_wp2_with fail
  refine (l12Code_any 11 _).mono ?_
  rintro e v3 ⟨rfl, hc3⟩
  have hd3 := below_aft9 hd2 hc3
  clear hd2 hc3
  go_wp2_with fail
  refine (l12Code_any 7 _).mono ?_
  rintro e v4 ⟨rfl, hc4⟩
  have hd4 := below_aft9 hd3 hc4
  clear hd3 hc4
  go_wp2_with fail
  refine (hpowner _).mono ?_
  rintro e v5 ⟨rfl, hc5⟩
  have hd5 := below_aft9 hd4 hc5
  clear hd4 hc5
  go_wp2_with fail
  refine (l12Code_any 11 _).mono ?_
  rintro e v6 ⟨rfl, hc6⟩
  have hd6 := below_aft9 hd5 hc6
  clear hd5 hc6
  go_wp2_with fail
  refine (l12Code_any 8 _).mono ?_
  rintro e v7 ⟨rfl, hc7⟩
  have hd7 := below_aft9 hd6 hc7
  clear hd6 hc7
  have ol := OL.new v7 [⟨6, 0, 0, ⟨#[]⟩⟩, ⟨0, 0, 0, trevoke⟩, ⟨11, 0, 0, ⟨#[]⟩⟩, ⟨7, 0, 0, ⟨#[]⟩⟩, ⟨14, delay, 0, ⟨#[]⟩⟩, ⟨0, 0, 0, towner⟩, ⟨11, 0, 0, ⟨#[]⟩⟩, ⟨8, 0, 0, ⟨#[]⟩⟩] #[.int .i64 6, .int .i64 0, .int .i64 0, .string ⟨#[]⟩, .int .i64 0, .int .i64 0, .int .i64 0, .string trevoke, .int .i64 11, .int .i64 0, .int .i64 0, .string ⟨#[]⟩, .int .i64 7, .int .i64 0, .int .i64 0, .string ⟨#[]⟩, .int .i64 14, .int .i64 delay, .int .i64 0, .string ⟨#[]⟩, .int .i64 0, .int .i64 0, .int .i64 0, .string towner, .int .i64 11, .int .i64 0, .int .i64 0, .string ⟨#[]⟩, .int .i64 8, .int .i64 0, .int .i64 0, .string ⟨#[]⟩] rfl (by simp)
  have hb9 := hd7.alloc hd7.size (.cells #[.int .i64 6, .int .i64 0, .int .i64 0, .string ⟨#[]⟩, .int .i64 0, .int .i64 0, .int .i64 0, .string trevoke, .int .i64 11, .int .i64 0, .int .i64 0, .string ⟨#[]⟩, .int .i64 7, .int .i64 0, .int .i64 0, .string ⟨#[]⟩, .int .i64 14, .int .i64 delay, .int .i64 0, .string ⟨#[]⟩, .int .i64 0, .int .i64 0, .int .i64 0, .string towner, .int .i64 11, .int .i64 0, .int .i64 0, .string ⟨#[]⟩, .int .i64 8, .int .i64 0, .int .i64 0, .string ⟨#[]⟩] 77 (0, 0))
  clear hd7
  go_wp2
  go_ret
  exact ⟨_, rfl, ol, hb9⟩
set_option maxRecDepth 100000 in
set_option maxHeartbeats 3200000 in
theorem LockKey_yes (key : Int) (w : World) (h : Gr.kok key = true) : Calls Tryz.prog 42 #[.int .i64 key] w (LkR (Lk.key key) w) := by
  obtain ⟨k0, k1⟩ := Gr.kok_bd h
  have hk := fun W => specKeyOk_any key W
  rw [h] at hk
  unfold Lk.key Lk.push Lk.code
  have hpkey := fun W => l12Push_any key W (by omega) (by omega)
  obtain ⟨tkey, HTkey⟩ : ∃ t, Hid (Dg.bytes key = t) := ⟨_, Lib.hid rfl⟩
  rw [HTkey.out] at hpkey ⊢
  clear HTkey
  clear h k0 k1
  go_enter Tryz.func42, Tryz.ntmps42
  go_wp2_with fail
  refine (hk _).mono ?_
  rintro e w1 ⟨rfl, hw1⟩
  have hb1 : Below w.heap.size w w1 := by rw [hw1]; exact Below.refl _ _
  clear hw1
  go_wp2_with fail
  refine (hpkey _).mono ?_
  rintro e v1 ⟨rfl, hc1⟩
  have hd1 := below_aft9 hb1 hc1
  clear hb1 hc1
  go_wp2_with fail
  refine (l12Code_any 11 _).mono ?_
  rintro e v2 ⟨rfl, hc2⟩
  have hd2 := below_aft9 hd1 hc2
  clear hd1 hc2
  have ol := OL.new v2 [⟨0, 0, 0, tkey⟩, ⟨11, 0, 0, ⟨#[]⟩⟩] #[.int .i64 0, .int .i64 0, .int .i64 0, .string tkey, .int .i64 11, .int .i64 0, .int .i64 0, .string ⟨#[]⟩] rfl (by simp)
  have hb9 := hd2.alloc hd2.size (.cells #[.int .i64 0, .int .i64 0, .int .i64 0, .string tkey, .int .i64 11, .int .i64 0, .int .i64 0, .string ⟨#[]⟩] 77 (0, 0))
  clear hd2
  go_wp2_with fail
  refine (l12Lock_eq _ 2 2 _ _ ol (by decide)).mono ?_
  rintro e wz ⟨rfl, hbz⟩
  replace hbz := below_aft9 hb9 hbz
  clear hb9 ol
  go_wp2
  go_ret2
  exact ⟨rfl, hbz⟩
theorem LockKey_no (key : Int) (w : World) (h : Gr.kok key = false) : Calls Tryz.prog 42 #[.int .i64 key] w (LkN w) := by
  have hk := fun W => specKeyOk_any key W
  rw [h] at hk
  clear h
  go_enter Tryz.func42, Tryz.ntmps42
  go_wp2_with fail
  refine (hk _).mono ?_
  rintro e w1 ⟨rfl, hw1⟩
  have hb1 : Below w.heap.size w w1 := by rw [hw1]; exact Below.refl _ _
  clear hw1
  go_wp2
  go_ret2
  exact ⟨rfl, hb1⟩
set_option maxRecDepth 100000 in
set_option maxHeartbeats 3200000 in
theorem LockDigest_yes (d : Int) (w : World) (k0 : 0 ≤ d) (k1 : d ≤ 4294967295) : Calls Tryz.prog 148 #[.int .i64 d] w (LkR (Lk.digest d) w) := by
  have H1 : (decide (0 ≤ d) && decide (d ≤ 4294967295)) = true := by simp [k0, k1]
  have hk := fun W => l6In_any d 0 4294967295 W
  rw [H1] at hk
  unfold Lk.digest Lk.push Lk.code
  have hpd := fun W => l12Push_any d W (by omega) (by omega)
  obtain ⟨td, HTd⟩ : ∃ t, Hid (Dg.bytes d = t) := ⟨_, Lib.hid rfl⟩
  rw [HTd.out] at hpd ⊢
  clear HTd
  clear H1 k0 k1
  go_enter Tryz.func148, Tryz.ntmps148
  go_wp2_with fail
  refine (hk _).mono ?_
  rintro e w1 ⟨rfl, hw1⟩
  have hb1 : Below w.heap.size w w1 := by rw [hw1]; exact Below.refl _ _
  clear hw1
  go_wp2_with fail
  refine (l12Code_any 10 _).mono ?_
  rintro e v1 ⟨rfl, hc1⟩
  have hd1 := below_aft9 hb1 hc1
  clear hb1 hc1
  go_wp2_with fail
  refine (hpd _).mono ?_
  rintro e v2 ⟨rfl, hc2⟩
  have hd2 := below_aft9 hd1 hc2
  clear hd1 hc2
  go_wp2_with fail
  refine (l12Code_any 4 _).mono ?_
  rintro e v3 ⟨rfl, hc3⟩
  have hd3 := below_aft9 hd2 hc3
  clear hd2 hc3
  have ol := OL.new v3 [⟨10, 0, 0, ⟨#[]⟩⟩, ⟨0, 0, 0, td⟩, ⟨4, 0, 0, ⟨#[]⟩⟩] #[.int .i64 10, .int .i64 0, .int .i64 0, .string ⟨#[]⟩, .int .i64 0, .int .i64 0, .int .i64 0, .string td, .int .i64 4, .int .i64 0, .int .i64 0, .string ⟨#[]⟩] rfl (by simp)
  have hb9 := hd3.alloc hd3.size (.cells #[.int .i64 10, .int .i64 0, .int .i64 0, .string ⟨#[]⟩, .int .i64 0, .int .i64 0, .int .i64 0, .string td, .int .i64 4, .int .i64 0, .int .i64 0, .string ⟨#[]⟩] 77 (0, 0))
  clear hd3
  go_wp2_with fail
  refine (l12Lock_eq _ 3 3 _ _ ol (by decide)).mono ?_
  rintro e wz ⟨rfl, hbz⟩
  replace hbz := below_aft9 hb9 hbz
  clear hb9 ol
  go_wp2
  go_ret2
  exact ⟨rfl, hbz⟩
theorem LockDigest_no (d : Int) (w : World) (h : ¬ (0 ≤ d ∧ d ≤ 4294967295)) : Calls Tryz.prog 148 #[.int .i64 d] w (LkN w) := by
  have H1 : (decide (0 ≤ d) && decide (d ≤ 4294967295)) = false := by simpa using fun g : 0 ≤ d => by omega
  have hk := fun W => l6In_any d 0 4294967295 W
  rw [H1] at hk
  clear H1 h
  go_enter Tryz.func148, Tryz.ntmps148
  go_wp2_with fail
  refine (hk _).mono ?_
  rintro e w1 ⟨rfl, hw1⟩
  have hb1 : Below w.heap.size w w1 := by rw [hw1]; exact Below.refl _ _
  clear hw1
  go_wp2
  go_ret2
  exact ⟨rfl, hb1⟩
set_option maxRecDepth 100000 in
set_option maxHeartbeats 3200000 in
theorem LockTimed_eq (d payee height payer : Int) (w : World) : Calls Tryz.prog 76 #[.int .i64 d, .int .i64 payee, .int .i64 height, .int .i64 payer] w fun e w' => (Lk.timedOk d payee height payer = true → LkR (Lk.timed d payee height payer) w e w') ∧ (Lk.timedOk d payee height payer = false → LkN w e w') := by
  have hk0 := fun W => l6In_any d 0 4294967295 W
  obtain ⟨f0, HF0⟩ : ∃ f, Hid ((decide (0 ≤ d) && decide (d ≤ 4294967295)) = f) := ⟨_, Lib.hid rfl⟩
  simp only [HF0.out] at hk0
  have hk1 := fun W => specKeyOk_any payee W
  obtain ⟨f1, HF1⟩ : ∃ f, Hid (Gr.kok payee = f) := ⟨_, Lib.hid rfl⟩
  simp only [HF1.out] at hk1
  have hk2 := fun W => specKeyOk_any payer W
  obtain ⟨f2, HF2⟩ : ∃ f, Hid (Gr.kok payer = f) := ⟨_, Lib.hid rfl⟩
  simp only [HF2.out] at hk2
  have hk3 := fun W => l6In_any height 0 9999 W
  obtain ⟨f3, HF3⟩ : ∃ f, Hid ((decide (0 ≤ height) && decide (height ≤ 9999)) = f) := ⟨_, Lib.hid rfl⟩
  simp only [HF3.out] at hk3
  have hok : Lk.timedOk d payee height payer = (f0 && f1 && f2 && f3) := by unfold Lk.timedOk; rw [HF0.out, HF1.out, HF2.out, HF3.out]
  rw [hok]
  clear hok
  cases f0
  · go_enter Tryz.func76, Tryz.ntmps76
    go_wp2_with fail
    refine (hk0 _).mono ?_
    rintro e w0 ⟨rfl, hw0⟩
    have hb0 : Below w.heap.size w w0 := by first | (rw [hw0]; first | exact Below.refl _ _ ) | (rw [← hw0]; first | exact Below.refl _ _ )
    clear hw0
    go_wp2
    go_ret2
    exact ⟨fun h => by simp at h, fun _ => ⟨rfl, hb0⟩⟩
  cases f1
  · go_enter Tryz.func76, Tryz.ntmps76
    go_wp2_with fail
    refine (hk0 _).mono ?_
    rintro e w0 ⟨rfl, hw0⟩
    have hb0 : Below w.heap.size w w0 := by first | (rw [hw0]; first | exact Below.refl _ _ ) | (rw [← hw0]; first | exact Below.refl _ _ )
    clear hw0
    go_wp2_with fail
    refine (hk1 _).mono ?_
    rintro e w1 ⟨rfl, hw1⟩
    have hb1 : Below w.heap.size w w1 := by first | (rw [hw1]; first | exact Below.refl _ _ | exact hb0) | (rw [← hw1]; first | exact Below.refl _ _ | exact hb0)
    clear hw1
    go_wp2
    go_ret2
    exact ⟨fun h => by simp at h, fun _ => ⟨rfl, hb1⟩⟩
  cases f2
  · go_enter Tryz.func76, Tryz.ntmps76
    go_wp2_with fail
    refine (hk0 _).mono ?_
    rintro e w0 ⟨rfl, hw0⟩
    have hb0 : Below w.heap.size w w0 := by first | (rw [hw0]; first | exact Below.refl _ _ ) | (rw [← hw0]; first | exact Below.refl _ _ )
    clear hw0
    go_wp2_with fail
    refine (hk1 _).mono ?_
    rintro e w1 ⟨rfl, hw1⟩
    have hb1 : Below w.heap.size w w1 := by first | (rw [hw1]; first | exact Below.refl _ _ | exact hb0) | (rw [← hw1]; first | exact Below.refl _ _ | exact hb0)
    clear hw1
    go_wp2_with fail
    refine (hk2 _).mono ?_
    rintro e w2 ⟨rfl, hw2⟩
    have hb2 : Below w.heap.size w w2 := by first | (rw [hw2]; first | exact Below.refl _ _ | exact hb1) | (rw [← hw2]; first | exact Below.refl _ _ | exact hb1)
    clear hw2
    go_wp2
    go_ret2
    exact ⟨fun h => by simp at h, fun _ => ⟨rfl, hb2⟩⟩
  cases f3
  · go_enter Tryz.func76, Tryz.ntmps76
    go_wp2_with fail
    refine (hk0 _).mono ?_
    rintro e w0 ⟨rfl, hw0⟩
    have hb0 : Below w.heap.size w w0 := by first | (rw [hw0]; first | exact Below.refl _ _ ) | (rw [← hw0]; first | exact Below.refl _ _ )
    clear hw0
    go_wp2_with fail
    refine (hk1 _).mono ?_
    rintro e w1 ⟨rfl, hw1⟩
    have hb1 : Below w.heap.size w w1 := by first | (rw [hw1]; first | exact Below.refl _ _ | exact hb0) | (rw [← hw1]; first | exact Below.refl _ _ | exact hb0)
    clear hw1
    go_wp2_with fail
    refine (hk2 _).mono ?_
    rintro e w2 ⟨rfl, hw2⟩
    have hb2 : Below w.heap.size w w2 := by first | (rw [hw2]; first | exact Below.refl _ _ | exact hb1) | (rw [← hw2]; first | exact Below.refl _ _ | exact hb1)
    clear hw2
    go_wp2_with fail
    refine (hk3 _).mono ?_
    rintro e w3 ⟨rfl, hw3⟩
    have hb3 : Below w.heap.size w w3 := by first | (rw [hw3]; first | exact Below.refl _ _ | exact hb2) | (rw [← hw3]; first | exact Below.refl _ _ | exact hb2)
    clear hw3
    go_wp2
    go_ret2
    exact ⟨fun h => by simp at h, fun _ => ⟨rfl, hb3⟩⟩
  have hd : 0 ≤ d ∧ d ≤ 4294967295 := by have := HF0.out; simpa using this
  have he := Gr.kok_bd HF1.out
  have hr := Gr.kok_bd HF2.out
  go_enter Tryz.func76, Tryz.ntmps76
  go_wp2_with fail
  refine (hk0 _).mono ?_
  rintro e w0 ⟨rfl, hw0⟩
  have hb0 : Below w.heap.size w w0 := by first | (rw [hw0]; first | exact Below.refl _ _ ) | (rw [← hw0]; first | exact Below.refl _ _ )
  clear hw0
  go_wp2_with fail
  refine (hk1 _).mono ?_
  rintro e w1 ⟨rfl, hw1⟩
  have hb1 : Below w.heap.size w w1 := by first | (rw [hw1]; first | exact Below.refl _ _ | exact hb0) | (rw [← hw1]; first | exact Below.refl _ _ | exact hb0)
  clear hw1
  go_wp2_with fail
  refine (hk2 _).mono ?_
  rintro e w2 ⟨rfl, hw2⟩
  have hb2 : Below w.heap.size w w2 := by first | (rw [hw2]; first | exact Below.refl _ _ | exact hb1) | (rw [← hw2]; first | exact Below.refl _ _ | exact hb1)
  clear hw2
  go_wp2_with fail
  refine (hk3 _).mono ?_
  rintro e w3 ⟨rfl, hw3⟩
  have hb3 : Below w.heap.size w w3 := by first | (rw [hw3]; first | exact Below.refl _ _ | exact hb2) | (rw [← hw3]; first | exact Below.refl _ _ | exact hb2)
  clear hw3
  go_wp2_with fail
  refine (l12Timed_eq d payee height payer _ hd.1 hd.2 he.1 he.2 hr.1 hr.2).mono ?_
  rintro e w8 ⟨b, rfl, ol, hb8⟩
  replace hb8 := below_aft9 hb3 hb8
  go_wp2_with fail
  refine (l12Lock_eq _ 12 12 _ _ ol (by decide)).mono ?_
  rintro e wz ⟨rfl, hbz⟩
  replace hbz := below_aft9 hb8 hbz
  clear hb8 ol
  go_wp2
  go_ret2
  exact ⟨fun _ => ⟨rfl, hbz⟩, fun h => by simp at h⟩
set_option maxRecDepth 100000 in
set_option maxHeartbeats 3200000 in
theorem LockRevocable_eq (revoke delay owner : Int) (w : World) : Calls Tryz.prog 150 #[.int .i64 revoke, .int .i64 delay, .int .i64 owner] w fun e w' => (Lk.revocableOk revoke delay owner = true → LkR (Lk.revocable revoke delay owner) w e w') ∧ (Lk.revocableOk revoke delay owner = false → LkN w e w') := by
  have hk0 := fun W => specKeyOk_any revoke W
  obtain ⟨f0, HF0⟩ : ∃ f, Hid (Gr.kok revoke = f) := ⟨_, Lib.hid rfl⟩
  simp only [HF0.out] at hk0
  have hk1 := fun W => specKeyOk_any owner W
  obtain ⟨f1, HF1⟩ : ∃ f, Hid (Gr.kok owner = f) := ⟨_, Lib.hid rfl⟩
  simp only [HF1.out] at hk1
  have hk2 := fun W => l6In_any delay 1 99 W
  obtain ⟨f2, HF2⟩ : ∃ f, Hid ((decide (1 ≤ delay) && decide (delay ≤ 99)) = f) := ⟨_, Lib.hid rfl⟩
  simp only [HF2.out] at hk2
  have hok : Lk.revocableOk revoke delay owner = (f0 && f1 && f2) := by unfold Lk.revocableOk; rw [HF0.out, HF1.out, HF2.out]
  rw [hok]
  clear hok
  cases f0
  · go_enter Tryz.func150, Tryz.ntmps150
    go_wp2_with fail
    refine (hk0 _).mono ?_
    rintro e w0 ⟨rfl, hw0⟩
    have hb0 : Below w.heap.size w w0 := by first | (rw [hw0]; first | exact Below.refl _ _ ) | (rw [← hw0]; first | exact Below.refl _ _ )
    clear hw0
    go_wp2
    go_ret2
    exact ⟨fun h => by simp at h, fun _ => ⟨rfl, hb0⟩⟩
  cases f1
  · go_enter Tryz.func150, Tryz.ntmps150
    go_wp2_with fail
    refine (hk0 _).mono ?_
    rintro e w0 ⟨rfl, hw0⟩
    have hb0 : Below w.heap.size w w0 := by first | (rw [hw0]; first | exact Below.refl _ _ ) | (rw [← hw0]; first | exact Below.refl _ _ )
    clear hw0
    go_wp2_with fail
    refine (hk1 _).mono ?_
    rintro e w1 ⟨rfl, hw1⟩
    have hb1 : Below w.heap.size w w1 := by first | (rw [hw1]; first | exact Below.refl _ _ | exact hb0) | (rw [← hw1]; first | exact Below.refl _ _ | exact hb0)
    clear hw1
    go_wp2
    go_ret2
    exact ⟨fun h => by simp at h, fun _ => ⟨rfl, hb1⟩⟩
  cases f2
  · go_enter Tryz.func150, Tryz.ntmps150
    go_wp2_with fail
    refine (hk0 _).mono ?_
    rintro e w0 ⟨rfl, hw0⟩
    have hb0 : Below w.heap.size w w0 := by first | (rw [hw0]; first | exact Below.refl _ _ ) | (rw [← hw0]; first | exact Below.refl _ _ )
    clear hw0
    go_wp2_with fail
    refine (hk1 _).mono ?_
    rintro e w1 ⟨rfl, hw1⟩
    have hb1 : Below w.heap.size w w1 := by first | (rw [hw1]; first | exact Below.refl _ _ | exact hb0) | (rw [← hw1]; first | exact Below.refl _ _ | exact hb0)
    clear hw1
    go_wp2_with fail
    refine (hk2 _).mono ?_
    rintro e w2 ⟨rfl, hw2⟩
    have hb2 : Below w.heap.size w w2 := by first | (rw [hw2]; first | exact Below.refl _ _ | exact hb1) | (rw [← hw2]; first | exact Below.refl _ _ | exact hb1)
    clear hw2
    go_wp2
    go_ret2
    exact ⟨fun h => by simp at h, fun _ => ⟨rfl, hb2⟩⟩
  have he := Gr.kok_bd HF0.out
  have hr := Gr.kok_bd HF1.out
  go_enter Tryz.func150, Tryz.ntmps150
  go_wp2_with fail
  refine (hk0 _).mono ?_
  rintro e w0 ⟨rfl, hw0⟩
  have hb0 : Below w.heap.size w w0 := by first | (rw [hw0]; first | exact Below.refl _ _ ) | (rw [← hw0]; first | exact Below.refl _ _ )
  clear hw0
  go_wp2_with fail
  refine (hk1 _).mono ?_
  rintro e w1 ⟨rfl, hw1⟩
  have hb1 : Below w.heap.size w w1 := by first | (rw [hw1]; first | exact Below.refl _ _ | exact hb0) | (rw [← hw1]; first | exact Below.refl _ _ | exact hb0)
  clear hw1
  go_wp2_with fail
  refine (hk2 _).mono ?_
  rintro e w2 ⟨rfl, hw2⟩
  have hb2 : Below w.heap.size w w2 := by first | (rw [hw2]; first | exact Below.refl _ _ | exact hb1) | (rw [← hw2]; first | exact Below.refl _ _ | exact hb1)
  clear hw2
  go_wp2_with fail
  refine (l12Revocable_eq revoke delay owner _ he.1 he.2 hr.1 hr.2).mono ?_
  rintro e w8 ⟨b, rfl, ol, hb8⟩
  replace hb8 := below_aft9 hb2 hb8
  go_wp2_with fail
  refine (l12Lock_eq _ 8 8 _ _ ol (by decide)).mono ?_
  rintro e wz ⟨rfl, hbz⟩
  replace hbz := below_aft9 hb8 hbz
  clear hb8 ol
  go_wp2
  go_ret2
  exact ⟨fun _ => ⟨rfl, hbz⟩, fun h => by simp at h⟩
end Go.Proofs.YtoocibabceeagabGreat

/-
  The shared lock of the model, whole.
-/
namespace Go.Proofs.YtoocibabceeagabGreat
open Go.RowKit

set_option maxRecDepth 100000 in
set_option maxHeartbeats 3200000 in
theorem LockMany_eq (need : Int) (a : Option Addr) (len cap : Nat) (zs : List Int) (w : World) (hz : IR w a len zs) (hlen : len ≤ 9223372036854775807) :
    Calls Tryz.prog 149 #[.int .i64 need, .slice a len cap] w fun e w' => (Lk.manyOk need zs = true → LkR (Lk.many need zs) w e w') ∧ (Lk.manyOk need zs = false → LkN w e w') := by
  obtain ⟨i0, hi, hz0, hz1, hz2⟩ := info_parts info_op
  have hzl := hz.1
  have HZ := Lib.hid hz
  have HL := Lib.hid hzl
  have hc1 := fun W => l6In_any (len : Int) 1 5 W
  have hc2 := fun W => l6In_any need 1 (len : Int) W
  have hmo : Lk.manyOk need zs = (Lk.manyLen len && Lk.manyNeed need len && zs.all Gr.kok) := by unfold Lk.manyOk; rw [hzl]
  obtain ⟨f1, HF1⟩ : ∃ f, Hid (Lk.manyLen len = f) := ⟨_, Lib.hid rfl⟩
  obtain ⟨f2, HF2⟩ : ∃ f, Hid (Lk.manyNeed need len = f) := ⟨_, Lib.hid rfl⟩
  have e1 : (decide ((1 : Int) ≤ (len : Int)) && decide ((len : Int) ≤ 5)) = f1 := HF1.out
  have e2 : (decide ((1 : Int) ≤ need) && decide (need ≤ (len : Int))) = f2 := HF2.out
  rw [e1] at hc1
  rw [e2] at hc2
  rw [HF1.out, HF2.out] at hmo
  obtain ⟨ok, HOK⟩ : ∃ x, Hid (Lk.manyOk need zs = x) := ⟨_, Lib.hid rfl⟩
  rw [HOK.out] at hmo ⊢
  have HMO := Lib.hid hmo
  clear hz hzl e1 e2 hmo
  cases f1
  · have HN : Hid (ok = false) := Lib.hid (by rw [HMO.out]; rfl)
    go_enter Tryz.func149, Tryz.ntmps149
    go_wp2_with fail
    refine (hc1 _).mono ?_
    rintro e w1 ⟨rfl, rfl⟩
    go_wp2
    go_ret2
    exact ⟨(fun h => by rw [HN.out] at h; cases h), fun _ => ⟨rfl, Below.refl _ _⟩⟩
  have hl5 : 1 ≤ len ∧ len ≤ 5 := by
    have := HF1.out
    unfold Lk.manyLen at this
    simp at this
    omega
  cases f2
  · have HN : Hid (ok = false) := Lib.hid (by rw [HMO.out]; rfl)
    go_enter Tryz.func149, Tryz.ntmps149
    go_wp2_with fail
    refine (hc1 _).mono ?_
    rintro e w1 ⟨rfl, rfl⟩
    go_wp2_with fail
    refine (hc2 _).mono ?_
    rintro e w2 ⟨rfl, rfl⟩
    go_wp2
    go_ret2
    exact ⟨(fun h => by rw [HN.out] at h; cases h), fun _ => ⟨rfl, Below.refl _ _⟩⟩
  have hown0 : (w.alloc (.cells #[] 77 (0, 0))).ownsRow w.heap.size 77 4 (.slice (some ⟨w.heap.size, 0, none⟩) 0 0) 0 [] := World.ownsRow_made (e := 77) (size := 4) w #[] 0 (Nat.le_refl _) (by decide) rfl
  have hb0 : Below w.heap.size w (w.alloc (.cells #[] 77 (0, 0))) := below_alloc (Below.refl _ _) _
  have HO0 := Lib.hid hown0
  clear hown0
  go_enter Tryz.func149, Tryz.ntmps149
  go_wp2_with fail
  refine (hc1 _).mono ?_
  rintro e w1 ⟨rfl, rfl⟩
  go_wp2_with fail
  refine (hc2 _).mono ?_
  rintro e w2 ⟨rfl, rfl⟩
  clear hc1 hc2
  go_wp2
  go_loopw [6, 7] (fun v i wr => ∃ (k g cp : Nat), k ≤ len ∧ i = .int .i64 (k : Int) ∧ v = .slice (some ⟨g, 0, none⟩) k cp ∧ Hid (∀ j, j < k → Gr.kok (zs.getD j 0) = true) ∧ Below w.heap.size w wr ∧ Hid (wr.ownsRow w.heap.size 77 4 (.slice (some ⟨g, 0, none⟩) k cp) k (Jo.cells (Lk.pre zs k))))
    (fun _ i _ => len - (intOf i).toNat)
  case atStart => exact ⟨0, w.heap.size, 0, by omega, rfl, rfl, Lib.hid (fun j hj => absurd hj (by omega)), hb0, HO0⟩
  case round =>
    obtain ⟨k, g, cp, hk, rfl, rfl, HV, hbel, HOWN⟩ := hrel
    clear hb0 HO0
    by_cases hlt : k < len
    · obtain ⟨b, off, rfl, _, hc⟩ := (HZ.out.below hbel).2 (by omega)
      have hck := hc k hlt
      obtain ⟨x, HX⟩ : ∃ x, Hid (zs.getD k 0 = x) := ⟨_, Lib.hid rfl⟩
      rw [HX.out] at hck
      have hcon1 := fun W => specKeyOk_any x W
      obtain ⟨f, HF⟩ : ∃ f, Hid (Gr.kok x = f) := ⟨_, Lib.hid rfl⟩
      rw [HF.out] at hcon1
      clear hc
      cases f
      · have HN : Hid (ok = false) := Lib.hid (by rw [HMO.out, Lk.all_no (zs := zs) (k := k) (by rw [HL.out]; exact hlt) (by rw [HX.out]; exact HF.out)]; rfl)
        go_wp2_with fail
        refine (hcon1 _).mono ?_
        rintro e w1 ⟨rfl, hw1⟩
        rw [hw1]
        clear hw1
        go_wp2
        go_ret2
        exact ⟨(fun h => by rw [HN.out] at h; cases h), fun _ => ⟨rfl, hbel⟩⟩
      · obtain ⟨r0, r1⟩ := Gr.kok_bd HF.out
        have hcon2 := fun W => l12Push_any x W r0 r1
        obtain ⟨t, HT⟩ : ∃ t, Hid (Dg.bytes x = t) := ⟨_, Lib.hid rfl⟩
        rw [HT.out] at hcon2
        clear r0 r1
        go_wp2_with fail
        refine (hcon1 _).mono ?_
        rintro e w1 ⟨rfl, hw1⟩
        rw [hw1]
        clear hw1
        go_wp2_with fail
        refine (hcon2 _).mono ?_
        rintro e w2 ⟨rfl, hb2⟩
        have hown2 := HOWN.out.kept (row := none) ⟨hb2.os, hb2.tape, hb2.output, hb2.size, fun k hk _ => hb2.block k hk⟩ (.inr (by simp [Value.ownBlock]))
        have hb3 := hbel.trans (hb2.mono hbel.size)
        have hsz3 := hb3.size
        clear HOWN hck hb2
        have S1 := Lib.hid (four_newZ w2 (.int .i64 0) (.int .i64 0) (.int .i64 0) (.string t) 77 w2.heap.size rfl)
        go_wp2_with (at_builtin; refine wpList_append_own _ rfl _ _ 79 rfl w.heap.size 77 i0 (.agg #[.int .i64 0, .int .i64 0, .int .i64 0, .string ⟨#[]⟩]) 4 40 Tryz.underlying79 hi hz0 hz1 hz2 rfl (by decide) _ _ _ rfl (hown2.alloc (.cells #[.int .i64 0, .int .i64 0, .int .i64 0, .string t] 77 (0, 0))) ⟨w2.heap.size, 0, none⟩ 1 1 [.int .i64 0, .int .i64 0, .int .i64 0, .string t] rfl rfl ?_ ?_ ?_ ?_ ?_ ?_)
        any_goals first | exact S1.out | (intro u hu; simp at hu; rcases hu with rfl | rfl | rfl | rfl <;> rfl) | (unfold maxLen; omega) | omega | exact Nat.le_trans hsz3 (by simp) | (simp; omega)
        intro v' w8 hown8 hgrow _
        have hb8 := Below.grown (below_alloc hb3 (.cells #[.int .i64 0, .int .i64 0, .int .i64 0, .string t] 77 (0, 0))) hgrow (below_alloc hb3 (.cells #[.int .i64 0, .int .i64 0, .int .i64 0, .string t] 77 (0, 0))).size (fun j he => (hown2.lt j he).1)
        obtain ⟨g8, cp8, rfl⟩ : ∃ g cp, v' = .slice (some ⟨g, 0, none⟩) (k + 1) cp := by
          rcases hown8.2 with ⟨h, h0⟩ | ⟨g, cap, cur, h, _⟩
          · omega
          · exact ⟨_, _, h⟩
        have hown9 : Hid (w8.ownsRow w.heap.size 77 4 (.slice (some ⟨g8, 0, none⟩) (k + 1) cp8) (k + 1) (Jo.cells (Lk.pre zs (k + 1)))) := Lib.hid (by
          rw [Lk.pre_snoc zs k (by rw [HL.out]; exact hlt), Jo.cells_append, HX.out]
          unfold Lk.push
          rw [HT.out]
          exact hown8)
        have HV2 : Hid (∀ j, j < k + 1 → Gr.kok (zs.getD j 0) = true) := Lib.hid fun j hj => by
          by_cases hjk : j = k
          · rw [hjk, HX.out]; exact HF.out
          · exact HV.out j (by omega)
        clear hown2 hgrow hown8 hb3 S1
        go_wp2
        go_roundw
        case rel => exact ⟨k + 1, g8, cp8, by omega, by simp, by simp, HV2, hb8, hown9⟩
        case measure => simp [intOf]; omega
    · obtain rfl : k = len := by omega
      have HN : Hid (ok = true) := Lib.hid (by rw [HMO.out, Lk.all_yes (zs := zs) (fun j hj => HV.out j (by rw [← HL.out]; exact hj))]; rfl)
      have hown2 := HOWN.out
      have hsz3 := hbel.size
      clear HOWN hlt
      have S1 := Lib.hid (four_newZ wr (.int .i64 12) (.int .i64 need) (.int .i64 (k : Int)) (.string ⟨#[]⟩) 77 wr.heap.size rfl)
      go_wp2_with (at_builtin; refine wpList_append_own _ rfl _ _ 79 rfl w.heap.size 77 i0 (.agg #[.int .i64 0, .int .i64 0, .int .i64 0, .string ⟨#[]⟩]) 4 40 Tryz.underlying79 hi hz0 hz1 hz2 rfl (by decide) _ _ _ rfl (hown2.alloc (.cells #[.int .i64 12, .int .i64 need, .int .i64 (k : Int), .string ⟨#[]⟩] 77 (0, 0))) ⟨wr.heap.size, 0, none⟩ 1 1 [.int .i64 12, .int .i64 need, .int .i64 (k : Int), .string ⟨#[]⟩] rfl rfl ?_ ?_ ?_ ?_ ?_ ?_)
      any_goals first | exact S1.out | (intro u hu; simp at hu; rcases hu with rfl | rfl | rfl | rfl <;> rfl) | (unfold maxLen; omega) | omega | exact Nat.le_trans hsz3 (by simp) | (simp; omega)
      intro v' w8 hown8 hgrow _
      have hb8 := Below.grown (below_alloc hbel (.cells #[.int .i64 12, .int .i64 need, .int .i64 (k : Int), .string ⟨#[]⟩] 77 (0, 0))) hgrow (below_alloc hbel (.cells #[.int .i64 12, .int .i64 need, .int .i64 (k : Int), .string ⟨#[]⟩] 77 (0, 0))).size (fun j he => (hown2.lt j he).1)
      obtain ⟨g8, cp8, rfl⟩ : ∃ g cp, v' = .slice (some ⟨g, 0, none⟩) (k + 1) cp := by
        rcases hown8.2 with ⟨h, h0⟩ | ⟨g, cap, cur, h, _⟩
        · omega
        · exact ⟨_, _, h⟩
      have ol : OL w8 (some ⟨g8, 0, none⟩) (k + 1) (Lk.many need zs) := (OL.own (by
        unfold Lk.many
        rw [Jo.cells_append, HL.out]
        exact hown8)).2
      have hcon := fun W h => l12Lock_eq (some ⟨g8, 0, none⟩) (k + 1) cp8 (Lk.many need zs) W h (by omega)
      unfold LkR at hcon
      obtain ⟨X, HX⟩ : ∃ x, Hid (Jo.bs (Lk.many need zs) = x) := ⟨_, Lib.hid rfl⟩
      obtain ⟨f, HF⟩ : ∃ x, Hid (Jo.ok (Lk.many need zs) = x) := ⟨_, Lib.hid rfl⟩
      rw [HX.out, HF.out] at hcon
      have HC := Lib.hid hcon
      have HOL := Lib.hid ol
      clear hown2 hgrow hown8 S1 hcon ol
      go_wp2_with fail
      refine (HC.out _ HOL.out).mono ?_
      rintro e wz ⟨rfl, hbz⟩
      have hbq := hb8.trans (hbz.mono hb8.size)
      clear hb8 hbz
      go_wp2
      go_ret2
      exact ⟨fun _ => ⟨by rw [HX.out, HF.out]; rfl, hbq⟩, (fun h => by rw [HN.out] at h; cases h)⟩
end Go.Proofs.YtoocibabceeagabGreat
