/-
  Locks of the model: how long their bytes are.
-/
import Derived.Test.YtoocibabceeagaaOf
import Derived.Test.YtoocibabceeagaaUa
import Derived.Test.YtoocibabceeagaaDg
import Derived.Test.YtoocibabceeagaaGk
import Derived.Test.YtoocibabceeagaaBk
namespace Go.Proofs.Ytoocibabceeagaa
open Go.RowKit

theorem Jo.bs_size (l : List Jo) : (Jo.bs l).size ≤ 4000 := by
  unfold Jo.bs
  split
  · rename_i hok
    obtain ⟨h1, h2, _⟩ := (Jo.ok_iff l).1 hok
    have := Jo.bytes_size h2
    omega
  · exact Nat.zero_le _
/-- A new block that holds the cells of operations is a slice of them. -/
theorem OL.new (W : World) (l : List Jo) (cs : Array Value) (hc : cs.toList = Jo.cells l) (hm : l.length ≤ 100) : OL (W.alloc (.cells cs 54 (0, 0))) (some ⟨W.heap.size, 0, none⟩) l.length l :=
  (OL.own (base := 0) (cap := l.length) (e := 54) ⟨Jo.cells_length l, .inr ⟨W.heap.size, l.length, cs, rfl, Nat.zero_le _, heap_alloc_new W _, Nat.le_refl _, by unfold maxLen; omega, by
    have := congrArg List.length hc
    rw [Jo.cells_length] at this
    simpa using this, by
    rw [hc, ← Jo.cells_length l, List.take_length]⟩⟩).2
theorem four_newZ (W : World) (a b c d : Value) (t : TypeId) (B : Nat) (hB : B = W.heap.size) : ∀ j u, [a, b, c, d][j]? = some u → (W.alloc (.cells #[a, b, c, d] t (0, 0))).cell? ((⟨B, 0, none⟩ : Addr).add j) = some u := by
  subst hB
  intro j u hj
  have hadr : (⟨W.heap.size, 0, none⟩ : Addr).add j = ⟨W.heap.size, j, none⟩ := by unfold Addr.add; split <;> simp_all
  rw [hadr]
  exact (World.cell?_alloc_mark W #[a, b, c, d] t (0, 0) j).trans (by simpa using hj)
/-- What a lock's function hands back. -/
def LockR (w : World) (e : Ending) (w' : World) : Prop := ∃ (s : ByteArray) (ok : Bool), e = .returned (.tuple #[.string s, .bool ok]) ∧ s.size ≤ 4000 ∧ Below w.heap.size w w'
set_option maxRecDepth 100000 in
set_option maxHeartbeats 3200000 in
theorem l12Code_any (c : Int) (w : World) :
    Calls Try.prog 44 #[.int .i64 c] w fun e w' => e = .returned (.agg #[.int .i64 c, .int .i64 0, .int .i64 0, .string ⟨#[]⟩]) ∧ Below w.heap.size w w' := by
  have vX := Bk.new w 54 #[.int .i64 c, .int .i64 0, .int .i64 0, .string ⟨#[]⟩]
  have hb := (Below.refl w.heap.size w).alloc (Nat.le_refl _) (.cells #[.int .i64 c, .int .i64 0, .int .i64 0, .string ⟨#[]⟩] 54 (0, 0))
  go_enter Try.func44, Try.ntmps44
  go_wp2
  refine bodyPost_ret (results_cell_row (P := Try.prog) rfl _ _ w.heap.size 54 _ (0, 0) _ rfl vX.held Try.underlying54 rfl (by kernel_rfl)) rfl ?_
  exact ⟨rfl, hb⟩
set_option maxRecDepth 100000 in
set_option maxHeartbeats 3200000 in
theorem l12Push_any (n : Int) (w : World) (h0 : 0 ≤ n) (h1 : n ≤ 4294967295) :
    Calls Try.prog 43 #[.int .i64 n] w fun e w' => e = .returned (.agg #[.int .i64 0, .int .i64 0, .int .i64 0, .string (Dg.bytes n)]) ∧ Below w.heap.size w w' := by
  have vR0 := Bk.new w 54 #[.int .i64 0, .int .i64 0, .int .i64 0, .string ⟨#[]⟩]
  have hb0 : Below w.heap.size w (w.alloc (.cells #[.int .i64 0, .int .i64 0, .int .i64 0, .string ⟨#[]⟩] 54 (0, 0))) := (Below.refl _ _).alloc (Nat.le_refl _) _
  go_enter Try.func43, Try.ntmps43
  go_wp2_with fail
  refine (l2Bytes_any n _ h0 h1).mono ?_
  rintro e w2 ⟨rfl, hb2⟩
  have vR2 := vR0.below hb2
  have hbel2 := below_aft9 hb0 hb2
  obtain ⟨r0, r1, r2, r3⟩ := Bk.c4 vR2
  obtain ⟨z0, z1, z2, z3⟩ := vR2.f4
  obtain ⟨t, HT⟩ : ∃ t, Hid (Dg.bytes n = t) := ⟨_, Lib.hid rfl⟩
  simp only [HT.out]
  have vR9 := Bk.store4 vR2 (.int .i64 0) (.int .i64 0) (.int .i64 0) (.string t)
  have hb9 := below_store4 hbel2 w.heap.size (Nat.le_refl _) (.int .i64 0) (.int .i64 0) (.int .i64 0) (.string t)
  clear vR0 hb0 hb2 vR2 hbel2
  go_wp2
  refine bodyPost_ret (results_cell_row (P := Try.prog) rfl _ _ w.heap.size 54 _ (0, 0) _ rfl vR9.held Try.underlying54 rfl (by kernel_rfl)) rfl ?_
  exact ⟨by rw [HT.out], hb9⟩
set_option maxRecDepth 100000 in
set_option maxHeartbeats 3200000 in
theorem l12Lock_any (a : Option Addr) (len cap : Nat) (l : List Jo) (w : World) (h : OL w a len l) (hm : len ≤ 100) :
    Calls Try.prog 42 #[.slice a len cap] w (LockR w) := by
  have hcon := specScriptBytes_any a len cap l w h (by omega)
  have hz := Jo.bs_size l
  obtain ⟨X, HX⟩ : ∃ x, Hid (Jo.bs l = x) := ⟨_, Lib.hid rfl⟩
  obtain ⟨f, HF⟩ : ∃ x, Hid (Jo.ok l = x) := ⟨_, Lib.hid rfl⟩
  rw [HX.out] at hcon hz
  rw [HF.out] at hcon
  clear HX HF h
  go_enter Try.func42, Try.ntmps42
  go_wp2_with fail
  refine hcon.mono ?_
  rintro e w2 ⟨rfl, hb2⟩
  go_wp2
  go_ret2
  exact ⟨X, f, rfl, hz, hb2⟩
set_option maxRecDepth 100000 in
set_option maxHeartbeats 3200000 in
theorem LockKey_any (key : Int) (w : World) : Calls Try.prog 17 #[.int .i64 key] w (LockR w) := by
  have hbd := @Gr.kok_bd key
  go_enter Try.func17, Try.ntmps17
  go_wp2_with fail
  refine (specKeyOk_any key _).mono ?_
  rintro e w1 ⟨rfl, hw1⟩
  have hb1 : Below w.heap.size w w1 := by rw [hw1]; exact Below.refl _ _
  clear hw1
  obtain ⟨f, HF⟩ : ∃ f, Hid (Gr.kok key = f) := ⟨_, Lib.hid rfl⟩
  rw [HF.out] at hbd ⊢
  clear HF
  cases f
  · clear hbd
    go_wp2
    go_ret2
    exact ⟨⟨#[]⟩, false, rfl, by decide, hb1⟩
  obtain ⟨k0, k1⟩ := hbd rfl
  go_wp2_with fail
  refine (l12Push_any key _ k0 k1).mono ?_
  rintro e w2 ⟨rfl, hb2⟩
  obtain ⟨t2, HT2⟩ : ∃ t, Hid (Dg.bytes key = t) := ⟨_, Lib.hid rfl⟩
  rw [HT2.out]
  clear HT2
  replace hb2 := below_aft9 hb1 hb2
  clear hb1
  go_wp2_with fail
  refine (l12Code_any 11 _).mono ?_
  rintro e w3 ⟨rfl, hb3⟩
  replace hb3 := below_aft9 hb2 hb3
  clear hb2
  have ol := OL.new w3 [⟨0, 0, 0, t2⟩, ⟨11, 0, 0, ⟨#[]⟩⟩] #[.int .i64 0, .int .i64 0, .int .i64 0, .string t2, .int .i64 11, .int .i64 0, .int .i64 0, .string ⟨#[]⟩] rfl (by simp)
  have hb9 := hb3.alloc hb3.size (.cells #[.int .i64 0, .int .i64 0, .int .i64 0, .string t2, .int .i64 11, .int .i64 0, .int .i64 0, .string ⟨#[]⟩] 54 (0, 0))
  clear hb3
  go_wp2_with fail
  refine (l12Lock_any _ 2 2 _ _ ol (by decide)).mono ?_
  rintro e wz ⟨s, ok, rfl, hs, hbz⟩
  replace hbz := below_aft9 hb9 hbz
  clear hb9 ol
  go_wp2
  go_ret2
  exact ⟨s, ok, rfl, hs, hbz⟩
set_option maxRecDepth 100000 in
set_option maxHeartbeats 3200000 in
theorem LockDigest_any (d : Int) (w : World) (k0 : 0 ≤ d) (k1 : d ≤ 4294967295) : Calls Try.prog 21 #[.int .i64 d] w (LockR w) := by
  have H1 : (decide (0 ≤ d) && decide (d ≤ 4294967295)) = true := by simp [k0, k1]
  go_enter Try.func21, Try.ntmps21
  go_wp2_with fail
  refine (l6In_any d 0 4294967295 _).mono ?_
  rintro e w1 ⟨rfl, hw1⟩
  have hb1 : Below w.heap.size w w1 := by rw [hw1]; exact Below.refl _ _
  clear hw1
  go_wp2_with fail
  refine (l12Code_any 10 _).mono ?_
  rintro e w2 ⟨rfl, hb2⟩
  replace hb2 := below_aft9 hb1 hb2
  clear hb1
  go_wp2_with fail
  refine (l12Push_any d _ k0 k1).mono ?_
  rintro e w3 ⟨rfl, hb3⟩
  obtain ⟨t3, HT3⟩ : ∃ t, Hid (Dg.bytes d = t) := ⟨_, Lib.hid rfl⟩
  rw [HT3.out]
  clear HT3
  replace hb3 := below_aft9 hb2 hb3
  clear hb2
  go_wp2_with fail
  refine (l12Code_any 4 _).mono ?_
  rintro e w4 ⟨rfl, hb4⟩
  replace hb4 := below_aft9 hb3 hb4
  clear hb3
  have ol := OL.new w4 [⟨10, 0, 0, ⟨#[]⟩⟩, ⟨0, 0, 0, t3⟩, ⟨4, 0, 0, ⟨#[]⟩⟩] #[.int .i64 10, .int .i64 0, .int .i64 0, .string ⟨#[]⟩, .int .i64 0, .int .i64 0, .int .i64 0, .string t3, .int .i64 4, .int .i64 0, .int .i64 0, .string ⟨#[]⟩] rfl (by simp)
  have hb9 := hb4.alloc hb4.size (.cells #[.int .i64 10, .int .i64 0, .int .i64 0, .string ⟨#[]⟩, .int .i64 0, .int .i64 0, .int .i64 0, .string t3, .int .i64 4, .int .i64 0, .int .i64 0, .string ⟨#[]⟩] 54 (0, 0))
  clear hb4
  go_wp2_with fail
  refine (l12Lock_any _ 3 3 _ _ ol (by decide)).mono ?_
  rintro e wz ⟨s, ok, rfl, hs, hbz⟩
  replace hbz := below_aft9 hb9 hbz
  clear hb9 ol
  go_wp2
  go_ret2
  exact ⟨s, ok, rfl, hs, hbz⟩
set_option maxRecDepth 100000 in
set_option maxHeartbeats 3200000 in
theorem l12Timed_any (d : Int) (payee : Int) (height : Int) (payer : Int) (w : World) (d0 : 0 ≤ d) (d1 : d ≤ 4294967295) (e0 : 0 ≤ payee) (e1 : payee ≤ 4294967295) (r0 : 0 ≤ payer) (r1 : payer ≤ 4294967295) :
    Calls Try.prog 53 #[.int .i64 d, .int .i64 payee, .int .i64 height, .int .i64 payer] w fun e w' => ∃ b l, e = .returned (.slice (some ⟨b, 0, none⟩) 12 12) ∧ OL w' (some ⟨b, 0, none⟩) 12 l ∧ Below w.heap.size w w' := by
  go_enter Try.func53, Try.ntmps53
  go_wp2_with fail
  refine (l12Code_any 6 _).mono ?_
  rintro e w1 ⟨rfl, hb1⟩
  go_wp2_with fail
  refine (l12Code_any 10 _).mono ?_
  rintro e w2 ⟨rfl, hb2⟩
  replace hb2 := below_aft9 hb1 hb2
  clear hb1
  go_wp2_with fail
  refine (l12Push_any d _ d0 d1).mono ?_
  rintro e w3 ⟨rfl, hb3⟩
  obtain ⟨t3, HT3⟩ : ∃ t, Hid (Dg.bytes d = t) := ⟨_, Lib.hid rfl⟩
  rw [HT3.out]
  clear HT3
  replace hb3 := below_aft9 hb2 hb3
  clear hb2
  go_wp2_with fail
  refine (l12Code_any 4 _).mono ?_
  rintro e w4 ⟨rfl, hb4⟩
  replace hb4 := below_aft9 hb3 hb4
  clear hb3
  go_wp2_with fail
  refine (l12Code_any 9 _).mono ?_
  rintro e w5 ⟨rfl, hb5⟩
  replace hb5 := below_aft9 hb4 hb5
  clear hb4
  go_wp2_with fail
  refine (l12Push_any payee _ e0 e1).mono ?_
  rintro e w6 ⟨rfl, hb6⟩
  obtain ⟨t6, HT6⟩ : ∃ t, Hid (Dg.bytes payee = t) := ⟨_, Lib.hid rfl⟩
  rw [HT6.out]
  clear HT6
  replace hb6 := below_aft9 hb5 hb6
  clear hb5
  go_wp2_with fail
  refine (l12Code_any 11 _).mono ?_
  rintro e w7 ⟨rfl, hb7⟩
  replace hb7 := below_aft9 hb6 hb7
  clear hb6
  go_wp2_with fail
  refine (l12Code_any 7 _).mono ?_
  rintro e w8 ⟨rfl, hb8⟩
  replace hb8 := below_aft9 hb7 hb8
  clear hb7
  go_wp2_with fail
  refine (l12Push_any payer _ r0 r1).mono ?_
  rintro e w9 ⟨rfl, hb9⟩
  obtain ⟨t9, HT9⟩ : ∃ t, Hid (Dg.bytes payer = t) := ⟨_, Lib.hid rfl⟩
  rw [HT9.out]
  clear HT9
  replace hb9 := below_aft9 hb8 hb9
  clear hb8
  go_wp2_with fail
  refine (l12Code_any 11 _).mono ?_
  rintro e w10 ⟨rfl, hb10⟩
  replace hb10 := below_aft9 hb9 hb10
  clear hb9
  go_wp2_with fail
  refine (l12Code_any 8 _).mono ?_
  rintro e w11 ⟨rfl, hb11⟩
  replace hb11 := below_aft9 hb10 hb11
  clear hb10
  have ol := OL.new w11 [⟨6, 0, 0, ⟨#[]⟩⟩, ⟨10, 0, 0, ⟨#[]⟩⟩, ⟨0, 0, 0, t3⟩, ⟨4, 0, 0, ⟨#[]⟩⟩, ⟨9, 0, 0, ⟨#[]⟩⟩, ⟨0, 0, 0, t6⟩, ⟨11, 0, 0, ⟨#[]⟩⟩, ⟨7, 0, 0, ⟨#[]⟩⟩, ⟨13, height, 0, ⟨#[]⟩⟩, ⟨0, 0, 0, t9⟩, ⟨11, 0, 0, ⟨#[]⟩⟩, ⟨8, 0, 0, ⟨#[]⟩⟩] #[.int .i64 6, .int .i64 0, .int .i64 0, .string ⟨#[]⟩, .int .i64 10, .int .i64 0, .int .i64 0, .string ⟨#[]⟩, .int .i64 0, .int .i64 0, .int .i64 0, .string t3, .int .i64 4, .int .i64 0, .int .i64 0, .string ⟨#[]⟩, .int .i64 9, .int .i64 0, .int .i64 0, .string ⟨#[]⟩, .int .i64 0, .int .i64 0, .int .i64 0, .string t6, .int .i64 11, .int .i64 0, .int .i64 0, .string ⟨#[]⟩, .int .i64 7, .int .i64 0, .int .i64 0, .string ⟨#[]⟩, .int .i64 13, .int .i64 height, .int .i64 0, .string ⟨#[]⟩, .int .i64 0, .int .i64 0, .int .i64 0, .string t9, .int .i64 11, .int .i64 0, .int .i64 0, .string ⟨#[]⟩, .int .i64 8, .int .i64 0, .int .i64 0, .string ⟨#[]⟩] rfl (by simp)
  have hb9 := hb11.alloc hb11.size (.cells #[.int .i64 6, .int .i64 0, .int .i64 0, .string ⟨#[]⟩, .int .i64 10, .int .i64 0, .int .i64 0, .string ⟨#[]⟩, .int .i64 0, .int .i64 0, .int .i64 0, .string t3, .int .i64 4, .int .i64 0, .int .i64 0, .string ⟨#[]⟩, .int .i64 9, .int .i64 0, .int .i64 0, .string ⟨#[]⟩, .int .i64 0, .int .i64 0, .int .i64 0, .string t6, .int .i64 11, .int .i64 0, .int .i64 0, .string ⟨#[]⟩, .int .i64 7, .int .i64 0, .int .i64 0, .string ⟨#[]⟩, .int .i64 13, .int .i64 height, .int .i64 0, .string ⟨#[]⟩, .int .i64 0, .int .i64 0, .int .i64 0, .string t9, .int .i64 11, .int .i64 0, .int .i64 0, .string ⟨#[]⟩, .int .i64 8, .int .i64 0, .int .i64 0, .string ⟨#[]⟩] 54 (0, 0))
  clear hb11
  go_wp2
  go_ret
  exact ⟨_, _, rfl, ol, hb9⟩
set_option maxRecDepth 100000 in
set_option maxHeartbeats 3200000 in
theorem l12Revocable_any (revoke : Int) (delay : Int) (owner : Int) (w : World) (e0 : 0 ≤ revoke) (e1 : revoke ≤ 4294967295) (r0 : 0 ≤ owner) (r1 : owner ≤ 4294967295) :
    Calls Try.prog 54 #[.int .i64 revoke, .int .i64 delay, .int .i64 owner] w fun e w' => ∃ b l, e = .returned (.slice (some ⟨b, 0, none⟩) 8 8) ∧ OL w' (some ⟨b, 0, none⟩) 8 l ∧ Below w.heap.size w w' := by
  go_enter Try.func54, Try.ntmps54
  go_wp2_with fail
  refine (l12Code_any 6 _).mono ?_
  rintro e w1 ⟨rfl, hb1⟩
  go_wp2_with fail
  refine (l12Push_any revoke _ e0 e1).mono ?_
  rintro e w2 ⟨rfl, hb2⟩
  obtain ⟨t2, HT2⟩ : ∃ t, Hid (Dg.bytes revoke = t) := ⟨_, Lib.hid rfl⟩
  rw [HT2.out]
  clear HT2
  replace hb2 := below_aft9 hb1 hb2
  clear hb1
  go_wp2_with fail
  refine (l12Code_any 11 _).mono ?_
  rintro e w3 ⟨rfl, hb3⟩
  replace hb3 := below_aft9 hb2 hb3
  clear hb2
  go_wp2_with fail
  refine (l12Code_any 7 _).mono ?_
  rintro e w4 ⟨rfl, hb4⟩
  replace hb4 := below_aft9 hb3 hb4
  clear hb3
  go_wp2_with fail
  refine (l12Push_any owner _ r0 r1).mono ?_
  rintro e w5 ⟨rfl, hb5⟩
  obtain ⟨t5, HT5⟩ : ∃ t, Hid (Dg.bytes owner = t) := ⟨_, Lib.hid rfl⟩
  rw [HT5.out]
  clear HT5
  replace hb5 := below_aft9 hb4 hb5
  clear hb4
  go_wp2_with fail
  refine (l12Code_any 11 _).mono ?_
  rintro e w6 ⟨rfl, hb6⟩
  replace hb6 := below_aft9 hb5 hb6
  clear hb5
  go_wp2_with fail
  refine (l12Code_any 8 _).mono ?_
  rintro e w7 ⟨rfl, hb7⟩
  replace hb7 := below_aft9 hb6 hb7
  clear hb6
  have ol := OL.new w7 [⟨6, 0, 0, ⟨#[]⟩⟩, ⟨0, 0, 0, t2⟩, ⟨11, 0, 0, ⟨#[]⟩⟩, ⟨7, 0, 0, ⟨#[]⟩⟩, ⟨14, delay, 0, ⟨#[]⟩⟩, ⟨0, 0, 0, t5⟩, ⟨11, 0, 0, ⟨#[]⟩⟩, ⟨8, 0, 0, ⟨#[]⟩⟩] #[.int .i64 6, .int .i64 0, .int .i64 0, .string ⟨#[]⟩, .int .i64 0, .int .i64 0, .int .i64 0, .string t2, .int .i64 11, .int .i64 0, .int .i64 0, .string ⟨#[]⟩, .int .i64 7, .int .i64 0, .int .i64 0, .string ⟨#[]⟩, .int .i64 14, .int .i64 delay, .int .i64 0, .string ⟨#[]⟩, .int .i64 0, .int .i64 0, .int .i64 0, .string t5, .int .i64 11, .int .i64 0, .int .i64 0, .string ⟨#[]⟩, .int .i64 8, .int .i64 0, .int .i64 0, .string ⟨#[]⟩] rfl (by simp)
  have hb9 := hb7.alloc hb7.size (.cells #[.int .i64 6, .int .i64 0, .int .i64 0, .string ⟨#[]⟩, .int .i64 0, .int .i64 0, .int .i64 0, .string t2, .int .i64 11, .int .i64 0, .int .i64 0, .string ⟨#[]⟩, .int .i64 7, .int .i64 0, .int .i64 0, .string ⟨#[]⟩, .int .i64 14, .int .i64 delay, .int .i64 0, .string ⟨#[]⟩, .int .i64 0, .int .i64 0, .int .i64 0, .string t5, .int .i64 11, .int .i64 0, .int .i64 0, .string ⟨#[]⟩, .int .i64 8, .int .i64 0, .int .i64 0, .string ⟨#[]⟩] 54 (0, 0))
  clear hb7
  go_wp2
  go_ret
  exact ⟨_, _, rfl, ol, hb9⟩
set_option maxRecDepth 100000 in
set_option maxHeartbeats 3200000 in
theorem LockTimed_any (d payee height payer : Int) (w : World) (d0 : 0 ≤ d) (d1 : d ≤ 4294967295) : Calls Try.prog 27 #[.int .i64 d, .int .i64 payee, .int .i64 height, .int .i64 payer] w (LockR w) := by
  have H1 : (decide (0 ≤ d) && decide (d ≤ 4294967295)) = true := by simp [d0, d1]
  have hbe := @Gr.kok_bd payee
  have hbr := @Gr.kok_bd payer
  go_enter Try.func27, Try.ntmps27
  go_wp2_with fail
  refine (l6In_any d 0 4294967295 _).mono ?_
  rintro e w1 ⟨rfl, hw1⟩
  have hb1 : Below w.heap.size w w1 := by rw [hw1]; exact Below.refl _ _
  clear hw1
  go_wp2_with fail
  refine (specKeyOk_any payee _).mono ?_
  rintro e w2 ⟨rfl, hw2⟩
  have hb2 : Below w.heap.size w w2 := by rw [hw2]; first | exact hb1 | exact Below.refl _ _
  clear hw2
  obtain ⟨f2, HF2⟩ : ∃ f, Hid (Gr.kok payee = f) := ⟨_, Lib.hid rfl⟩
  rw [HF2.out] at hbe ⊢
  clear HF2
  cases f2
  · clear hbe
    go_wp2
    go_ret2
    exact ⟨⟨#[]⟩, false, rfl, by decide, hb2⟩
  replace hbe := hbe rfl
  go_wp2_with fail
  refine (specKeyOk_any payer _).mono ?_
  rintro e w3 ⟨rfl, hw3⟩
  have hb3 : Below w.heap.size w w3 := by rw [hw3]; first | exact hb2 | exact Below.refl _ _
  clear hw3
  obtain ⟨f3, HF3⟩ : ∃ f, Hid (Gr.kok payer = f) := ⟨_, Lib.hid rfl⟩
  rw [HF3.out] at hbr ⊢
  clear HF3
  cases f3
  · clear hbr
    go_wp2
    go_ret2
    exact ⟨⟨#[]⟩, false, rfl, by decide, hb3⟩
  replace hbr := hbr rfl
  go_wp2_with fail
  refine (l6In_any height 0 9999 _).mono ?_
  rintro e w4 ⟨rfl, hw4⟩
  have hb4 : Below w.heap.size w w4 := by rw [← hw4]; exact hb3
  clear hw4
  obtain ⟨g4, HG4⟩ : ∃ g, Hid ((decide (0 ≤ height) && decide (height ≤ 9999)) = g) := ⟨_, Lib.hid rfl⟩
  rw [HG4.out]
  clear HG4
  cases g4
  · go_wp2
    go_ret2
    exact ⟨⟨#[]⟩, false, rfl, by decide, hb4⟩
  go_wp2_with fail
  refine (l12Timed_any d payee height payer _ d0 d1 hbe.1 hbe.2 hbr.1 hbr.2).mono ?_
  rintro e w5 ⟨b, l, rfl, ol, hb5⟩
  replace hb5 := below_aft9 hb4 hb5
  go_wp2_with fail
  refine (l12Lock_any _ 12 12 _ _ ol (by decide)).mono ?_
  rintro e wz ⟨s, ok, rfl, hs, hbz⟩
  replace hbz := below_aft9 hb5 hbz
  clear hb5 ol
  go_wp2
  go_ret2
  exact ⟨s, ok, rfl, hs, hbz⟩
set_option maxRecDepth 100000 in
set_option maxHeartbeats 3200000 in
theorem LockRevocable_any (revoke delay owner : Int) (w : World) : Calls Try.prog 30 #[.int .i64 revoke, .int .i64 delay, .int .i64 owner] w (LockR w) := by
  have hbe := @Gr.kok_bd revoke
  have hbr := @Gr.kok_bd owner
  have hb0 := Below.refl w.heap.size w
  go_enter Try.func30, Try.ntmps30
  go_wp2_with fail
  refine (specKeyOk_any revoke _).mono ?_
  rintro e w1 ⟨rfl, hw1⟩
  have hb1 : Below w.heap.size w w1 := by rw [hw1]; first | exact hb0 | exact Below.refl _ _
  clear hw1
  obtain ⟨f1, HF1⟩ : ∃ f, Hid (Gr.kok revoke = f) := ⟨_, Lib.hid rfl⟩
  rw [HF1.out] at hbe ⊢
  clear HF1
  cases f1
  · clear hbe
    go_wp2
    go_ret2
    exact ⟨⟨#[]⟩, false, rfl, by decide, hb1⟩
  replace hbe := hbe rfl
  go_wp2_with fail
  refine (specKeyOk_any owner _).mono ?_
  rintro e w2 ⟨rfl, hw2⟩
  have hb2 : Below w.heap.size w w2 := by rw [hw2]; first | exact hb1 | exact Below.refl _ _
  clear hw2
  obtain ⟨f2, HF2⟩ : ∃ f, Hid (Gr.kok owner = f) := ⟨_, Lib.hid rfl⟩
  rw [HF2.out] at hbr ⊢
  clear HF2
  cases f2
  · clear hbr
    go_wp2
    go_ret2
    exact ⟨⟨#[]⟩, false, rfl, by decide, hb2⟩
  replace hbr := hbr rfl
  go_wp2_with fail
  refine (l6In_any delay 1 99 _).mono ?_
  rintro e w3 ⟨rfl, hw3⟩
  have hb3 : Below w.heap.size w w3 := by rw [← hw3]; exact hb2
  clear hw3
  obtain ⟨g3, HG3⟩ : ∃ g, Hid ((decide (1 ≤ delay) && decide (delay ≤ 99)) = g) := ⟨_, Lib.hid rfl⟩
  rw [HG3.out]
  clear HG3
  cases g3
  · go_wp2
    go_ret2
    exact ⟨⟨#[]⟩, false, rfl, by decide, hb3⟩
  go_wp2_with fail
  refine (l12Revocable_any revoke delay owner _ hbe.1 hbe.2 hbr.1 hbr.2).mono ?_
  rintro e w4 ⟨b, l, rfl, ol, hb4⟩
  replace hb4 := below_aft9 hb3 hb4
  go_wp2_with fail
  refine (l12Lock_any _ 8 8 _ _ ol (by decide)).mono ?_
  rintro e wz ⟨s, ok, rfl, hs, hbz⟩
  replace hbz := below_aft9 hb4 hbz
  clear hb4 ol
  go_wp2
  go_ret2
  exact ⟨s, ok, rfl, hs, hbz⟩
end Go.Proofs.Ytoocibabceeagaa
