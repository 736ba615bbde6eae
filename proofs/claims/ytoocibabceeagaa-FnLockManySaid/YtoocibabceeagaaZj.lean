/-
  Locks of the model, whole.
-/
import Derived.Test.YtoocibabceeagaaZa
import Derived.Test.YtoocibabceeagaaUa
namespace Go.Proofs.Ytoocibabceeagaa
open Go.RowKit

/-- The bytes of operations are handed back. -/
def LkR (l : List Jo) (w : World) (e : Ending) (w' : World) : Prop := e = .returned (.tuple #[.string (Jo.bs l), .bool (Jo.ok l)]) ∧ Below w.heap.size w w'
/-- Nothing is handed back. -/
def LkN (w : World) (e : Ending) (w' : World) : Prop := e = .returned (.tuple #[.string ⟨#[]⟩, .bool false]) ∧ Below w.heap.size w w'
set_option maxRecDepth 100000 in
set_option maxHeartbeats 3200000 in
theorem l12Lock_eq (a : Option Addr) (len cap : Nat) (l : List Jo) (w : World) (h : OL w a len l) (hm : len ≤ 100) :
    Calls Try.prog 42 #[.slice a len cap] w (LkR l w) := by
  have hcon := specScriptBytes_any a len cap l w h (by omega)
  unfold LkR
  generalize Jo.bs l = X at hcon ⊢
  generalize Jo.ok l = f at hcon ⊢
  clear h
  go_enter Try.func42, Try.ntmps42
  go_wp2_with fail
  refine hcon.mono ?_
  rintro e w2 ⟨rfl, hb2⟩
  go_wp2
  go_ret2
  exact ⟨rfl, hb2⟩
set_option maxRecDepth 100000 in
set_option maxHeartbeats 3200000 in
theorem l12Timed_eq (d payee height payer : Int) (w : World) (d0 : 0 ≤ d) (d1 : d ≤ 4294967295) (payee0 : 0 ≤ payee) (payee1 : payee ≤ 4294967295) (payer0 : 0 ≤ payer) (payer1 : payer ≤ 4294967295) :
    Calls Try.prog 53 #[.int .i64 d, .int .i64 payee, .int .i64 height, .int .i64 payer] w fun e w' => ∃ b, e = .returned (.slice (some ⟨b, 0, none⟩) 12 12) ∧ OL w' (some ⟨b, 0, none⟩) 12 (Lk.timed d payee height payer) ∧ Below w.heap.size w w' := by
  unfold Lk.timed Lk.push Lk.code
  have hpd := fun W => l12Push_any d W (by omega) (by omega)
  obtain ⟨td, HTd⟩ : ∃ t, Hid (Dg.bytes d = t) := ⟨_, Lib.hid rfl⟩
  rw [HTd.out] at hpd ⊢
  clear HTd
  have hppayee := fun W => l12Push_any payee W (by omega) (by omega)
  obtain ⟨tpayee, HTpayee⟩ : ∃ t, Hid (Dg.bytes payee = t) := ⟨_, Lib.hid rfl⟩
  rw [HTpayee.out] at hppayee ⊢
  clear HTpayee
  have hppayer := fun W => l12Push_any payer W (by omega) (by omega)
  obtain ⟨tpayer, HTpayer⟩ : ∃ t, Hid (Dg.bytes payer = t) := ⟨_, Lib.hid rfl⟩
  rw [HTpayer.out] at hppayer ⊢
  clear HTpayer
  clear d0 d1 payee0 payee1 payer0 payer1
  go_enter Try.func53, Try.ntmps53
  go_wp2_with fail
  refine (l12Code_any 6 _).mono ?_
  rintro e v1 ⟨rfl, hc1⟩
  go_wp2_with fail
  refine (l12Code_any 10 _).mono ?_
  rintro e v2 ⟨rfl, hc2⟩
  have hd2 := below_aft9 hc1 hc2
  clear hc1 hc2
  go_wp2_with fail
  refine (hpd _).mono ?_
  rintro e v3 ⟨rfl, hc3⟩
  have hd3 := below_aft9 hd2 hc3
  clear hd2 hc3
  go_wp2_with fail
  refine (l12Code_any 4 _).mono ?_
  rintro e v4 ⟨rfl, hc4⟩
  have hd4 := below_aft9 hd3 hc4
  clear hd3 hc4
  go_wp2_with fail
  refine (l12Code_any 9 _).mono ?_
  rintro e v5 ⟨rfl, hc5⟩
  have hd5 := below_aft9 hd4 hc5
  clear hd4 hc5
  go_wp2_with fail
  refine (hppayee _).mono ?_
  rintro e v6 ⟨rfl, hc6⟩
  have hd6 := below_aft9 hd5 hc6
  clear hd5 hc6
  go_wp2_with fail
  refine (l12Code_any 11 _).mono ?_
  rintro e v7 ⟨rfl, hc7⟩
  have hd7 := below_aft9 hd6 hc7
  clear hd6 hc7
  go_wp2_with fail
  refine (l12Code_any 7 _).mono ?_
  rintro e v8 ⟨rfl, hc8⟩
  have hd8 := below_aft9 hd7 hc8
  clear hd7 hc8
  go_wp2_with fail
  refine (hppayer _).mono ?_
  rintro e v9 ⟨rfl, hc9⟩
  have hd9 := below_aft9 hd8 hc9
  clear hd8 hc9
  go_wp2_with fail
  refine (l12Code_any 11 _).mono ?_
  rintro e v10 ⟨rfl, hc10⟩
  have hd10 := below_aft9 hd9 hc10
  clear hd9 hc10
  go_wp2_with fail
  refine (l12Code_any 8 _).mono ?_
  rintro e v11 ⟨rfl, hc11⟩
  have hd11 := below_aft9 hd10 hc11
  clear hd10 hc11
  have ol := OL.new v11 [⟨6, 0, 0, ⟨#[]⟩⟩, ⟨10, 0, 0, ⟨#[]⟩⟩, ⟨0, 0, 0, td⟩, ⟨4, 0, 0, ⟨#[]⟩⟩, ⟨9, 0, 0, ⟨#[]⟩⟩, ⟨0, 0, 0, tpayee⟩, ⟨11, 0, 0, ⟨#[]⟩⟩, ⟨7, 0, 0, ⟨#[]⟩⟩, ⟨13, height, 0, ⟨#[]⟩⟩, ⟨0, 0, 0, tpayer⟩, ⟨11, 0, 0, ⟨#[]⟩⟩, ⟨8, 0, 0, ⟨#[]⟩⟩] #[.int .i64 6, .int .i64 0, .int .i64 0, .string ⟨#[]⟩, .int .i64 10, .int .i64 0, .int .i64 0, .string ⟨#[]⟩, .int .i64 0, .int .i64 0, .int .i64 0, .string td, .int .i64 4, .int .i64 0, .int .i64 0, .string ⟨#[]⟩, .int .i64 9, .int .i64 0, .int .i64 0, .string ⟨#[]⟩, .int .i64 0, .int .i64 0, .int .i64 0, .string tpayee, .int .i64 11, .int .i64 0, .int .i64 0, .string ⟨#[]⟩, .int .i64 7, .int .i64 0, .int .i64 0, .string ⟨#[]⟩, .int .i64 13, .int .i64 height, .int .i64 0, .string ⟨#[]⟩, .int .i64 0, .int .i64 0, .int .i64 0, .string tpayer, .int .i64 11, .int .i64 0, .int .i64 0, .string ⟨#[]⟩, .int .i64 8, .int .i64 0, .int .i64 0, .string ⟨#[]⟩] rfl (by simp)
  have hb9 := hd11.alloc hd11.size (.cells #[.int .i64 6, .int .i64 0, .int .i64 0, .string ⟨#[]⟩, .int .i64 10, .int .i64 0, .int .i64 0, .string ⟨#[]⟩, .int .i64 0, .int .i64 0, .int .i64 0, .string td, .int .i64 4, .int .i64 0, .int .i64 0, .string ⟨#[]⟩, .int .i64 9, .int .i64 0, .int .i64 0, .string ⟨#[]⟩, .int .i64 0, .int .i64 0, .int .i64 0, .string tpayee, .int .i64 11, .int .i64 0, .int .i64 0, .string ⟨#[]⟩, .int .i64 7, .int .i64 0, .int .i64 0, .string ⟨#[]⟩, .int .i64 13, .int .i64 height, .int .i64 0, .string ⟨#[]⟩, .int .i64 0, .int .i64 0, .int .i64 0, .string tpayer, .int .i64 11, .int .i64 0, .int .i64 0, .string ⟨#[]⟩, .int .i64 8, .int .i64 0, .int .i64 0, .string ⟨#[]⟩] 54 (0, 0))
  clear hd11
  go_wp2
  go_ret
  exact ⟨_, rfl, ol, hb9⟩
set_option maxRecDepth 100000 in
set_option maxHeartbeats 3200000 in
theorem l12Revocable_eq (revoke delay owner : Int) (w : World) (revoke0 : 0 ≤ revoke) (revoke1 : revoke ≤ 4294967295) (owner0 : 0 ≤ owner) (owner1 : owner ≤ 4294967295) :
    Calls Try.prog 54 #[.int .i64 revoke, .int .i64 delay, .int .i64 owner] w fun e w' => ∃ b, e = .returned (.slice (some ⟨b, 0, none⟩) 8 8) ∧ OL w' (some ⟨b, 0, none⟩) 8 (Lk.revocable revoke delay owner) ∧ Below w.heap.size w w' := by
  unfold Lk.revocable Lk.push Lk.code
  have hprevoke := fun W => l12Push_any revoke W (by omega) (by omega)
  obtain ⟨trevoke, HTrevoke⟩ : ∃ t, Hid (Dg.bytes revoke = t) := ⟨_, Lib.hid rfl⟩
  rw [HTrevoke.out] at hprevoke ⊢
  clear HTrevoke
  have hpowner := fun W => l12Push_any owner W (by omega) (by omega)
  obtain ⟨towner, HTowner⟩ : ∃ t, Hid (Dg.bytes owner = t) := ⟨_, Lib.hid rfl⟩
  rw [HTowner.out] at hpowner ⊢
  clear HTowner
  clear revoke0 revoke1 owner0 owner1
  go_enter Try.func54, Try.ntmps54
  go_wp2_with fail
  refine (l12Code_any 6 _).mono ?_
  rintro e v1 ⟨rfl, hc1⟩
  go_wp2_with fail
  refine (hprevoke _).mono ?_
  rintro e v2 ⟨rfl, hc2⟩
  have hd2 := below_aft9 hc1 hc2
  clear hc1 hc2
  go_wp2_with fail
  refine (l12Code_any 11 _).mono ?_
  rintro e v3 ⟨rfl, hc3⟩
  have hd3 := below_aft9 hd2 hc3
  clear hd2 hc3
  go_wp2_with fail
  refine (l12Code_any 7 _).mono ?_
  rintro e v4 ⟨rfl, hc4⟩
  have hd4 := below_aft9 hd3 hc4
  clear hd3 hc4
  go_wp2_with fail
  refine (hpowner _).mono ?_
  rintro e v5 ⟨rfl, hc5⟩
  have hd5 := below_aft9 hd4 hc5
  clear hd4 hc5
  go_wp2_with fail
  refine (l12Code_any 11 _).mono ?_
  rintro e v6 ⟨rfl, hc6⟩
  have hd6 := below_aft9 hd5 hc6
  clear hd5 hc6
  go_wp2_with fail
  refine (l12Code_any 8 _).mono ?_
  rintro e v7 ⟨rfl, hc7⟩
  have hd7 := below_aft9 hd6 hc7
  clear hd6 hc7
  have ol := OL.new v7 [⟨6, 0, 0, ⟨#[]⟩⟩, ⟨0, 0, 0, trevoke⟩, ⟨11, 0, 0, ⟨#[]⟩⟩, ⟨7, 0, 0, ⟨#[]⟩⟩, ⟨14, delay, 0, ⟨#[]⟩⟩, ⟨0, 0, 0, towner⟩, ⟨11, 0, 0, ⟨#[]⟩⟩, ⟨8, 0, 0, ⟨#[]⟩⟩] #[.int .i64 6, .int .i64 0, .int .i64 0, .string ⟨#[]⟩, .int .i64 0, .int .i64 0, .int .i64 0, .string trevoke, .int .i64 11, .int .i64 0, .int .i64 0, .string ⟨#[]⟩, .int .i64 7, .int .i64 0, .int .i64 0, .string ⟨#[]⟩, .int .i64 14, .int .i64 delay, .int .i64 0, .string ⟨#[]⟩, .int .i64 0, .int .i64 0, .int .i64 0, .string towner, .int .i64 11, .int .i64 0, .int .i64 0, .string ⟨#[]⟩, .int .i64 8, .int .i64 0, .int .i64 0, .string ⟨#[]⟩] rfl (by simp)
  have hb9 := hd7.alloc hd7.size (.cells #[.int .i64 6, .int .i64 0, .int .i64 0, .string ⟨#[]⟩, .int .i64 0, .int .i64 0, .int .i64 0, .string trevoke, .int .i64 11, .int .i64 0, .int .i64 0, .string ⟨#[]⟩, .int .i64 7, .int .i64 0, .int .i64 0, .string ⟨#[]⟩, .int .i64 14, .int .i64 delay, .int .i64 0, .string ⟨#[]⟩, .int .i64 0, .int .i64 0, .int .i64 0, .string towner, .int .i64 11, .int .i64 0, .int .i64 0, .string ⟨#[]⟩, .int .i64 8, .int .i64 0, .int .i64 0, .string ⟨#[]⟩] 54 (0, 0))
  clear hd7
  go_wp2
  go_ret
  exact ⟨_, rfl, ol, hb9⟩
set_option maxRecDepth 100000 in
set_option maxHeartbeats 3200000 in
theorem LockKey_yes (key : Int) (w : World) (h : Gr.kok key = true) : Calls Try.prog 17 #[.int .i64 key] w (LkR (Lk.key key) w) := by
  obtain ⟨k0, k1⟩ := Gr.kok_bd h
  have hk := fun W => specKeyOk_any key W
  rw [h] at hk
  unfold Lk.key Lk.push Lk.code
  have hpkey := fun W => l12Push_any key W (by omega) (by omega)
  obtain ⟨tkey, HTkey⟩ : ∃ t, Hid (Dg.bytes key = t) := ⟨_, Lib.hid rfl⟩
  rw [HTkey.out] at hpkey ⊢
  clear HTkey
  clear h k0 k1
  go_enter Try.func17, Try.ntmps17
  go_wp2_with fail
  refine (hk _).mono ?_
  rintro e w1 ⟨rfl, hw1⟩
  have hb1 : Below w.heap.size w w1 := by rw [hw1]; exact Below.refl _ _
  clear hw1
  go_wp2_with fail
  refine (hpkey _).mono ?_
  rintro e v1 ⟨rfl, hc1⟩
  have hd1 := below_aft9 hb1 hc1
  clear hb1 hc1
  go_wp2_with fail
  refine (l12Code_any 11 _).mono ?_
  rintro e v2 ⟨rfl, hc2⟩
  have hd2 := below_aft9 hd1 hc2
  clear hd1 hc2
  have ol := OL.new v2 [⟨0, 0, 0, tkey⟩, ⟨11, 0, 0, ⟨#[]⟩⟩] #[.int .i64 0, .int .i64 0, .int .i64 0, .string tkey, .int .i64 11, .int .i64 0, .int .i64 0, .string ⟨#[]⟩] rfl (by simp)
  have hb9 := hd2.alloc hd2.size (.cells #[.int .i64 0, .int .i64 0, .int .i64 0, .string tkey, .int .i64 11, .int .i64 0, .int .i64 0, .string ⟨#[]⟩] 54 (0, 0))
  clear hd2
  go_wp2_with fail
  refine (l12Lock_eq _ 2 2 _ _ ol (by decide)).mono ?_
  rintro e wz ⟨rfl, hbz⟩
  replace hbz := below_aft9 hb9 hbz
  clear hb9 ol
  go_wp2
  go_ret2
  exact ⟨rfl, hbz⟩
theorem LockKey_no (key : Int) (w : World) (h : Gr.kok key = false) : Calls Try.prog 17 #[.int .i64 key] w (LkN w) := by
  have hk := fun W => specKeyOk_any key W
  rw [h] at hk
  clear h
  go_enter Try.func17, Try.ntmps17
  go_wp2_with fail
  refine (hk _).mono ?_
  rintro e w1 ⟨rfl, hw1⟩
  have hb1 : Below w.heap.size w w1 := by rw [hw1]; exact Below.refl _ _
  clear hw1
  go_wp2
  go_ret2
  exact ⟨rfl, hb1⟩
set_option maxRecDepth 100000 in
set_option maxHeartbeats 3200000 in
theorem LockDigest_yes (d : Int) (w : World) (k0 : 0 ≤ d) (k1 : d ≤ 4294967295) : Calls Try.prog 21 #[.int .i64 d] w (LkR (Lk.digest d) w) := by
  have H1 : (decide (0 ≤ d) && decide (d ≤ 4294967295)) = true := by simp [k0, k1]
  have hk := fun W => l6In_any d 0 4294967295 W
  rw [H1] at hk
  unfold Lk.digest Lk.push Lk.code
  have hpd := fun W => l12Push_any d W (by omega) (by omega)
  obtain ⟨td, HTd⟩ : ∃ t, Hid (Dg.bytes d = t) := ⟨_, Lib.hid rfl⟩
  rw [HTd.out] at hpd ⊢
  clear HTd
  clear H1 k0 k1
  go_enter Try.func21, Try.ntmps21
  go_wp2_with fail
  refine (hk _).mono ?_
  rintro e w1 ⟨rfl, hw1⟩
  have hb1 : Below w.heap.size w w1 := by rw [hw1]; exact Below.refl _ _
  clear hw1
  go_wp2_with fail
  refine (l12Code_any 10 _).mono ?_
  rintro e v1 ⟨rfl, hc1⟩
  have hd1 := below_aft9 hb1 hc1
  clear hb1 hc1
  go_wp2_with fail
  refine (hpd _).mono ?_
  rintro e v2 ⟨rfl, hc2⟩
  have hd2 := below_aft9 hd1 hc2
  clear hd1 hc2
  go_wp2_with fail
  refine (l12Code_any 4 _).mono ?_
  rintro e v3 ⟨rfl, hc3⟩
  have hd3 := below_aft9 hd2 hc3
  clear hd2 hc3
  have ol := OL.new v3 [⟨10, 0, 0, ⟨#[]⟩⟩, ⟨0, 0, 0, td⟩, ⟨4, 0, 0, ⟨#[]⟩⟩] #[.int .i64 10, .int .i64 0, .int .i64 0, .string ⟨#[]⟩, .int .i64 0, .int .i64 0, .int .i64 0, .string td, .int .i64 4, .int .i64 0, .int .i64 0, .string ⟨#[]⟩] rfl (by simp)
  have hb9 := hd3.alloc hd3.size (.cells #[.int .i64 10, .int .i64 0, .int .i64 0, .string ⟨#[]⟩, .int .i64 0, .int .i64 0, .int .i64 0, .string td, .int .i64 4, .int .i64 0, .int .i64 0, .string ⟨#[]⟩] 54 (0, 0))
  clear hd3
  go_wp2_with fail
  refine (l12Lock_eq _ 3 3 _ _ ol (by decide)).mono ?_
  rintro e wz ⟨rfl, hbz⟩
  replace hbz := below_aft9 hb9 hbz
  clear hb9 ol
  go_wp2
  go_ret2
  exact ⟨rfl, hbz⟩
theorem LockDigest_no (d : Int) (w : World) (h : ¬ (0 ≤ d ∧ d ≤ 4294967295)) : Calls Try.prog 21 #[.int .i64 d] w (LkN w) := by
  have H1 : (decide (0 ≤ d) && decide (d ≤ 4294967295)) = false := by simpa using fun g : 0 ≤ d => by omega
  have hk := fun W => l6In_any d 0 4294967295 W
  rw [H1] at hk
  clear H1 h
  go_enter Try.func21, Try.ntmps21
  go_wp2_with fail
  refine (hk _).mono ?_
  rintro e w1 ⟨rfl, hw1⟩
  have hb1 : Below w.heap.size w w1 := by rw [hw1]; exact Below.refl _ _
  clear hw1
  go_wp2
  go_ret2
  exact ⟨rfl, hb1⟩
set_option maxRecDepth 100000 in
set_option maxHeartbeats 3200000 in
theorem LockTimed_eq (d payee height payer : Int) (w : World) : Calls Try.prog 27 #[.int .i64 d, .int .i64 payee, .int .i64 height, .int .i64 payer] w fun e w' => (Lk.timedOk d payee height payer = true → LkR (Lk.timed d payee height payer) w e w') ∧ (Lk.timedOk d payee height payer = false → LkN w e w') := by
  have hk0 := fun W => l6In_any d 0 4294967295 W
  obtain ⟨f0, HF0⟩ : ∃ f, Hid ((decide (0 ≤ d) && decide (d ≤ 4294967295)) = f) := ⟨_, Lib.hid rfl⟩
  simp only [HF0.out] at hk0
  have hk1 := fun W => specKeyOk_any payee W
  obtain ⟨f1, HF1⟩ : ∃ f, Hid (Gr.kok payee = f) := ⟨_, Lib.hid rfl⟩
  simp only [HF1.out] at hk1
  have hk2 := fun W => specKeyOk_any payer W
  obtain ⟨f2, HF2⟩ : ∃ f, Hid (Gr.kok payer = f) := ⟨_, Lib.hid rfl⟩
  simp only [HF2.out] at hk2
  have hk3 := fun W => l6In_any height 0 9999 W
  obtain ⟨f3, HF3⟩ : ∃ f, Hid ((decide (0 ≤ height) && decide (height ≤ 9999)) = f) := ⟨_, Lib.hid rfl⟩
  simp only [HF3.out] at hk3
  have hok : Lk.timedOk d payee height payer = (f0 && f1 && f2 && f3) := by unfold Lk.timedOk; rw [HF0.out, HF1.out, HF2.out, HF3.out]
  rw [hok]
  clear hok
  cases f0
  · go_enter Try.func27, Try.ntmps27
    go_wp2_with fail
    refine (hk0 _).mono ?_
    rintro e w0 ⟨rfl, hw0⟩
    have hb0 : Below w.heap.size w w0 := by first | (rw [hw0]; first | exact Below.refl _ _ ) | (rw [← hw0]; first | exact Below.refl _ _ )
    clear hw0
    go_wp2
    go_ret2
    exact ⟨fun h => by simp at h, fun _ => ⟨rfl, hb0⟩⟩
  cases f1
  · go_enter Try.func27, Try.ntmps27
    go_wp2_with fail
    refine (hk0 _).mono ?_
    rintro e w0 ⟨rfl, hw0⟩
    have hb0 : Below w.heap.size w w0 := by first | (rw [hw0]; first | exact Below.refl _ _ ) | (rw [← hw0]; first | exact Below.refl _ _ )
    clear hw0
    go_wp2_with fail
    refine (hk1 _).mono ?_
    rintro e w1 ⟨rfl, hw1⟩
    have hb1 : Below w.heap.size w w1 := by first | (rw [hw1]; first | exact Below.refl _ _ | exact hb0) | (rw [← hw1]; first | exact Below.refl _ _ | exact hb0)
    clear hw1
    go_wp2
    go_ret2
    exact ⟨fun h => by simp at h, fun _ => ⟨rfl, hb1⟩⟩
  cases f2
  · go_enter Try.func27, Try.ntmps27
    go_wp2_with fail
    refine (hk0 _).mono ?_
    rintro e w0 ⟨rfl, hw0⟩
    have hb0 : Below w.heap.size w w0 := by first | (rw [hw0]; first | exact Below.refl _ _ ) | (rw [← hw0]; first | exact Below.refl _ _ )
    clear hw0
    go_wp2_with fail
    refine (hk1 _).mono ?_
    rintro e w1 ⟨rfl, hw1⟩
    have hb1 : Below w.heap.size w w1 := by first | (rw [hw1]; first | exact Below.refl _ _ | exact hb0) | (rw [← hw1]; first | exact Below.refl _ _ | exact hb0)
    clear hw1
    go_wp2_with fail
    refine (hk2 _).mono ?_
    rintro e w2 ⟨rfl, hw2⟩
    have hb2 : Below w.heap.size w w2 := by first | (rw [hw2]; first | exact Below.refl _ _ | exact hb1) | (rw [← hw2]; first | exact Below.refl _ _ | exact hb1)
    clear hw2
    go_wp2
    go_ret2
    exact ⟨fun h => by simp at h, fun _ => ⟨rfl, hb2⟩⟩
  cases f3
  · go_enter Try.func27, Try.ntmps27
    go_wp2_with fail
    refine (hk0 _).mono ?_
    rintro e w0 ⟨rfl, hw0⟩
    have hb0 : Below w.heap.size w w0 := by first | (rw [hw0]; first | exact Below.refl _ _ ) | (rw [← hw0]; first | exact Below.refl _ _ )
    clear hw0
    go_wp2_with fail
    refine (hk1 _).mono ?_
    rintro e w1 ⟨rfl, hw1⟩
    have hb1 : Below w.heap.size w w1 := by first | (rw [hw1]; first | exact Below.refl _ _ | exact hb0) | (rw [← hw1]; first | exact Below.refl _ _ | exact hb0)
    clear hw1
    go_wp2_with fail
    refine (hk2 _).mono ?_
    rintro e w2 ⟨rfl, hw2⟩
    have hb2 : Below w.heap.size w w2 := by first | (rw [hw2]; first | exact Below.refl _ _ | exact hb1) | (rw [← hw2]; first | exact Below.refl _ _ | exact hb1)
    clear hw2
    go_wp2_with fail
    refine (hk3 _).mono ?_
    rintro e w3 ⟨rfl, hw3⟩
    have hb3 : Below w.heap.size w w3 := by first | (rw [hw3]; first | exact Below.refl _ _ | exact hb2) | (rw [← hw3]; first | exact Below.refl _ _ | exact hb2)
    clear hw3
    go_wp2
    go_ret2
    exact ⟨fun h => by simp at h, fun _ => ⟨rfl, hb3⟩⟩
  have hd : 0 ≤ d ∧ d ≤ 4294967295 := by have := HF0.out; simpa using this
  have he := Gr.kok_bd HF1.out
  have hr := Gr.kok_bd HF2.out
  go_enter Try.func27, Try.ntmps27
  go_wp2_with fail
  refine (hk0 _).mono ?_
  rintro e w0 ⟨rfl, hw0⟩
  have hb0 : Below w.heap.size w w0 := by first | (rw [hw0]; first | exact Below.refl _ _ ) | (rw [← hw0]; first | exact Below.refl _ _ )
  clear hw0
  go_wp2_with fail
  refine (hk1 _).mono ?_
  rintro e w1 ⟨rfl, hw1⟩
  have hb1 : Below w.heap.size w w1 := by first | (rw [hw1]; first | exact Below.refl _ _ | exact hb0) | (rw [← hw1]; first | exact Below.refl _ _ | exact hb0)
  clear hw1
  go_wp2_with fail
  refine (hk2 _).mono ?_
  rintro e w2 ⟨rfl, hw2⟩
  have hb2 : Below w.heap.size w w2 := by first | (rw [hw2]; first | exact Below.refl _ _ | exact hb1) | (rw [← hw2]; first | exact Below.refl _ _ | exact hb1)
  clear hw2
  go_wp2_with fail
  refine (hk3 _).mono ?_
  rintro e w3 ⟨rfl, hw3⟩
  have hb3 : Below w.heap.size w w3 := by first | (rw [hw3]; first | exact Below.refl _ _ | exact hb2) | (rw [← hw3]; first | exact Below.refl _ _ | exact hb2)
  clear hw3
  go_wp2_with fail
  refine (l12Timed_eq d payee height payer _ hd.1 hd.2 he.1 he.2 hr.1 hr.2).mono ?_
  rintro e w8 ⟨b, rfl, ol, hb8⟩
  replace hb8 := below_aft9 hb3 hb8
  go_wp2_with fail
  refine (l12Lock_eq _ 12 12 _ _ ol (by decide)).mono ?_
  rintro e wz ⟨rfl, hbz⟩
  replace hbz := below_aft9 hb8 hbz
  clear hb8 ol
  go_wp2
  go_ret2
  exact ⟨fun _ => ⟨rfl, hbz⟩, fun h => by simp at h⟩
set_option maxRecDepth 100000 in
set_option maxHeartbeats 3200000 in
theorem LockRevocable_eq (revoke delay owner : Int) (w : World) : Calls Try.prog 30 #[.int .i64 revoke, .int .i64 delay, .int .i64 owner] w fun e w' => (Lk.revocableOk revoke delay owner = true → LkR (Lk.revocable revoke delay owner) w e w') ∧ (Lk.revocableOk revoke delay owner = false → LkN w e w') := by
  have hk0 := fun W => specKeyOk_any revoke W
  obtain ⟨f0, HF0⟩ : ∃ f, Hid (Gr.kok revoke = f) := ⟨_, Lib.hid rfl⟩
  simp only [HF0.out] at hk0
  have hk1 := fun W => specKeyOk_any owner W
  obtain ⟨f1, HF1⟩ : ∃ f, Hid (Gr.kok owner = f) := ⟨_, Lib.hid rfl⟩
  simp only [HF1.out] at hk1
  have hk2 := fun W => l6In_any delay 1 99 W
  obtain ⟨f2, HF2⟩ : ∃ f, Hid ((decide (1 ≤ delay) && decide (delay ≤ 99)) = f) := ⟨_, Lib.hid rfl⟩
  simp only [HF2.out] at hk2
  have hok : Lk.revocableOk revoke delay owner = (f0 && f1 && f2) := by unfold Lk.revocableOk; rw [HF0.out, HF1.out, HF2.out]
  rw [hok]
  clear hok
  cases f0
  · go_enter Try.func30, Try.ntmps30
    go_wp2_with fail
    refine (hk0 _).mono ?_
    rintro e w0 ⟨rfl, hw0⟩
    have hb0 : Below w.heap.size w w0 := by first | (rw [hw0]; first | exact Below.refl _ _ ) | (rw [← hw0]; first | exact Below.refl _ _ )
    clear hw0
    go_wp2
    go_ret2
    exact ⟨fun h => by simp at h, fun _ => ⟨rfl, hb0⟩⟩
  cases f1
  · go_enter Try.func30, Try.ntmps30
    go_wp2_with fail
    refine (hk0 _).mono ?_
    rintro e w0 ⟨rfl, hw0⟩
    have hb0 : Below w.heap.size w w0 := by first | (rw [hw0]; first | exact Below.refl _ _ ) | (rw [← hw0]; first | exact Below.refl _ _ )
    clear hw0
    go_wp2_with fail
    refine (hk1 _).mono ?_
    rintro e w1 ⟨rfl, hw1⟩
    have hb1 : Below w.heap.size w w1 := by first | (rw [hw1]; first | exact Below.refl _ _ | exact hb0) | (rw [← hw1]; first | exact Below.refl _ _ | exact hb0)
    clear hw1
    go_wp2
    go_ret2
    exact ⟨fun h => by simp at h, fun _ => ⟨rfl, hb1⟩⟩
  cases f2
  · go_enter Try.func30, Try.ntmps30
    go_wp2_with fail
    refine (hk0 _).mono ?_
    rintro e w0 ⟨rfl, hw0⟩
    have hb0 : Below w.heap.size w w0 := by first | (rw [hw0]; first | exact Below.refl _ _ ) | (rw [← hw0]; first | exact Below.refl _ _ )
    clear hw0
    go_wp2_with fail
    refine (hk1 _).mono ?_
    rintro e w1 ⟨rfl, hw1⟩
    have hb1 : Below w.heap.size w w1 := by first | (rw [hw1]; first | exact Below.refl _ _ | exact hb0) | (rw [← hw1]; first | exact Below.refl _ _ | exact hb0)
    clear hw1
    go_wp2_with fail
    refine (hk2 _).mono ?_
    rintro e w2 ⟨rfl, hw2⟩
    have hb2 : Below w.heap.size w w2 := by first | (rw [hw2]; first | exact Below.refl _ _ | exact hb1) | (rw [← hw2]; first | exact Below.refl _ _ | exact hb1)
    clear hw2
    go_wp2
    go_ret2
    exact ⟨fun h => by simp at h, fun _ => ⟨rfl, hb2⟩⟩
  have he := Gr.kok_bd HF0.out
  have hr := Gr.kok_bd HF1.out
  go_enter Try.func30, Try.ntmps30
  go_wp2_with fail
  refine (hk0 _).mono ?_
  rintro e w0 ⟨rfl, hw0⟩
  have hb0 : Below w.heap.size w w0 := by first | (rw [hw0]; first | exact Below.refl _ _ ) | (rw [← hw0]; first | exact Below.refl _ _ )
  clear hw0
  go_wp2_with fail
  refine (hk1 _).mono ?_
  rintro e w1 ⟨rfl, hw1⟩
  have hb1 : Below w.heap.size w w1 := by first | (rw [hw1]; first | exact Below.refl _ _ | exact hb0) | (rw [← hw1]; first | exact Below.refl _ _ | exact hb0)
  clear hw1
  go_wp2_with fail
  refine (hk2 _).mono ?_
  rintro e w2 ⟨rfl, hw2⟩
  have hb2 : Below w.heap.size w w2 := by first | (rw [hw2]; first | exact Below.refl _ _ | exact hb1) | (rw [← hw2]; first | exact Below.refl _ _ | exact hb1)
  clear hw2
  go_wp2_with fail
  refine (l12Revocable_eq revoke delay owner _ he.1 he.2 hr.1 hr.2).mono ?_
  rintro e w8 ⟨b, rfl, ol, hb8⟩
  replace hb8 := below_aft9 hb2 hb8
  go_wp2_with fail
  refine (l12Lock_eq _ 8 8 _ _ ol (by decide)).mono ?_
  rintro e wz ⟨rfl, hbz⟩
  replace hbz := below_aft9 hb8 hbz
  clear hb8 ol
  go_wp2
  go_ret2
  exact ⟨fun _ => ⟨rfl, hbz⟩, fun h => by simp at h⟩
end Go.Proofs.Ytoocibabceeagaa
