/-
  Contracts of the program: locks.
-/
import Derived.Test.YtoocibabceeagabGreatUa
import Derived.Test.YtoocibabceeagabGreatZk
import Derived.Test.YtoocibabceeagabGreatYf
import Derived.Test.YtoocibabceeagabGreatSm
import Derived.Test.YtoocibabceeagabGreatGk
namespace Go.Proofs.YtoocibabceeagabGreat
open Go.RowKit

/-- What a lock's function hands back. -/
def LkQ (ok : Bool) (l : List Jo) (w : World) (e : Ending) (w' : World) : Prop := e = .returned (.tuple #[.string (Lk.s ok l), .bool ok]) ∧ Below w.heap.size w w'
theorem LkQ.no (l : List Jo) {w w' : World} (hb : Below w.heap.size w w') : LkQ false l w (.returned (.tuple #[.string ⟨#[]⟩, .bool false])) w' := ⟨rfl, hb⟩
/-- The bytes of operations: of a script, or none. -/
theorem LkQ.of {ok : Bool} {l : List Jo} {w : World} {e : Ending} {w' : World} (h : Jo.ok l = ok) (hb : e = .returned (.tuple #[.string (Jo.bs l), .bool (Jo.ok l)]) ∧ Below w.heap.size w w') : LkQ ok l w e w' := by
  subst h
  refine ⟨?_, hb.2⟩
  rw [hb.1]
  unfold Lk.s
  cases hc : Jo.ok l
  · rw [Jo.bs_no hc]; rfl
  · rfl
theorem IR.two (W : World) (x y : Int) : IR (W.alloc (.cells #[.int .i64 x, .int .i64 y] 3 (0, 0))) (some ⟨W.heap.size, 0, none⟩) 2 [x, y] :=
  ⟨rfl, fun _ => ⟨W.heap.size, 0, rfl, by simp, fun i hi => (World.cell?_alloc_mark W _ _ _ (0 + i)).trans (by
    match i, hi with
    | 0, _ => rfl
    | 1, _ => rfl)⟩⟩
set_option maxRecDepth 100000 in
set_option maxHeartbeats 3200000 in
theorem areKeys_any (a : Option Addr) (len cap : Nat) (zs : List Int) (w : World) (hz : IR w a len zs) (hlen : len ≤ 9223372036854775807) :
    Calls Tryz.prog 68 #[.slice a len cap] w fun e w' => e = .returned (.bool (zs.all Gr.kok)) ∧ Below w.heap.size w w' := by
  have hzl := hz.1
  have HZ := Lib.hid hz
  have HL := Lib.hid hzl
  obtain ⟨ok, HOK⟩ : ∃ x, Hid (zs.all Gr.kok = x) := ⟨_, Lib.hid rfl⟩
  rw [HOK.out]
  clear hz hzl
  go_enter Tryz.func68, Tryz.ntmps68
  go_wp2
  go_loopw [7] (fun i wr => ∃ (k : Nat), k ≤ len ∧ i = .int .i64 (k : Int) ∧ Hid (∀ j, j < k → Gr.kok (zs.getD j 0) = true) ∧ Below w.heap.size w wr)
    (fun i _ => len - (intOf i).toNat)
  case atStart => exact ⟨0, by omega, rfl, Lib.hid (fun j hj => absurd hj (by omega)), Below.refl _ _⟩
  case round =>
    obtain ⟨k, hk, rfl, HV, hbel⟩ := hrel
    by_cases hlt : k < len
    · obtain ⟨b, off, rfl, _, hc⟩ := (HZ.out.below hbel).2 (by omega)
      have hck := hc k hlt
      obtain ⟨x, HX⟩ : ∃ x, Hid (zs.getD k 0 = x) := ⟨_, Lib.hid rfl⟩
      rw [HX.out] at hck
      have hcon1 := fun W => implKeyOk_any x W
      obtain ⟨f, HF⟩ : ∃ f, Hid (Gr.kok x = f) := ⟨_, Lib.hid rfl⟩
      rw [HF.out] at hcon1
      clear hc
      cases f
      · have HN : Hid (ok = false) := Lib.hid (by rw [← HOK.out]; exact Lk.all_no (zs := zs) (k := k) (by rw [HL.out]; exact hlt) (by rw [HX.out]; exact HF.out))
        go_wp2_with fail
        refine (hcon1 _).mono ?_
        rintro e w1 ⟨rfl, hb1⟩
        have hb2 := hbel.trans (hb1.mono hbel.size)
        clear hb1
        go_wp2
        go_ret
        exact ⟨by rw [HN.out]; rfl, hb2⟩
      · have HV2 : Hid (∀ j, j < k + 1 → Gr.kok (zs.getD j 0) = true) := Lib.hid fun j hj => by
          by_cases hjk : j = k
          · rw [hjk, HX.out]; exact HF.out
          · exact HV.out j (by omega)
        go_wp2_with fail
        refine (hcon1 _).mono ?_
        rintro e w1 ⟨rfl, hb1⟩
        have hb2 := hbel.trans (hb1.mono hbel.size)
        clear hb1 hck
        go_wp2
        go_roundw
        case rel => exact ⟨k + 1, by omega, by simp, HV2, hb2⟩
        case measure => simp [intOf]; omega
    · obtain rfl : k = len := by omega
      have HN : Hid (ok = true) := Lib.hid (by rw [← HOK.out]; exact Lk.all_yes (zs := zs) (fun j hj => HV.out j (by rw [← HL.out]; exact hj)))
      go_wp2
      go_ret
      exact ⟨by rw [HN.out]; rfl, hbel⟩
set_option maxRecDepth 100000 in
set_option maxHeartbeats 3200000 in
theorem pushOf_any (n : Int) (w : World) (h0 : 0 ≤ n) (h1 : n ≤ 4294967295) :
    Calls Tryz.prog 60 #[.int .i64 n] w fun e w' => e = .returned (.agg #[.int .i64 0, .int .i64 0, .int .i64 0, .string (Dg.bytes n)]) ∧ Below w.heap.size w w' := by
  have vR0 := Bk.new w 77 #[.int .i64 0, .int .i64 0, .int .i64 0, .string ⟨#[]⟩]
  have hb0 : Below w.heap.size w (w.alloc (.cells #[.int .i64 0, .int .i64 0, .int .i64 0, .string ⟨#[]⟩] 77 (0, 0))) := (Below.refl _ _).alloc (Nat.le_refl _) _
  go_enter Tryz.func60, Tryz.ntmps60
  go_wp2_with fail
  refine (implDigestBytes_ok n _ h0 h1).mono ?_
  rintro e w2 ⟨rfl, hb2⟩
  have vR2 := vR0.below hb2
  have hbel2 := below_aft9 hb0 hb2
  obtain ⟨r0, r1, r2, r3⟩ := Bk.c4 vR2
  obtain ⟨z0, z1, z2, z3⟩ := vR2.f4
  obtain ⟨t, HT⟩ : ∃ t, Hid (Dg.bytes n = t) := ⟨_, Lib.hid rfl⟩
  simp only [HT.out]
  have vR9 := Bk.store4 vR2 (.int .i64 0) (.int .i64 0) (.int .i64 0) (.string t)
  have hb9 := below_store4 hbel2 w.heap.size (Nat.le_refl _) (.int .i64 0) (.int .i64 0) (.int .i64 0) (.string t)
  clear vR0 hb0 hb2 vR2 hbel2
  go_wp2
  refine bodyPost_ret (results_cell_row (P := Tryz.prog) rfl _ _ w.heap.size 77 _ (0, 0) _ rfl vR9.held Tryz.underlying77 rfl (by kernel_rfl)) rfl ?_
  exact ⟨by rw [HT.out], hb9⟩
set_option maxRecDepth 100000 in
set_option maxHeartbeats 3200000 in
theorem implLockKey_any (key : Int) (w : World) : Calls Tryz.prog 16 #[.int .i64 key] w (LkQ (Gr.kok key) (Lk.key key) w) := by
  have hk := fun W => implKeyOk_any key W
  cases h : Gr.kok key
  · rw [h] at hk
    clear h
    go_enter Tryz.func16, Tryz.ntmps16
    go_wp2_with fail
    refine (hk _).mono ?_
    rintro e w1 ⟨rfl, hb1⟩
    go_wp2
    go_ret2
    exact LkQ.no _ hb1
  rw [h] at hk
  obtain ⟨k0, k1⟩ := Gr.kok_bd h
  have HC : Hid (∀ W a, OL W a 2 (Lk.key key) → Calls Tryz.prog 59 #[.slice a 2 2] W (LkQ true (Lk.key key) W)) := Lib.hid fun W a hO => (implScriptBytes_any a 2 2 _ W hO (by decide)).mono fun e w' hh => LkQ.of (Lk.ok_key key) hh
  unfold LkQ at HC
  have HK : Hid (Lk.key key = [⟨0, 0, 0, Dg.bytes key⟩, ⟨11, 0, 0, ⟨#[]⟩⟩]) := Lib.hid rfl
  have hp := fun W => pushOf_any key W (by omega) (by omega)
  obtain ⟨tk, HT⟩ : ∃ t, Hid (Dg.bytes key = t) := ⟨_, Lib.hid rfl⟩
  rw [HT.out] at hp HK
  obtain ⟨X, HX⟩ : ∃ x, Hid (Lk.s true (Lk.key key) = x) := ⟨_, Lib.hid rfl⟩
  rw [HX.out, HK.out] at HC
  unfold LkQ
  rw [HX.out]
  clear h k0 k1 HK HT HX
  go_enter Tryz.func16, Tryz.ntmps16
  go_wp2_with fail
  refine (hk _).mono ?_
  rintro e w1 ⟨rfl, hb1⟩
  go_wp2_with fail
  refine (hp _).mono ?_
  rintro e w2 ⟨rfl, hc2⟩
  have hd2 := below_aft9 hb1 hc2
  clear hb1 hc2
  have ol := Lib.hid (OL.new w2 [⟨0, 0, 0, tk⟩, ⟨11, 0, 0, ⟨#[]⟩⟩] #[.int .i64 0, .int .i64 0, .int .i64 0, .string tk, .int .i64 11, .int .i64 0, .int .i64 0, .string ⟨#[]⟩] rfl (by simp))
  have hb9 := hd2.alloc hd2.size (.cells #[.int .i64 0, .int .i64 0, .int .i64 0, .string tk, .int .i64 11, .int .i64 0, .int .i64 0, .string ⟨#[]⟩] 77 (0, 0))
  clear hd2
  go_wp2_with fail
  refine (HC.out _ _ ol.out).mono ?_
  rintro e wz ⟨rfl, hbz⟩
  replace hbz := below_aft9 hb9 hbz
  clear hb9 ol
  go_wp2
  go_ret2
  exact ⟨rfl, hbz⟩
set_option maxRecDepth 100000 in
set_option maxHeartbeats 3200000 in
theorem implLockDigest_any (d : Int) (w : World) : Calls Tryz.prog 122 #[.int .i64 d] w (LkQ (decide (0 ≤ d) && decide (d ≤ 4294967295)) (Lk.digest d) w) := by
  have hk := fun W => isDigest_any d W
  cases h : (decide (0 ≤ d) && decide (d ≤ 4294967295))
  · rw [h] at hk
    clear h
    go_enter Tryz.func122, Tryz.ntmps122
    go_wp2_with fail
    refine (hk _).mono ?_
    rintro e w1 ⟨rfl, rfl⟩
    go_wp2
    go_ret2
    exact LkQ.no _ (Below.refl _ _)
  rw [h] at hk
  obtain ⟨k0, k1⟩ : 0 ≤ d ∧ d ≤ 4294967295 := by simpa using h
  have HC : Hid (∀ W a, OL W a 3 (Lk.digest d) → Calls Tryz.prog 59 #[.slice a 3 3] W (LkQ true (Lk.digest d) W)) := Lib.hid fun W a hO => (implScriptBytes_any a 3 3 _ W hO (by decide)).mono fun e w' hh => LkQ.of (Lk.ok_digest d) hh
  unfold LkQ at HC
  have HK : Hid (Lk.digest d = [⟨10, 0, 0, ⟨#[]⟩⟩, ⟨0, 0, 0, Dg.bytes d⟩, ⟨4, 0, 0, ⟨#[]⟩⟩]) := Lib.hid rfl
  have hp := fun W => pushOf_any d W (by omega) (by omega)
  obtain ⟨tk, HT⟩ : ∃ t, Hid (Dg.bytes d = t) := ⟨_, Lib.hid rfl⟩
  rw [HT.out] at hp HK
  obtain ⟨X, HX⟩ : ∃ x, Hid (Lk.s true (Lk.digest d) = x) := ⟨_, Lib.hid rfl⟩
  rw [HX.out, HK.out] at HC
  unfold LkQ
  rw [HX.out]
  clear h k0 k1 HK HT HX
  go_enter Tryz.func122, Tryz.ntmps122
  go_wp2_with fail
  refine (hk _).mono ?_
  rintro e w1 ⟨rfl, rfl⟩
  go_wp2_with fail
  refine (hp _).mono ?_
  rintro e w2 ⟨rfl, hd2⟩
  have ol := Lib.hid (OL.new w2 [⟨10, 0, 0, ⟨#[]⟩⟩, ⟨0, 0, 0, tk⟩, ⟨4, 0, 0, ⟨#[]⟩⟩] #[.int .i64 10, .int .i64 0, .int .i64 0, .string ⟨#[]⟩, .int .i64 0, .int .i64 0, .int .i64 0, .string tk, .int .i64 4, .int .i64 0, .int .i64 0, .string ⟨#[]⟩] rfl (by simp))
  have hb9 := hd2.alloc hd2.size (.cells #[.int .i64 10, .int .i64 0, .int .i64 0, .string ⟨#[]⟩, .int .i64 0, .int .i64 0, .int .i64 0, .string tk, .int .i64 4, .int .i64 0, .int .i64 0, .string ⟨#[]⟩] 77 (0, 0))
  clear hd2
  go_wp2_with fail
  refine (HC.out _ _ ol.out).mono ?_
  rintro e wz ⟨rfl, hbz⟩
  replace hbz := below_aft9 hb9 hbz
  clear hb9 ol
  go_wp2
  go_ret2
  exact ⟨rfl, hbz⟩
set_option maxRecDepth 100000 in
set_option maxHeartbeats 3200000 in
theorem implLockTimed_any (d payee height payer : Int) (w : World) : Calls Tryz.prog 27 #[.int .i64 d, .int .i64 payee, .int .i64 height, .int .i64 payer] w (LkQ (Lk.timedOk d payee height payer) (Lk.timed d payee height payer) w) := by
  have hall : [payee, payer].all Gr.kok = (Gr.kok payee && Gr.kok payer) := by simp
  have hk := fun W => isDigest_any d W
  by_cases hd : 0 ≤ d ∧ d ≤ 4294967295
  case neg =>
    have hno : (decide (0 ≤ d) && decide (d ≤ 4294967295)) = false := Dg.no (by omega)
    have hk0 : Lk.timedOk d payee height payer = false := by unfold Lk.timedOk; rw [hno]; rfl
    rw [hk0]
    rw [hno] at hk
    clear hno hk0 hall hd
    go_enter Tryz.func27, Tryz.ntmps27
    go_wp2_with fail
    refine (hk _).mono ?_
    rintro e w1 ⟨rfl, rfl⟩
    go_wp2
    go_ret2
    exact LkQ.no _ (Below.refl _ _)
  rw [Dg.yes hd.1 hd.2] at hk
  have HAK : Hid (∀ W, IR W (some ⟨w.heap.size, 0, none⟩) 2 [payee, payer] → Calls Tryz.prog 68 #[.slice (some ⟨w.heap.size, 0, none⟩) 2 2] W fun e w' => e = .returned (.bool (Gr.kok payee && Gr.kok payer)) ∧ Below W.heap.size W w') := Lib.hid fun W h => by
    rw [← hall]
    exact areKeys_any _ 2 2 _ W h (by decide)
  have HIR := Lib.hid (IR.two w payee payer)
  have hal := below_alloc (Below.refl w.heap.size w) (.cells #[.int .i64 payee, .int .i64 payer] 3 (0, 0))
  by_cases hkk : (Gr.kok payee && Gr.kok payer) = true
  case neg =>
    have hkf : (Gr.kok payee && Gr.kok payer) = false := by simpa using hkk
    have hk0 : Lk.timedOk d payee height payer = false := by
      unfold Lk.timedOk
      cases h1 : Gr.kok payee
      · simp
      · rw [h1] at hkf; simp only [Bool.true_and] at hkf; rw [hkf]; simp
    rw [hk0]
    rw [hkf] at HAK
    clear hkf hk0 hall hkk
    go_enter Tryz.func27, Tryz.ntmps27
    go_wp2_with fail
    refine (hk _).mono ?_
    rintro e w1 ⟨rfl, rfl⟩
    go_wp2_with fail
    refine (HAK.out _ HIR.out).mono ?_
    rintro e w2 ⟨rfl, hb2⟩
    have hd2 := below_aft9 hal hb2
    clear hb2 hal
    go_wp2
    go_ret2
    exact LkQ.no _ hd2
  rw [hkk] at HAK
  obtain ⟨kk1, kk2⟩ : Gr.kok payee = true ∧ Gr.kok payer = true := by simpa using hkk
  obtain ⟨ka0, ka1⟩ := Gr.kok_bd kk1
  obtain ⟨kb0, kb1⟩ := Gr.kok_bd kk2
  have hok : Lk.timedOk d payee height payer = Jo.ok (Lk.timed d payee height payer) := by
    rw [Lk.ok_timed]
    unfold Lk.timedOk
    rw [Dg.yes hd.1 hd.2, kk1, kk2]
    simp
  have HC : Hid (∀ W a, OL W a 12 (Lk.timed d payee height payer) → Calls Tryz.prog 59 #[.slice a 12 12] W (LkQ (Lk.timedOk d payee height payer) (Lk.timed d payee height payer) W)) := Lib.hid fun W a hO => (implScriptBytes_any a 12 12 _ W hO (by decide)).mono fun e w' hh => LkQ.of hok.symm hh
  unfold LkQ at HC
  have HK : Hid (Lk.timed d payee height payer = [⟨6, 0, 0, ⟨#[]⟩⟩, ⟨10, 0, 0, ⟨#[]⟩⟩, ⟨0, 0, 0, Dg.bytes d⟩, ⟨4, 0, 0, ⟨#[]⟩⟩, ⟨9, 0, 0, ⟨#[]⟩⟩, ⟨0, 0, 0, Dg.bytes payee⟩, ⟨11, 0, 0, ⟨#[]⟩⟩, ⟨7, 0, 0, ⟨#[]⟩⟩, ⟨13, height, 0, ⟨#[]⟩⟩, ⟨0, 0, 0, Dg.bytes payer⟩, ⟨11, 0, 0, ⟨#[]⟩⟩, ⟨8, 0, 0, ⟨#[]⟩⟩]) := Lib.hid rfl
  have hp0 := fun W => pushOf_any d W (by omega) (by omega)
  obtain ⟨td, HT0⟩ : ∃ t, Hid (Dg.bytes d = t) := ⟨_, Lib.hid rfl⟩
  rw [HT0.out] at hp0 HK
  have hp1 := fun W => pushOf_any payee W (by omega) (by omega)
  obtain ⟨te, HT1⟩ : ∃ t, Hid (Dg.bytes payee = t) := ⟨_, Lib.hid rfl⟩
  rw [HT1.out] at hp1 HK
  have hp2 := fun W => pushOf_any payer W (by omega) (by omega)
  obtain ⟨tr, HT2⟩ : ∃ t, Hid (Dg.bytes payer = t) := ⟨_, Lib.hid rfl⟩
  rw [HT2.out] at hp2 HK
  obtain ⟨X, HX⟩ : ∃ x, Hid (Lk.s (Lk.timedOk d payee height payer) (Lk.timed d payee height payer) = x) := ⟨_, Lib.hid rfl⟩
  rw [HX.out, HK.out] at HC
  unfold LkQ
  rw [HX.out]
  obtain ⟨okv, HOV⟩ : ∃ x, Hid (Lk.timedOk d payee height payer = x) := ⟨_, Lib.hid rfl⟩
  rw [HOV.out] at HC ⊢
  clear HK HX HOV hok kk1 kk2 ka0 ka1 kb0 kb1 hkk hall HT0 HT1 HT2 hd
  go_enter Tryz.func27, Tryz.ntmps27
  go_wp2_with fail
  refine (hk _).mono ?_
  rintro e w1 ⟨rfl, rfl⟩
  go_wp2_with fail
  refine (HAK.out _ HIR.out).mono ?_
  rintro e w2 ⟨rfl, hb2⟩
  have hd2 := below_aft9 hal hb2
  clear hb2 hal HAK HIR
  go_wp2_with fail
  refine (hp0 _).mono ?_
  rintro e v0 ⟨rfl, hc⟩
  have he0 := below_aft9 hd2 hc
  clear hd2 hc
  go_wp2_with fail
  refine (hp1 _).mono ?_
  rintro e v1 ⟨rfl, hc⟩
  have he1 := below_aft9 he0 hc
  clear he0 hc
  go_wp2_with fail
  refine (hp2 _).mono ?_
  rintro e v2 ⟨rfl, hc⟩
  have he2 := below_aft9 he1 hc
  clear he1 hc
  have ol := Lib.hid (OL.new v2 [⟨6, 0, 0, ⟨#[]⟩⟩, ⟨10, 0, 0, ⟨#[]⟩⟩, ⟨0, 0, 0, td⟩, ⟨4, 0, 0, ⟨#[]⟩⟩, ⟨9, 0, 0, ⟨#[]⟩⟩, ⟨0, 0, 0, te⟩, ⟨11, 0, 0, ⟨#[]⟩⟩, ⟨7, 0, 0, ⟨#[]⟩⟩, ⟨13, height, 0, ⟨#[]⟩⟩, ⟨0, 0, 0, tr⟩, ⟨11, 0, 0, ⟨#[]⟩⟩, ⟨8, 0, 0, ⟨#[]⟩⟩] #[.int .i64 6, .int .i64 0, .int .i64 0, .string ⟨#[]⟩, .int .i64 10, .int .i64 0, .int .i64 0, .string ⟨#[]⟩, .int .i64 0, .int .i64 0, .int .i64 0, .string td, .int .i64 4, .int .i64 0, .int .i64 0, .string ⟨#[]⟩, .int .i64 9, .int .i64 0, .int .i64 0, .string ⟨#[]⟩, .int .i64 0, .int .i64 0, .int .i64 0, .string te, .int .i64 11, .int .i64 0, .int .i64 0, .string ⟨#[]⟩, .int .i64 7, .int .i64 0, .int .i64 0, .string ⟨#[]⟩, .int .i64 13, .int .i64 height, .int .i64 0, .string ⟨#[]⟩, .int .i64 0, .int .i64 0, .int .i64 0, .string tr, .int .i64 11, .int .i64 0, .int .i64 0, .string ⟨#[]⟩, .int .i64 8, .int .i64 0, .int .i64 0, .string ⟨#[]⟩] rfl (by simp))
  have hb9 := he2.alloc he2.size (.cells #[.int .i64 6, .int .i64 0, .int .i64 0, .string ⟨#[]⟩, .int .i64 10, .int .i64 0, .int .i64 0, .string ⟨#[]⟩, .int .i64 0, .int .i64 0, .int .i64 0, .string td, .int .i64 4, .int .i64 0, .int .i64 0, .string ⟨#[]⟩, .int .i64 9, .int .i64 0, .int .i64 0, .string ⟨#[]⟩, .int .i64 0, .int .i64 0, .int .i64 0, .string te, .int .i64 11, .int .i64 0, .int .i64 0, .string ⟨#[]⟩, .int .i64 7, .int .i64 0, .int .i64 0, .string ⟨#[]⟩, .int .i64 13, .int .i64 height, .int .i64 0, .string ⟨#[]⟩, .int .i64 0, .int .i64 0, .int .i64 0, .string tr, .int .i64 11, .int .i64 0, .int .i64 0, .string ⟨#[]⟩, .int .i64 8, .int .i64 0, .int .i64 0, .string ⟨#[]⟩] 77 (0, 0))
  clear he2
  go_wp2_with fail
  refine (HC.out _ _ ol.out).mono ?_
  rintro e wz ⟨rfl, hbz⟩
  replace hbz := below_aft9 hb9 hbz
  clear hb9 ol
  go_wp2
  go_ret2
  exact ⟨rfl, hbz⟩
set_option maxRecDepth 100000 in
set_option maxHeartbeats 3200000 in
theorem implLockRevocable_any (revoke delay owner : Int) (w : World) : Calls Tryz.prog 33 #[.int .i64 revoke, .int .i64 delay, .int .i64 owner] w (LkQ (Lk.revocableOk revoke delay owner) (Lk.revocable revoke delay owner) w) := by
  have hall : [revoke, owner].all Gr.kok = (Gr.kok revoke && Gr.kok owner) := by simp
  have HAK : Hid (∀ W, IR W (some ⟨w.heap.size, 0, none⟩) 2 [revoke, owner] → Calls Tryz.prog 68 #[.slice (some ⟨w.heap.size, 0, none⟩) 2 2] W fun e w' => e = .returned (.bool (Gr.kok revoke && Gr.kok owner)) ∧ Below W.heap.size W w') := Lib.hid fun W h => by
    rw [← hall]
    exact areKeys_any _ 2 2 _ W h (by decide)
  have HIR := Lib.hid (IR.two w revoke owner)
  have hal := below_alloc (Below.refl w.heap.size w) (.cells #[.int .i64 revoke, .int .i64 owner] 3 (0, 0))
  by_cases hkk : (Gr.kok revoke && Gr.kok owner) = true
  case neg =>
    have hkf : (Gr.kok revoke && Gr.kok owner) = false := by simpa using hkk
    have hk0 : Lk.revocableOk revoke delay owner = false := by
      unfold Lk.revocableOk
      cases h1 : Gr.kok revoke
      · simp
      · rw [h1] at hkf; simp only [Bool.true_and] at hkf; rw [hkf]; simp
    rw [hk0]
    rw [hkf] at HAK
    clear hkf hk0 hall hkk
    go_enter Tryz.func33, Tryz.ntmps33
    go_wp2_with fail
    refine (HAK.out _ HIR.out).mono ?_
    rintro e w2 ⟨rfl, hb2⟩
    have hd2 := below_aft9 hal hb2
    clear hb2 hal
    go_wp2
    go_ret2
    exact LkQ.no _ hd2
  rw [hkk] at HAK
  obtain ⟨kk1, kk2⟩ : Gr.kok revoke = true ∧ Gr.kok owner = true := by simpa using hkk
  obtain ⟨ka0, ka1⟩ := Gr.kok_bd kk1
  obtain ⟨kb0, kb1⟩ := Gr.kok_bd kk2
  have hok : Lk.revocableOk revoke delay owner = Jo.ok (Lk.revocable revoke delay owner) := by
    rw [Lk.ok_revocable]
    unfold Lk.revocableOk
    rw [kk1, kk2]
    simp
  have HC : Hid (∀ W a, OL W a 8 (Lk.revocable revoke delay owner) → Calls Tryz.prog 59 #[.slice a 8 8] W (LkQ (Lk.revocableOk revoke delay owner) (Lk.revocable revoke delay owner) W)) := Lib.hid fun W a hO => (implScriptBytes_any a 8 8 _ W hO (by decide)).mono fun e w' hh => LkQ.of hok.symm hh
  unfold LkQ at HC
  have HK : Hid (Lk.revocable revoke delay owner = [⟨6, 0, 0, ⟨#[]⟩⟩, ⟨0, 0, 0, Dg.bytes revoke⟩, ⟨11, 0, 0, ⟨#[]⟩⟩, ⟨7, 0, 0, ⟨#[]⟩⟩, ⟨14, delay, 0, ⟨#[]⟩⟩, ⟨0, 0, 0, Dg.bytes owner⟩, ⟨11, 0, 0, ⟨#[]⟩⟩, ⟨8, 0, 0, ⟨#[]⟩⟩]) := Lib.hid rfl
  have hp0 := fun W => pushOf_any revoke W (by omega) (by omega)
  obtain ⟨tv, HT0⟩ : ∃ t, Hid (Dg.bytes revoke = t) := ⟨_, Lib.hid rfl⟩
  rw [HT0.out] at hp0 HK
  have hp1 := fun W => pushOf_any owner W (by omega) (by omega)
  obtain ⟨to, HT1⟩ : ∃ t, Hid (Dg.bytes owner = t) := ⟨_, Lib.hid rfl⟩
  rw [HT1.out] at hp1 HK
  obtain ⟨X, HX⟩ : ∃ x, Hid (Lk.s (Lk.revocableOk revoke delay owner) (Lk.revocable revoke delay owner) = x) := ⟨_, Lib.hid rfl⟩
  rw [HX.out, HK.out] at HC
  unfold LkQ
  rw [HX.out]
  obtain ⟨okv, HOV⟩ : ∃ x, Hid (Lk.revocableOk revoke delay owner = x) := ⟨_, Lib.hid rfl⟩
  rw [HOV.out] at HC ⊢
  clear HK HX HOV hok kk1 kk2 ka0 ka1 kb0 kb1 hkk hall HT0 HT1
  go_enter Tryz.func33, Tryz.ntmps33
  go_wp2_with fail
  refine (HAK.out _ HIR.out).mono ?_
  rintro e w2 ⟨rfl, hb2⟩
  have hd2 := below_aft9 hal hb2
  clear hb2 hal HAK HIR
  go_wp2_with fail
  refine (hp0 _).mono ?_
  rintro e v0 ⟨rfl, hc⟩
  have he0 := below_aft9 hd2 hc
  clear hd2 hc
  go_wp2_with fail
  refine (hp1 _).mono ?_
  rintro e v1 ⟨rfl, hc⟩
  have he1 := below_aft9 he0 hc
  clear he0 hc
  have ol := Lib.hid (OL.new v1 [⟨6, 0, 0, ⟨#[]⟩⟩, ⟨0, 0, 0, tv⟩, ⟨11, 0, 0, ⟨#[]⟩⟩, ⟨7, 0, 0, ⟨#[]⟩⟩, ⟨14, delay, 0, ⟨#[]⟩⟩, ⟨0, 0, 0, to⟩, ⟨11, 0, 0, ⟨#[]⟩⟩, ⟨8, 0, 0, ⟨#[]⟩⟩] #[.int .i64 6, .int .i64 0, .int .i64 0, .string ⟨#[]⟩, .int .i64 0, .int .i64 0, .int .i64 0, .string tv, .int .i64 11, .int .i64 0, .int .i64 0, .string ⟨#[]⟩, .int .i64 7, .int .i64 0, .int .i64 0, .string ⟨#[]⟩, .int .i64 14, .int .i64 delay, .int .i64 0, .string ⟨#[]⟩, .int .i64 0, .int .i64 0, .int .i64 0, .string to, .int .i64 11, .int .i64 0, .int .i64 0, .string ⟨#[]⟩, .int .i64 8, .int .i64 0, .int .i64 0, .string ⟨#[]⟩] rfl (by simp))
  have hb9 := he1.alloc he1.size (.cells #[.int .i64 6, .int .i64 0, .int .i64 0, .string ⟨#[]⟩, .int .i64 0, .int .i64 0, .int .i64 0, .string tv, .int .i64 11, .int .i64 0, .int .i64 0, .string ⟨#[]⟩, .int .i64 7, .int .i64 0, .int .i64 0, .string ⟨#[]⟩, .int .i64 14, .int .i64 delay, .int .i64 0, .string ⟨#[]⟩, .int .i64 0, .int .i64 0, .int .i64 0, .string to, .int .i64 11, .int .i64 0, .int .i64 0, .string ⟨#[]⟩, .int .i64 8, .int .i64 0, .int .i64 0, .string ⟨#[]⟩] 77 (0, 0))
  clear he1
  go_wp2_with fail
  refine (HC.out _ _ ol.out).mono ?_
  rintro e wz ⟨rfl, hbz⟩
  replace hbz := below_aft9 hb9 hbz
  clear hb9 ol
  go_wp2
  go_ret2
  exact ⟨rfl, hbz⟩
set_option maxRecDepth 100000 in
set_option maxHeartbeats 3200000 in
theorem implLockMany_any (need : Int) (a : Option Addr) (len cap : Nat) (zs : List Int) (w : World) (hz : IR w a len zs) (hlen : len ≤ 9223372036854775807) :
    Calls Tryz.prog 23 #[.int .i64 need, .slice a len cap] w (LkQ (Lk.manyOk need zs) (Lk.many need zs) w) := by
  obtain ⟨i0, hi, hz0, hz1, hz2⟩ := info_parts info_op
  have hzl := hz.1
  have HZ := Lib.hid hz
  have HL := Lib.hid hzl
  by_cases h5 : len ≤ 5
  case neg =>
    have hno : Lk.manyOk need zs = false := by
      cases hc : Lk.manyOk need zs
      · rfl
      · have := Lk.many_short hc
        omega
    rw [hno]
    have hg : decide ((5 : Int) < (len : Int)) = true := by simp; omega
    clear hno hz hzl hi hz0 hz1 hz2
    go_enter Tryz.func23, Tryz.ntmps23
    go_wp2
    go_ret2
    exact LkQ.no _ (Below.refl _ _)
  have hg : decide ((5 : Int) < (len : Int)) = false := by simp; omega
  have hak := fun W h => areKeys_any a len cap zs W h (by omega)
  by_cases hall : zs.all Gr.kok = true
  case neg =>
    have hf : zs.all Gr.kok = false := by simpa using hall
    have hno : Lk.manyOk need zs = false := by unfold Lk.manyOk; rw [hf, Bool.and_false]
    rw [hno]
    rw [hf] at hak
    clear hno hf hall hzl hi hz0 hz1 hz2
    have HAK := Lib.hid hak
    clear hak hz
    go_enter Tryz.func23, Tryz.ntmps23
    go_wp2_with fail
    refine (HAK.out _ HZ.out).mono ?_
    rintro e w1 ⟨rfl, hb1⟩
    go_wp2
    go_ret2
    exact LkQ.no _ hb1
  rw [hall] at hak
  have HAK := Lib.hid hak
  have HALL := Lib.hid hall
  have HEQ : Hid (Jo.ok (Lk.many need zs) = Lk.manyOk need zs) := Lib.hid (by
    rw [Lk.ok_many need zs (by rw [hzl]; exact h5)]
    unfold Lk.manyOk
    rw [hall, Bool.and_true])
  have HC : Hid (∀ W a c, OL W a (len + 1) (Lk.many need zs) → Calls Tryz.prog 59 #[.slice a (len + 1) c] W (LkQ (Lk.manyOk need zs) (Lk.many need zs) W)) := Lib.hid fun W a c hO => (implScriptBytes_any a (len + 1) c _ W hO (by omega)).mono fun e w' hh => LkQ.of HEQ.out hh
  unfold LkQ at HC
  obtain ⟨X, HX⟩ : ∃ x, Hid (Lk.s (Lk.manyOk need zs) (Lk.many need zs) = x) := ⟨_, Lib.hid rfl⟩
  rw [HX.out] at HC
  unfold LkQ
  rw [HX.out]
  obtain ⟨okv, HOV⟩ : ∃ x, Hid (Lk.manyOk need zs = x) := ⟨_, Lib.hid rfl⟩
  rw [HOV.out] at HC ⊢
  clear hz hzl hak hall HEQ HX HOV
  go_enter Tryz.func23, Tryz.ntmps23
  go_wp2_with fail
  refine (HAK.out _ HZ.out).mono ?_
  rintro e w1 ⟨rfl, hb1⟩
  clear HAK
  go_wp2
  go_loopw [6, 19] (fun v i wr => ∃ (k : Nat), k ≤ len ∧ i = .int .i64 (k : Int) ∧ Below w.heap.size w wr ∧ Hid (wr.ownsRow w.heap.size 77 4 v k (Jo.cells (Lk.pre zs k))))
    (fun _ i _ => len - (intOf i).toNat)
  case atStart => exact ⟨0, by omega, rfl, hb1, Lib.hid (World.ownsRow_nil _ _ _ _)⟩
  case round =>
    obtain ⟨k, hk, rfl, hbel, HOWN⟩ := hrel
    clear hb1
    obtain ⟨va, vc, rfl⟩ : ∃ va vc, u6 = .slice va k vc := by
      rcases HOWN.out.2 with ⟨h1, h2⟩ | ⟨g, cap', cur, h1, _⟩
      · exact ⟨none, 0, by rw [h1, h2]⟩
      · exact ⟨_, _, h1⟩
    by_cases hlt : k < len
    · obtain ⟨b, off, rfl, _, hc⟩ := (HZ.out.below hbel).2 (by omega)
      have hck := hc k hlt
      obtain ⟨x, HX⟩ : ∃ x, Hid (zs.getD k 0 = x) := ⟨_, Lib.hid rfl⟩
      rw [HX.out] at hck
      obtain ⟨r0, r1⟩ : 0 ≤ x ∧ x ≤ 4294967295 := by
        have := List.all_eq_true.1 HALL.out (zs.getD k 0) (by
          rw [List.getD_eq_getElem?_getD, List.getElem?_eq_getElem (by rw [HL.out]; exact hlt)]
          exact List.getElem_mem _)
        rw [HX.out] at this
        exact Gr.kok_bd this
      have hcon2 := fun W => pushOf_any x W r0 r1
      obtain ⟨t, HT⟩ : ∃ t, Hid (Dg.bytes x = t) := ⟨_, Lib.hid rfl⟩
      rw [HT.out] at hcon2
      clear r0 r1 hc
      go_wp2_with fail
      refine (hcon2 _).mono ?_
      rintro e w2 ⟨rfl, hb2⟩
      have hown2 := HOWN.out.kept (row := none) ⟨hb2.os, hb2.tape, hb2.output, hb2.size, fun k hk _ => hb2.block k hk⟩ (Classical.em _)
      have hb3 := hbel.trans (hb2.mono hbel.size)
      have hsz3 := hb3.size
      clear HOWN hck hb2
      have S1 := Lib.hid (four_newZ w2 (.int .i64 0) (.int .i64 0) (.int .i64 0) (.string t) 77 w2.heap.size rfl)
      go_wp2_with (at_builtin; refine wpList_append_own _ rfl _ _ 79 rfl w.heap.size 77 i0 (.agg #[.int .i64 0, .int .i64 0, .int .i64 0, .string ⟨#[]⟩]) 4 40 Tryz.underlying79 hi hz0 hz1 hz2 rfl (by decide) _ _ _ rfl (hown2.alloc (.cells #[.int .i64 0, .int .i64 0, .int .i64 0, .string t] 77 (0, 0))) ⟨w2.heap.size, 0, none⟩ 1 1 [.int .i64 0, .int .i64 0, .int .i64 0, .string t] rfl rfl ?_ ?_ ?_ ?_ ?_ ?_)
      any_goals first | exact S1.out | (intro u hu; simp at hu; rcases hu with rfl | rfl | rfl | rfl <;> rfl) | (unfold maxLen; omega) | omega | exact Nat.le_trans hsz3 (by simp) | (simp; omega)
      intro v' w8 hown8 hgrow _
      have hb8 := Below.grown (below_alloc hb3 (.cells #[.int .i64 0, .int .i64 0, .int .i64 0, .string t] 77 (0, 0))) hgrow (below_alloc hb3 (.cells #[.int .i64 0, .int .i64 0, .int .i64 0, .string t] 77 (0, 0))).size (fun j he => (hown2.lt j he).1)
      have hown9 : Hid (w8.ownsRow w.heap.size 77 4 v' (k + 1) (Jo.cells (Lk.pre zs (k + 1)))) := Lib.hid (by
        rw [Lk.pre_snoc zs k (by rw [HL.out]; exact hlt), Jo.cells_append, HX.out]
        unfold Lk.push
        rw [HT.out]
        exact hown8)
      clear hown2 hgrow hown8 hb3 S1
      go_wp2
      go_roundw
      case rel => exact ⟨k + 1, by omega, by simp, hb8, hown9⟩
      case measure => simp [intOf]; omega
    · obtain rfl : k = len := by omega
      have hown2 := HOWN.out
      have hsz3 := hbel.size
      clear HOWN hlt
      have S1 := Lib.hid (four_newZ wr (.int .i64 12) (.int .i64 need) (.int .i64 (k : Int)) (.string ⟨#[]⟩) 77 wr.heap.size rfl)
      go_wp2_with (at_builtin; refine wpList_append_own _ rfl _ _ 79 rfl w.heap.size 77 i0 (.agg #[.int .i64 0, .int .i64 0, .int .i64 0, .string ⟨#[]⟩]) 4 40 Tryz.underlying79 hi hz0 hz1 hz2 rfl (by decide) _ _ _ rfl (hown2.alloc (.cells #[.int .i64 12, .int .i64 need, .int .i64 (k : Int), .string ⟨#[]⟩] 77 (0, 0))) ⟨wr.heap.size, 0, none⟩ 1 1 [.int .i64 12, .int .i64 need, .int .i64 (k : Int), .string ⟨#[]⟩] rfl rfl ?_ ?_ ?_ ?_ ?_ ?_)
      any_goals first | exact S1.out | (intro u hu; simp at hu; rcases hu with rfl | rfl | rfl | rfl <;> rfl) | (unfold maxLen; omega) | omega | exact Nat.le_trans hsz3 (by simp) | (simp; omega)
      intro v' w8 hown8 hgrow _
      have hb8 := Below.grown (below_alloc hbel (.cells #[.int .i64 12, .int .i64 need, .int .i64 (k : Int), .string ⟨#[]⟩] 77 (0, 0))) hgrow (below_alloc hbel (.cells #[.int .i64 12, .int .i64 need, .int .i64 (k : Int), .string ⟨#[]⟩] 77 (0, 0))).size (fun j he => (hown2.lt j he).1)
      obtain ⟨g8, cp8, rfl⟩ : ∃ g cp, v' = .slice (some ⟨g, 0, none⟩) (k + 1) cp := by
        rcases hown8.2 with ⟨h, h0⟩ | ⟨g, cap, cur, h, _⟩
        · omega
        · exact ⟨_, _, h⟩
      have ol : OL w8 (some ⟨g8, 0, none⟩) (k + 1) (Lk.many need zs) := (OL.own (by
        unfold Lk.many
        rw [Jo.cells_append, HL.out]
        exact hown8)).2
      have HOL := Lib.hid ol
      clear hown2 hgrow hown8 S1 ol
      go_wp2_with fail
      refine (HC.out _ _ _ HOL.out).mono ?_
      rintro e wz ⟨rfl, hbz⟩
      have hbq := hb8.trans (hbz.mono hb8.size)
      clear hb8 hbz
      go_wp2
      go_ret2
      exact ⟨rfl, hbq⟩
end Go.Proofs.YtoocibabceeagabGreat
