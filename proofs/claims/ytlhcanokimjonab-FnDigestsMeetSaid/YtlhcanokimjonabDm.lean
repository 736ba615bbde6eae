/-
  DigestsMeet of the program (a map from digests to strings) and of the model (each with each).
-/
import Derived.Test.YtlhcanokimjonabDg
import Derived.Test.YtlhcanokimjonabSl
import Derived.Maps.StringElems
import Derived.Carry
namespace Go.Proofs.Ytlhcanokimjonab
open Go.RowKit Go.Maps

theorem wpList_lookup_own_ok_str {H : Type} {P : Program} (w : World) {ops : Array Oper} {rest : List Oper} {o : Oper} {a : Act} {Q : Exit → Act → World → Prop} (hg : o.guard = none) (m x : Operand) (t : TypeId) (hop : o.op = Op.lookup t m x true)
    (k e : TypeId) (K : Keyed P k) (ht : P.underlying t = some (.map k e)) (he : P.underlying e = some .string) (hz : (zeroValue e).run P w = .ok (.string ByteArray.empty) w) (b n : Nat) (D : DataW H)
    (hm : a.eval m = .map (some b)) (hown : w.ownsMap P k (plainElem P e) b n D) (key : Value) (kl : Lit) (hx : a.eval x = key) (hkey : keyOf P k key = some kl)
    (hK : ∀ c : ByteArray, D.atKey kl (.lit (.string [])) = .lit (.string c.data.toList) → wpList P ops Q rest (a.put o.dst (.tuple #[.string c, .bool (Maps.has D kl)])) w) :
    wpList P ops Q (o :: rest) a w :=
  wpList_lookup_own_ok w hg m x t hop k e K ht (plainElem P e) hz (.lit (.string [])) [] (plainElem_string he (by unfold maxLen; decide)) b n D hm hown key kl hx hkey (fun v ps hv => by
    obtain ⟨c, rfl, hc, _⟩ := plainElem_string_inv he hv
    exact hK c (congrArg Prod.fst hc))

/-- Two different strings of the list have the same digest. -/
def Dg.meet (ss : List ByteArray) : Prop := ∃ i j, i < j ∧ j < ss.length ∧ ss.getD i ByteArray.empty ≠ ss.getD j ByteArray.empty ∧ Dg.of (ss.getD i ByteArray.empty) = Dg.of (ss.getD j ByteArray.empty)
/-- None of the first k strings meets an earlier one. -/
def Dg.apart (ss : List ByteArray) (k : Nat) : Prop := ∀ i j, i < j → j < k → Dg.of (ss.getD i ByteArray.empty) = Dg.of (ss.getD j ByteArray.empty) → ss.getD i ByteArray.empty = ss.getD j ByteArray.empty
theorem Dg.apart_all {ss : List ByteArray} (h : Dg.apart ss ss.length) : ¬ Dg.meet ss := fun ⟨i, j, h1, h2, h3, h4⟩ => h3 (h i j h1 h2 h4)
theorem Dg.apart_succ {ss : List ByteArray} {k : Nat} (h : Dg.apart ss k) (h2 : ∀ i, i < k → Dg.of (ss.getD i ByteArray.empty) = Dg.of (ss.getD k ByteArray.empty) → ss.getD i ByteArray.empty = ss.getD k ByteArray.empty) : Dg.apart ss (k + 1) := by
  intro i j hij hj he
  by_cases hjk : j < k
  · exact h i j hij hjk he
  · have : j = k := by omega
    subst this
    exact h2 i hij he
/-- What the map holds behind the first k strings. -/
structure Dg.MD (ss : List ByteArray) (k : Nat) (D : DataW Unit) : Prop where
  isMap : IsMap D
  has : ∀ d, Maps.has D (.int .i64 d) = true ↔ ∃ j, j < k ∧ Dg.of (ss.getD j ByteArray.empty) = d
  at_ : ∀ j, j < k → ∀ z, D.atKey (.int .i64 (Dg.of (ss.getD j ByteArray.empty))) z = .lit (.string (ss.getD j ByteArray.empty).data.toList)
theorem Dg.MD.zero (ss : List ByteArray) : Dg.MD ss 0 (.map []) :=
  ⟨isMap_empty, fun d => ⟨fun h => by simp [Maps.has] at h, fun ⟨j, hj, _⟩ => absurd hj (by omega)⟩, fun j hj => absurd hj (by omega)⟩
theorem Dg.MD.put {ss : List ByteArray} {k : Nat} {D : DataW Unit} (h : Dg.MD ss k D) (hap : Dg.apart ss (k + 1)) :
    Dg.MD ss (k + 1) (D.put (.int .i64 (Dg.of (ss.getD k ByteArray.empty))) (.lit (.string (ss.getD k ByteArray.empty).data.toList))) := by
  have hk : WideAt.IsKeyLit (.int .i64 (Dg.of (ss.getD k ByteArray.empty))) := trivial
  refine ⟨h.isMap.put _ _, fun d => ?_, fun j hj z => ?_⟩
  · by_cases hd : d = Dg.of (ss.getD k ByteArray.empty)
    · subst hd
      exact ⟨fun _ => ⟨k, by omega, rfl⟩, fun _ => has_put_same h.isMap hk _⟩
    · rw [has_put_other (by simpa using hd), h.has]
      exact ⟨fun ⟨j, hj, he⟩ => ⟨j, by omega, he⟩, fun ⟨j, hj, he⟩ => ⟨j, by
        rcases Nat.lt_or_ge j k with h' | h'
        · exact h'
        · have : j = k := by omega
          subst this
          exact absurd he.symm hd, he⟩⟩
  · by_cases hd : Dg.of (ss.getD j ByteArray.empty) = Dg.of (ss.getD k ByteArray.empty)
    · rw [hd, atKey_put_same h.isMap hk]
      by_cases hjk : j = k
      · rw [hjk]
      · rw [hap j k (by omega) (by omega) hd]
    · rw [atKey_put_other (by simpa using hd)]
      exact h.at_ j (by
        rcases Nat.lt_or_ge j k with h' | h'
        · exact h'
        · have : j = k := by omega
          subst this
          exact absurd rfl hd) z
theorem Dg.MD.get {ss : List ByteArray} {k : Nat} {D : DataW Unit} (h : Dg.MD ss k D) {d : Int} {c : ByteArray} (hat : D.atKey (.int .i64 d) (.lit (.string [])) = .lit (.string c.data.toList)) (hh : Maps.has D (.int .i64 d) = true) :
    (∀ j, j < k → Dg.of (ss.getD j ByteArray.empty) = d → ss.getD j ByteArray.empty = c) ∧ ∃ j, j < k ∧ Dg.of (ss.getD j ByteArray.empty) = d := by
  refine ⟨fun j hj he => ?_, (h.has d).1 hh⟩
  have h1 := h.at_ j hj (.lit (.string []))
  rw [he, hat] at h1
  have h2 : c.data.toList = (ss.getD j ByteArray.empty).data.toList := by
    injection h1 with h3
    injection h3
  exact (ByteArray.ext (Array.toList_inj.1 h2)).symm

theorem keyInt : Keyed Try.prog 3 := int_keyed Try.underlying3
theorem zeroStr (w : World) : (zeroValue 9).run Try.prog w = .ok (.string ByteArray.empty) w := by kernel_rfl
theorem keyOf_d (d : Int) (h0 : 0 ≤ d) (h1 : d ≤ 4294967295) : keyOf Try.prog 3 (.int .i64 d) = some (.int .i64 d) := keyOf_int_mk Try.underlying3 (WalkArith.wf_i64 (by omega))

set_option maxRecDepth 100000 in
set_option maxHeartbeats 1600000 in
theorem implDigestsMeet_any (a : Option Addr) (len cap : Nat) (ss : List ByteArray) (w : World) (hs : SR w a len ss) (hz : ∀ s ∈ ss, s.size ≤ 9223372036854775807) (hlen : len ≤ 1048576) :
    Calls Try.prog 20 #[.slice a len cap] w fun e w' => ∃ b, e = .returned (.bool b) ∧ (b = true ↔ Dg.meet ss) ∧ Below w.heap.size w w' := by
  have hmm := @run_makeMap Try.prog
  have h1 := hs.1
  have HM0 := Lib.hid (Dg.MD.zero ss)
  go_enter Try.func20, Try.ntmps20
  go_wp2
  go_loopw [12] (fun i wr => ∃ (k : Nat) (D : DataW Unit), k ≤ len ∧ i = .int .i64 (k : Int) ∧ wr.ownsMap Try.prog 3 (plainElem Try.prog 9) w.heap.size k D ∧ Dg.MD ss k D ∧ Dg.apart ss k ∧ Below w.heap.size w wr)
    (fun i _ => len - (intOf i).toNat)
  case atStart => exact ⟨0, _, by omega, rfl, World.ownsMap_made _ _ _ _, HM0.out, fun i j _ hj => absurd hj (by omega), (Below.refl _ _).alloc (Nat.le_refl _) _⟩
  case round =>
    obtain ⟨k, D, hk, rfl, hown, hMD, hap, hbel⟩ := hrel
    by_cases hlt : k < len
    · have hs' := hs.below hbel
      have hz1 := hz _ (getD_mem (ss := ss) (i := k) (by omega))
      obtain ⟨g, off, rfl, _, hc⟩ := hs'.2 (by omega)
      have hck := hc k hlt
      clear hc hs' hz hs HM0
      obtain ⟨t, HT⟩ : ∃ t, Hid (ss.getD k ByteArray.empty = t) := ⟨_, Lib.hid rfl⟩
      rw [HT.out] at hck hz1
      obtain ⟨d, HD⟩ : ∃ d, Hid (Dg.of t = d) := ⟨_, Lib.hid rfl⟩
      have hd := Dg.of_bd t
      rw [HD.out] at hd
      have HMD := Lib.hid hMD
      have HAP := Lib.hid hap
      have HPUT : Hid (Dg.apart ss (k + 1) → Dg.MD ss (k + 1) (D.put (.int .i64 d) (.lit (.string t.data.toList)))) := Lib.hid (by
        intro h
        have := hMD.put h
        rw [HT.out, HD.out] at this
        exact this)
      clear hMD hap
      have hkey := keyOf_d d hd.1 hd.2
      go_wp2_with fail
      refine (implDigest_any t _ (by omega)).mono ?_
      rw [HD.out]
      rintro e w2 ⟨rfl, hb2⟩
      have hown2 : w2.ownsMap Try.prog 3 (plainElem Try.prog 9) w.heap.size k D := hown.kept (row := none) ⟨hb2.os, hb2.tape, hb2.output, hb2.size, fun q hq _ => hb2.block q hq⟩ (by simp)
      have hbel2 := hbel.trans (hb2.mono hbel.size)
      clear hown hbel hb2
      go_wp2_with (at_lookup; refine wpList_lookup_own_ok_str _ rfl _ _ 56 rfl 3 9 keyInt Try.underlying56 Try.underlying9 (zeroStr _) w.heap.size k D rfl hown2 _ _ rfl hkey ?_)
      intro c hat
      have hnx := hbel2.size
      have hval : plainElem (H := Unit) Try.prog 9 (.string t) = some (.lit (.string t.data.toList), []) := plainElem_string Try.underlying9 (by unfold maxLen; exact hz1)
      have HVAL := Lib.hid hval
      clear hval
      cases hh : Maps.has D (.int .i64 d) with
      | true =>
        obtain ⟨hall, j0, hj0, he0⟩ := HMD.out.get hat hh
        have HALL := Lib.hid hall
        clear hat hh hall
        by_cases hct : c = t
        · subst hct
          have HS1 : Hid (Dg.apart ss (k + 1)) := Lib.hid (Dg.apart_succ HAP.out (fun i hi he => by rw [HT.out, HD.out] at he; rw [HT.out]; exact HALL.out i hi he))
          have hq : (c.toList == c.toList) = true := by simp
          clear he0
          go_wp2_with (at_mapUpdate; refine wpList_mapUpdate_own _ rfl _ _ _ 56 rfl 3 9 keyInt Try.underlying56 _ w.heap.size k D rfl hown2 (by unfold maxLen; omega) _ _ _ rfl rfl hkey _ [] HVAL.out ?_)
          intro w3 hown3 hgr3
          have hbel3 := Below.grown hbel2 hgr3 hnx (fun j hj => by cases hj; exact Nat.le_refl _)
          have HP := Lib.hid (HPUT.out HS1.out)
          clear hown2 hgr3 hbel2
          go_wp2
          go_roundw
          case rel => exact ⟨k + 1, _, by omega, by simp, hown3, HP.out, HS1.out, hbel3⟩
          case measure => simp [intOf]; omega
        · have hq : (c.toList == t.toList) = false := by
            rw [Bool.eq_false_iff]
            intro h
            have h' : c.toList = t.toList := by simpa using h
            rw [ByteArray.toList_eq, ByteArray.toList_eq] at h'
            exact hct (ByteArray.ext (Array.toList_inj.1 h'))
          have HME : Hid (Dg.meet ss) := Lib.hid ⟨j0, k, hj0, by omega, by rw [HT.out, HALL.out j0 hj0 he0]; exact hct, by rw [HT.out, HD.out]; exact he0⟩
          clear hown2 he0
          go_wp2
          go_ret
          exact ⟨_, rfl, ⟨fun _ => HME.out, fun _ => rfl⟩, hbel2⟩
      | false =>
        have HS1 : Hid (Dg.apart ss (k + 1)) := Lib.hid (Dg.apart_succ HAP.out (fun i hi he => by
          rw [HT.out, HD.out] at he
          have := (HMD.out.has d).2 ⟨i, hi, he⟩
          rw [hh] at this
          cases this))
        clear hat hh
        go_wp2_with (at_mapUpdate; refine wpList_mapUpdate_own _ rfl _ _ _ 56 rfl 3 9 keyInt Try.underlying56 _ w.heap.size k D rfl hown2 (by unfold maxLen; omega) _ _ _ rfl rfl hkey _ [] HVAL.out ?_)
        intro w3 hown3 hgr3
        have hbel3 := Below.grown hbel2 hgr3 hnx (fun j hj => by cases hj; exact Nat.le_refl _)
        have HP := Lib.hid (HPUT.out HS1.out)
        clear hown2 hgr3 hbel2
        go_wp2
        go_roundw
        case rel => exact ⟨k + 1, _, by omega, by simp, hown3, HP.out, HS1.out, hbel3⟩
        case measure => simp [intOf]; omega
    · have hk2 : k = len := by omega
      subst hk2
      have HNO : Hid (¬ Dg.meet ss) := Lib.hid (Dg.apart_all (by rw [h1]; exact hap))
      clear hMD hap hown hs hz HM0
      go_wp2
      go_ret
      exact ⟨_, rfl, ⟨fun h => (Bool.noConfusion h), fun h => absurd h HNO.out⟩, hbel⟩

set_option maxRecDepth 100000 in
set_option maxHeartbeats 1600000 in
theorem specDigestsMeet_any (a : Option Addr) (len cap : Nat) (ss : List ByteArray) (w : World) (hs : SR w a len ss) (hz : ∀ s ∈ ss, s.size ≤ 9223372036854775807) (hlen : len ≤ 1048576) :
    Calls Try.prog 21 #[.slice a len cap] w fun e w' => ∃ b, e = .returned (.bool b) ∧ (b = true ↔ Dg.meet ss) ∧ Below w.heap.size w w' := by
  have h1 := hs.1
  go_enter Try.func21, Try.ntmps21
  go_wp2
  have HZ : Hid (∀ j, j < len → (ss.getD j ByteArray.empty).size ≤ 9223372036854775807) := Lib.hid fun j hj => hz _ (getD_mem (by omega))
  clear hz
  go_loopw [3] (fun i wr => ∃ k : Nat, k ≤ len ∧ i = .int .i64 (k : Int) ∧ Dg.apart ss k ∧ Below w.heap.size w wr)
    (fun i _ => len - (intOf i).toNat)
  case atStart => exact ⟨0, by omega, rfl, fun i j _ hj => absurd hj (by omega), Below.refl _ _⟩
  case round =>
    obtain ⟨k, hk, rfl, hap, hbel⟩ := hrel
    by_cases hlt : k < len
    · have HAP := Lib.hid hap
      clear hap
      go_wp2
      go_loopw [4] (fun i wr => ∃ q : Nat, q ≤ k ∧ i = .int .i64 (q : Int) ∧ (∀ j, j < q → Dg.of (ss.getD j ByteArray.empty) = Dg.of (ss.getD k ByteArray.empty) → ss.getD j ByteArray.empty = ss.getD k ByteArray.empty) ∧ Below w.heap.size w wr)
        (fun i _ => k - (intOf i).toNat)
      case atStart => exact ⟨0, by omega, rfl, fun j hj => absurd hj (by omega), hbel⟩
      case round =>
        clear hbel
        obtain ⟨q, hq, rfl, hall, hbel⟩ := hrel
        have HALL := Lib.hid hall
        clear hall
        by_cases hqk : q < k
        · have hs' := hs.below hbel
          have hz1 := HZ.out k hlt
          have hz2 := HZ.out q (by omega)
          obtain ⟨g, off, rfl, _, hc⟩ := hs'.2 (by omega)
          have hck := hc k hlt
          have hcq := hc q (by omega)
          clear hc hs' hs
          obtain ⟨t, HT⟩ : ∃ t, Hid (ss.getD k ByteArray.empty = t) := ⟨_, Lib.hid rfl⟩
          obtain ⟨u, HU⟩ : ∃ t, Hid (ss.getD q ByteArray.empty = t) := ⟨_, Lib.hid rfl⟩
          rw [HT.out] at hck hz1
          rw [HU.out] at hcq hz2
          by_cases htu : t = u
          · subst htu
            have hq1 : (t.toList == t.toList) = true := by simp
            go_wp2
            go_quiet (fail)
            go_wp2
            go_roundw
            case rel =>
              refine ⟨q + 1, by omega, by simp, fun j hj he => ?_, below_drewN hbel _⟩
              by_cases hjq : j < q
              · exact HALL.out j hjq he
              · have : j = q := by omega
                rw [this, HU.out, HT.out]
            case measure => simp [intOf]; omega
          · have hq1 : (t.toList == u.toList) = false := by
              rw [Bool.eq_false_iff]
              intro h
              have h' : t.toList = u.toList := by simpa using h
              rw [ByteArray.toList_eq, ByteArray.toList_eq] at h'
              exact htu (ByteArray.ext (Array.toList_inj.1 h'))
            obtain ⟨d, HD⟩ : ∃ d, Hid (Dg.of t = d) := ⟨_, Lib.hid rfl⟩
            obtain ⟨f, HF⟩ : ∃ d, Hid (Dg.of u = d) := ⟨_, Lib.hid rfl⟩
            have hcall : ∀ s W, s.size ≤ 9223372036854775807 → Calls Try.prog 39 #[.string s] W fun e w' => e = .returned (.int .i64 (Dg.of s)) ∧ w' = W := fun s W h => specDigest_same s W h
            have HCT : Hid (∀ W, Calls Try.prog 39 #[.string t] W fun e w' => e = .returned (.int .i64 d) ∧ w' = W) := Lib.hid fun W => by rw [← HD.out]; exact specDigest_same t W hz1
            have HCU : Hid (∀ W, Calls Try.prog 39 #[.string u] W fun e w' => e = .returned (.int .i64 f) ∧ w' = W) := Lib.hid fun W => by rw [← HF.out]; exact specDigest_same u W hz2
            clear hcall
            by_cases hdf : d = f
            · have hq2 : (d == f) = true := by simpa using hdf
              have HME : Hid (Dg.meet ss) := Lib.hid ⟨q, k, hqk, by omega, by rw [HT.out, HU.out]; exact fun h => htu h.symm, by rw [HT.out, HU.out, HD.out, HF.out, hdf]⟩
              clear hdf
              go_wp2
              go_quiet (first | (go_at_call_of 39 (Value.string t); refine Calls.quiet_of_same (HCT.out _)) | (go_at_call_of 39 (Value.string u); refine Calls.quiet_of_same (HCU.out _)))
              go_wp2
              go_ret
              exact ⟨_, rfl, ⟨fun _ => HME.out, fun _ => rfl⟩, below_drewN hbel _⟩
            · have hq2 : (d == f) = false := by simpa using hdf
              go_wp2
              go_quiet (first | (go_at_call_of 39 (Value.string t); refine Calls.quiet_of_same (HCT.out _)) | (go_at_call_of 39 (Value.string u); refine Calls.quiet_of_same (HCU.out _)))
              go_wp2
              go_roundw
              case rel =>
                refine ⟨q + 1, by omega, by simp, fun j hj he => ?_, below_drewN hbel _⟩
                by_cases hjq : j < q
                · exact HALL.out j hjq he
                · have : j = q := by omega
                  subst this
                  rw [HU.out, HT.out, HD.out, HF.out] at he
                  exact absurd he.symm hdf
              case measure => simp [intOf]; omega
        · have hqk2 : q = k := by omega
          have HS1 : Hid (Dg.apart ss (k + 1)) := Lib.hid (Dg.apart_succ HAP.out (fun i hi he => HALL.out i (by omega) he))
          go_wp2
          refine ⟨⟨k + 1, by omega, by simp, HS1.out, hbel⟩, ?_⟩
          simp [intOf]; omega
    · have hk2 : k = len := by omega
      subst hk2
      have HNO : Hid (¬ Dg.meet ss) := Lib.hid (Dg.apart_all (by rw [h1]; exact hap))
      clear hap hs
      go_wp2
      go_ret
      exact ⟨_, rfl, ⟨fun h => (Bool.noConfusion h), fun h => absurd h HNO.out⟩, hbel⟩
end Go.Proofs.Ytlhcanokimjonab
