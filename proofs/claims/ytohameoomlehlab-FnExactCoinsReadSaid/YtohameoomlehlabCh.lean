/-
  Contracts of the model: CoinsRead.
-/
import Derived.Test.YtohameoomlehlabCg
import Derived.Test.YtohameoomlehlabTd
namespace Go.Proofs.Ytohameoomlehlab
open Go.RowKit Go.Deep
set_option maxHeartbeats 400000 in
theorem doneC (B : Nat) (s : ByteArray) (b : Bool) (w : World) (hb : w.heap[B]? = some (.cells #[.string s, .bool b] 78 (0, 0))) :
    Calls Try.prog 55 #[.pointer (some ⟨B, 0, none⟩)] w fun e w' => e = .returned (.bool (!b && s.toList.isEmpty)) ∧ w = w' := by
  have c0 := rs_str hb
  have c1 := rs_bad hb
  cases b
  · go_enter Try.func55, Try.ntmps55
    go_wp2
    go_ret
    simp
  · go_enter Try.func55, Try.ntmps55
    go_wp2
    go_ret
    simp
set_option maxRecDepth 100000 in
set_option maxHeartbeats 3200000 in
theorem specCoinsRead_any (s : ByteArray) (w : World) :
    Calls Try.prog 31 #[.string s] w (CoAA ((Co.read s).getD []) (Co.read s).isSome w) := by
  obtain ⟨i0, hi, hz0, hz1, hz2⟩ := info_parts info_coin
  have hB0 : (w.alloc (.cells #[.string s, .bool false] 78 (0, 0))).heap[w.heap.size]? = some (.cells #[.string s, .bool false] 78 (0, 0)) := heap_alloc_new w _
  have hb0 : Below w.heap.size w (w.alloc (.cells #[.string s, .bool false] 78 (0, 0))) := (Below.refl _ _).alloc (Nat.le_refl _) _
  have HN1 := Lib.hid (@Co.read_bel s)
  have HN2 := Lib.hid (fun (e : Int × ByteArray) h h2 => Co.read_rep (s := s) (e := e) h h2)
  have HN3 := Lib.hid (fun (e : Int × ByteArray) (x : List Co × ByteArray) h h2 => Co.read_ok (s := s) (e := e) (x := x) h h2)
  obtain ⟨R, hR⟩ : ∃ x, Co.read s = x := ⟨_, rfl⟩
  simp only [hR] at HN1 HN2 HN3
  rw [hR]
  clear hR
  have hbel := below_any w.heap.size s 80 _ (by omega) hB0
  obtain ⟨N, hN⟩ : ∃ x, En.belN s 80 = x := ⟨_, rfl⟩
  rw [hN] at hbel
  have hq : ∀ W, RsOpt w.heap.size (En.bel s 80) (w.alloc (.cells #[.string s, .bool false] 78 (0, 0))) W → ∃ (m : Nat) (r : ByteArray) (b : Bool), N = (m : Int) ∧ m ≤ 80 ∧ Rs w.heap.size (w.alloc (.cells #[.string s, .bool false] 78 (0, 0))) W r b ∧ Hid ((b = true → R = none) ∧ (b = false → En.bel s 80 = some (N, r))) := by
    intro W hW
    cases hc : En.bel s 80 with
    | none =>
      rw [hc] at hW
      obtain ⟨r, hr⟩ := hW
      rw [En.belN_none hc] at hN
      exact ⟨0, r, true, hN.symm, by omega, hr, Lib.hid ⟨fun _ => HN1.out hc, fun h => by cases h⟩⟩
    | some x =>
      rw [hc] at hW
      rw [En.belN_some hc] at hN
      obtain ⟨g1, g2, g3, g4⟩ := En.bel_bw (s := s) (n := x.1) (t := x.2) hc
      exact ⟨x.1.toNat, x.2, false, by omega, by omega, hW, Lib.hid ⟨(fun h => by cases h), fun _ => by rw [← hN]⟩⟩
  have HQ := Lib.hid hq
  clear hN hq HN1 hB0
  go_enter Try.func31, Try.ntmps31
  go_wp2_with fail
  refine hbel.mono ?_
  rintro e w1 ⟨rfl, hx⟩
  obtain ⟨m, r0, b0, rfl, hm, hr0, H0⟩ := HQ.out w1 hx
  have hsz0 : w.heap.size < w1.heap.size := lt_of_block hr0.held
  have hb1 : Below w.heap.size w w1 := hb0.grown hr0.kept hb0.size (fun q hq => by cases hq; exact Nat.le_refl _)
  have HR1 := Lib.hid ((Below.heap_alloc w1 (.cells #[] 30 (0, 0)) _ hsz0).trans hr0.held)
  have hb2 := hb1.alloc hb1.size (.cells #[] 30 (0, 0))
  have HO1 : Hid ((w1.alloc (.cells #[] 30 (0, 0))).ownsRow (w.heap.size + 1) 30 6 (.slice (some ⟨w1.heap.size, 0, none⟩) 0 0) 0 (Co.cs [])) := Lib.hid (by
    have := World.ownsRow_made (e := 30) (size := 6) (base := w.heap.size + 1) w1 #[] 0 hsz0 (by decide) rfl
    simpa [Co.cs] using this)
  clear hbel HQ hx hr0 hb0 hb1 hsz0
  go_wp2
  go_loopw [6, 7] (fun v i wr => ∃ (k : Nat) (l : List Co) (r : ByteArray) (b : Bool), k ≤ m ∧ i = .int .i64 (k : Int) ∧ Hid (wr.ownsRow (w.heap.size + 1) 30 6 v k (Co.cs l)) ∧ Hid (l.length = k) ∧ wr.heap[w.heap.size]? = some (.cells #[.string r, .bool b] 78 (0, 0)) ∧ Below w.heap.size w wr ∧ Hid ((b = true → R = none) ∧ (b = false → b0 = false ∧ Tr.rep Co.rd r0 k = some (l, r))))
    (fun _ i _ => m - (intOf i).toNat)
  case atStart => exact ⟨0, [], r0, b0, by omega, rfl, HO1, Lib.hid rfl, HR1.out, hb2, Lib.hid ⟨fun h => H0.out.1 h, fun h => ⟨h, rfl⟩⟩⟩
  case round =>
    obtain ⟨k, l, r, b, hk, rfl, HO, HL, hrd, hbel, HH⟩ := hrel
    have k0 := rs_str hrd
    have k1 := rs_bad hrd
    clear HO1 HR1 hb2
    cases b with
    | true =>
      have HNO := HH.out.1 (by first | trivial | rfl)
      have hdn := doneC w.heap.size r true wr hrd
      simp only [Bool.not_true, Bool.false_and] at hdn
      subst HNO
      by_cases hlt : k < m
      · clear HN2 HN3 HH HO HL H0
        go_wp2_with fail
        refine hdn.mono ?_
        rintro e w3 ⟨rfl, rfl⟩
        clear k0 k1 hdn
        go_wp2
        go_ret2
        exact ⟨_, rfl, Lib.hid (OwnC.nilC _ _), hbel⟩
      · clear HN2 HN3 HH HO HL H0
        go_wp2_with fail
        refine hdn.mono ?_
        rintro e w3 ⟨rfl, rfl⟩
        clear k0 k1 hdn
        go_wp2
        go_ret2
        exact ⟨_, rfl, Lib.hid (OwnC.nilC _ _), hbel⟩
    | false =>
    obtain ⟨hb0f, hrep⟩ := HH.out.2 (by first | trivial | rfl)
    have HREP := Lib.hid hrep
    have HBEL := Lib.hid (H0.out.2 hb0f)
    clear HH hrep
    by_cases hlt : k < m
    · have hcs := coin_any w.heap.size r wr hrd
      go_wp2_with fail
      refine hcs.mono ?_
      rintro e w3 ⟨⟨x0, x1, x2, x3, x4, x5⟩, r2, b2, rfl, hr2, H2⟩
      simp only
      have hb3 : Below w.heap.size w w3 := hbel.grown hr2.kept hbel.size (fun q hq => by cases hq; exact Nat.le_refl _)
      have hO3 := (HO.out).kept hr2.kept (own_ne HO.out (Nat.lt_succ_self w.heap.size))
      have HS2 := Lib.hid hr2.held
      clear hcs hr2 hrd k0 k1 HO hbel
      have hsz5 := hb3.size
      have hown4 := hO3
      go_wp2_with (at_builtin; refine wpList_append_own _ rfl _ _ 25 rfl (w.heap.size + 1) 30 i0 (.agg #[.int .i64 0, .int .i64 0, .int .i64 0, .string ⟨#[]⟩, .int .i64 0, .bool false]) 6 56 Try.underlying25 hi hz0 hz1 hz2 rfl (by decide) _ _ _ rfl (hown4.alloc (.cells #[.int .i64 x0, .int .i64 x1, .int .i64 x2, .string x3, .int .i64 x4, .bool x5] 30 (0, 0))) ⟨w3.heap.size, 0, none⟩ 1 1 [.int .i64 x0, .int .i64 x1, .int .i64 x2, .string x3, .int .i64 x4, .bool x5] rfl rfl ?_ ?_ ?_ ?_ ?_ ?_)
      any_goals first | exact newsC _ [.int .i64 x0, .int .i64 x1, .int .i64 x2, .string x3, .int .i64 x4, .bool x5] _ | (intro u hu; simp at hu; rcases hu with rfl | rfl | rfl | rfl | rfl | rfl <;> rfl) | (unfold maxLen; omega) | omega | exact Nat.le_trans hsz5 (by simp) | (simp; omega)
      intro v5 w5 hown5 hgrow5 _
      have hb5 : Below w.heap.size w w5 := (hb3.alloc hsz5 (.cells #[.int .i64 x0, .int .i64 x1, .int .i64 x2, .string x3, .int .i64 x4, .bool x5] 30 (0, 0))).grown hgrow5 (Nat.le_trans hsz5 (by simp)) (fun q hq => by have := (hown4.lt _ hq).1; omega)
      have HO5 : Hid (w5.ownsRow (w.heap.size + 1) 30 6 v5 (k + 1) (Co.cs (l ++ [(⟨x0, x1, x2, x3, x4, x5⟩ : Co)]))) := Lib.hid (by rw [Co.cs_append]; exact hown5)
      have hr5 : w5.heap[w.heap.size]? = some (.cells #[.string r2, .bool b2] 78 (0, 0)) := by
        have hlt9 := lt_of_block HS2.out
        rw [hgrow5.block _ (by simp; omega) (fun e => by have := (hown4.lt _ e.symm).1; omega), Below.heap_alloc _ _ _ hlt9]
        exact HS2.out
      have HH5 : Hid ((b2 = true → R = none) ∧ (b2 = false → b0 = false ∧ Tr.rep Co.rd r0 (k + 1) = some (l ++ [⟨x0, x1, x2, x3, x4, x5⟩], r2))) := Lib.hid (by
        constructor
        · intro h
          have h1 := H2.out.1 h
          exact HN2.out _ HBEL.out (Tr.rep_none (Tr.rep_bad HREP.out h1) _ (by show k + 1 ≤ ((m : Int)).toNat; omega))
        · intro h
          exact ⟨hb0f, Tr.rep_ok HREP.out (H2.out.2 h)⟩)
      have HL5 : Hid ((l ++ [(⟨x0, x1, x2, x3, x4, x5⟩ : Co)]).length = k + 1) := Lib.hid (by rw [List.length_append, HL.out]; rfl)
      have hb0f' := Lib.hid hb0f
      clear hown4 hown5 hgrow5 hb3 hO3 HS2 H2 hsz5 HREP HBEL HL hb0f
      go_wp2
      go_roundw
      case rel => exact ⟨k + 1, _, r2, b2, by omega, by simp, HO5, HL5, hr5, hb5, HH5⟩
      case measure => simp [intOf]; omega
    · have hkm : k = m := by omega
      have HR3 : Hid (R = if r.size = 0 then (if Co.lok l = true then some l else none) else none) := Lib.hid (by
        have h1 := HREP.out
        rw [hkm] at h1
        exact HN3.out _ _ HBEL.out (by simpa using h1))
      have hdn := doneC w.heap.size r false wr hrd
      simp only [Bool.not_false, Bool.true_and] at hdn
      have hO : OwnC (w.heap.size + 1) wr u6 l := by
        unfold OwnC
        rw [HL.out]
        exact HO.out
      have HOF := Lib.hid (hO.base (Nat.le_succ w.heap.size))
      obtain ⟨va, vc, hva, hvc, hcl⟩ := hO.coL
      have hcO := fun W (hW : Below wr.heap.size wr W) => CoinsOk_any (w.heap.size + 1) va l.length vc l W (hcl.below hW) (by rw [HL.out]; omega)
      obtain ⟨n9, hn9⟩ : ∃ x, l.length = x := ⟨_, rfl⟩
      rw [hn9] at hva hcO
      subst hva
      have HCO := Lib.hid hcO
      clear HN2 HN3 HREP HBEL HO HL hO hvc hcl hcO hn9 hkm H0 hb0f
      by_cases hz : r.size = 0
      · rw [ba_none hz] at hdn
        have HR4 : Hid (R = if Co.lok l = true then some l else none) := Lib.hid (by rw [HR3.out, if_pos hz])
        clear hz HR3
        have hcs := HCO.out wr (Below.refl _ _)
        cases hK : Co.lok l
        · rw [hK] at hcs
          have hRn : R = none := by rw [HR4.out, hK]; rfl
          subst hRn
          clear HR4 hK HCO
          go_wp2_with fail
          refine hdn.mono ?_
          rintro e w3 ⟨rfl, rfl⟩
          go_wp2_with fail
          refine hcs.mono ?_
          rintro e w3 ⟨rfl, hx⟩
          have hb3 := below_aftC hbel hx
          clear k0 k1 hdn hcs hx
          go_wp2
          go_ret2
          exact ⟨_, rfl, Lib.hid (OwnC.nilC _ _), hb3⟩
        · rw [hK] at hcs
          have hRn : R = some l := by rw [HR4.out, hK]; rfl
          subst hRn
          clear HR4 hK HCO
          go_wp2_with fail
          refine hdn.mono ?_
          rintro e w3 ⟨rfl, rfl⟩
          go_wp2_with fail
          refine hcs.mono ?_
          rintro e w3 ⟨rfl, hx⟩
          have hb3 := below_aftC hbel hx
          have HOG := Lib.hid (HOF.out.below hx)
          clear k0 k1 hdn hcs hx HOF hbel
          go_wp2
          go_ret2
          exact ⟨_, rfl, HOG, hb3⟩
      · rw [ba_some hz] at hdn
        have hRn : R = none := by rw [HR3.out, if_neg hz]
        subst hRn
        clear hz HR3 HCO HOF
        go_wp2_with fail
        refine hdn.mono ?_
        rintro e w3 ⟨rfl, rfl⟩
        clear k0 k1 hdn
        go_wp2
        go_ret2
        exact ⟨_, rfl, Lib.hid (OwnC.nilC _ _), hbel⟩
end Go.Proofs.Ytohameoomlehlab
