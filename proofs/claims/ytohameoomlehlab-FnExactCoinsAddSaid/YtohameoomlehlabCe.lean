/-
  Contracts of the model: coins with one more, without one.
-/
import Derived.Test.YtohameoomlehlabCd
import Derived.Deep.RegionLaw
namespace Go.Proofs.Ytohameoomlehlab
open Go.RowKit Go.Deep

theorem newsC (W : World) (xs : List Value) (t : TypeId) : ∀ j u, xs[j]? = some u → (W.alloc (.cells xs.toArray t (0, 0))).cell? ((⟨W.heap.size, 0, none⟩ : Addr).add j) = some u := fun j u h => by
  have hadr : (⟨W.heap.size, 0, none⟩ : Addr).add j = ⟨W.heap.size, 0 + j, none⟩ := by unfold Addr.add; split <;> simp_all
  rw [hadr, Nat.zero_add]
  exact (World.cell?_alloc_mark W _ _ _ j).trans (by simpa using h)
theorem Co.cs_snoc {l : List Co} {k : Nat} (hk : k < l.length) {tx out amt : Int} {lock : ByteArray} {ht : Int} {rew : Bool} (h : Co.nth l k = ⟨tx, out, amt, lock, ht, rew⟩) : Co.cs (l.take (k + 1)) = Co.cs (l.take k) ++ [.int .i64 tx, .int .i64 out, .int .i64 amt, .string lock, .int .i64 ht, .bool rew] := by
  rw [List.take_add_one, Co.nth_get hk, Co.cs_append, h]
  rfl
theorem own_belC {w w' : World} {base k n : Nat} {e : TypeId} {v : Value} {xs : List Value} (h : w.ownsRow base e k v n xs) (hb : Below w.heap.size w w') : w'.ownsRow base e k v n xs :=
  h.kept (row := none) ⟨hb.os, hb.tape, hb.output, hb.size, fun k hk _ => hb.block k hk⟩ (by cases v.ownBlock <;> simp)
theorem own_lowC {w : World} {base b2 n k : Nat} {v : Value} {xs : List Value} {e : TypeId} (h : w.ownsRow base e k v n xs) (hb : b2 ≤ base) : w.ownsRow b2 e k v n xs := by
  refine ⟨h.1, ?_⟩
  rcases h.2 with ⟨h1, h2⟩ | ⟨g', cap', cur, h1, h2, h3⟩
  · exact .inl ⟨h1, h2⟩
  · exact .inr ⟨g', cap', cur, h1, Nat.le_trans hb h2, h3⟩
/-- What a call answers that hands back coins of its own. -/
def CoLA (l : List Co) (w : World) (e : Ending) (w' : World) : Prop := ∃ v, e = .returned v ∧ Hid (OwnC w.heap.size w' v l) ∧ Below w.heap.size w w'

set_option maxRecDepth 100000 in
set_option maxHeartbeats 3200000 in
theorem l14Add_any (lo : Nat) (a : Option Addr) (n c : Nat) (l : List Co) (tx out amt : Int) (lock : ByteArray) (ht : Int) (rew : Bool) (w : World) (h : CoL lo w a n l) (hn : n ≤ 1000) :
    Calls Try.prog 42 #[.slice a n c, .agg #[.int .i64 tx, .int .i64 out, .int .i64 amt, .string lock, .int .i64 ht, .bool rew]] w (CoLA (Co.put l (Co.at_ l tx out) ⟨tx, out, amt, lock, ht, rew⟩) w) := by
  obtain ⟨i0, hi, hz0, hz1, hz2⟩ := info_parts info_coin
  have hL := h.1
  obtain ⟨K, hK⟩ : ∃ x, Co.at_ l tx out = x := ⟨_, rfl⟩
  have hKn : K ≤ n := by rw [← hK, ← hL]; exact (Co.at_spec l tx out).1
  have HAT := Lib.hid (fun W (hW : CoL lo W a n l) => l14At_any lo a n c l tx out W hW (by omega))
  simp only [hK] at HAT
  rw [hK]
  obtain ⟨P, hP⟩ : ∃ x, Co.put l K ⟨tx, out, amt, lock, ht, rew⟩ = x := ⟨_, rfl⟩
  have hPl : P.length = n + 1 := by rw [← hP, Co.put_length (by omega), hL]
  have HP1 : Hid (∀ j, j < K → Co.nth P j = Co.nth l j) := Lib.hid fun j hj => by rw [← hP, Co.nth_put (by omega), if_pos hj]
  have HP2 : Hid (Co.nth P K = ⟨tx, out, amt, lock, ht, rew⟩) := Lib.hid (by rw [← hP, Co.nth_put (by omega), if_neg (by omega), if_pos rfl])
  have HP3 : Hid (∀ j, K ≤ j → j < n → Co.nth P (j + 1) = Co.nth l j) := Lib.hid fun j hj _ => by rw [← hP, Co.nth_put (by omega), if_neg (by omega), if_neg (by omega), Nat.add_sub_cancel]
  rw [hP]
  have HPL := Lib.hid hPl
  have HH := Lib.hid h
  have v0 : Bk w.heap.size 30 #[.int .i64 tx, .int .i64 out, .int .i64 amt, .string lock, .int .i64 ht, .bool rew] (w.alloc (.cells #[.int .i64 tx, .int .i64 out, .int .i64 amt, .string lock, .int .i64 ht, .bool rew] 30 (0, 0))) := Bk.new _ _ _
  have hb0 : Below w.heap.size w (w.alloc (.cells #[.int .i64 tx, .int .i64 out, .int .i64 amt, .string lock, .int .i64 ht, .bool rew] 30 (0, 0))) := (Below.refl _ _).alloc (Nat.le_refl _) _
  have v1 := v0.alloc (.cells #[] 30 (0, 0))
  have hb1 := hb0.alloc hb0.size (.cells #[] 30 (0, 0))
  have HO1 : Hid (((w.alloc (.cells #[.int .i64 tx, .int .i64 out, .int .i64 amt, .string lock, .int .i64 ht, .bool rew] 30 (0, 0))).alloc (.cells #[] 30 (0, 0))).ownsRow (w.heap.size + 1) 30 6 (.slice (some ⟨w.heap.size + 1, 0, none⟩) 0 0) 0 (Co.cs (P.take 0))) := Lib.hid (by
    have := World.ownsRow_made (e := 30) (size := 6) (base := w.heap.size + 1) (w.alloc (.cells #[.int .i64 tx, .int .i64 out, .int .i64 amt, .string lock, .int .i64 ht, .bool rew] 30 (0, 0))) #[] 0 (by simp) (by decide) rfl
    simpa [Co.cs] using this)
  have hcs := HAT.out ((w.alloc (.cells #[.int .i64 tx, .int .i64 out, .int .i64 amt, .string lock, .int .i64 ht, .bool rew] 30 (0, 0))).alloc (.cells #[] 30 (0, 0))) ((h.alloc _).alloc _)
  obtain ⟨c0, c1, c2, c3, c4, c5⟩ := Bk.c6 v1
  clear h hK hP hPl v0 hb0 HAT
  go_enter Try.func42, Try.ntmps42
  go_wp2_with fail
  refine hcs.mono ?_
  rintro e w2 ⟨rfl, hx⟩
  have v2 := v1.below hx
  have hb2 := hb1.trans (hx.mono hb1.size)
  have HO2 := Lib.hid (own_belC HO1.out hx)
  clear hx hcs c0 c1 c2 c3 c4 c5 v1 hb1 HO1
  go_wp2
  go_loopw [5, 7] (fun v i wr => ∃ k : Nat, k ≤ K ∧ i = .int .i64 (k : Int) ∧ Hid (wr.ownsRow (w.heap.size + 1) 30 6 v k (Co.cs (P.take k))) ∧ Bk w.heap.size 30 #[.int .i64 tx, .int .i64 out, .int .i64 amt, .string lock, .int .i64 ht, .bool rew] wr ∧ Below w.heap.size w wr)
    (fun _ i _ => K - (intOf i).toNat)
  case atStart => exact ⟨0, by omega, rfl, HO2, v2, hb2⟩
  case round =>
    obtain ⟨k, hk, rfl, HO, vB, hbel⟩ := hrel
    clear HO2 v2 hb2
    by_cases hlt : k < K
    · have hlt2 : k < n := by omega
      obtain ⟨g, off, rfl, _, _, hc⟩ := (HH.out.below hbel).2 (by omega)
      obtain ⟨e0, e1, e2, e3, e4, e5⟩ := hc k hlt2
      have HNX := Lib.hid (HP1.out k hlt)
      obtain ⟨x, hX⟩ : ∃ x, Co.nth l k = x := ⟨_, rfl⟩
      rw [hX] at e0 e1 e2 e3 e4 e5 HNX
      clear hc hX
      obtain ⟨x0, x1, x2, x3, x4, x5⟩ := x
      simp only at e0 e1 e2 e3 e4 e5
      have HLST := Lib.hid (Co.cs_snoc (l := P) (k := k) (by rw [HPL.out]; omega) HNX.out)
      have hsz5 := hbel.size
      have hown4 := HO.out
      go_wp2_with (at_builtin; refine wpList_append_own _ rfl _ _ 25 rfl (w.heap.size + 1) 30 i0 (.agg #[.int .i64 0, .int .i64 0, .int .i64 0, .string ⟨#[]⟩, .int .i64 0, .bool false]) 6 56 Try.underlying25 hi hz0 hz1 hz2 rfl (by decide) _ _ _ rfl (hown4.alloc (.cells #[.int .i64 x0, .int .i64 x1, .int .i64 x2, .string x3, .int .i64 x4, .bool x5] 30 (0, 0))) ⟨wr.heap.size, 0, none⟩ 1 1 [.int .i64 x0, .int .i64 x1, .int .i64 x2, .string x3, .int .i64 x4, .bool x5] rfl rfl ?_ ?_ ?_ ?_ ?_ ?_)
      any_goals first | exact newsC _ [.int .i64 x0, .int .i64 x1, .int .i64 x2, .string x3, .int .i64 x4, .bool x5] _ | (intro u hu; simp at hu; rcases hu with rfl | rfl | rfl | rfl | rfl | rfl <;> rfl) | (unfold maxLen; omega) | omega | exact Nat.le_trans hsz5 (by simp) | (simp; omega)
      intro v5 w5 hown5 hgrow5 _
      have hb5 : Below w.heap.size w w5 := (hbel.alloc hsz5 (.cells #[.int .i64 x0, .int .i64 x1, .int .i64 x2, .string x3, .int .i64 x4, .bool x5] 30 (0, 0))).grown hgrow5 (Nat.le_trans hsz5 (by simp)) (fun q hq => by have := (hown4.lt _ hq).1; omega)
      have HO5 : Hid (w5.ownsRow (w.heap.size + 1) 30 6 v5 (k + 1) (Co.cs (P.take (k + 1)))) := Lib.hid (by rw [HLST.out]; exact hown5)
      have v5B : Bk w.heap.size 30 #[.int .i64 tx, .int .i64 out, .int .i64 amt, .string lock, .int .i64 ht, .bool rew] w5 := ⟨(hgrow5.block _ (by have := vB.lt; simp; omega) (fun e => by have := (hown4.lt _ e.symm).1; omega)).trans (vB.alloc _).held⟩
      clear hown4 hown5 hgrow5 hbel vB e0 e1 e2 e3 e4 e5 HO HLST HNX hsz5
      go_wp2
      go_roundw
      case rel => exact ⟨k + 1, by omega, by simp, HO5, v5B, hb5⟩
      case measure => simp [intOf]; omega
    · have hkk : k = K := by omega
      subst hkk
      obtain ⟨c0, c1, c2, c3, c4, c5⟩ := Bk.c6 vB
      have HLST := Lib.hid (Co.cs_snoc (l := P) (k := k) (by rw [HPL.out]; omega) HP2.out)
      have hsz5 := hbel.size
      have hown4 := HO.out
      go_wp2_with (at_builtin; refine wpList_append_own _ rfl _ _ 25 rfl (w.heap.size + 1) 30 i0 (.agg #[.int .i64 0, .int .i64 0, .int .i64 0, .string ⟨#[]⟩, .int .i64 0, .bool false]) 6 56 Try.underlying25 hi hz0 hz1 hz2 rfl (by decide) _ _ _ rfl (hown4.alloc (.cells #[.int .i64 tx, .int .i64 out, .int .i64 amt, .string lock, .int .i64 ht, .bool rew] 30 (0, 0))) ⟨wr.heap.size, 0, none⟩ 1 1 [.int .i64 tx, .int .i64 out, .int .i64 amt, .string lock, .int .i64 ht, .bool rew] rfl rfl ?_ ?_ ?_ ?_ ?_ ?_)
      any_goals first | exact newsC _ [.int .i64 tx, .int .i64 out, .int .i64 amt, .string lock, .int .i64 ht, .bool rew] _ | (intro u hu; simp at hu; rcases hu with rfl | rfl | rfl | rfl | rfl | rfl <;> rfl) | (unfold maxLen; omega) | omega | exact Nat.le_trans hsz5 (by simp) | (simp; omega)
      intro v5 w5 hown5 hgrow5 _
      have hb5 : Below w.heap.size w w5 := (hbel.alloc hsz5 (.cells #[.int .i64 tx, .int .i64 out, .int .i64 amt, .string lock, .int .i64 ht, .bool rew] 30 (0, 0))).grown hgrow5 (Nat.le_trans hsz5 (by simp)) (fun q hq => by have := (hown4.lt _ hq).1; omega)
      have HO5 : Hid (w5.ownsRow (w.heap.size + 1) 30 6 v5 (k + 1) (Co.cs (P.take (k + 1)))) := Lib.hid (by rw [HLST.out]; exact hown5)
      clear hown4 hown5 hgrow5 hbel vB c0 c1 c2 c3 c4 c5 HO HLST hsz5 HP1 HP2
      go_wp2
      obtain ⟨wz, hwz⟩ : ∃ x, x = w5 := ⟨_, rfl⟩
      rw [← hwz] at hb5 HO5
      rw [← hwz]
      clear hwz
      go_loopw [5, 8] (fun v i wr => ∃ j : Nat, k ≤ j ∧ j ≤ n ∧ i = .int .i64 (j : Int) ∧ Hid (wr.ownsRow (w.heap.size + 1) 30 6 v (j + 1) (Co.cs (P.take (j + 1)))) ∧ Below w.heap.size w wr)
        (fun _ i _ => n - (intOf i).toNat)
      case atStart => exact ⟨k, by omega, hKn, rfl, HO5, hb5⟩
      case round =>
        obtain ⟨j, hj1, hj2, rfl, HO, hbel⟩ := hrel
        clear HO5 hb5
        by_cases hlt2 : j < n
        · obtain ⟨g, off, rfl, _, _, hc⟩ := (HH.out.below hbel).2 (by omega)
          obtain ⟨e0, e1, e2, e3, e4, e5⟩ := hc j hlt2
          have HNX := Lib.hid (HP3.out j hj1 hlt2)
          obtain ⟨x, hX⟩ : ∃ x, Co.nth l j = x := ⟨_, rfl⟩
          rw [hX] at e0 e1 e2 e3 e4 e5 HNX
          clear hc hX
          obtain ⟨x0, x1, x2, x3, x4, x5⟩ := x
          simp only at e0 e1 e2 e3 e4 e5
          have HLST := Lib.hid (Co.cs_snoc (l := P) (k := j + 1) (by rw [HPL.out]; omega) HNX.out)
          have hsz5 := hbel.size
          have hown4 := HO.out
          go_wp2_with (at_builtin; refine wpList_append_own _ rfl _ _ 25 rfl (w.heap.size + 1) 30 i0 (.agg #[.int .i64 0, .int .i64 0, .int .i64 0, .string ⟨#[]⟩, .int .i64 0, .bool false]) 6 56 Try.underlying25 hi hz0 hz1 hz2 rfl (by decide) _ _ _ rfl (hown4.alloc (.cells #[.int .i64 x0, .int .i64 x1, .int .i64 x2, .string x3, .int .i64 x4, .bool x5] 30 (0, 0))) ⟨wr.heap.size, 0, none⟩ 1 1 [.int .i64 x0, .int .i64 x1, .int .i64 x2, .string x3, .int .i64 x4, .bool x5] rfl rfl ?_ ?_ ?_ ?_ ?_ ?_)
          any_goals first | exact newsC _ [.int .i64 x0, .int .i64 x1, .int .i64 x2, .string x3, .int .i64 x4, .bool x5] _ | (intro u hu; simp at hu; rcases hu with rfl | rfl | rfl | rfl | rfl | rfl <;> rfl) | (unfold maxLen; omega) | omega | exact Nat.le_trans hsz5 (by simp) | (simp; omega)
          intro v5 w5 hown5 hgrow5 _
          have hb5 : Below w.heap.size w w5 := (hbel.alloc hsz5 (.cells #[.int .i64 x0, .int .i64 x1, .int .i64 x2, .string x3, .int .i64 x4, .bool x5] 30 (0, 0))).grown hgrow5 (Nat.le_trans hsz5 (by simp)) (fun q hq => by have := (hown4.lt _ hq).1; omega)
          have HO5 : Hid (w5.ownsRow (w.heap.size + 1) 30 6 v5 ((j + 1) + 1) (Co.cs (P.take (j + 1 + 1)))) := Lib.hid (by rw [HLST.out]; exact hown5)
          clear hown4 hown5 hgrow5 hbel e0 e1 e2 e3 e4 e5 HO HLST HNX hsz5
          go_wp2
          go_roundw
          case rel => exact ⟨j + 1, by omega, by omega, by simp, HO5, hb5⟩
          case measure => simp [intOf]; omega
        · have hjn : j = n := by omega
          have HJ := Lib.hid hjn
          clear HP3 HH hjn
          go_wp2
          go_ret
          refine ⟨_, rfl, Lib.hid ?_, hbel⟩
          unfold OwnC
          rw [HPL.out, ← HJ.out]
          have h1 := own_lowC HO.out (Nat.le_succ w.heap.size)
          rw [List.take_of_length_le (by rw [HPL.out]; exact Nat.succ_le_succ (Nat.le_of_eq HJ.out.symm))] at h1
          exact h1
end Go.Proofs.Ytohameoomlehlab
