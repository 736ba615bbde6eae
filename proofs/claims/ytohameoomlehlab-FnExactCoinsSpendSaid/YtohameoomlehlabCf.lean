/-
  Contracts of the model: CoinsAdd, CoinsSpend.
-/
import Derived.Test.YtohameoomlehlabCe
import Derived.Deep.RegionWith
namespace Go.Proofs.Ytohameoomlehlab
open Go.RowKit Go.Deep

theorem OwnC.nilC (base : Nat) (w : World) : OwnC base w (.slice none 0 0) [] := ⟨by simp [Co.cs], .inl ⟨rfl, rfl⟩⟩
/-- What a call answers that hands back coins of its own, or none. -/
def CoAA (l : List Co) (ok : Bool) (w : World) (e : Ending) (w' : World) : Prop := ∃ v, e = .returned (.tuple #[v, .bool ok]) ∧ Hid (OwnC w.heap.size w' v l) ∧ Below w.heap.size w w'
/-- .. and a coin. -/
def CoSA (l : List Co) (c : Co) (ok : Bool) (w : World) (e : Ending) (w' : World) : Prop := ∃ v, e = .returned (.tuple #[v, .agg #[.int .i64 c.tx, .int .i64 c.out, .int .i64 c.amt, .string c.lock, .int .i64 c.ht, .bool c.rew], .bool ok]) ∧ Hid (OwnC w.heap.size w' v l) ∧ Below w.heap.size w w'
theorem Co.add_no1 {l : List Co} {c : Co} (h : Co.lok l = false) : Co.add l c = none := by
  unfold Co.add; rw [if_neg (by rw [h]; decide)]
theorem Co.add_no2 {l : List Co} {c : Co} (h : c.ok = false) : Co.add l c = none := by
  unfold Co.add; split
  · rw [if_neg (by rw [h]; decide)]
  · rfl
theorem Co.add_no3 {l : List Co} {c : Co} (h : l.length = 80) : Co.add l c = none := by
  unfold Co.add; simp [h]
theorem Co.add_no4 {l : List Co} {c : Co} (h : Co.has l c.tx c.out = true) : Co.add l c = none := by
  unfold Co.add; simp [h]
theorem Co.add_yes {l : List Co} {c : Co} (h1 : Co.lok l = true) (h2 : c.ok = true) (h3 : l.length ≠ 80) (h4 : Co.has l c.tx c.out = false) : Co.add l c = some (Co.put l (Co.at_ l c.tx c.out) c) := by
  unfold Co.add; rw [if_pos h1, if_pos h2, if_neg h3, if_neg (by rw [h4]; decide)]
set_option maxRecDepth 100000 in
set_option maxHeartbeats 3200000 in
theorem CoinsAdd_any (lo : Nat) (a : Option Addr) (n c : Nat) (l : List Co) (tx out amt : Int) (lock : ByteArray) (ht : Int) (rew : Bool) (w : World) (h : CoL lo w a n l) (hn : n ≤ 9223372036854775807) :
    Calls Try.prog 20 #[.slice a n c, .agg #[.int .i64 tx, .int .i64 out, .int .i64 amt, .string lock, .int .i64 ht, .bool rew]] w (CoAA ((Co.add l ⟨tx, out, amt, lock, ht, rew⟩).getD []) (Co.add l ⟨tx, out, amt, lock, ht, rew⟩).isSome w) := by
  have v0 : Bk w.heap.size 30 #[.int .i64 tx, .int .i64 out, .int .i64 amt, .string lock, .int .i64 ht, .bool rew] (w.alloc (.cells #[.int .i64 tx, .int .i64 out, .int .i64 amt, .string lock, .int .i64 ht, .bool rew] 30 (0, 0))) := Bk.new _ _ _
  have hb0 : Below w.heap.size w (w.alloc (.cells #[.int .i64 tx, .int .i64 out, .int .i64 amt, .string lock, .int .i64 ht, .bool rew] 30 (0, 0))) := (Below.refl _ _).alloc (Nat.le_refl _) _
  have HO := Lib.hid (fun W (hW : Below w.heap.size w W) => CoinsOk_any lo a n c l W (h.below hW) hn)
  have HK1 := Lib.hid (fun W => l14Ok_any tx out amt lock ht rew W)
  have HHAS := Lib.hid (fun W (hW : Below w.heap.size w W) => l14Has_any lo a n c l tx out W (h.below hW) hn)
  have HADD := Lib.hid (fun W (hW : Below w.heap.size w W) (hn : n ≤ 1000) => l14Add_any lo a n c l tx out amt lock ht rew W (h.below hW) hn)
  have HL := Lib.hid h.1
  have HF1 := Lib.hid (@Co.add_no1 l ⟨tx, out, amt, lock, ht, rew⟩)
  have HF2 := Lib.hid (@Co.add_no2 l ⟨tx, out, amt, lock, ht, rew⟩)
  have HF3 := Lib.hid (@Co.add_no3 l ⟨tx, out, amt, lock, ht, rew⟩)
  have HF4 := Lib.hid (@Co.add_no4 l ⟨tx, out, amt, lock, ht, rew⟩)
  have HF5 := Lib.hid (@Co.add_yes l ⟨tx, out, amt, lock, ht, rew⟩)
  have HLN := Lib.hid (fun hk : Co.lok l = true => ((Co.lok_iff l).1 hk).1)
  obtain ⟨K, hK⟩ : ∃ x, Co.lok l = x := ⟨_, rfl⟩
  obtain ⟨O, hO⟩ : ∃ x, Co.ok ⟨tx, out, amt, lock, ht, rew⟩ = x := ⟨_, rfl⟩
  obtain ⟨B, hB⟩ : ∃ x, Co.has l tx out = x := ⟨_, rfl⟩
  obtain ⟨Q, hQ⟩ : ∃ x, Co.put l (Co.at_ l tx out) ⟨tx, out, amt, lock, ht, rew⟩ = x := ⟨_, rfl⟩
  obtain ⟨R, hR⟩ : ∃ x, Co.add l ⟨tx, out, amt, lock, ht, rew⟩ = x := ⟨_, rfl⟩
  simp only [hK] at HO HF1 HF5 HLN
  simp only [hO] at HK1 HF2 HF5
  simp only [hB] at HHAS HF4 HF5
  simp only [hQ] at HADD HF5
  simp only [hR] at HF1 HF2 HF3 HF4 HF5
  rw [hR]
  rw [HL.out] at HF3 HF5 HLN
  clear h hK hO hB hQ hR HL
  have hcs := HO.out _ hb0
  go_enter Try.func20, Try.ntmps20
  go_wp2_with fail
  refine hcs.mono ?_
  rintro e w1 ⟨rfl, hx⟩
  have v1 := v0.below hx
  have hb1 := hb0.trans (hx.mono hb0.size)
  clear hx hcs v0 hb0
  cases K
  · have hFn := HF1.out (by first | trivial | rfl)
    subst hFn
    clear HO HK1 HHAS HADD HF1 HF2 HF3 HF4 HF5 HLN v1
    go_wp2
    go_ret2
    exact ⟨_, rfl, Lib.hid (OwnC.nilC _ _), hb1⟩
  have hcs := HK1.out w1
  obtain ⟨c0, c1, c2, c3, c4, c5⟩ := Bk.c6 v1
  go_wp2_with fail
  refine hcs.mono ?_
  rintro e w2 ⟨rfl, hx⟩
  have v2 := v1.below hx
  have hb2 := hb1.trans (hx.mono hb1.size)
  clear hx hcs v1 hb1 c0 c1 c2 c3 c4 c5
  cases O
  · have hFn := HF2.out (by first | trivial | rfl)
    subst hFn
    clear HO HK1 HHAS HADD HF1 HF2 HF3 HF4 HF5 HLN v2
    go_wp2
    go_ret2
    exact ⟨_, rfl, Lib.hid (OwnC.nilC _ _), hb2⟩
  by_cases h80 : n = 80
  · have hFn := HF3.out h80
    subst hFn
    have hd : ((n : Int) == 80) = true := by subst h80; rfl
    clear HO HK1 HHAS HADD HF1 HF2 HF3 HF4 HF5 HLN v2 h80
    go_wp2
    go_ret2
    exact ⟨_, rfl, Lib.hid (OwnC.nilC _ _), hb2⟩
  have hd : ((n : Int) == 80) = false := by simp; omega
  have HNE := Lib.hid h80
  have hle := HLN.out (by first | trivial | rfl)
  clear h80
  have hcs := HHAS.out w2 hb2
  obtain ⟨c0, c1, c2, c3, c4, c5⟩ := Bk.c6 v2
  go_wp2_with fail
  refine hcs.mono ?_
  rintro e w3 ⟨rfl, hx⟩
  have v3 := v2.below hx
  have hb3 := hb2.trans (hx.mono hb2.size)
  clear hx hcs v2 hb2 c0 c1 c2 c3 c4 c5
  cases B
  case true =>
    have hFn := HF4.out (by first | trivial | rfl)
    subst hFn
    clear HO HK1 HHAS HADD HF1 HF2 HF3 HF4 HF5 HLN v3
    go_wp2
    go_ret2
    exact ⟨_, rfl, Lib.hid (OwnC.nilC _ _), hb3⟩

  have hFn := HF5.out (by first | trivial | rfl) (by first | trivial | rfl) HNE.out (by first | trivial | rfl)
  subst hFn
  have hcs := HADD.out w3 hb3 (by omega)
  obtain ⟨c0, c1, c2, c3, c4, c5⟩ := Bk.c6 v3
  go_wp2_with fail
  refine hcs.mono ?_
  rintro e w4 ⟨v, rfl, HV, hx⟩
  have hb4 := hb3.trans (hx.mono hb3.size)
  have HV2 := Lib.hid (HV.out.base hb3.size)
  clear hx hcs v3 hb3 c0 c1 c2 c3 c4 c5 HV HO HK1 HHAS HADD HF1 HF2 HF3 HF4 HF5 HLN
  go_wp2
  go_ret2
  exact ⟨_, rfl, HV2, hb4⟩
set_option maxRecDepth 100000 in
set_option maxHeartbeats 3200000 in
theorem l14Cut_any (lo : Nat) (a : Option Addr) (n c : Nat) (l : List Co) (t o : Int) (w : World) (h : CoL lo w a n l) (hn : n ≤ 1000) (hk : Co.at_ l t o < n) :
    Calls Try.prog 46 #[.slice a n c, .int .i64 t, .int .i64 o] w (CoLA (Co.cut l (Co.at_ l t o)) w) := by
  obtain ⟨i0, hi, hz0, hz1, hz2⟩ := info_parts info_coin
  have hL := h.1
  have HAT := Lib.hid (fun W (hW : CoL lo W a n l) => l14At_any lo a n c l t o W hW (by omega))
  obtain ⟨K, hK⟩ : ∃ x, Co.at_ l t o = x := ⟨_, rfl⟩
  simp only [hK] at HAT hk
  rw [hK]
  obtain ⟨P, hP⟩ : ∃ x, Co.cut l K = x := ⟨_, rfl⟩
  have hPl : P.length = n - 1 := by rw [← hP, Co.cut_length (by omega), hL]
  have HP1 : Hid (∀ j, j < K → Co.nth P j = Co.nth l j) := Lib.hid fun j hj => by rw [← hP, Co.nth_cut (by omega), if_pos hj]
  have HP3 : Hid (∀ j, K ≤ j → Co.nth P j = Co.nth l (j + 1)) := Lib.hid fun j hj => by rw [← hP, Co.nth_cut (by omega), if_neg (by omega)]
  rw [hP]
  have HPL := Lib.hid hPl
  have HH := Lib.hid h
  have hcs := HAT.out w h
  clear h hK hP hPl HAT
  go_enter Try.func46, Try.ntmps46
  go_wp2_with fail
  refine hcs.mono ?_
  rintro e w1 ⟨rfl, hb1⟩
  have HO1 : Hid ((w1.alloc (.cells #[] 30 (0, 0))).ownsRow w.heap.size 30 6 (.slice (some ⟨w1.heap.size, 0, none⟩) 0 0) 0 (Co.cs (P.take 0))) := Lib.hid (by
    have := World.ownsRow_made (e := 30) (size := 6) (base := w.heap.size) w1 #[] 0 hb1.size (by decide) rfl
    simpa [Co.cs] using this)
  have hb2 := hb1.alloc hb1.size (.cells #[] 30 (0, 0))
  clear hcs
  go_wp2
  go_loopw [8, 9] (fun v i wr => ∃ k j : Nat, k ≤ n ∧ ((k ≤ K ∧ j = k) ∨ (K < k ∧ j + 1 = k)) ∧ i = .int .i64 (k : Int) ∧ Hid (wr.ownsRow w.heap.size 30 6 v j (Co.cs (P.take j))) ∧ Below w.heap.size w wr)
    (fun _ i _ => n - (intOf i).toNat)
  case atStart => exact ⟨0, 0, by omega, by omega, rfl, HO1, hb2⟩
  case round =>
    obtain ⟨k, j, hk2, hjk, rfl, HO, hbel⟩ := hrel
    clear HO1 hb1 hb2
    by_cases hlt : k < n
    · by_cases hkk : k = K
      · have hd : ((k : Int) == (K : Int)) = true := by rw [hkk]; simp
        have hjk2 : j = k := by omega
        have HKK := Lib.hid hkk
        clear hkk
        go_wp2
        go_roundw
        case rel => exact ⟨k + 1, j, by omega, .inr ⟨by have := HKK.out; omega, by omega⟩, by simp, HO, hbel⟩
        case measure => simp [intOf]; omega
      · have hd : ((k : Int) == (K : Int)) = false := by simp; omega
        obtain ⟨g, off, rfl, _, _, hc⟩ := (HH.out.below hbel).2 (by omega)
        obtain ⟨e0, e1, e2, e3, e4, e5⟩ := hc k hlt
        have HNX : Hid (Co.nth P j = Co.nth l k) := Lib.hid (by
          rcases hjk with ⟨h1, h2⟩ | ⟨h1, h2⟩
          · rw [h2]; exact HP1.out k (by omega)
          · rw [← h2]; exact HP3.out j (by omega))
        have hjP : j < P.length := by rw [HPL.out]; omega
        obtain ⟨x, hX⟩ : ∃ x, Co.nth l k = x := ⟨_, rfl⟩
        rw [hX] at e0 e1 e2 e3 e4 e5 HNX
        clear hc hX
        obtain ⟨x0, x1, x2, x3, x4, x5⟩ := x
        simp only at e0 e1 e2 e3 e4 e5
        have HLST := Lib.hid (Co.cs_snoc (l := P) (k := j) hjP HNX.out)
        have hsz5 := hbel.size
        have hown4 := HO.out
        go_wp2_with (at_builtin; refine wpList_append_own _ rfl _ _ 25 rfl (w.heap.size) 30 i0 (.agg #[.int .i64 0, .int .i64 0, .int .i64 0, .string ⟨#[]⟩, .int .i64 0, .bool false]) 6 56 Try.underlying25 hi hz0 hz1 hz2 rfl (by decide) _ _ _ rfl (hown4.alloc (.cells #[.int .i64 x0, .int .i64 x1, .int .i64 x2, .string x3, .int .i64 x4, .bool x5] 30 (0, 0))) ⟨wr.heap.size, 0, none⟩ 1 1 [.int .i64 x0, .int .i64 x1, .int .i64 x2, .string x3, .int .i64 x4, .bool x5] rfl rfl ?_ ?_ ?_ ?_ ?_ ?_)
        any_goals first | exact newsC _ [.int .i64 x0, .int .i64 x1, .int .i64 x2, .string x3, .int .i64 x4, .bool x5] _ | (intro u hu; simp at hu; rcases hu with rfl | rfl | rfl | rfl | rfl | rfl <;> rfl) | (unfold maxLen; omega) | omega | exact Nat.le_trans hsz5 (by simp) | (simp; omega)
        intro v5 w5 hown5 hgrow5 _
        have hb5 : Below w.heap.size w w5 := (hbel.alloc hsz5 (.cells #[.int .i64 x0, .int .i64 x1, .int .i64 x2, .string x3, .int .i64 x4, .bool x5] 30 (0, 0))).grown hgrow5 (Nat.le_trans hsz5 (by simp)) (fun q hq => by have := (hown4.lt _ hq).1; omega)
        have HO5 : Hid (w5.ownsRow (w.heap.size) 30 6 v5 (j + 1) (Co.cs (P.take (j + 1)))) := Lib.hid (by rw [HLST.out]; exact hown5)
        have HJK := Lib.hid hjk
        have HKK := Lib.hid hkk
        clear hown4 hown5 hgrow5 hbel e0 e1 e2 e3 e4 e5 HO HLST HNX hsz5 hjk hkk
        go_wp2
        go_roundw
        case rel => exact ⟨k + 1, j + 1, by omega, by have := HJK.out; have := HKK.out; omega, by simp, HO5, hb5⟩
        case measure => simp [intOf]; omega
    · have hjn : P.length = j := by rw [HPL.out]; omega
      have HJ := Lib.hid hjn
      clear HH hjn HP1 HP3 HPL
      go_wp2
      go_ret
      refine ⟨_, rfl, Lib.hid ?_, hbel⟩
      unfold OwnC
      rw [HJ.out]
      have h1 := HO.out
      rw [List.take_of_length_le (Nat.le_of_eq HJ.out)] at h1
      exact h1
theorem results_rowC3 {P : Program} {fn : Func} {p u v : Tmp} {ty : TypeId} (h : fn.results = #[.tmp u, .cell p ty, .tmp v]) (tmps : Array Value) (w : World) (g : Nat) (t : TypeId) (cs : Array Value) (fr : Nat × Nat) (d : TypeDesc)
    (hp : tmps.getD p undef = .pointer (some ⟨g, 0, none⟩)) (hg : w.heap[g]? = some (.cells cs t fr))
    (hu : P.underlying ty = some d) (hd : (match d with | .struct _ | .array _ _ => true | _ => false) = true) (hi : (P.info? ty).map (·.size) = some cs.size) :
    (results fn tmps).run P w = .ok (.tuple #[tmps.getD u undef, .agg cs, tmps.getD v undef]) w := by
  have hp' : tmps[p]?.getD undef = .pointer (some ⟨g, 0, none⟩) := by simpa using hp
  simp [results, h, hp', asAddr, run_loadVar_row w g t ty cs fr d hg hu hd hi]
theorem grownBy_setC6 (w : World) (B i : Nat) (v : Value) : w.grownBy (w.setCell ⟨B, i, none⟩ v) (some B) := ⟨rfl, rfl, rfl, by simp [World.setCell], fun j _ hr => Below.heap_setCell _ _ _ _ (fun e => hr (by simp [e]))⟩
theorem gtrans6 (w : World) (B : Nat) (v0 v1 v2 v3 v4 v5 : Value) : w.grownBy ((((((w.setCell ⟨B, 0, none⟩ v0).setCell ⟨B, 1, none⟩ v1).setCell ⟨B, 2, none⟩ v2).setCell ⟨B, 3, none⟩ v3).setCell ⟨B, 4, none⟩ v4).setCell ⟨B, 5, none⟩ v5) (some B) :=
  grownBy_trans' (grownBy_trans' (grownBy_trans' (grownBy_trans' (grownBy_trans' (grownBy_setC6 w B 0 v0) (grownBy_setC6 _ B 1 v1)) (grownBy_setC6 _ B 2 v2)) (grownBy_setC6 _ B 3 v3)) (grownBy_setC6 _ B 4 v4)) (grownBy_setC6 _ B 5 v5)
theorem OwnC.set6 {base B : Nat} {w : World} {v : Value} {l : List Co} (h : OwnC base w v l) (hB : B < base) (v0 v1 v2 v3 v4 v5 : Value) : OwnC base ((((((w.setCell ⟨B, 0, none⟩ v0).setCell ⟨B, 1, none⟩ v1).setCell ⟨B, 2, none⟩ v2).setCell ⟨B, 3, none⟩ v3).setCell ⟨B, 4, none⟩ v4).setCell ⟨B, 5, none⟩ v5) v l :=
  h.kept (gtrans6 w B v0 v1 v2 v3 v4 v5) hB
set_option maxRecDepth 100000 in
set_option maxHeartbeats 3200000 in
theorem CoinsSpend_any (lo : Nat) (a : Option Addr) (n c : Nat) (l : List Co) (t o : Int) (w : World) (h : CoL lo w a n l) (hn : n ≤ 9223372036854775807) :
    Calls Try.prog 25 #[.slice a n c, .int .i64 t, .int .i64 o] w (CoSA ((Co.spend l t o).map Prod.fst |>.getD []) (Co.get ((Co.spend l t o).map Prod.snd)) (Co.spend l t o).isSome w) := by
  have v0 : Bk w.heap.size 30 #[.int .i64 0, .int .i64 0, .int .i64 0, .string ⟨#[]⟩, .int .i64 0, .bool false] (w.alloc (.cells #[.int .i64 0, .int .i64 0, .int .i64 0, .string ⟨#[]⟩, .int .i64 0, .bool false] 30 (0, 0))) := Bk.new _ _ _
  have hb0 : Below w.heap.size w (w.alloc (.cells #[.int .i64 0, .int .i64 0, .int .i64 0, .string ⟨#[]⟩, .int .i64 0, .bool false] 30 (0, 0))) := (Below.refl _ _).alloc (Nat.le_refl _) _
  have hcs := CoinsFind_any lo a n c l t o _ (h.below hb0) hn
  have HL := Lib.hid h.1
  have HH := Lib.hid h
  cases hF : Co.find l t o with
  | none =>
    rw [Co.spend_none hF]
    rw [hF] at hcs
    have hG0 : Co.get none = ⟨0, 0, 0, ⟨#[]⟩, 0, false⟩ := rfl
    rw [hG0] at hcs
    unfold CoA at hcs
    simp only at hcs
    clear hF h hG0
    go_enter Try.func25, Try.ntmps25
    go_wp2_with fail
    refine hcs.mono ?_
    rintro e w1 ⟨rfl, hx⟩
    have hb1 := hb0.trans (hx.mono hb0.size)
    have hb2 := hb1.alloc hb1.size (.cells #[.int .i64 0, .int .i64 0, .int .i64 0, .string ⟨#[]⟩, .int .i64 0, .bool false] 30 (0, 0))
    have v1 := (v0.below hx).alloc (.cells #[.int .i64 0, .int .i64 0, .int .i64 0, .string ⟨#[]⟩, .int .i64 0, .bool false] 30 (0, 0))
    have hR := Bk.store6 v1 (.int .i64 0) (.int .i64 0) (.int .i64 0) (.string ⟨#[]⟩) (.int .i64 0) (.bool false)
    have hbz := below_set6 hb2 (Nat.le_refl w.heap.size) (.int .i64 0) (.int .i64 0) (.int .i64 0) (.string ⟨#[]⟩) (.int .i64 0) (.bool false)
    obtain ⟨c0, c1, c2, c3, c4, c5⟩ := Bk.c6 v1
    obtain ⟨f0, f1, f2, f3, f4, f5⟩ := Bk.f6 v1
    clear hx hcs v0 hb0 v1 hb1 hb2 HH HL
    go_wp2
    refine bodyPost_ret (results_rowC3 (P := Try.prog) rfl _ _ w.heap.size 30 _ (0, 0) _ rfl hR.held Try.underlying30 rfl (by kernel_rfl)) rfl ?_
    exact ⟨_, rfl, Lib.hid (OwnC.nilC _ _), hbz⟩
  | some x =>
    obtain ⟨h1, h2, h3, h4, h5⟩ := Co.find_some hF
    have hk := ((Co.has_iff _ _ _).1 h2).1
    have h80 := ((Co.lok_iff l).1 h1).1
    have hkn : Co.at_ l t o < n := by rw [← h.1]; exact hk
    have HC := Lib.hid (fun W (hW : Below w.heap.size w W) => l14Cut_any lo a n c l t o W (h.below hW) (by rw [← h.1]; omega) hkn)
    rw [Co.spend_some hF]
    rw [hF] at hcs
    obtain ⟨Q, hQ⟩ : ∃ x, Co.cut l (Co.at_ l t o) = x := ⟨_, rfl⟩
    rw [hQ]
    simp only [hQ] at HC
    have HG : Hid (Co.get ((some (Q, x)).map Prod.snd) = x ∧ ((some (Q, x)).map Prod.fst).getD [] = Q) := Lib.hid ⟨rfl, rfl⟩
    rw [HG.out.1, HG.out.2]
    have HG2 : Hid (Co.get (some x) = x) := Lib.hid rfl
    rw [HG2.out] at hcs
    obtain ⟨tx, out, amt, lock, ht, rew⟩ := x
    unfold CoA at hcs
    simp only at hcs
    clear hF h h1 h2 h3 h4 h5 hk h80 hkn hQ HG HG2 HH HL
    go_enter Try.func25, Try.ntmps25
    go_wp2_with fail
    refine hcs.mono ?_
    rintro e w1 ⟨rfl, hx⟩
    have hb1 := hb0.trans (hx.mono hb0.size)
    have hb2 := hb1.alloc hb1.size (.cells #[.int .i64 tx, .int .i64 out, .int .i64 amt, .string lock, .int .i64 ht, .bool rew] 30 (0, 0))
    have v1 := (v0.below hx).alloc (.cells #[.int .i64 tx, .int .i64 out, .int .i64 amt, .string lock, .int .i64 ht, .bool rew] 30 (0, 0))
    have u1 : Bk w1.heap.size 30 #[.int .i64 tx, .int .i64 out, .int .i64 amt, .string lock, .int .i64 ht, .bool rew] (w1.alloc (.cells #[.int .i64 tx, .int .i64 out, .int .i64 amt, .string lock, .int .i64 ht, .bool rew] 30 (0, 0))) := Bk.new _ _ _
    clear hx hcs v0 hb0 hb1
    have hcd := HC.out _ hb2.drew
    have hS1 := Bk.c6 u1.drew
    go_wp2
    go_region_with (first | (go_at_call 46; refine hcd.mono ?_; rintro e w3 ⟨v, rfl, HV, hx⟩; have v3 := v1.drew.below hx; have u3 := u1.drew.below hx; have hb3 := hb2.drew.trans (hx.mono hb2.drew.size); obtain ⟨c0, c1, c2, c3, c4, c5⟩ := Bk.c6 u3; obtain ⟨y0, y1, y2, y3, y4, y5⟩ := Bk.c6 v3; obtain ⟨f0, f1, f2, f3, f4, f5⟩ := Bk.f6 v3))
    all_goals
      have hR := Bk.store6 v3 (.int .i64 tx) (.int .i64 out) (.int .i64 amt) (.string lock) (.int .i64 ht) (.bool rew)
      have hbz := below_set6 hb3 (Nat.le_refl w.heap.size) (.int .i64 tx) (.int .i64 out) (.int .i64 amt) (.string lock) (.int .i64 ht) (.bool rew)
      have hw2 : w.heap.size < (w1.alloc (.cells #[.int .i64 tx, .int .i64 out, .int .i64 amt, .string lock, .int .i64 ht, .bool rew] 30 (0, 0))).drew.heap.size := by have := v1.lt; exact this
      have HV2 := Lib.hid ((HV.out.set6 hw2 (.int .i64 tx) (.int .i64 out) (.int .i64 amt) (.string lock) (.int .i64 ht) (.bool rew)).base (Nat.le_of_lt hw2))
      clear HV v3 u3 hb3 hx hcd hS1 v1 u1 hb2 HC
      go_wp2
      refine bodyPost_ret (results_rowC3 (P := Try.prog) rfl _ _ w.heap.size 30 _ (0, 0) _ rfl hR.held Try.underlying30 rfl (by kernel_rfl)) rfl ?_
      exact ⟨_, rfl, HV2, hbz⟩
end Go.Proofs.Ytohameoomlehlab
