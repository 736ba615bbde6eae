/-
  Contracts of the program's chapter 3: peaks.
-/
import Derived.Test.YtdgepneaeieogacMc
import Derived.Test.YtdgepneaeieogacMv
import Derived.Laws.AppendOwnNone
namespace Go.Proofs.Ytdgepneaeieogac
open Go.RowKit

theorem slice_back3' (b off n cap k : Nat) (hk : k ≤ n) (hn : n ≤ cap) (W : World) :
    (Instr.slice 33 (.slice (some ⟨b, off, none⟩) n cap) (some (.int .i64 (k : Int))) (some (.int .i64 (n : Int))) (some (.int .i64 (n : Int)))).run Try.prog W = .ok (.slice (some (cutAt b off k n)) (n - k) (n - k)) W := by
  have e1 : (0 : Int) ≤ (k : Int) := by omega
  have e2 : (0 : Int) ≤ (n : Int) := by omega
  simp [Instr.slice, Instr.sliceBounds, Instr.sliceBound, asIntOf, run_underlying Try.underlying33, e1, e2, hk, hn]
  unfold cutAt
  by_cases hc : n = k
  · simp [hc]
  · by_cases hk0 : k = 0 <;> simp [hc, Addr.add, hk0]
theorem IR.news {w : World} {ad : Addr} {len : Nat} {zs : List Int} (h : IR w (some ad) len zs) : ∀ j u, (zs.map (Value.int .i64))[j]? = some u → w.cell? (ad.add j) = some u := by
  intro j u hj
  have hjl : j < zs.length := by
    rcases Nat.lt_or_ge j zs.length with h' | h'
    · exact h'
    · rw [List.getElem?_eq_none (by simpa using h')] at hj; cases hj
  obtain ⟨b, off, he, _, hc⟩ := h.2 (by have := h.1; omega)
  cases he
  have hadr : (⟨b, off, none⟩ : Addr).add j = ⟨b, off + j, none⟩ := by unfold Addr.add; split <;> simp_all
  rw [hadr, hc j (by have := h.1; omega)]
  rw [List.getElem?_map, List.getElem?_eq_getElem hjl] at hj
  rw [List.getD_eq_getElem?_getD, List.getElem?_eq_getElem hjl]
  simpa using hj
theorem one_cellsI (l : List Int) : ∀ u ∈ l.map (Value.int .i64), u.oneCell' = true := by
  intro u hu
  obtain ⟨t, _, rfl⟩ := List.mem_map.1 hu
  rfl

/-- append of what may be nil, as a step of a region. -/
theorem wp_append_any {P : Program} {o : Oper} {a : Act} {w : World} {K : Act → World → Prop} {Q : Exit → Act → World → Prop} (s x : Operand) (t : TypeId)
    (ho : o.op = .call { callee := .builtin .append, args := #[s, x], argTypes := #[t, t] })
    (base : Nat) (e : TypeId) (i : TypeInfo) (z : Value) (size bytes : Nat) (ht : P.underlying t = some (.slice e)) (hi : P.info? e = some i) (hz : i.zero = some z)
    (hsize : i.size = size) (hby : i.bytes = bytes) (hzs : z.cells.size = size) (hsz : 0 < size)
    (v : Value) (n : Nat) (xs : List Value) (hs : a.eval s = v) (hown : w.ownsRow base e size v n xs)
    (ad : Option Addr) (m c : Nat) (news : List Value) (hx : a.eval x = .slice ad m c) (hsrc : (ad = none ∧ m = 0 ∧ c = 0) ∨ ∃ ad', ad = some ad' ∧ ∀ j u, news[j]? = some u → w.cell? (ad'.add j) = some u)
    (hl : news.length = m * size) (h1 : ∀ u ∈ news, u.oneCell' = true)
    (h63 : n + m ≤ maxLen) (hbytes : (n + m) * bytes ≤ 140737488355328) (hbase : base ≤ w.heap.size)
    (hK : ∀ v' w', w'.ownsRow base e size v' (n + m) (xs ++ news) → w.grownBy w' v.ownBlock → K (a.put o.dst v') w') : o.wp P a w K Q := by
  rcases hsrc with ⟨rfl, rfl, rfl⟩ | ⟨ad', rfl, hnews⟩
  · have hn : news = [] := List.eq_nil_of_length_eq_zero (by omega)
    subst hn
    have hrun := run_append_owned_none (P := P) (w := w) base t o.type e i size ht hi v n xs hown
    have hk := hK v w (by simpa using hown) (World.grownBy.refl _ _)
    unfold Oper.wp
    simp [execOp, ho, resolve, invoke, builtin, hs, hx, hrun, Result.andThen]
    exact hk
  · exact wp_append_own w s x t ho base e i z size bytes ht hi hz hsize hby hzs hsz v n xs hs hown ad' m c news hx hl hnews h1 h63 hbytes hbase fun v' w' h2 h3 _ => hK v' w' h2 h3
theorem step_append_any {P : Program} {ops : Array Oper} {o : Oper} {a : Act} {w : World} {K : Act → World → Prop} {Q : Exit → Act → World → Prop} {E : Prop} (hg : o.guard = none) (s x : Operand) (t : TypeId)
    (ho : o.op = .call { callee := .builtin .append, args := #[s, x], argTypes := #[t, t] })
    (base : Nat) (e : TypeId) (i : TypeInfo) (z : Value) (size bytes : Nat) (ht : P.underlying t = some (.slice e)) (hi : P.info? e = some i) (hz : i.zero = some z)
    (hsize : i.size = size) (hby : i.bytes = bytes) (hzs : z.cells.size = size) (hsz : 0 < size)
    (v : Value) (n : Nat) (xs : List Value) (hs : a.eval s = v) (hown : w.ownsRow base e size v n xs)
    (ad : Option Addr) (m c : Nat) (news : List Value) (hx : a.eval x = .slice ad m c) (hsrc : (ad = none ∧ m = 0 ∧ c = 0) ∨ ∃ ad', ad = some ad' ∧ ∀ j u, news[j]? = some u → w.cell? (ad'.add j) = some u)
    (hl : news.length = m * size) (h1 : ∀ u ∈ news, u.oneCell' = true)
    (h63 : n + m ≤ maxLen) (hbytes : (n + m) * bytes ≤ 140737488355328) (hbase : base ≤ w.heap.size)
    (hK : ∀ v' w', w'.ownsRow base e size v' (n + m) (xs ++ news) → w.grownBy w' v.ownBlock → K (a.put o.dst v') w') :
    if Region.wanted o (yielded ops a.tmps) = true then Oper.wp P o a w K Q else E := by
  have hw : Region.wanted o (yielded ops a.tmps) = true := by simp [Region.wanted, hg]
  rw [if_pos hw]
  exact wp_append_any s x t ho base e i z size bytes ht hi hz hsize hby hzs hsz v n xs hs hown ad m c news hx hsrc hl h1 h63 hbytes hbase hK
theorem wpList_append_any {P : Program} {w : World} {ops : Array Oper} {rest : List Oper} {o : Oper} {a : Act} {Q : Exit → Act → World → Prop} (hgd : o.guard = none) (s x : Operand) (t : TypeId)
    (ho : o.op = .call { callee := .builtin .append, args := #[s, x], argTypes := #[t, t] })
    (base : Nat) (e : TypeId) (i : TypeInfo) (z : Value) (size bytes : Nat) (ht : P.underlying t = some (.slice e)) (hi : P.info? e = some i) (hz : i.zero = some z)
    (hsize : i.size = size) (hby : i.bytes = bytes) (hzs : z.cells.size = size) (hsz : 0 < size)
    (v : Value) (n : Nat) (xs : List Value) (hs : a.eval s = v) (hown : w.ownsRow base e size v n xs)
    (ad : Option Addr) (m c : Nat) (news : List Value) (hx : a.eval x = .slice ad m c) (hsrc : (ad = none ∧ m = 0 ∧ c = 0) ∨ ∃ ad', ad = some ad' ∧ ∀ j u, news[j]? = some u → w.cell? (ad'.add j) = some u)
    (hl : news.length = m * size) (h1 : ∀ u ∈ news, u.oneCell' = true)
    (h63 : n + m ≤ maxLen) (hbytes : (n + m) * bytes ≤ 140737488355328) (hbase : base ≤ w.heap.size)
    (h : ∀ v' w', w'.ownsRow base e size v' (n + m) (xs ++ news) → w.grownBy w' v.ownBlock → wpList P ops Q rest (a.put o.dst v') w') : wpList P ops Q (o :: rest) a w :=
  wpList_plain hgd fun _ hK => wp_append_any s x t ho base e i z size bytes ht hi hz hsize hby hzs hsz v n xs hs hown ad m c news hx hsrc hl h1 h63 hbytes hbase fun v' w' h2 h3 => hK _ _ (h v' w' h2 h3)
/-- A list of numbers that the call owns, as the source of an append. -/
theorem own_src {w : World} {base n c : Nat} {e : TypeId} {ad : Option Addr} {zs : List Int} (h : w.ownsRow base e 1 (.slice ad n c) n (zs.map (Value.int .i64))) :
    (ad = none ∧ n = 0 ∧ c = 0) ∨ ∃ ad', ad = some ad' ∧ ∀ j u, (zs.map (Value.int .i64))[j]? = some u → w.cell? (ad'.add j) = some u := by
  have hr := (IR.own h).2
  rcases h.2 with ⟨h, h0⟩ | ⟨g', cap', cur, h, _⟩
  · cases h
    exact .inl ⟨rfl, rfl, rfl⟩
  · cases h
    exact .inr ⟨_, rfl, hr.news⟩

set_option maxRecDepth 100000 in
set_option maxHeartbeats 1600000 in
theorem peaksOf_any : ∀ (n : Nat) (a : Option Addr) (cap : Nat) (ss : List ByteArray) (w : World), SR w a n ss → n ≤ 32 → n ≤ cap → cap ≤ 9223372036854775807 → (∀ s ∈ ss, s.size ≤ 4611686018427387904) →
    Calls Try.prog 40 #[.slice a n cap] w (OwnN w.heap.size (Me.peaks ss) w) := by
  intro n
  induction n using Nat.strongRecOn with
  | ind n ih =>
    intro a cap ss w hs h32 hcap hcap2 hz
    have hl := hs.1
    obtain ⟨i0, hi, hz0, hz1, hz2⟩ := info_parts info_int
    by_cases h0 : n = 0
    · subst h0
      have HP : Hid (Me.peaks ss = []) := Lib.hid (Me.peaks_nil (by omega))
      rw [HP.out]
      clear hs hz ih
      go_enter Try.func40, Try.ntmps40
      go_wp2
      go_ret
      exact ⟨none, 0, rfl, Below.refl _ _, ⟨rfl, .inl ⟨rfl, rfl⟩⟩⟩
    · have hk0 := Me.half_pos (n + 1)
      have hk1 := Me.half_lt (n + 1) (by omega)
      have hne : ((n : Int) == 0) = false := by simp; omega
      obtain ⟨k, HK⟩ : ∃ k, Hid (Me.half (n + 1) = k) := ⟨_, Lib.hid rfl⟩
      rw [HK.out] at hk0 hk1
      obtain ⟨b, off, rfl, hbw, _⟩ := hs.2 (by omega)
      have HF := Lib.hid (hs.front k (by omega))
      have HB := Lib.hid (hs.back k (by omega) (Nat.le_refl n))
      have HZF : Hid (∀ s ∈ ss.take k, s.size ≤ 4611686018427387904) := Lib.hid fun s h => hz s (List.mem_of_mem_take h)
      have HZB : Hid (∀ s ∈ ss.drop k, s.size ≤ 4611686018427387904) := Lib.hid fun s h => hz s (List.mem_of_mem_drop h)
      obtain ⟨b2, off2, hcut⟩ : ∃ b2 off2, cutAt b off k n = ⟨b2, off2, none⟩ := by
        unfold cutAt
        split
        · exact ⟨_, _, rfl⟩
        · exact ⟨_, _, rfl⟩
      have hsl1 := slice_front3 b off n cap k (by omega)
      have hsl2 := slice_back3' b off n cap k (by omega) hcap
      rw [hcut] at hsl2 HB
      obtain ⟨r, HR⟩ : ∃ r, Hid (Me.root (ss.take k) = r) := ⟨_, Lib.hid rfl⟩
      have HC1 : Hid (∀ W, SR W (some ⟨b, off, none⟩) k (ss.take k) → Calls Try.prog 45 #[.slice (some ⟨b, off, none⟩) k k] W fun e w' => e = .returned (.int .i64 r) ∧ Below W.heap.size W w') :=
        Lib.hid fun W h => by have := rootOf_any k b off k _ W h (by omega) (by omega) (by omega) (by omega) HZF.out; rw [HR.out] at this; exact this
      obtain ⟨p, HPP⟩ : ∃ p, Hid (Me.peaks (ss.drop k) = p) := ⟨_, Lib.hid rfl⟩
      have HC2 : Hid (∀ W, SR W (some ⟨b2, off2, none⟩) (n - k) (ss.drop k) → Calls Try.prog 40 #[.slice (some ⟨b2, off2, none⟩) (n - k) (n - k)] W (OwnN W.heap.size p W)) :=
        Lib.hid fun W h => by have := ih (n - k) (by omega) _ (n - k) _ W h (by omega) (by omega) (by omega) HZB.out; rw [HPP.out] at this; exact this
      have HP : Hid (Me.peaks ss = r :: p) := Lib.hid (by rw [Me.peaks_cons (by omega), hl, HK.out, HR.out, HPP.out])
      rw [HP.out]
      have hpl : p.length ≤ 32 := by
        have := Me.peaks_len (n - k) (ss.drop k) (by rw [List.length_drop, hl])
        rw [HPP.out] at this
        omega
      clear hs hz ih hl hcut
      go_enter Try.func40, Try.ntmps40
      go_wp2_with fail
      refine (powerWithin_any n _ (by omega) (by omega)).mono ?_
      rw [HK.out]
      rintro e w1 ⟨rfl, rfl⟩
      go_wp2_with fail
      go_region_law (first
        | (rw [if_pos (by simp [Region.wanted])]; go_simp; go_at_call 45; refine (HC1.out _ (by exact HF.out)).mono ?_; rintro e w2 ⟨rfl, hb2⟩
           have hbel2 := (Below.refl w1.heap.size w1).drew.trans hb2
           have HB2 := Lib.hid (HB.out.below hbel2))
        | (rw [if_pos (by simp [Region.wanted])]; go_simp; go_at_call 40; refine (HC2.out _ (by exact HB2.out.alloc _)).mono ?_; rintro e w3 ⟨a3, cp3, rfl, hb3, hown3⟩
           have hrow2 := World.ownsRow_lit (e := 3) (size := 1) (base := w1.heap.size) w2 #[.int .i64 r] 1 hbel2.size (by decide) rfl
           have hrow3 := keptN hrow2 hb3
           have hbel3 := (hbel2.alloc hbel2.size (.cells #[.int .i64 r] 3)).trans (hb3.mono (hbel2.alloc hbel2.size (.cells #[.int .i64 r] 3)).size))
        | (rw [if_pos (by simp [Region.wanted])]; go_simp; go_at_call 40; refine (HC2.out _ (by exact HB2.out)).mono ?_; rintro e w3 ⟨a3, cp3, rfl, hb3, hown3⟩
           have hbel3 := hbel2.trans (hb3.mono hbel2.size)
           have hrow3 := World.ownsRow_lit (e := 3) (size := 1) (base := w1.heap.size) w3 #[.int .i64 r] 1 hbel3.size (by decide) rfl)
        | (refine step_append_any rfl _ _ 23 rfl w1.heap.size 3 i0 (.int .i64 0) 1 8 Try.underlying23 hi hz0 hz1 hz2 rfl (by decide) _ _ _ rfl (by exact hrow3) a3 p.length cp3 (p.map (Value.int .i64)) rfl (by exact own_src hown3) (by simp) (one_cellsI p) (by unfold maxLen; omega) (by omega) (by exact hbel3.size) (fun v' w5 hown5 hgrow5 => ?_)
           have hbel5 := hbel3.grown hgrow5 hbel3.size (fun q hq => (hrow3.lt _ hq).1))
        | (refine step_append_any rfl _ _ 23 rfl w1.heap.size 3 i0 (.int .i64 0) 1 8 Try.underlying23 hi hz0 hz1 hz2 rfl (by decide) _ _ _ rfl (by exact hrow3) a3 p.length cp3 (p.map (Value.int .i64)) rfl (by exact own_src (hown3.alloc _)) (by simp) (one_cellsI p) (by unfold maxLen; omega) (by omega) (by simp; exact Nat.le_succ_of_le hbel3.size) (fun v' w5 hown5 hgrow5 => ?_)
           have hbel5 := (hbel3.alloc hbel3.size (.cells #[.int .i64 r] 3)).grown hgrow5 (by simp; exact Nat.le_succ_of_le hbel3.size) (fun q hq => (hrow3.lt _ hq).1)))
      all_goals
        have hlen : (r :: p).length = 1 + p.length := by rw [List.length_cons]; omega
        have hown6 : w5.ownsRow w1.heap.size 3 1 v' (r :: p).length ((r :: p).map (Value.int .i64)) := by
          rw [hlen]
          exact hown5
        obtain ⟨g6, cp6, rfl⟩ : ∃ g cp, v' = .slice (some ⟨g, 0, none⟩) (r :: p).length cp := by
          rcases hown6.2 with ⟨h, h0⟩ | ⟨g, cap, cur, h, _⟩
          · omega
          · exact ⟨_, _, h⟩
        clear hrow3 hown3 hown5 hgrow5 hbel2 hbel3 hb2 hb3 hlen
        go_wp2
        go_ret
        exact ⟨_, cp6, rfl, hbel5, hown6⟩

set_option maxRecDepth 100000 in
set_option maxHeartbeats 800000 in
theorem implMerklePeaks_any (a : Option Addr) (n cap : Nat) (ss : List ByteArray) (w : World) (hs : SR w a n ss) (hcap : n ≤ cap) (hcap2 : cap ≤ 9223372036854775807) (hz : ∀ s ∈ ss, s.size ≤ 4611686018427387904) :
    Calls Try.prog 16 #[.slice a n cap] w (OwnIB w.heap.size (Me.peaksL ss) (Me.peaksB ss) w) := by
  have hl := hs.1
  by_cases h : 32 < n
  · have HL : Hid (Me.peaksL ss = []) := Lib.hid (if_neg (by omega))
    have HB : Hid (Me.peaksB ss = false) := Lib.hid (decide_eq_false (by omega))
    rw [HL.out, HB.out]
    clear hs hz
    go_enter Try.func16, Try.ntmps16
    go_wp2
    go_ret2
    exact ⟨none, 0, rfl, Below.refl _ _, ⟨rfl, .inl ⟨rfl, rfl⟩⟩⟩
  · have HL : Hid (Me.peaksL ss = Me.peaks ss) := Lib.hid (if_pos (by omega))
    have HB : Hid (Me.peaksB ss = true) := Lib.hid (decide_eq_true (by omega))
    rw [HL.out, HB.out]
    obtain ⟨p, HPP⟩ : ∃ p, Hid (Me.peaks ss = p) := ⟨_, Lib.hid rfl⟩
    have HC : Hid (Calls Try.prog 40 #[.slice a n cap] w (OwnN w.heap.size p w)) := Lib.hid (by
      have := peaksOf_any n a cap ss w hs (by omega) hcap hcap2 hz
      rw [HPP.out] at this
      exact this)
    rw [HPP.out]
    clear hs hz
    go_enter Try.func16, Try.ntmps16
    go_wp2_with fail
    refine HC.out.mono ?_
    rintro e w2 ⟨g, cp, rfl, hb, hown⟩
    go_wp2
    go_ret2
    exact ⟨_, cp, rfl, hb, hown⟩

set_option maxRecDepth 100000 in
set_option maxHeartbeats 1600000 in
theorem implPeaksRoot_any (a : Option Addr) (n cap : Nat) (p : List Int) (w : World) (hp : IR w a n p) (hlen : n ≤ 9223372036854775807) :
    Calls Try.prog 12 #[.slice a n cap] w fun e w' => e = .returned (Me.prA p) ∧ Below w.heap.size w w' := by
  have hl := hp.1
  by_cases h : 1 ≤ n ∧ n ≤ 6
  · by_cases hdg : Me.digests p
    · have HA : Hid (Me.prA p = .tuple #[.int .i64 (Me.fold p), .bool true]) := Lib.hid (if_pos ⟨by omega, hdg⟩)
      rw [HA.out]
      have HDG := Lib.hid hdg
      have HP := Lib.hid hp
      obtain ⟨F, HF⟩ : ∃ F, Hid (Me.fold p = F) := ⟨_, Lib.hid rfl⟩
      rw [HF.out]
      obtain ⟨q, hqn⟩ : ∃ q, n = q + 1 := ⟨n - 1, by omega⟩
      subst hqn
      obtain ⟨b, off, rfl, hbw, hc⟩ := hp.2 (by omega)
      have hcq := hc q (by omega)
      have hdq := hdg _ (getD_memI (zs := p) (i := q) (by omega))
      have HCC := Lib.hid hc
      have HLAST : Hid (Me.fold (p.drop q) = p.getD q 0) := Lib.hid (Me.fold_last (by omega))
      have HBD : Hid (∀ j, j ≤ q → 0 ≤ Me.fold (p.drop j) ∧ Me.fold (p.drop j) ≤ 4294967295) := Lib.hid fun j hj => Me.fold_bd (Me.digests_drop hdg j) (by
        intro he
        have := congrArg List.length he
        rw [List.length_drop] at this
        simp at this
        omega)
      obtain ⟨x0, HX0⟩ : ∃ x, Hid (p.getD q 0 = x) := ⟨_, Lib.hid rfl⟩
      rw [HX0.out] at hcq hdq HLAST
      have HQN := Lib.hid hl
      clear hp hdg hc hl
      go_enter Try.func12, Try.ntmps12
      go_wp2_with fail
      refine (areDigests_any _ (q + 1) cap p _ HP.out (by omega)).mono ?_
      rintro e w1 ⟨b1, rfl, hb1, rfl⟩
      obtain rfl : b1 = true := hb1.2 HDG.out
      clear hb1
      go_wp2
      go_loopw [5, 6] (fun d i wr => ∃ j : Nat, j ≤ q ∧ i = .int .i64 ((j : Int) - 1) ∧ d = .int .i64 (Me.fold (p.drop j)) ∧ Below w1.heap.size w1 wr)
        (fun _ i _ => (intOf i + 1).toNat)
      case atStart => exact ⟨q, by omega, rfl, by rw [HLAST.out], Below.refl _ _⟩
      case round =>
        obtain ⟨j, hj, rfl, rfl, hbel⟩ := hrel
        by_cases h0 : j = 0
        · subst h0
          have HZ : Hid (F = Me.fold (p.drop 0)) := Lib.hid (by rw [List.drop_zero]; exact HF.out.symm)
          generalize Me.fold (p.drop 0) = G at HZ ⊢
          go_wp2
          go_ret2
          exact ⟨by rw [HZ.out]; rfl, hbel⟩
        · obtain ⟨m, rfl⟩ : ∃ m, j = m + 1 := ⟨j - 1, by omega⟩
          have hcm := HCC.out m (by omega)
          have hdm := HDG.out _ (getD_memI (zs := p) (i := m) (by have := HQN.out; omega))
          have hfd := HBD.out (m + 1) hj
          have HFD : Hid (Me.fold (p.drop m) = Dg.of (Dg.pair (p.getD m 0) (Me.fold (p.drop (m + 1))))) := Lib.hid (Me.fold_drop (by have := HQN.out; omega))
          obtain ⟨x, HX⟩ : ∃ x, Hid (p.getD m 0 = x) := ⟨_, Lib.hid rfl⟩
          obtain ⟨f, HFF⟩ : ∃ f, Hid (Me.fold (p.drop (m + 1)) = f) := ⟨_, Lib.hid rfl⟩
          rw [HX.out] at hcm hdm
          rw [HFF.out] at hfd ⊢
          rw [HX.out, HFF.out, ← Dg.ofPair_yes hdm hfd] at HFD
          have hcr : wr.cell? ⟨b, off + m, none⟩ = some (.int .i64 x) := (World.cell?_of_block (w := w1) (a := ⟨b, off + m, none⟩) (hbel.block b hbw)).trans hcm
          have e1 : ((m + 1 : Nat) : Int) - 1 = (m : Int) := by omega
          rw [e1]
          have hmn : m < q + 1 := by omega
          clear hcm hj hcq hdq e1
          go_wp2_with fail
          refine (implDigestPair_any x f _).mono ?_
          rw [← HFD.out]
          rintro e w2 ⟨rfl, hb2⟩
          have hbel3 := hbel.trans (hb2.mono hbel.size)
          clear hbel hb2
          obtain ⟨G, HG⟩ : ∃ G, Hid (Me.fold (p.drop m) = G) := ⟨_, Lib.hid rfl⟩
          rw [HG.out]
          go_wp2
          go_roundw
          case rel => exact ⟨m, by omega, by simp, by rw [HG.out], hbel3⟩
          case measure => simp [intOf]
    · have HA : Hid (Me.prA p = .tuple #[.int .i64 0, .bool false]) := Lib.hid (if_neg fun h => hdg h.2)
      rw [HA.out]
      have HDG := Lib.hid hdg
      have HP := Lib.hid hp
      clear hp hdg
      go_enter Try.func12, Try.ntmps12
      go_wp2_with fail
      refine (areDigests_any _ n cap p _ HP.out (by omega)).mono ?_
      rintro e w1 ⟨b1, rfl, hb1, rfl⟩
      obtain rfl : b1 = false := by
        rw [Bool.eq_false_iff]
        exact fun h => HDG.out (hb1.1 h)
      clear hb1
      go_wp2
      go_ret2
      exact ⟨rfl, Below.refl _ _⟩
  · have HA : Hid (Me.prA p = .tuple #[.int .i64 0, .bool false]) := Lib.hid (if_neg fun h' => h (by have := h'.1; omega))
    rw [HA.out]
    clear hp
    by_cases h1 : n < 1
    · have h2 : n = 0 := by omega
      subst h2
      clear h h1
      go_enter Try.func12, Try.ntmps12
      go_wp2
      go_ret2
      exact ⟨rfl, Below.refl _ _⟩
    · have h2 : 6 < n := by omega
      clear h
      go_enter Try.func12, Try.ntmps12
      go_wp2
      go_ret2
      exact ⟨rfl, Below.refl _ _⟩
end Go.Proofs.Ytdgepneaeieogac
