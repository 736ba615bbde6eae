/-
  Lists of strings read: contracts of DecodeTexts (program and model), and what they call.
-/
import Derived.Test.YtcbpdibkindnfaaGreatTs
namespace Go.Proofs.YtcbpdibkindnfaaGreat
open Go.RowKit

/-- Reading a number of at most top, and so many strings. -/
def En.decLt (s : ByteArray) (top : Int) : Option (List ByteArray × ByteArray) := match En.bel s top with
  | none => none
  | some x => En.decL x.2 x.1.toNat
theorem En.decLt_bel {s : ByteArray} {top : Int} (h : En.bel s top = none) : En.decLt s top = none := by unfold En.decLt; rw [h]
theorem En.decLt_eq {s : ByteArray} {top : Int} {x : Int × ByteArray} (h : En.bel s top = some x) : En.decLt s top = En.decL x.2 x.1.toNat := by unfold En.decLt; rw [h]
theorem En.decTs_none {s : ByteArray} (h : En.decLt s 40 = none) : En.decTs s = none := by
  unfold En.decLt at h
  unfold En.decTs
  cases hb : En.bel s 40 with
  | none => rfl
  | some x => rw [hb] at h; simp only [] at h ⊢; rw [h]
theorem En.decTs_more {s : ByteArray} {l : List ByteArray} {r : ByteArray} (h : En.decLt s 40 = some (l, r)) (h0 : r.size ≠ 0) : En.decTs s = none := by
  unfold En.decLt at h
  cases hb : En.bel s 40 with
  | none => rw [hb] at h; cases h
  | some x => rw [hb] at h; exact En.decTs_rest hb h h0
theorem En.decTs_all {s : ByteArray} {l : List ByteArray} {r : ByteArray} (h : En.decLt s 40 = some (l, r)) (h0 : r.size = 0) : En.decTs s = some l := by
  unfold En.decLt at h
  cases hb : En.bel s 40 with
  | none => rw [hb] at h; cases h
  | some x => rw [hb] at h; exact En.decTs_ok hb h h0
/-- What takeTexts does. -/
def TkTs (B : Nat) (s : ByteArray) (w : World) (e : Ending) (w' : World) : Prop :=
  (En.decLt s 40 = none ∧ e = .returned (.tuple #[.slice none 0 0, .bool false]) ∧ ∃ r, Tk B w w' r) ∨
  ∃ l r a cap, En.decLt s 40 = some (l, r) ∧ e = .returned (.tuple #[.slice a l.length cap, .bool true]) ∧ Tk B w w' r ∧ w'.ownsRow w.heap.size 9 1 (.slice a l.length cap) l.length (l.map Value.string)

set_option maxRecDepth 100000 in
set_option maxHeartbeats 1600000 in
theorem takeTexts_any (B : Nat) (s : ByteArray) (w : World)
    (hb : w.heap[B]? = some (.cells #[.string s] 9 (0, 0))) :
    Calls Tryz.prog 76 #[takerAt B] w (TkTs B s w) := by
  cases hd : En.dec s with
  | none =>
    have HD := Lib.hid hd
    have HT := Lib.hid (En.decLt_bel (En.bel_none (top := 40) hd))
    clear hd
    go_enter Tryz.func76, Tryz.ntmps76
    go_wp2_with fail
    refine (takeNum_any B s _ hb).mono ?_
    rw [En.decV_none HD.out]
    rintro e w1 ⟨rfl, r, hT, hle, hr⟩
    go_wp2
    go_ret2
    exact .inl ⟨HT.out, rfl, r, hT⟩
  | some x =>
    obtain ⟨n, r0⟩ := x
    have hbd := En.dec_bd hd
    have HD := Lib.hid hd
    by_cases h1 : 40 < n
    · have HT := Lib.hid (En.decLt_bel (En.bel_big hd h1))
      clear hd
      go_enter Tryz.func76, Tryz.ntmps76
      go_wp2_with fail
      refine (takeNum_any B s _ hb).mono ?_
      rw [En.decV_some HD.out]
      rintro e w1 ⟨rfl, r, hT, hle, hr⟩
      clear hr
      go_wp2
      go_ret2
      exact .inl ⟨HT.out, rfl, r, hT⟩
    have HL := Lib.hid (En.decLt_eq (En.bel_ok (top := 40) hd h1))
    clear hd
    obtain ⟨i0, hi, hz0, hz1, hz2⟩ := info_parts info_str
    have hBw := lt_of_block hb
    have hmk : ∀ W : World, (Instr.makeSlice 61 (.int .i64 0) (.int .i64 n)).run Tryz.prog W = .ok (.slice (some ⟨W.heap.size, 0, none⟩) 0 n.toNat) (W.alloc (.cells (madeCells #[.string ByteArray.empty] (n.toNat * 1)) 9)) := by
      intro W
      have h := run_make (P := Tryz.prog) W 61 9 i0 (.string ByteArray.empty) Tryz.underlying61 hi hz0 .i64 .i64 0 n (by omega) (by omega) (by rw [hz2]; omega) (by omega)
      rw [hz1] at h
      exact h
    go_enter Tryz.func76, Tryz.ntmps76
    go_wp2_with fail
    refine (takeNum_any B s _ hb).mono ?_
    rw [En.decV_some HD.out]
    rintro e w1 ⟨rfl, r, hT, hle, hr⟩
    obtain rfl := hr _ HD.out
    clear hr
    go_wp2
    go_loopw [6, 23] (fun v i wr => ∃ (k : Nat) (l : List ByteArray) (r : ByteArray), (k : Int) ≤ n ∧ i = .int .i64 (k : Int) ∧ En.decL r0 k = some (l, r) ∧ l.length = k ∧ Tk B w wr r ∧ wr.ownsRow w.heap.size 9 1 v k (l.map Value.string))
      (fun _ i _ => (n - intOf i).toNat)
    case atStart =>
      have hws := hT.kept.size
      exact ⟨0, [], r0, by omega, rfl, rfl, rfl, ⟨(Below.heap_alloc _ _ _ (by omega)).trans hT.held, grownBy_trans' hT.kept (World.grownBy_alloc _ _ _)⟩,
        World.ownsRow_made w1 _ n.toNat hws (by unfold maxLen; omega) (by rw [size_madeCells, Nat.mul_one])⟩
    case round =>
      obtain ⟨k, l, r, hk, rfl, hL, hl, hTk, hown⟩ := hrel
      clear hT
      have hne := own_ne hown hBw
      by_cases hlt : (k : Int) < n
      · cases hd : En.decT r with
        | none =>
          have HD2 := Lib.hid hd
          have HX : Hid (En.decLt s 40 = none) := Lib.hid (by rw [HL.out]; exact En.decL_none (En.decL_bad hL hd) n.toNat (by omega))
          clear hd hL
          go_wp2_with fail
          refine (takeText_any B r _ hTk.held).mono ?_
          rw [En.decTV_none HD2.out]
          rintro e w2 ⟨rfl, r', hT2, hle2, hr2⟩
          have hTk2 := hTk.trans hT2
          clear hr2 hown hTk
          go_wp2
          go_ret2
          exact .inl ⟨HX.out, rfl, _, hTk2⟩
        | some y =>
          have HD2 := Lib.hid hd
          have HX := Lib.hid (En.decL_ok hL hd)
          clear hd hL
          go_wp2_with fail
          refine (takeText_any B r _ hTk.held).mono ?_
          rw [En.decTV_some HD2.out]
          rintro e w2 ⟨rfl, r', hT2, hle2, hr2⟩
          obtain rfl := hr2 _ HD2.out
          have hTk2 := hTk.trans hT2
          have hown2 := hown.kept hT2.kept hne
          have hsz := hTk2.kept.size
          clear hr2 hown hTk hT2 hne
          go_wp2_with (at_builtin; refine wpList_append_own _ rfl _ _ 61 rfl w.heap.size 9 i0 (.string ByteArray.empty) 1 16 Tryz.underlying61 hi hz0 hz1 hz2 rfl (by decide) _ _ _ rfl (hown2.alloc _) ⟨w2.heap.size, 0, none⟩ 1 1 [.string y.1] rfl rfl ?c1 ?c2 ?c3 ?c4 ?c5 ?_)
          case c1 => exact one_new _ _ _
          case c2 => intro u hu; simp at hu; subst hu; rfl
          case c3 => unfold maxLen; omega
          case c4 => omega
          case c5 => simp; omega
          intro v' w5 hown5 hgrow _
          have hTk5 : Tk B w w5 y.2 := ⟨(hgrow.block B (by have := lt_of_block hTk2.held; simp; omega) (fun e => by have := (hown2.lt _ e.symm).1; omega)).trans ((Below.heap_alloc _ _ _ (lt_of_block hTk2.held)).trans hTk2.held),
            gtrans_own (grownBy_trans' hTk2.kept (World.grownBy_alloc _ _ _)) hgrow (fun j he => (hown2.lt _ he).1)⟩
          clear hown2 hgrow hTk2
          go_wp2
          go_roundw
          case rel => exact ⟨k + 1, l ++ [y.1], y.2, by omega, by simp, HX.out, by simp [hl], hTk5, by simpa using hown5⟩
          case measure => simp [intOf]; omega
      · have hkn : n.toNat = k := by omega
        have HX : Hid (En.decLt s 40 = some (l, r)) := Lib.hid (by rw [HL.out]; show En.decL r0 n.toNat = _; rw [hkn]; exact hL)
        clear hL hkn
        subst hl
        obtain ⟨a, cap, rfl⟩ : ∃ a cap, u6 = .slice a l.length cap := by
          rcases hown.2 with ⟨h, h0⟩ | ⟨g, cap, cur, h, _⟩
          · exact ⟨none, 0, by rw [h, h0]⟩
          · exact ⟨_, cap, h⟩
        go_wp2
        go_ret2
        exact .inr ⟨l, r, a, cap, HX.out, rfl, hTk, hown⟩

def DecR (s : ByteArray) (w : World) (e : Ending) (w' : World) : Prop :=
  ((En.decTs s = none ∧ e = .returned (.tuple #[.slice none 0 0, .bool false])) ∨
   ∃ l a cap, En.decTs s = some l ∧ e = .returned (.tuple #[.slice a l.length cap, .bool true]) ∧ w'.ownsRow w.heap.size 9 1 (.slice a l.length cap) l.length (l.map Value.string)) ∧ Below w.heap.size w w'
/-- The same in one piece: the list (none at all counts as the empty one) and whether there is one. -/
def En.dl (s : ByteArray) : List ByteArray := (En.decTs s).getD []
def En.dok (s : ByteArray) : Bool := (En.decTs s).isSome
theorem En.dl_len (s : ByteArray) : (En.dl s).length ≤ 40 := by
  unfold En.dl
  cases h : En.decTs s with
  | none => simp
  | some l =>
    have := (En.texts_decTs h).2.2
    simp only [Option.getD_some]
    omega
theorem DecR.one {s : ByteArray} {w : World} {e : Ending} {w' : World} (h : DecR s w e w') :
    ∃ a cap, e = .returned (.tuple #[.slice a (En.dl s).length cap, .bool (En.dok s)]) ∧ w'.ownsRow w.heap.size 9 1 (.slice a (En.dl s).length cap) (En.dl s).length ((En.dl s).map Value.string) ∧ Below w.heap.size w w' := by
  rcases h with ⟨⟨h1, h2⟩ | ⟨l, a, cap, h1, h2, h3⟩, hb⟩
  · unfold En.dl En.dok
    rw [h1]
    exact ⟨none, 0, h2, ⟨rfl, .inl ⟨rfl, rfl⟩⟩, hb⟩
  · unfold En.dl En.dok
    rw [h1]
    exact ⟨a, cap, h2, h3, hb⟩
theorem ba_some {s : ByteArray} (h : s.size ≠ 0) : s.toList.isEmpty = false := by
  rw [Bool.eq_false_iff]
  intro h1
  have h' := List.isEmpty_iff.1 h1
  rw [toList_nil_iff_emptyBytes] at h'
  rw [h'] at h
  exact h rfl
theorem ba_none {s : ByteArray} (h : s.size = 0) : s.toList.isEmpty = true := by
  rw [List.isEmpty_iff, toList_nil_iff_emptyBytes]
  exact ba_nil h

/-! ### the model -/
def RsTs (B : Nat) (s : ByteArray) (top : Int) (w : World) (e : Ending) (w' : World) : Prop :=
  ∃ a n cap, e = .returned (.slice a n cap) ∧ ((En.decLt s top = none ∧ ∃ r, Rs B w w' r true) ∨
    ∃ l r, En.decLt s top = some (l, r) ∧ Rs B w w' r false ∧ n = l.length ∧ w'.ownsRow w.heap.size 9 1 (.slice a n cap) l.length (l.map Value.string))

set_option maxRecDepth 100000 in
set_option maxHeartbeats 1600000 in
theorem texts_any (B : Nat) (s : ByteArray) (top : Int) (w : World) (h0 : 0 ≤ top) (h1 : top ≤ 1000000)
    (hb : w.heap[B]? = some (.cells #[.string s, .bool false] 55 (0, 0))) :
    Calls Tryz.prog 57 #[.pointer (some ⟨B, 0, none⟩), .int .i64 top] w (RsTs B s top w) := by
  obtain ⟨i0, hi, hz0, hz1, hz2⟩ := info_parts info_str
  have hBw := lt_of_block hb
  cases hd : En.bel s top with
  | none =>
    have HD := Lib.hid hd
    have HT := Lib.hid (En.decLt_bel hd)
    clear hd
    go_enter Tryz.func57, Tryz.ntmps57
    go_wp2_with fail
    refine (below_any B s top _ h0 hb).mono ?_
    rw [En.belN_none HD.out, HD.out]
    rintro e w1 ⟨rfl, r, hT⟩
    have hTk : Rs B w (w1.alloc (.cells #[] 9)) r true := ⟨(Below.heap_alloc _ _ _ (lt_of_block hT.held)).trans hT.held, grownBy_trans' hT.kept (World.grownBy_alloc _ _ _)⟩
    clear hT
    go_wp2
    go_loopw [6, 7] (fun v i wr => i = .int .i64 0 ∧ (∃ a n cap, v = .slice a n cap) ∧ Rs B w wr r true) (fun _ _ _ => 0)
    case atStart => exact ⟨rfl, ⟨_, _, _, rfl⟩, hTk⟩
    case round =>
      obtain ⟨rfl, ⟨a, m, cap, rfl⟩, hR⟩ := hrel
      have c1 := rs_bad hR.held
      go_wp2
      go_ret
      exact ⟨a, m, cap, rfl, .inl ⟨HT.out, r, hR⟩⟩
  | some x =>
    obtain ⟨n, r0⟩ := x
    have hbd := En.dec_bd (En.bel_inv hd).1
    have htop := (En.bel_inv hd).2
    have HD := Lib.hid hd
    have HL := Lib.hid (En.decLt_eq hd)
    clear hd
    go_enter Tryz.func57, Tryz.ntmps57
    go_wp2_with fail
    refine (below_any B s top _ h0 hb).mono ?_
    rw [En.belN_some HD.out, HD.out]
    rintro e w1 ⟨rfl, hT⟩
    have hT : Rs B w w1 r0 false := hT
    have hws := hT.kept.size
    have hB1 := lt_of_block hT.held
    go_wp2
    go_loopw [6, 7] (fun v i wr => (∃ (k : Nat) (l : List ByteArray) (r : ByteArray), (k : Int) ≤ n ∧ i = .int .i64 (k : Int) ∧ En.decL r0 k = some (l, r) ∧ l.length = k ∧ Rs B w wr r false ∧ wr.ownsRow w.heap.size 9 1 v k (l.map Value.string)) ∨
        (∃ (k : Nat) (a : Option Addr) (m cap : Nat) (r : ByteArray), (k : Int) ≤ n ∧ i = .int .i64 (k : Int) ∧ v = .slice a m cap ∧ En.decLt s top = none ∧ Rs B w wr r true))
      (fun _ i _ => (n - intOf i).toNat)
    case atStart =>
      exact .inl ⟨0, [], r0, by omega, rfl, rfl, rfl, ⟨(Below.heap_alloc _ _ _ hB1).trans hT.held, grownBy_trans' hT.kept (World.grownBy_alloc _ _ _)⟩, World.ownsRow_made w1 _ 0 hws (by decide) rfl⟩
    case round =>
      rcases hrel with ⟨k, l, r, hk, rfl, hL, hl, hR, hown⟩ | ⟨k, a, m, cap, r, hk, rfl, rfl, hN, hR⟩
      · clear hT
        have hne := own_ne hown hBw
        have c1 := rs_bad hR.held
        by_cases hlt : (k : Int) < n
        · have hsz := hR.kept.size
          cases hd : En.decT r with
          | none =>
            have HD2 := Lib.hid hd
            have HX : Hid (En.decLt s top = none) := Lib.hid (by rw [HL.out]; exact En.decL_none (En.decL_bad hL hd) n.toNat (by omega))
            clear hd hL
            go_wp2_with fail
            refine (text_any B r _ hR.held).mono ?_
            rw [En.decTS_none HD2.out, HD2.out]
            rintro e w2 ⟨rfl, r', hT2⟩
            have hR2 := hR.trans hT2
            have hown2 := hown.kept hT2.kept hne
            have hsz2 := hR2.kept.size
            clear hown hR hT2 hne c1
            go_wp2_with (at_builtin; refine wpList_append_own _ rfl _ _ 61 rfl w.heap.size 9 i0 (.string ByteArray.empty) 1 16 Tryz.underlying61 hi hz0 hz1 hz2 rfl (by decide) _ _ _ rfl (hown2.alloc _) ⟨w2.heap.size, 0, none⟩ 1 1 [.string ⟨#[]⟩] rfl rfl ?c1 ?c2 ?c3 ?c4 ?c5 ?_)
            case c1 => exact one_new _ _ _
            case c2 => intro u hu; simp at hu; subst hu; rfl
            case c3 => unfold maxLen; omega
            case c4 => omega
            case c5 => simp; omega
            intro v' w5 hown5 hgrow _
            have hR5 : Rs B w w5 r' true := ⟨(hgrow.block B (by have := lt_of_block hR2.held; simp; omega) (fun e => by have := (hown2.lt _ e.symm).1; omega)).trans ((Below.heap_alloc _ _ _ (lt_of_block hR2.held)).trans hR2.held),
              gtrans_own (grownBy_trans' hR2.kept (World.grownBy_alloc _ _ _)) hgrow (fun j he => (hown2.lt _ he).1)⟩
            obtain ⟨a5, m5, cap5, rfl⟩ : ∃ a m cap, v' = .slice a m cap := by
              rcases hown5.2 with ⟨h, h0⟩ | ⟨g, cap, cur, h, _⟩
              · exact ⟨_, _, _, h⟩
              · exact ⟨_, _, _, h⟩
            clear hown2 hown5 hgrow hR2
            go_wp2
            go_roundw
            case rel => exact .inr ⟨k + 1, a5, m5, cap5, r', by omega, by simp, rfl, HX.out, hR5⟩
            case measure => simp [intOf]; omega
          | some y =>
            have HD2 := Lib.hid hd
            have HX := Lib.hid (En.decL_ok hL hd)
            clear hd hL
            go_wp2_with fail
            refine (text_any B r _ hR.held).mono ?_
            rw [En.decTS_some HD2.out, HD2.out]
            rintro e w2 ⟨rfl, hT2⟩
            have hT2 : Rs B _ w2 y.2 false := hT2
            have hR2 := hR.trans hT2
            have hown2 := hown.kept hT2.kept hne
            have hsz2 := hR2.kept.size
            clear hown hR hT2 hne c1
            go_wp2_with (at_builtin; refine wpList_append_own _ rfl _ _ 61 rfl w.heap.size 9 i0 (.string ByteArray.empty) 1 16 Tryz.underlying61 hi hz0 hz1 hz2 rfl (by decide) _ _ _ rfl (hown2.alloc _) ⟨w2.heap.size, 0, none⟩ 1 1 [.string y.1] rfl rfl ?c1 ?c2 ?c3 ?c4 ?c5 ?_)
            case c1 => exact one_new _ _ _
            case c2 => intro u hu; simp at hu; subst hu; rfl
            case c3 => unfold maxLen; omega
            case c4 => omega
            case c5 => simp; omega
            intro v' w5 hown5 hgrow _
            have hR5 : Rs B w w5 y.2 false := ⟨(hgrow.block B (by have := lt_of_block hR2.held; simp; omega) (fun e => by have := (hown2.lt _ e.symm).1; omega)).trans ((Below.heap_alloc _ _ _ (lt_of_block hR2.held)).trans hR2.held),
              gtrans_own (grownBy_trans' hR2.kept (World.grownBy_alloc _ _ _)) hgrow (fun j he => (hown2.lt _ he).1)⟩
            clear hown2 hgrow hR2
            go_wp2
            go_roundw
            case rel => exact .inl ⟨k + 1, l ++ [y.1], y.2, by omega, by simp, HX.out, by simp [hl], hR5, by simpa using hown5⟩
            case measure => simp [intOf]; omega
        · have hkn : n.toNat = k := by omega
          have HX : Hid (En.decLt s top = some (l, r)) := Lib.hid (by rw [HL.out]; show En.decL r0 n.toNat = _; rw [hkn]; exact hL)
          clear hL hkn
          subst hl
          obtain ⟨a, cap, rfl⟩ : ∃ a cap, u6 = .slice a l.length cap := by
            rcases hown.2 with ⟨h, h0⟩ | ⟨g, cap, cur, h, _⟩
            · exact ⟨none, 0, by rw [h, h0]⟩
            · exact ⟨_, cap, h⟩
          go_wp2
          go_ret
          exact ⟨a, _, cap, rfl, .inr ⟨l, r, HX.out, hR, rfl, hown⟩⟩
      · clear hT
        have c1 := rs_bad hR.held
        by_cases hlt : (k : Int) < n
        · go_wp2
          go_ret
          exact ⟨a, m, cap, rfl, .inl ⟨hN, r, hR⟩⟩
        · go_wp2
          go_ret
          exact ⟨a, m, cap, rfl, .inl ⟨hN, r, hR⟩⟩

set_option maxHeartbeats 400000 in
theorem done_any (B : Nat) (s : ByteArray) (b : Bool) (w : World) (hb : w.heap[B]? = some (.cells #[.string s, .bool b] 55 (0, 0))) :
    Calls Tryz.prog 28 #[.pointer (some ⟨B, 0, none⟩)] w fun e w' => e = .returned (.bool (!b && s.toList.isEmpty)) ∧ w = w' := by
  have c0 := rs_str hb
  have c1 := rs_bad hb
  cases b
  · go_enter Tryz.func28, Tryz.ntmps28
    go_wp2
    go_ret
    exact ⟨rfl, rfl⟩
  · go_enter Tryz.func28, Tryz.ntmps28
    go_wp2
    go_ret
    exact ⟨rfl, rfl⟩

end Go.Proofs.YtcbpdibkindnfaaGreat
