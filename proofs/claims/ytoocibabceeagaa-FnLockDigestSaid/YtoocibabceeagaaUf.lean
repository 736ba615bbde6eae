/-
  Contracts of the program: the kinds of locks, LockName.
-/
import Derived.Test.YtoocibabceeagaaUe
namespace Go.Proofs.Ytoocibabceeagaa
open Go.RowKit

set_option maxRecDepth 100000 in
set_option maxHeartbeats 3200000 in
theorem lockKinds1_any (a : Option Addr) (n cap : Nat) (ds : List Int) (num : Int) (w : World) (hd : IR w a n ds) (hn : n ≤ 100) :
    Calls Try.prog 74 #[.agg #[.slice a n cap, .int .i64 num]] w (LkQ (Lk.okk 0 ds num) (Lk.mk 0 ds num) w) := by
  have HX : Bk w.heap.size 57 #[.slice a n cap, .int .i64 num] (w.alloc (.cells #[.slice a n cap, .int .i64 num] 57 (0, 0))) := Bk.new _ _ _
  have hb0 : Below w.heap.size w (w.alloc (.cells #[.slice a n cap, .int .i64 num] 57 (0, 0))) := (Below.refl _ _).alloc (Nat.le_refl _) _
  have HD := Lib.hid (hd.alloc (.cells #[.slice a n cap, .int .i64 num] 57 (0, 0)))
  have HC : Hid (∀ W x, ds.getD 0 (-1) = x → Calls Try.prog 16 #[.int .i64 x] W (LkQ (Lk.okk 0 ds num) (Lk.mk 0 ds num) W)) := Lib.hid fun W x hx => by
    subst hx
    exact implLockKey_any _ W
  unfold LkQ at HC
  unfold LkQ
  obtain ⟨ok, HOK⟩ : ∃ x, Hid (Lk.okk 0 ds num = x) := ⟨_, Lib.hid rfl⟩
  rw [HOK.out] at HC ⊢
  obtain ⟨S, HS⟩ : ∃ x, Hid (Lk.s ok (Lk.mk 0 ds num) = x) := ⟨_, Lib.hid rfl⟩
  rw [HS.out] at HC ⊢
  have HT0 := Lib.hid (fun W h => termsDigest_any a n cap ds num 0 W h hn (by decide))
  obtain ⟨x0, HX0⟩ : ∃ x, Hid (ds.getD 0 (-1) = x) := ⟨_, Lib.hid rfl⟩
  rw [HX0.out] at HT0
  obtain ⟨c0, c1⟩ := Bk.c2 HX
  clear hd
  go_enter Try.func74, Try.ntmps74
  go_wp2_with fail
  refine (HT0.out _ HD.out).mono ?_
  rintro e w1 ⟨rfl, hb1⟩
  have hb2 := below_aft9 hb0 hb1
  clear hb1
  go_wp2_with fail
  refine (HC.out _ _ HX0.out).mono ?_
  rintro e w2 ⟨rfl, hb3⟩
  have hb4 := below_aft9 hb2 hb3
  go_wp2
  go_ret2
  exact ⟨rfl, hb4⟩
set_option maxRecDepth 100000 in
set_option maxHeartbeats 3200000 in
theorem lockKinds2_any (a : Option Addr) (n cap : Nat) (ds : List Int) (num : Int) (w : World) (hd : IR w a n ds) (hn : n ≤ 100) :
    Calls Try.prog 76 #[.agg #[.slice a n cap, .int .i64 num]] w (LkQ (Lk.okk 1 ds num) (Lk.mk 1 ds num) w) := by
  have HX : Bk w.heap.size 57 #[.slice a n cap, .int .i64 num] (w.alloc (.cells #[.slice a n cap, .int .i64 num] 57 (0, 0))) := Bk.new _ _ _
  have hb0 : Below w.heap.size w (w.alloc (.cells #[.slice a n cap, .int .i64 num] 57 (0, 0))) := (Below.refl _ _).alloc (Nat.le_refl _) _
  have HD := Lib.hid (hd.alloc (.cells #[.slice a n cap, .int .i64 num] 57 (0, 0)))
  have HC : Hid (∀ W x, ds.getD 0 (-1) = x → Calls Try.prog 20 #[.int .i64 x] W (LkQ (Lk.okk 1 ds num) (Lk.mk 1 ds num) W)) := Lib.hid fun W x hx => by
    subst hx
    exact implLockDigest_any _ W
  unfold LkQ at HC
  unfold LkQ
  obtain ⟨ok, HOK⟩ : ∃ x, Hid (Lk.okk 1 ds num = x) := ⟨_, Lib.hid rfl⟩
  rw [HOK.out] at HC ⊢
  obtain ⟨S, HS⟩ : ∃ x, Hid (Lk.s ok (Lk.mk 1 ds num) = x) := ⟨_, Lib.hid rfl⟩
  rw [HS.out] at HC ⊢
  have HT0 := Lib.hid (fun W h => termsDigest_any a n cap ds num 0 W h hn (by decide))
  obtain ⟨x0, HX0⟩ : ∃ x, Hid (ds.getD 0 (-1) = x) := ⟨_, Lib.hid rfl⟩
  rw [HX0.out] at HT0
  obtain ⟨c0, c1⟩ := Bk.c2 HX
  clear hd
  go_enter Try.func76, Try.ntmps76
  go_wp2_with fail
  refine (HT0.out _ HD.out).mono ?_
  rintro e w1 ⟨rfl, hb1⟩
  have hb2 := below_aft9 hb0 hb1
  clear hb1
  go_wp2_with fail
  refine (HC.out _ _ HX0.out).mono ?_
  rintro e w2 ⟨rfl, hb3⟩
  have hb4 := below_aft9 hb2 hb3
  go_wp2
  go_ret2
  exact ⟨rfl, hb4⟩
set_option maxRecDepth 100000 in
set_option maxHeartbeats 3200000 in
theorem lockKinds3_any (a : Option Addr) (n cap : Nat) (ds : List Int) (num : Int) (w : World) (hd : IR w a n ds) (hn : n ≤ 100) :
    Calls Try.prog 77 #[.agg #[.slice a n cap, .int .i64 num]] w (LkQ (Lk.okk 2 ds num) (Lk.mk 2 ds num) w) := by
  have HX : Bk w.heap.size 57 #[.slice a n cap, .int .i64 num] (w.alloc (.cells #[.slice a n cap, .int .i64 num] 57 (0, 0))) := Bk.new _ _ _
  have hb0 : Below w.heap.size w (w.alloc (.cells #[.slice a n cap, .int .i64 num] 57 (0, 0))) := (Below.refl _ _).alloc (Nat.le_refl _) _
  have HD := Lib.hid (hd.alloc (.cells #[.slice a n cap, .int .i64 num] 57 (0, 0)))
  have HC : Hid (∀ W, IR W a n ds → Calls Try.prog 23 #[.int .i64 num, .slice a n cap] W (LkQ (Lk.okk 2 ds num) (Lk.mk 2 ds num) W)) := Lib.hid fun W h => implLockMany_any num a n cap ds W h (by omega)
  unfold LkQ at HC
  unfold LkQ
  obtain ⟨ok, HOK⟩ : ∃ x, Hid (Lk.okk 2 ds num = x) := ⟨_, Lib.hid rfl⟩
  rw [HOK.out] at HC ⊢
  obtain ⟨S, HS⟩ : ∃ x, Hid (Lk.s ok (Lk.mk 2 ds num) = x) := ⟨_, Lib.hid rfl⟩
  rw [HS.out] at HC ⊢
  obtain ⟨c0, c1⟩ := Bk.c2 HX
  clear hd
  go_enter Try.func77, Try.ntmps77
  go_wp2_with fail
  refine (HC.out _ HD.out).mono ?_
  rintro e w2 ⟨rfl, hb3⟩
  have hb4 := below_aft9 hb0 hb3
  go_wp2
  go_ret2
  exact ⟨rfl, hb4⟩
set_option maxRecDepth 100000 in
set_option maxHeartbeats 3200000 in
theorem lockKinds4_any (a : Option Addr) (n cap : Nat) (ds : List Int) (num : Int) (w : World) (hd : IR w a n ds) (hn : n ≤ 100) :
    Calls Try.prog 78 #[.agg #[.slice a n cap, .int .i64 num]] w (LkQ (Lk.okk 3 ds num) (Lk.mk 3 ds num) w) := by
  have HX : Bk w.heap.size 57 #[.slice a n cap, .int .i64 num] (w.alloc (.cells #[.slice a n cap, .int .i64 num] 57 (0, 0))) := Bk.new _ _ _
  have hb0 : Below w.heap.size w (w.alloc (.cells #[.slice a n cap, .int .i64 num] 57 (0, 0))) := (Below.refl _ _).alloc (Nat.le_refl _) _
  have HD := Lib.hid (hd.alloc (.cells #[.slice a n cap, .int .i64 num] 57 (0, 0)))
  have HC : Hid (∀ W x0 x1 x2, ds.getD 0 (-1) = x0 → ds.getD 1 (-1) = x1 → ds.getD 2 (-1) = x2 → Calls Try.prog 26 #[.int .i64 x0, .int .i64 x1, .int .i64 num, .int .i64 x2] W (LkQ (Lk.okk 3 ds num) (Lk.mk 3 ds num) W)) := Lib.hid fun W x0 x1 x2 h0 h1 h2 => by
    subst h0 h1 h2
    exact implLockTimed_any _ _ num _ W
  unfold LkQ at HC
  unfold LkQ
  obtain ⟨ok, HOK⟩ : ∃ x, Hid (Lk.okk 3 ds num = x) := ⟨_, Lib.hid rfl⟩
  rw [HOK.out] at HC ⊢
  obtain ⟨S, HS⟩ : ∃ x, Hid (Lk.s ok (Lk.mk 3 ds num) = x) := ⟨_, Lib.hid rfl⟩
  rw [HS.out] at HC ⊢
  have HT0 := Lib.hid (fun W h => termsDigest_any a n cap ds num 0 W h hn (by decide))
  obtain ⟨x0, HX0⟩ : ∃ x, Hid (ds.getD 0 (-1) = x) := ⟨_, Lib.hid rfl⟩
  rw [HX0.out] at HT0
  have HT1 := Lib.hid (fun W h => termsDigest_any a n cap ds num 1 W h hn (by decide))
  obtain ⟨x1, HX1⟩ : ∃ x, Hid (ds.getD 1 (-1) = x) := ⟨_, Lib.hid rfl⟩
  rw [HX1.out] at HT1
  have HT2 := Lib.hid (fun W h => termsDigest_any a n cap ds num 2 W h hn (by decide))
  obtain ⟨x2, HX2⟩ : ∃ x, Hid (ds.getD 2 (-1) = x) := ⟨_, Lib.hid rfl⟩
  rw [HX2.out] at HT2
  have hSof : ∀ W, Bk w.heap.size 57 #[.slice a n cap, .int .i64 num] W → W.cell? ⟨w.heap.size, 0, none⟩ = some (.slice a n cap) ∧ W.cell? ⟨w.heap.size, 1, none⟩ = some (.int .i64 num) := fun W h => ⟨h.cell 0, h.cell 1⟩
  have HXD := Lib.hid HX.drew
  have HDD := Lib.hid (HD.out.below (Below.refl _ _).drew)
  have hbd := hb0.drew
  have hS0 := hSof _ HXD.out
  clear hd HX hb0
  go_enter Try.func78, Try.ntmps78
  go_wp2_with fail
  go_region_held3 (fun W => W.cell? ⟨w.heap.size, 0, none⟩ = some (.slice a n cap) ∧ W.cell? ⟨w.heap.size, 1, none⟩ = some (.int .i64 num)) (first | with_reducible exact hS0 | with_reducible exact hS1 | with_reducible exact hS2 | with_reducible exact hS3 | with_reducible exact hS4)
    (first
      | (go_at_call_of 75 (Value.int .i64 0); refine (HT0.out _ HDD.out).mono ?_; rintro e W1 ⟨rfl, hx⟩; have hb1 := hbd.trans (hx.mono hbd.size); have HX1w := Lib.hid (HXD.out.below hx); have HD1w := Lib.hid (HDD.out.below hx); have hS1 := hSof _ HX1w.out; clear hx)
      | (go_at_call_of 75 (Value.int .i64 1); refine (HT1.out _ HD1w.out).mono ?_; rintro e W2 ⟨rfl, hx⟩; have hb2 := hb1.trans (hx.mono hb1.size); have HX2w := Lib.hid (HX1w.out.below hx); have HD2w := Lib.hid (HD1w.out.below hx); have hS2 := hSof _ HX2w.out; clear hx)
      | (go_at_call_of 75 (Value.int .i64 2); refine (HT2.out _ HD2w.out).mono ?_; rintro e W3 ⟨rfl, hx⟩; have hb3 := hb2.trans (hx.mono hb2.size); have HX3w := Lib.hid (HX2w.out.below hx); have HD3w := Lib.hid (HD2w.out.below hx); have hS3 := hSof _ HX3w.out; clear hx)
      | (go_at_call 26; refine (HC.out _ _ _ _ HX0.out HX1.out HX2.out).mono ?_; rintro e W4 ⟨rfl, hx⟩; have hbz := hb3.trans (hx.mono hb3.size); have HXz := Lib.hid (HX3w.out.below hx); have hS4 := hSof _ HXz.out; clear hx))
  go_wp2
  go_ret2
  exact ⟨rfl, hbz⟩
set_option maxRecDepth 100000 in
set_option maxHeartbeats 3200000 in
theorem lockKinds5_any (a : Option Addr) (n cap : Nat) (ds : List Int) (num : Int) (w : World) (hd : IR w a n ds) (hn : n ≤ 100) :
    Calls Try.prog 79 #[.agg #[.slice a n cap, .int .i64 num]] w (LkQ (Lk.okk 4 ds num) (Lk.mk 4 ds num) w) := by
  have HX : Bk w.heap.size 57 #[.slice a n cap, .int .i64 num] (w.alloc (.cells #[.slice a n cap, .int .i64 num] 57 (0, 0))) := Bk.new _ _ _
  have hb0 : Below w.heap.size w (w.alloc (.cells #[.slice a n cap, .int .i64 num] 57 (0, 0))) := (Below.refl _ _).alloc (Nat.le_refl _) _
  have HD := Lib.hid (hd.alloc (.cells #[.slice a n cap, .int .i64 num] 57 (0, 0)))
  have HC : Hid (∀ W x0 x1, ds.getD 0 (-1) = x0 → ds.getD 1 (-1) = x1 → Calls Try.prog 29 #[.int .i64 x0, .int .i64 num, .int .i64 x1] W (LkQ (Lk.okk 4 ds num) (Lk.mk 4 ds num) W)) := Lib.hid fun W x0 x1 h0 h1 => by
    subst h0 h1
    exact implLockRevocable_any _ num _ W
  unfold LkQ at HC
  unfold LkQ
  obtain ⟨ok, HOK⟩ : ∃ x, Hid (Lk.okk 4 ds num = x) := ⟨_, Lib.hid rfl⟩
  rw [HOK.out] at HC ⊢
  obtain ⟨S, HS⟩ : ∃ x, Hid (Lk.s ok (Lk.mk 4 ds num) = x) := ⟨_, Lib.hid rfl⟩
  rw [HS.out] at HC ⊢
  have HT0 := Lib.hid (fun W h => termsDigest_any a n cap ds num 0 W h hn (by decide))
  obtain ⟨x0, HX0⟩ : ∃ x, Hid (ds.getD 0 (-1) = x) := ⟨_, Lib.hid rfl⟩
  rw [HX0.out] at HT0
  have HT1 := Lib.hid (fun W h => termsDigest_any a n cap ds num 1 W h hn (by decide))
  obtain ⟨x1, HX1⟩ : ∃ x, Hid (ds.getD 1 (-1) = x) := ⟨_, Lib.hid rfl⟩
  rw [HX1.out] at HT1
  have hSof : ∀ W, Bk w.heap.size 57 #[.slice a n cap, .int .i64 num] W → W.cell? ⟨w.heap.size, 0, none⟩ = some (.slice a n cap) ∧ W.cell? ⟨w.heap.size, 1, none⟩ = some (.int .i64 num) := fun W h => ⟨h.cell 0, h.cell 1⟩
  have HXD := Lib.hid HX.drew
  have HDD := Lib.hid (HD.out.below (Below.refl _ _).drew)
  have hbd := hb0.drew
  have hS0 := hSof _ HXD.out
  clear hd HX hb0
  go_enter Try.func79, Try.ntmps79
  go_wp2_with fail
  go_region_held3 (fun W => W.cell? ⟨w.heap.size, 0, none⟩ = some (.slice a n cap) ∧ W.cell? ⟨w.heap.size, 1, none⟩ = some (.int .i64 num)) (first | with_reducible exact hS0 | with_reducible exact hS1 | with_reducible exact hS2 | with_reducible exact hS3)
    (first
      | (go_at_call_of 75 (Value.int .i64 0); refine (HT0.out _ HDD.out).mono ?_; rintro e W1 ⟨rfl, hx⟩; have hb1 := hbd.trans (hx.mono hbd.size); have HX1w := Lib.hid (HXD.out.below hx); have HD1w := Lib.hid (HDD.out.below hx); have hS1 := hSof _ HX1w.out; clear hx)
      | (go_at_call_of 75 (Value.int .i64 1); refine (HT1.out _ HD1w.out).mono ?_; rintro e W2 ⟨rfl, hx⟩; have hb2 := hb1.trans (hx.mono hb1.size); have HX2w := Lib.hid (HX1w.out.below hx); have HD2w := Lib.hid (HD1w.out.below hx); have hS2 := hSof _ HX2w.out; clear hx)
      | (go_at_call 29; refine (HC.out _ _ _ HX0.out HX1.out).mono ?_; rintro e W3 ⟨rfl, hx⟩; have hbz := hb2.trans (hx.mono hb2.size); have HXz := Lib.hid (HX2w.out.below hx); have hS3 := hSof _ HXz.out; clear hx))
  go_wp2
  go_ret2
  exact ⟨rfl, hbz⟩
def Lk.fnum (k : Nat) : Nat := match k with
  | 0 => 74
  | 1 => 76
  | 2 => 77
  | 3 => 78
  | _ => 79
def Lk.fn (k : Nat) : Value := .func (Fn.func (Lk.fnum k)) #[] #[]
def Lk.tab : Array Value := #[.string (Lk.nm 0), Lk.fn 0, .string (Lk.nm 1), Lk.fn 1, .string (Lk.nm 2), Lk.fn 2, .string (Lk.nm 3), Lk.fn 3, .string (Lk.nm 4), Lk.fn 4]
theorem Lk.tab_get (k : Nat) (h : k < 5) : Lk.tab[k * 2]? = some (.string (Lk.nm k)) ∧ Lk.tab[k * 2 + 1]? = some (.func (Fn.func (Lk.fnum k)) #[] #[]) := by
  match k, h with
  | 0, _ => exact ⟨rfl, rfl⟩
  | 1, _ => exact ⟨rfl, rfl⟩
  | 2, _ => exact ⟨rfl, rfl⟩
  | 3, _ => exact ⟨rfl, rfl⟩
  | 4, _ => exact ⟨rfl, rfl⟩
theorem enters_kind (k : Nat) (h : k < 5) : ∀ args w, (callFunc (Lk.fnum k) args).run Try.prog w = .ok (.enter (Lk.fnum k) args) w := by
  match k, h with
  | 0, _ => exact enters_of Try.func74 (by kernel_rfl) rfl
  | 1, _ => exact enters_of Try.func76 (by kernel_rfl) rfl
  | 2, _ => exact enters_of Try.func77 (by kernel_rfl) rfl
  | 3, _ => exact enters_of Try.func78 (by kernel_rfl) rfl
  | 4, _ => exact enters_of Try.func79 (by kernel_rfl) rfl
theorem kind_any (k : Nat) (hk : k < 5) (a : Option Addr) (n cap : Nat) (ds : List Int) (num : Int) (w : World) (hd : IR w a n ds) (hn : n ≤ 100) :
    Calls Try.prog (Lk.fnum k) #[.agg #[.slice a n cap, .int .i64 num]] w (LkQ (Lk.okk k ds num) (Lk.mk k ds num) w) := by
  match k, hk with
  | 0, _ => exact lockKinds1_any a n cap ds num w hd hn
  | 1, _ => exact lockKinds2_any a n cap ds num w hd hn
  | 2, _ => exact lockKinds3_any a n cap ds num w hd hn
  | 3, _ => exact lockKinds4_any a n cap ds num w hd hn
  | 4, _ => exact lockKinds5_any a n cap ds num w hd hn
set_option maxRecDepth 100000 in
set_option maxHeartbeats 3200000 in
theorem lockKinds_any (w : World) : Calls Try.prog 46 #[] w fun e w' => e = .returned (.slice (some ⟨w.heap.size, 0, none⟩) 5 5) ∧ w' = w.alloc (.cells Lk.tab 63 (0, 0)) := by
  go_enter Try.func46, Try.ntmps46
  go_wp2
  go_ret
  exact ⟨rfl, rfl⟩
set_option maxRecDepth 100000 in
set_option maxHeartbeats 3200000 in
theorem implLockName_any (s : ByteArray) (w : World) (hs : s.size ≤ 1048576) :
    Calls Try.prog 18 #[.string s] w fun e w' => e = .returned (.string (Lk.nameS s)) ∧ Below w.heap.size w w' := by
  have hrd := implScriptRead_any s w hs
  cases hr : Jo.read s with
  | none =>
    have HQ : Hid (Lk.nameS s = ⟨#[]⟩) := Lib.hid (by unfold Lk.nameS; rw [hr])
    have hrd2 : Calls Try.prog 33 #[.string s] w fun e w' => e = .returned (.tuple #[.slice none 0 0, .bool false]) ∧ Below w.heap.size w w' :=
      hrd.mono fun e w' h => by
        rcases h with ⟨_, h1, h2⟩ | ⟨l, _, _, h1, _⟩
        · exact ⟨h1, h2⟩
        · rw [hr] at h1; cases h1
    rw [HQ.out]
    clear hrd hr hs
    go_enter Try.func18, Try.ntmps18
    go_wp2_with fail
    refine hrd2.mono ?_
    rintro e w1 ⟨rfl, hb1⟩
    go_wp2
    go_ret
    exact ⟨rfl, hb1⟩
  | some l =>
    obtain ⟨hby, hok⟩ := Jo.bytes_read hr
    have hbs : Jo.bs l = s := by rw [Jo.bs_ok hok]; exact hby
    have hll : l.length ≤ 40 := ((Jo.ok_iff l).1 hok).1
    have HQ : Hid (Lk.nameS s = Lk.name l) := Lib.hid (by unfold Lk.nameS; rw [hr])
    obtain ⟨ll, HLL⟩ : ∃ k, Hid (l.length = k) := ⟨_, Lib.hid rfl⟩
    have hrd2 : Calls Try.prog 33 #[.string s] w fun e w' => ∃ a cap, e = .returned (.tuple #[.slice a ll cap, .bool true]) ∧ OL w' a ll l ∧ Below w.heap.size w w' :=
      hrd.mono fun e w' h => by
        rcases h with ⟨h1, _⟩ | ⟨l', a, cap, h1, h2, h3, h4⟩
        · rw [hr] at h1; cases h1
        · rw [hr] at h1; cases h1
          rw [HLL.out] at h2 h3
          exact ⟨a, cap, h2, (OL.own h3).2, h4⟩
    rw [HLL.out] at hll
    rw [HQ.out]
    have hdl : (Lk.ds l).length ≤ 100 := by
      have := Lk.ds_le l
      have := HLL.out
      omega
    obtain ⟨R, HR⟩ : ∃ x, Hid (Lk.name l = x) := ⟨_, Lib.hid rfl⟩
    rw [HR.out]
    have HFIRST : Hid (∀ k, k < 5 → Lk.t k l = true → (∀ j, j < k → Lk.t j l = false) → R = Lk.nm k) := Lib.hid fun k hk h hn => by rw [← HR.out]; exact Lk.name_first hk h hn
    have HNONE : Hid ((∀ j, j < 5 → Lk.t j l = false) → R = ⟨#[]⟩) := Lib.hid fun h => by rw [← HR.out]; exact Lk.name_none h
    have HTV : Hid (∀ k, Lk.t k l = (Lk.okk k (Lk.ds l) (Lk.num l) && decide (Lk.s (Lk.okk k (Lk.ds l) (Lk.num l)) (Lk.mk k (Lk.ds l) (Lk.num l)) = s))) := Lib.hid fun k => by rw [← hbs]; rfl
    have HTO := Lib.hid (fun W a cap h => termsOf_any a ll cap l W h (by omega))
    have HKA := Lib.hid (fun k hk a cap W h => kind_any k hk a (Lk.ds l).length cap (Lk.ds l) (Lk.num l) W h hdl)
    unfold LkQ at HKA
    obtain ⟨ds, HDS⟩ : ∃ x, Hid (Lk.ds l = x) := ⟨_, Lib.hid rfl⟩
    obtain ⟨num, HNU⟩ : ∃ x, Hid (Lk.num l = x) := ⟨_, Lib.hid rfl⟩
    rw [HDS.out, HNU.out] at HTV HTO HKA
    rw [HDS.out] at hdl
    obtain ⟨n, HDN⟩ : ∃ x, Hid (ds.length = x) := ⟨_, Lib.hid rfl⟩
    rw [HDN.out] at HTO HKA hdl
    clear hrd hr hby hok hbs HQ HR HDS HNU HLL
    go_enter Try.func18, Try.ntmps18
    go_wp2_with fail
    refine hrd2.mono ?_
    rintro e w1 ⟨a, cap, rfl, hO, hb1⟩
    go_wp2_with fail
    refine (HTO.out _ _ _ hO).mono ?_
    rintro e w2 ⟨g, c, rfl, hir, hx⟩
    have hb2 := below_aft9 hb1 hx
    clear hx hb1 hO
    have vT := (Bk.new w2 57 #[.slice g n c, .int .i64 num]).alloc (.cells Lk.tab 63 (0, 0))
    have vG : Bk (w2.heap.size + 1) 63 Lk.tab ((w2.alloc (.cells #[.slice g n c, .int .i64 num] 57 (0, 0))).alloc (.cells Lk.tab 63 (0, 0))) := Bk.new' _ _ _ _ (by simp)
    have HIR := Lib.hid ((hir.alloc (.cells #[.slice g n c, .int .i64 num] 57 (0, 0))).alloc (.cells Lk.tab 63 (0, 0)))
    have hb3 := below_alloc (below_alloc hb2 (.cells #[.slice g n c, .int .i64 num] 57 (0, 0))) (.cells Lk.tab 63 (0, 0))
    have VT := Lib.hid vT
    have VG := Lib.hid vG
    clear hir vT vG
    go_wp2_with fail
    refine (lockKinds_any _).mono ?_
    rintro e w3' ⟨rfl, hw3⟩
    obtain ⟨w3, HW3⟩ : ∃ x, Hid (w3' = x) := ⟨_, Lib.hid rfl⟩
    rw [hw3] at HW3
    rw [HW3.out] at VT VG HIR hb3
    rw [hw3, HW3.out]
    have hG : (w2.alloc (.cells #[.slice g n c, .int .i64 num] 57 (0, 0))).heap.size = w2.heap.size + 1 := by simp
    rw [hG]
    clear hw3 HW3 hG hb2
    go_wp2
    go_loopw [21] (fun i wr => ∃ (k : Nat), k ≤ 5 ∧ i = .int .i64 (k : Int) ∧ Hid (∀ j, j < k → Lk.t j l = false) ∧ Below w3.heap.size w3 wr)
      (fun i _ => 5 - (intOf i).toNat)
    case atStart => exact ⟨0, by omega, rfl, Lib.hid (fun j hj => absurd hj (by omega)), Below.refl _ _⟩
    case round =>
      obtain ⟨k, hk, rfl, HV, hbel⟩ := hrel
      by_cases hlt : k < 5
      · have vT := VT.out.below hbel
        have vG := VG.out.below hbel
        have p0 := (vG.cell (k * 2)).trans (Lk.tab_get k hlt).1
        have p1 := (vG.cell (k * 2 + 1)).trans (Lk.tab_get k hlt).2
        have he := enters_kind k hlt
        obtain ⟨nk, HNK⟩ : ∃ x, Hid (Lk.nm k = x) := ⟨_, Lib.hid rfl⟩
        rw [HNK.out] at p0
        obtain ⟨fk, HFK⟩ : ∃ x, Hid (Lk.fnum k = x) := ⟨_, Lib.hid rfl⟩
        have HC := Lib.hid (fun W h => HKA.out k hlt g c W h)
        rw [HFK.out] at p1 he HC
        have HT1 := Lib.hid (HTV.out k)
        obtain ⟨ok, HOK⟩ : ∃ x, Hid (Lk.okk k ds num = x) := ⟨_, Lib.hid rfl⟩
        rw [HOK.out] at HC HT1
        obtain ⟨S, HS⟩ : ∃ x, Hid (Lk.s ok (Lk.mk k ds num) = x) := ⟨_, Lib.hid rfl⟩
        rw [HS.out] at HC HT1
        have vV : Bk wr.heap.size 63 #[.string nk, .func (Fn.func fk) #[] #[]] (wr.alloc (.cells #[.string nk, .func (Fn.func fk) #[] #[]] 63 (0, 0))) := Bk.new _ _ _
        have hir2 := Lib.hid ((HIR.out.below hbel).alloc (.cells #[.string nk, .func (Fn.func fk) #[] #[]] 63 (0, 0)))
        have hba := hbel.alloc hbel.size (.cells #[.string nk, .func (Fn.func fk) #[] #[]] 63 (0, 0))
        obtain ⟨v0, v1⟩ := Bk.c2 vV
        obtain ⟨t0, t1⟩ := Bk.c2 (vT.alloc (.cells #[.string nk, .func (Fn.func fk) #[] #[]] 63 (0, 0)))
        obtain ⟨tt0, tt1⟩ := Bk.c2 vT
        have VV := Lib.hid vV
        clear vT vG vV HFK HOK HS
        go_wp2_with fail
        refine (HC.out _ hir2.out).mono ?_
        rintro e w4 ⟨rfl, hx⟩
        have hb4 := hba.trans (hx.mono hba.size)
        obtain ⟨y0, y1⟩ := Bk.c2 (VV.out.below hx)
        clear hx v0 v1 t0 t1 tt0 tt1 p0 p1 he hba hir2
        cases ok
        · have HV2 : Hid (∀ j, j < k + 1 → Lk.t j l = false) := Lib.hid fun j hj => by
            by_cases hjk : j = k
            · rw [hjk, HT1.out, Bool.false_and]
            · exact HV.out j (by omega)
          go_wp2
          go_roundw
          case rel => exact ⟨k + 1, by omega, by simp, HV2, hb4⟩
          case measure => simp [intOf]; omega
        by_cases hS : S = s
        · have hR : R = nk := by
            rw [← HNK.out]
            exact HFIRST.out k hlt (by rw [HT1.out, decide_eq_true hS]; rfl) HV.out
          subst hR
          subst hS
          have hq : (S.toList == S.toList) = true := by simp
          go_wp2
          go_ret
          exact ⟨rfl, hb3.trans (hb4.mono hb3.size)⟩
        · have hq : (S.toList == s.toList) = false := by
            rw [beq_eq_false_iff_ne]
            intro e
            rw [ByteArray.toList_eq, ByteArray.toList_eq] at e
            exact hS (ByteArray.ext (Array.toList_inj.1 e))
          have HV2 : Hid (∀ j, j < k + 1 → Lk.t j l = false) := Lib.hid fun j hj => by
            by_cases hjk : j = k
            · rw [hjk, HT1.out, decide_eq_false hS]; rfl
            · exact HV.out j (by omega)
          clear hS
          go_wp2
          go_roundw
          case rel => exact ⟨k + 1, by omega, by simp, HV2, hb4⟩
          case measure => simp [intOf]; omega
      · obtain rfl : k = 5 := by omega
        have hR : R = ⟨#[]⟩ := HNONE.out HV.out
        subst hR
        go_wp2
        go_ret
        exact ⟨rfl, hb3.trans (hbel.mono hb3.size)⟩
end Go.Proofs.Ytoocibabceeagaa
