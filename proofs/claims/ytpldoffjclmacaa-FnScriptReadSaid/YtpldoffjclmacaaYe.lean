/-
  Contracts of scripts: ScriptRead; of the model.
-/
import Derived.Test.YtpldoffjclmacaaOf
import Derived.Test.YtpldoffjclmacaaRs
import Derived.Test.YtpldoffjclmacaaTx
namespace Go.Proofs.Ytpldoffjclmacaa
open Go.RowKit

theorem Bk.gbY {D : Nat} {t : TypeId} {cs : Array Value} {w w' : World} (h : Bk D t cs w) {row : Option Nat} (hg : w.grownBy w' row) (hne : some D ≠ row) : Bk D t cs w' := ⟨(hg.block D h.lt hne).trans h.held⟩
theorem own_set {W : World} {base : Nat} {e : TypeId} {k n : Nat} {v : Value} {xs : List Value} (h : W.ownsRow base e k v n xs) (X i : Nat) (u : Value) (hne : v.ownBlock ≠ some X) : (W.setCell ⟨X, i, none⟩ u).ownsRow base e k v n xs :=
  h.kept (row := some X) ⟨rfl, rfl, rfl, by simp [World.setCell], fun j _ hr => Below.heap_setCell _ _ _ _ (fun e => hr (by simp [e]))⟩ (.inr hne)
theorem own_type {w : World} {B n k : Nat} {v : Value} {bs : List Value} {D : Nat} {cs : Array Value} {t e : TypeId} {fr : Nat × Nat} (hown : w.ownsRow B e k v n bs) (ht : t ≠ e) (hD : w.heap[D]? = some (.cells cs t fr)) : v.ownBlock ≠ some D := by
  intro h
  rcases hown.2 with ⟨he, _⟩ | ⟨g, cap, cur, he, _, hh, _⟩
  · rw [he] at h; simp [Value.ownBlock] at h
  · rw [he] at h
    have hg : g = D := by simpa [Value.ownBlock] using h
    subst hg
    rw [hD] at hh
    cases hh
    exact ht rfl
theorem four_new (W : World) (a b c d : Value) (t : TypeId) (B : Nat) (hB : B = W.heap.size) : ∀ j u, [a, b, c, d][j]? = some u → (W.alloc (.cells #[a, b, c, d] t (0, 0))).cell? ((⟨B, 0, none⟩ : Addr).add j) = some u := by
  subst hB
  intro j u hj
  have hadr : (⟨W.heap.size, 0, none⟩ : Addr).add j = ⟨W.heap.size, j, none⟩ := by unfold Addr.add; split <;> simp_all
  rw [hadr]
  exact (World.cell?_alloc_mark W #[a, b, c, d] t (0, 0) j).trans (by simpa using hj)
/-- What ScriptRead hands back. -/
def JoRd (s : ByteArray) (w : World) (e : Ending) (w' : World) : Prop :=
  (Jo.read s = none ∧ e = .returned (.tuple #[.slice none 0 0, .bool false]) ∧ Below w.heap.size w w') ∨
  (∃ l a cap, Jo.read s = some l ∧ e = .returned (.tuple #[.slice a l.length cap, .bool true]) ∧ w'.ownsRow w.heap.size 46 4 (.slice a l.length cap) l.length (Jo.cells l) ∧ Below w.heap.size w w')
/-- How far a reading has come. -/
def RdI (s : ByteArray) (acc : List Jo) (r : ByteArray) (b : Bool) : Prop :=
  (b = false → Jo.all s = (match Jo.all r with | none => none | some l => some (acc ++ l)) ∧ acc.length + r.size ≤ s.size) ∧ (b = true → Jo.all s = none) ∧ acc.length ≤ s.size
theorem RdI.start (s : ByteArray) : RdI s [] s false := by
  refine ⟨fun _ => ⟨?_, by simp⟩, fun h => (by cases h), by simp⟩
  cases Jo.all s <;> rfl
/-- One operation more. -/
theorem RdI.step {s r r2 : ByteArray} {acc : List Jo} {x : Jo} {b : Bool} (h : RdI s acc r false) (hr : 0 < r.size) (h0 : b = false → Jo.one r = some (x, r2)) (h1 : b = true → Jo.one r = none) : RdI s (acc ++ [x]) r2 b := by
  obtain ⟨ha, hl⟩ := h.1 rfl
  refine ⟨fun hb => ⟨?_, ?_⟩, fun hb => ?_, by rw [List.length_append]; simp; omega⟩
  · rw [ha, Jo.all_some hr (h0 hb)]
    cases Jo.all r2 with
    | none => rfl
    | some l => simp
  · have := Jo.one_size hr (h0 hb)
    rw [List.length_append]; simp; omega
  · rw [ha, Jo.all_none hr (h1 hb)]
theorem RdI.bad {s r : ByteArray} {acc : List Jo} (h : RdI s acc r true) : Jo.read s = none := by
  have := h.2.1 rfl
  unfold Jo.all at this
  unfold Jo.read
  rw [this]
theorem RdI.done {s r : ByteArray} {acc : List Jo} (h : RdI s acc r false) (hr : r.size = 0) : Jo.read s = if Jo.ok acc = true then some acc else none := by
  have := (h.1 rfl).1
  rw [Jo.all_nil hr] at this
  simp only [List.append_nil] at this
  unfold Jo.all at this
  unfold Jo.read
  rw [this]
theorem Jo.one_push {r t r2 : ByteArray} (hc : En.byt r 0 = 0) (h : En.decT (En.rest r 1) = some (t, r2)) : Jo.one r = some (⟨0, 0, 0, t⟩, r2) := by
  unfold Jo.one Jo.oneR
  rw [if_pos hc, h]
theorem Jo.one_push_no {r : ByteArray} (hc : En.byt r 0 = 0) (h : En.decT (En.rest r 1) = none) : Jo.one r = none := by
  unfold Jo.one Jo.oneR
  rw [if_pos hc, h]
theorem Jo.one_many {r r2 r3 : ByteArray} {a b : Int} (hc : En.byt r 0 = 12) (h : En.dec (En.rest r 1) = some (a, r2)) (h2 : En.dec r2 = some (b, r3)) : Jo.one r = some (⟨12, a, b, ⟨#[]⟩⟩, r3) := by
  unfold Jo.one Jo.oneR
  rw [if_neg (by omega), if_pos hc, h]
  simp only
  rw [h2]
theorem Jo.one_many_no {r : ByteArray} (hc : En.byt r 0 = 12) (h : En.dec (En.rest r 1) = none ∨ ∃ a r2, En.dec (En.rest r 1) = some (a, r2) ∧ En.dec r2 = none) : Jo.one r = none := by
  unfold Jo.one Jo.oneR
  rw [if_neg (by omega), if_pos hc]
  rcases h with h | ⟨a, r2, h, h2⟩
  · rw [h]
  · rw [h]; simp only; rw [h2]
theorem Jo.one_num {r r2 : ByteArray} {a : Int} (hc : En.byt r 0 = 13 ∨ En.byt r 0 = 14) (h : En.dec (En.rest r 1) = some (a, r2)) : Jo.one r = some (⟨En.byt r 0, a, 0, ⟨#[]⟩⟩, r2) := by
  unfold Jo.one Jo.oneR
  rw [if_neg (by omega), if_neg (by omega), if_pos hc, h]
theorem Jo.one_num_no {r : ByteArray} (hc : En.byt r 0 = 13 ∨ En.byt r 0 = 14) (h : En.dec (En.rest r 1) = none) : Jo.one r = none := by
  unfold Jo.one Jo.oneR
  rw [if_neg (by omega), if_neg (by omega), if_pos hc, h]
theorem Jo.one_bare {r : ByteArray} (h0 : En.byt r 0 ≠ 0) (h1 : En.byt r 0 ≠ 12) (h2 : En.byt r 0 ≠ 13) (h3 : En.byt r 0 ≠ 14) : Jo.one r = some (⟨En.byt r 0, 0, 0, ⟨#[]⟩⟩, En.rest r 1) := by
  unfold Jo.one Jo.oneR
  rw [if_neg h0, if_neg h1, if_neg (by omega)]
/-- What is left in the reader. -/
def Jo.left (B : Nat) (w : World) : Nat := match w.cell? ⟨B, 0, none⟩, w.cell? ⟨B, 1, none⟩ with
  | some (.string r), some (.bool b) => if b then 0 else r.size + 1
  | _, _ => 0
theorem Jo.left_eq {B : Nat} {w : World} {r : ByteArray} {b : Bool} (h : w.heap[B]? = some (.cells #[.string r, .bool b] 69 (0, 0))) : Jo.left B w = if b then 0 else r.size + 1 := by
  unfold Jo.left
  rw [rs_str h, rs_bad h]
set_option maxHeartbeats 400000 in
theorem le_bad (B : Nat) (s : ByteArray) (n : Int) (w : World)
    (hb : w.heap[B]? = some (.cells #[.string s, .bool true] 69 (0, 0))) :
    Calls Try.prog 35 #[.pointer (some ⟨B, 0, none⟩), .int .i64 n] w fun e w' => e = .returned (.int .i64 0) ∧ Rs B w w' s true := by
  have hT := Rs.setB hb true
  have h0 := rs_str hb
  have h1 := rs_bad hb
  have h3 := rs_f1 hb
  clear hb
  go_enter Try.func35, Try.ntmps35
  go_wp2
  go_ret
  exact ⟨rfl, hT⟩
set_option maxHeartbeats 800000 in
theorem num_bad (B : Nat) (s : ByteArray) (w : World)
    (hb : w.heap[B]? = some (.cells #[.string s, .bool true] 69 (0, 0))) :
    Calls Try.prog 37 #[.pointer (some ⟨B, 0, none⟩)] w fun e w' => e = .returned (.int .i64 0) ∧ Rs B w w' s true := by
  go_enter Try.func37, Try.ntmps37
  go_wp2_with (go_at_call 35; refine (le_bad B s 1 _ hb).mono ?_; rintro e w1 ⟨rfl, hT⟩; have c1 := rs_bad hT.held)
  go_ret
  exact ⟨rfl, hT⟩
/-- A number, from a good reader or a bad one. -/
theorem num_gen (B : Nat) (s : ByteArray) (b : Bool) (w : World)
    (hb : w.heap[B]? = some (.cells #[.string s, .bool b] 69 (0, 0))) :
    Calls Try.prog 37 #[.pointer (some ⟨B, 0, none⟩)] w fun e w' => ∃ v r2 b2, e = .returned (.int .i64 v) ∧ Rs B w w' r2 b2 ∧ Hid ((b2 = true → b = true ∨ En.dec s = none) ∧ (b2 = false → b = false ∧ En.dec s = some (v, r2))) := by
  cases b with
  | true =>
    refine (num_bad B s w hb).mono ?_
    rintro e w' ⟨he, hT⟩
    exact ⟨0, s, true, he, hT, Lib.hid ⟨fun _ => .inl rfl, fun h => by cases h⟩⟩
  | false =>
    refine (num_any B s w hb).mono ?_
    rintro e w' ⟨he, hT⟩
    cases hd : En.dec s with
    | none =>
      rw [RsDec.none_ hd] at hT
      obtain ⟨r, hT⟩ := hT
      exact ⟨_, r, true, he, hT, Lib.hid ⟨fun _ => .inr rfl, fun h => by cases h⟩⟩
    | some x =>
      rw [RsDec.some_ hd] at hT
      rw [En.decN_some hd] at he
      exact ⟨x.1, x.2, false, he, hT, Lib.hid ⟨(fun h => by cases h), fun _ => ⟨rfl, rfl⟩⟩⟩
theorem text_gen (B : Nat) (s : ByteArray) (w : World)
    (hb : w.heap[B]? = some (.cells #[.string s, .bool false] 69 (0, 0))) :
    Calls Try.prog 36 #[.pointer (some ⟨B, 0, none⟩)] w fun e w' => ∃ t r2 b2, e = .returned (.string t) ∧ Rs B w w' r2 b2 ∧ Hid ((b2 = true → En.decT s = none) ∧ (b2 = false → En.decT s = some (t, r2))) := by
  refine (text_any B s w hb).mono ?_
  rintro e w' ⟨he, hT⟩
  cases hd : En.decT s with
  | none =>
    rw [hd] at hT
    obtain ⟨r, hT⟩ := hT
    exact ⟨_, r, true, he, hT, Lib.hid ⟨fun _ => rfl, fun h => by cases h⟩⟩
  | some x =>
    rw [hd] at hT
    rw [En.decTS_some hd] at he
    exact ⟨x.1, x.2, false, he, hT, Lib.hid ⟨(fun h => by cases h), fun _ => rfl⟩⟩
theorem le_one (B : Nat) (s : ByteArray) (w : World) (h : 0 < s.size)
    (hb : w.heap[B]? = some (.cells #[.string s, .bool false] 69 (0, 0))) :
    Calls Try.prog 35 #[.pointer (some ⟨B, 0, none⟩), .int .i64 1] w fun e w' => e = .returned (.int .i64 (En.byt s 0)) ∧ Rs B w w' (En.rest s 1) false := by
  have := le_ok B s 1 w (by omega) (by omega) (by omega) hb
  rw [show En.lev s 0 (Int.toNat 1) = En.byt s 0 from En.lev_one s 0] at this
  exact this
set_option maxRecDepth 100000 in
set_option maxHeartbeats 3200000 in
theorem specScriptRead_any (s : ByteArray) (w : World) (hs : s.size ≤ 1048576) : Calls Try.prog 14 #[.string s] w (JoRd s w) := by
  obtain ⟨i0, hi, hz0, hz1, hz2⟩ := info_parts info_op
  have hR0 : Hid (((w.alloc (.cells #[.string s, .bool false] 69 (0, 0))).alloc (.cells #[] 46 (0, 0))).heap[w.heap.size]? = some (.cells #[.string s, .bool false] 69 (0, 0))) := Lib.hid (by
    rw [Below.heap_alloc _ _ _ (by simp)]; exact heap_alloc_new w _)
  go_enter Try.func14, Try.ntmps14
  go_wp2
  go_loopw [5] (fun v wr => ∃ (acc : List Jo) (r : ByteArray) (b : Bool), Hid (wr.ownsRow w.heap.size 46 4 v acc.length (Jo.cells acc)) ∧ Hid (wr.heap[w.heap.size]? = some (.cells #[.string r, .bool b] 69 (0, 0))) ∧ Hid (RdI s acc r b) ∧ Below w.heap.size w wr)
    (fun _ wr => Jo.left w.heap.size wr)
  case atStart => exact ⟨[], s, false, Lib.hid ⟨rfl, .inr ⟨w.heap.size + 1, 0, #[], rfl, by omega, (by have := heap_alloc_new (w.alloc (.cells #[.string s, .bool false] 69 (0, 0))) (.cells #[] 46 (0, 0)); simpa using this), Nat.le_refl _, by decide, rfl, rfl⟩⟩, hR0, Lib.hid (RdI.start s), ((Below.refl _ _).alloc (Nat.le_refl _) _).alloc (by simp) _⟩
  case round =>
    obtain ⟨acc, r, b, HOWN, HR, HI, hbel⟩ := hrel
    have c0 := rs_str HR.out
    have c1 := rs_bad HR.out
    have hE := str_empty_iff r
    have HLEFT := Lib.hid (Jo.left_eq HR.out)
    have hacc := HI.out.2.2
    obtain ⟨n, HN⟩ : ∃ n, Hid (acc.length = n) := ⟨_, Lib.hid rfl⟩
    rw [HN.out] at hacc HOWN
    obtain ⟨va, vc, rfl⟩ : ∃ va vc, u5 = .slice va n vc := by
      rcases HOWN.out.2 with ⟨h1, h2⟩ | ⟨g, cap', cur, h1, _⟩
      · exact ⟨none, 0, by rw [h1, h2]⟩
      · exact ⟨_, _, h1⟩
    cases b
    case true =>
      have HB := Lib.hid HI.out.bad
      have hne : r.toList.isEmpty = true ∨ r.toList.isEmpty = false := by cases r.toList.isEmpty <;> simp
      clear hE HI HOWN
      rcases hne with hne | hne
      all_goals
        go_wp2
        go_ret2
        exact .inl ⟨HB.out, rfl, hbel⟩
    by_cases h0 : r.size = 0
    · have hne : r.toList.isEmpty = true := by rw [hE]; exact decide_eq_true h0
      have HD := Lib.hid (HI.out.done h0)
      have hol := OL.own HOWN.out
      have hcon := specScriptOk_any va n vc acc wr hol.2 (by omega)
      clear hE HI hol
      obtain ⟨f, HF⟩ : ∃ f, Hid (Jo.ok acc = f) := ⟨_, Lib.hid rfl⟩
      rw [HF.out] at hcon HD
      go_wp2_with fail
      refine hcon.mono ?_
      rintro e w1 ⟨rfl, hb1⟩
      have hbel1 := below_aft9 hbel hb1
      have HO1 : Hid (w1.ownsRow w.heap.size 46 4 (.slice va n vc) n (Jo.cells acc)) := Lib.hid (HOWN.out.kept (row := none) ⟨hb1.os, hb1.tape, hb1.output, hb1.size, fun q hq _ => hb1.block q hq⟩ (Classical.em _))
      clear hcon HOWN hb1 hbel c0 c1
      cases f
      · go_wp2
        go_ret2
        exact .inl ⟨by rw [HD.out]; rfl, rfl, hbel1⟩
      · go_wp2
        go_ret2
        exact .inr ⟨acc, va, vc, by rw [HD.out]; rfl, by rw [HN.out]; rfl, by rw [HN.out]; exact HO1.out, hbel1⟩
    · have hne : r.toList.isEmpty = false := by rw [hE]; exact decide_eq_false h0
      have hpos : 0 < r.size := by omega
      have hbd := En.byt_bd r 0
      have hRlt := lt_of_block HR.out
      have hbs := hbel.size
      have hcon := le_one w.heap.size r wr hpos HR.out
      have HONE := fun x r2 b (h0 : b = false → Jo.one r = some (x, r2)) (h1 : b = true → Jo.one r = none) => HI.out.step hpos h0 h1
      have HST := Lib.hid HONE
      have HP := Lib.hid hpos
      obtain ⟨c, HC⟩ : ∃ c, Hid (En.byt r 0 = c) := ⟨_, Lib.hid rfl⟩
      rw [HC.out] at hbd hcon
      clear hE HI h0 HONE
      go_wp2_with fail
      refine hcon.mono ?_
      rintro e w1 ⟨rfl, hT1⟩
      have hne1 : (.slice va n vc : Value).ownBlock ≠ some w.heap.size := own_type HOWN.out (by decide) HR.out
      have HO1 := Lib.hid ((HOWN.out.kept (row := some w.heap.size) hT1.kept (.inr hne1)).alloc (.cells #[.int .i64 c, .int .i64 0, .int .i64 0, .string ⟨#[]⟩] 46 (0, 0)))
      have hgl : ∀ g, (.slice va n vc : Value).ownBlock = some g → g < w1.heap.size := fun g hg => by
        have h1 := (HOWN.out.lt g hg).2
        have h2 := hT1.kept.size
        omega
      have hneX : (.slice va n vc : Value).ownBlock ≠ some w1.heap.size := fun h => by have := hgl _ h; omega
      have hbel1 := (Below.grown hbel hT1.kept hbs (fun j hj => by cases hj; exact Nat.le_refl _))
      have hge := hbel1.size
      have hvX := Bk.new w1 46 #[.int .i64 c, .int .i64 0, .int .i64 0, .string ⟨#[]⟩]
      have hbelX := hbel1.alloc hbel1.size (.cells #[.int .i64 c, .int .i64 0, .int .i64 0, .string ⟨#[]⟩] 46 (0, 0))
      have HR1 : Hid ((w1.alloc (.cells #[.int .i64 c, .int .i64 0, .int .i64 0, .string ⟨#[]⟩] 46 (0, 0))).heap[w.heap.size]? = some (.cells #[.string (En.rest r 1), .bool false] 69 (0, 0))) := Lib.hid (by
        rw [Below.heap_alloc _ _ _ (lt_of_block hT1.held)]; exact hT1.held)
      have hXR : w1.heap.size ≠ w.heap.size := by have := lt_of_block hT1.held; omega
      have HLE : Hid (∀ wz r2 b2, wz.heap[w.heap.size]? = some (.cells #[.string r2, .bool b2] 69 (0, 0)) → (b2 = false → r2.size < r.size) → Jo.left w.heap.size wz < Jo.left w.heap.size wr) := Lib.hid fun wz r2 b2 hz h => by
        rw [HLEFT.out, Jo.left_eq hz]
        cases b2
        · have := h rfl; simp; omega
        · simp
      clear hcon HOWN hne1 hT1 hbel1 hbel HLEFT hgl c0 c1 HR
      by_cases k0 : c = 0
      · subst k0
        go_wp2_with fail
        refine (text_gen w.heap.size (En.rest r 1) _ HR1.out).mono ?_
        rintro e w2 ⟨tt, r2, b2, rfl, hT2, HQ⟩
        have hvX2 := hvX.gbY hT2.kept (by simpa using hXR)
        have HO2 := Lib.hid (own_set (HO1.out.kept (row := some w.heap.size) hT2.kept (.inr (own_type HO1.out (by decide) HR1.out))) w1.heap.size 3 (.string tt) hneX)
        have hbel2 := (Below.grown hbelX hT2.kept hbelX.size (fun j hj => by cases hj; exact Nat.le_refl _))
        have hbel3 := hbel2.setCell (p := ⟨w1.heap.size, 3, none⟩) (show w.heap.size ≤ w1.heap.size by omega) (.string tt)
        have HR3 : Hid ((w2.setCell ⟨w1.heap.size, 3, none⟩ (.string tt)).heap[w.heap.size]? = some (.cells #[.string r2, .bool b2] 69 (0, 0))) := Lib.hid ((Below.heap_setCell _ _ _ _ (fun h => hXR h.symm)).trans hT2.held)
        have f3 : w2.frozen? ⟨w1.heap.size, 3, none⟩ = false := hvX2.f4.2.2.2
        have x3 : w2.cell? ⟨w1.heap.size, 3, none⟩ = some (.string ⟨#[]⟩) := hvX2.cell 3
        have hvX3 : Bk w1.heap.size 46 #[.int .i64 0, .int .i64 0, .int .i64 0, .string tt] _ := hvX2.set 3 (.string tt)
        obtain ⟨y0, y1, y2, y3⟩ := Bk.c4 hvX3
        clear hvX hvX2 HO1 hbelX hT2 hbel2 HR1
        have S1 := Lib.hid (four_new (w2.setCell ⟨w1.heap.size, 3, none⟩ (.string tt)) (.int .i64 0) (.int .i64 0) (.int .i64 0) (.string tt) 46 (w2.heap.size) (by simp))
        have hsz := hbel3.size
        go_wp2_with (at_builtin; refine wpList_append_own _ rfl _ _ 23 rfl w.heap.size 46 i0 (.agg #[.int .i64 0, .int .i64 0, .int .i64 0, .string ⟨#[]⟩]) 4 40 Try.underlying23 hi hz0 hz1 hz2 rfl (by decide) _ _ _ rfl (HO2.out.alloc (.cells #[.int .i64 0, .int .i64 0, .int .i64 0, .string tt] 46 (0, 0))) ⟨w2.heap.size, 0, none⟩ 1 1 [.int .i64 0, .int .i64 0, .int .i64 0, .string tt] rfl rfl ?_ ?_ ?_ ?_ ?_ ?_)
        any_goals first | exact S1.out | (intro u hu; simp at hu; rcases hu with rfl | rfl | rfl | rfl <;> rfl) | (unfold maxLen; omega) | omega | exact Nat.le_trans hsz (by simp) | (simp; omega)
        intro v' w5 hown5 hgrow _
        have hneR : some w.heap.size ≠ (.slice va n vc : Value).ownBlock := fun h => own_type HO2.out (by decide) HR3.out h.symm
        have HR5 : Hid (w5.heap[w.heap.size]? = some (.cells #[.string r2, .bool b2] 69 (0, 0))) := Lib.hid (by
          rw [hgrow.block _ (by simp; have := lt_of_block HR3.out; simp at this; omega) hneR, Below.heap_alloc _ _ _ (lt_of_block HR3.out)]
          exact HR3.out)
        have HI5 := Lib.hid (HST.out ⟨0, 0, 0, tt⟩ r2 b2 (fun hb => Jo.one_push HC.out (HQ.out.2 hb)) (fun hb => Jo.one_push_no HC.out (HQ.out.1 hb)))
        have hown6 : Hid (w5.ownsRow w.heap.size 46 4 v' (acc ++ [(⟨0, 0, 0, tt⟩ : Jo)]).length (Jo.cells (acc ++ [(⟨0, 0, 0, tt⟩ : Jo)]))) := Lib.hid (by
          rw [List.length_append, HN.out, Jo.cells_append]
          exact hown5)
        have hbel5 : Below w.heap.size w w5 := (hbel3.alloc hsz (.cells #[.int .i64 0, .int .i64 0, .int .i64 0, .string tt] 46 (0, 0))).grown hgrow (Nat.le_trans hsz (by simp)) (fun q hq => (HO2.out.lt _ hq).1)
        have HM5 := Lib.hid (HLE.out w5 r2 b2 HR5.out (fun hb => Jo.one_size HP.out ((fun hb => Jo.one_push HC.out (HQ.out.2 hb)) hb)))
        clear hown5 hgrow hneR
        go_wp2
        go_roundw
        case rel => exact ⟨_, _, _, hown6, HR5, HI5, hbel5⟩
        case measure => exact HM5.out
      have q0 : (c == 0) = false := by simpa using k0
      by_cases k12 : c = 12
      · subst k12
        go_wp2_with fail
        refine (num_gen w.heap.size (En.rest r 1) false _ HR1.out).mono ?_
        rintro e w2 ⟨A, r2, b2, rfl, hT2, HQ⟩
        have hvX2 := hvX.gbY hT2.kept (by simpa using hXR)
        have HO2 := Lib.hid (own_set (HO1.out.kept (row := some w.heap.size) hT2.kept (.inr (own_type HO1.out (by decide) HR1.out))) w1.heap.size 1 (.int .i64 A) hneX)
        have hbel2 := (Below.grown hbelX hT2.kept hbelX.size (fun j hj => by cases hj; exact Nat.le_refl _))
        have hbel3 := hbel2.setCell (p := ⟨w1.heap.size, 1, none⟩) (show w.heap.size ≤ w1.heap.size by omega) (.int .i64 A)
        have HR3 : Hid ((w2.setCell ⟨w1.heap.size, 1, none⟩ (.int .i64 A)).heap[w.heap.size]? = some (.cells #[.string r2, .bool b2] 69 (0, 0))) := Lib.hid ((Below.heap_setCell _ _ _ _ (fun h => hXR h.symm)).trans hT2.held)
        have f3 : w2.frozen? ⟨w1.heap.size, 1, none⟩ = false := hvX2.f4.2.1
        have x3 : w2.cell? ⟨w1.heap.size, 1, none⟩ = some (.int .i64 0) := hvX2.cell 1
        have hvX3 : Bk w1.heap.size 46 #[.int .i64 12, .int .i64 A, .int .i64 0, .string ⟨#[]⟩] _ := hvX2.set 1 (.int .i64 A)
        clear hvX hvX2 HO1 hbelX hT2 hbel2 HR1
        go_wp2_with fail
        refine (num_gen w.heap.size r2 b2 _ HR3.out).mono ?_
        rintro e w4 ⟨B, r4, b4, rfl, hT4, HQ4⟩
        have hvX4 := hvX3.gbY hT4.kept (by simpa using hXR)
        have HO4 := Lib.hid (own_set (HO2.out.kept (row := some w.heap.size) hT4.kept (.inr (own_type HO2.out (by decide) HR3.out))) w1.heap.size 2 (.int .i64 B) hneX)
        have hbel4 := (Below.grown hbel3 hT4.kept hbel3.size (fun j hj => by cases hj; exact Nat.le_refl _))
        have hbel6 := hbel4.setCell (p := ⟨w1.heap.size, 2, none⟩) (show w.heap.size ≤ w1.heap.size by omega) (.int .i64 B)
        have HR6 : Hid ((w4.setCell ⟨w1.heap.size, 2, none⟩ (.int .i64 B)).heap[w.heap.size]? = some (.cells #[.string r4, .bool b4] 69 (0, 0))) := Lib.hid ((Below.heap_setCell _ _ _ _ (fun h => hXR h.symm)).trans hT4.held)
        have f4 : w4.frozen? ⟨w1.heap.size, 2, none⟩ = false := hvX4.f4.2.2.1
        have x4 : w4.cell? ⟨w1.heap.size, 2, none⟩ = some (.int .i64 0) := hvX4.cell 2
        have hvX6 : Bk w1.heap.size 46 #[.int .i64 12, .int .i64 A, .int .i64 B, .string ⟨#[]⟩] _ := hvX4.set 2 (.int .i64 B)
        obtain ⟨y0, y1, y2, y3⟩ := Bk.c4 hvX6
        have HONEY : Hid (b4 = false → Jo.one r = some (⟨12, A, B, ⟨#[]⟩⟩, r4)) := Lib.hid fun hb => by
          obtain ⟨h1, h2⟩ := HQ4.out.2 hb
          exact Jo.one_many HC.out (HQ.out.2 h1).2 h2
        have HONEN : Hid (b4 = true → Jo.one r = none) := Lib.hid fun hb => by
          refine Jo.one_many_no HC.out ?_
          cases b2 with
          | true =>
            rcases HQ.out.1 rfl with h | h
            · cases h
            · exact .inl h
          | false =>
            rcases HQ4.out.1 hb with h | h
            · cases h
            · exact .inr ⟨_, _, (HQ.out.2 rfl).2, h⟩
        clear hvX3 hvX4 HO2 hbel3 hT4 hbel4 HR3 f3 x3
        have S1 := Lib.hid (four_new (w4.setCell ⟨w1.heap.size, 2, none⟩ (.int .i64 B)) (.int .i64 12) (.int .i64 A) (.int .i64 B) (.string ⟨#[]⟩) 46 (w4.heap.size) (by simp))
        have hsz := hbel6.size
        go_wp2_with (at_builtin; refine wpList_append_own _ rfl _ _ 23 rfl w.heap.size 46 i0 (.agg #[.int .i64 0, .int .i64 0, .int .i64 0, .string ⟨#[]⟩]) 4 40 Try.underlying23 hi hz0 hz1 hz2 rfl (by decide) _ _ _ rfl (HO4.out.alloc (.cells #[.int .i64 12, .int .i64 A, .int .i64 B, .string ⟨#[]⟩] 46 (0, 0))) ⟨w4.heap.size, 0, none⟩ 1 1 [.int .i64 12, .int .i64 A, .int .i64 B, .string ⟨#[]⟩] rfl rfl ?_ ?_ ?_ ?_ ?_ ?_)
        any_goals first | exact S1.out | (intro u hu; simp at hu; rcases hu with rfl | rfl | rfl | rfl <;> rfl) | (unfold maxLen; omega) | omega | exact Nat.le_trans hsz (by simp) | (simp; omega)
        intro v' w5 hown5 hgrow _
        have hneR : some w.heap.size ≠ (.slice va n vc : Value).ownBlock := fun h => own_type HO4.out (by decide) HR6.out h.symm
        have HR5 : Hid (w5.heap[w.heap.size]? = some (.cells #[.string r4, .bool b4] 69 (0, 0))) := Lib.hid (by
          rw [hgrow.block _ (by simp; have := lt_of_block HR6.out; simp at this; omega) hneR, Below.heap_alloc _ _ _ (lt_of_block HR6.out)]
          exact HR6.out)
        have HI5 := Lib.hid (HST.out ⟨12, A, B, ⟨#[]⟩⟩ r4 b4 (fun hb => HONEY.out hb) (fun hb => HONEN.out hb))
        have hown6 : Hid (w5.ownsRow w.heap.size 46 4 v' (acc ++ [(⟨12, A, B, ⟨#[]⟩⟩ : Jo)]).length (Jo.cells (acc ++ [(⟨12, A, B, ⟨#[]⟩⟩ : Jo)]))) := Lib.hid (by
          rw [List.length_append, HN.out, Jo.cells_append]
          exact hown5)
        have hbel5 : Below w.heap.size w w5 := (hbel6.alloc hsz (.cells #[.int .i64 12, .int .i64 A, .int .i64 B, .string ⟨#[]⟩] 46 (0, 0))).grown hgrow (Nat.le_trans hsz (by simp)) (fun q hq => (HO4.out.lt _ hq).1)
        have HM5 := Lib.hid (HLE.out w5 r4 b4 HR5.out (fun hb => Jo.one_size HP.out ((fun hb => HONEY.out hb) hb)))
        clear hown5 hgrow hneR
        go_wp2
        go_roundw
        case rel => exact ⟨_, _, _, hown6, HR5, HI5, hbel5⟩
        case measure => exact HM5.out
      have q12 : (c == 12) = false := by simpa using k12
      by_cases k13 : c = 13
      · subst k13
        go_wp2_with fail
        refine (num_gen w.heap.size (En.rest r 1) false _ HR1.out).mono ?_
        rintro e w2 ⟨A, r2, b2, rfl, hT2, HQ⟩
        have hvX2 := hvX.gbY hT2.kept (by simpa using hXR)
        have HO2 := Lib.hid (own_set (HO1.out.kept (row := some w.heap.size) hT2.kept (.inr (own_type HO1.out (by decide) HR1.out))) w1.heap.size 1 (.int .i64 A) hneX)
        have hbel2 := (Below.grown hbelX hT2.kept hbelX.size (fun j hj => by cases hj; exact Nat.le_refl _))
        have hbel3 := hbel2.setCell (p := ⟨w1.heap.size, 1, none⟩) (show w.heap.size ≤ w1.heap.size by omega) (.int .i64 A)
        have HR3 : Hid ((w2.setCell ⟨w1.heap.size, 1, none⟩ (.int .i64 A)).heap[w.heap.size]? = some (.cells #[.string r2, .bool b2] 69 (0, 0))) := Lib.hid ((Below.heap_setCell _ _ _ _ (fun h => hXR h.symm)).trans hT2.held)
        have f3 : w2.frozen? ⟨w1.heap.size, 1, none⟩ = false := hvX2.f4.2.1
        have x3 : w2.cell? ⟨w1.heap.size, 1, none⟩ = some (.int .i64 0) := hvX2.cell 1
        have hvX3 : Bk w1.heap.size 46 #[.int .i64 13, .int .i64 A, .int .i64 0, .string ⟨#[]⟩] _ := hvX2.set 1 (.int .i64 A)
        obtain ⟨y0, y1, y2, y3⟩ := Bk.c4 hvX3
        have HONEY : Hid (b2 = false → Jo.one r = some (⟨13, A, 0, ⟨#[]⟩⟩, r2)) := Lib.hid fun hb => by
          have := Jo.one_num (.inl HC.out) (HQ.out.2 hb).2
          rw [HC.out] at this; exact this
        have HONEN : Hid (b2 = true → Jo.one r = none) := Lib.hid fun hb => by
          rcases HQ.out.1 hb with h | h
          · cases h
          · exact Jo.one_num_no (.inl HC.out) h
        clear hvX hvX2 HO1 hbelX hT2 hbel2 HR1
        have S1 := Lib.hid (four_new (w2.setCell ⟨w1.heap.size, 1, none⟩ (.int .i64 A)) (.int .i64 13) (.int .i64 A) (.int .i64 0) (.string ⟨#[]⟩) 46 (w2.heap.size) (by simp))
        have hsz := hbel3.size
        go_wp2_with (at_builtin; refine wpList_append_own _ rfl _ _ 23 rfl w.heap.size 46 i0 (.agg #[.int .i64 0, .int .i64 0, .int .i64 0, .string ⟨#[]⟩]) 4 40 Try.underlying23 hi hz0 hz1 hz2 rfl (by decide) _ _ _ rfl (HO2.out.alloc (.cells #[.int .i64 13, .int .i64 A, .int .i64 0, .string ⟨#[]⟩] 46 (0, 0))) ⟨w2.heap.size, 0, none⟩ 1 1 [.int .i64 13, .int .i64 A, .int .i64 0, .string ⟨#[]⟩] rfl rfl ?_ ?_ ?_ ?_ ?_ ?_)
        any_goals first | exact S1.out | (intro u hu; simp at hu; rcases hu with rfl | rfl | rfl | rfl <;> rfl) | (unfold maxLen; omega) | omega | exact Nat.le_trans hsz (by simp) | (simp; omega)
        intro v' w5 hown5 hgrow _
        have hneR : some w.heap.size ≠ (.slice va n vc : Value).ownBlock := fun h => own_type HO2.out (by decide) HR3.out h.symm
        have HR5 : Hid (w5.heap[w.heap.size]? = some (.cells #[.string r2, .bool b2] 69 (0, 0))) := Lib.hid (by
          rw [hgrow.block _ (by simp; have := lt_of_block HR3.out; simp at this; omega) hneR, Below.heap_alloc _ _ _ (lt_of_block HR3.out)]
          exact HR3.out)
        have HI5 := Lib.hid (HST.out ⟨13, A, 0, ⟨#[]⟩⟩ r2 b2 (fun hb => HONEY.out hb) (fun hb => HONEN.out hb))
        have hown6 : Hid (w5.ownsRow w.heap.size 46 4 v' (acc ++ [(⟨13, A, 0, ⟨#[]⟩⟩ : Jo)]).length (Jo.cells (acc ++ [(⟨13, A, 0, ⟨#[]⟩⟩ : Jo)]))) := Lib.hid (by
          rw [List.length_append, HN.out, Jo.cells_append]
          exact hown5)
        have hbel5 : Below w.heap.size w w5 := (hbel3.alloc hsz (.cells #[.int .i64 13, .int .i64 A, .int .i64 0, .string ⟨#[]⟩] 46 (0, 0))).grown hgrow (Nat.le_trans hsz (by simp)) (fun q hq => (HO2.out.lt _ hq).1)
        have HM5 := Lib.hid (HLE.out w5 r2 b2 HR5.out (fun hb => Jo.one_size HP.out ((fun hb => HONEY.out hb) hb)))
        clear hown5 hgrow hneR
        go_wp2
        go_roundw
        case rel => exact ⟨_, _, _, hown6, HR5, HI5, hbel5⟩
        case measure => exact HM5.out
      have q13 : (c == 13) = false := by simpa using k13
      by_cases k14 : c = 14
      · subst k14
        go_wp2_with fail
        refine (num_gen w.heap.size (En.rest r 1) false _ HR1.out).mono ?_
        rintro e w2 ⟨A, r2, b2, rfl, hT2, HQ⟩
        have hvX2 := hvX.gbY hT2.kept (by simpa using hXR)
        have HO2 := Lib.hid (own_set (HO1.out.kept (row := some w.heap.size) hT2.kept (.inr (own_type HO1.out (by decide) HR1.out))) w1.heap.size 1 (.int .i64 A) hneX)
        have hbel2 := (Below.grown hbelX hT2.kept hbelX.size (fun j hj => by cases hj; exact Nat.le_refl _))
        have hbel3 := hbel2.setCell (p := ⟨w1.heap.size, 1, none⟩) (show w.heap.size ≤ w1.heap.size by omega) (.int .i64 A)
        have HR3 : Hid ((w2.setCell ⟨w1.heap.size, 1, none⟩ (.int .i64 A)).heap[w.heap.size]? = some (.cells #[.string r2, .bool b2] 69 (0, 0))) := Lib.hid ((Below.heap_setCell _ _ _ _ (fun h => hXR h.symm)).trans hT2.held)
        have f3 : w2.frozen? ⟨w1.heap.size, 1, none⟩ = false := hvX2.f4.2.1
        have x3 : w2.cell? ⟨w1.heap.size, 1, none⟩ = some (.int .i64 0) := hvX2.cell 1
        have hvX3 : Bk w1.heap.size 46 #[.int .i64 14, .int .i64 A, .int .i64 0, .string ⟨#[]⟩] _ := hvX2.set 1 (.int .i64 A)
        obtain ⟨y0, y1, y2, y3⟩ := Bk.c4 hvX3
        have HONEY : Hid (b2 = false → Jo.one r = some (⟨14, A, 0, ⟨#[]⟩⟩, r2)) := Lib.hid fun hb => by
          have := Jo.one_num (.inr HC.out) (HQ.out.2 hb).2
          rw [HC.out] at this; exact this
        have HONEN : Hid (b2 = true → Jo.one r = none) := Lib.hid fun hb => by
          rcases HQ.out.1 hb with h | h
          · cases h
          · exact Jo.one_num_no (.inr HC.out) h
        clear hvX hvX2 HO1 hbelX hT2 hbel2 HR1
        have S1 := Lib.hid (four_new (w2.setCell ⟨w1.heap.size, 1, none⟩ (.int .i64 A)) (.int .i64 14) (.int .i64 A) (.int .i64 0) (.string ⟨#[]⟩) 46 (w2.heap.size) (by simp))
        have hsz := hbel3.size
        go_wp2_with (at_builtin; refine wpList_append_own _ rfl _ _ 23 rfl w.heap.size 46 i0 (.agg #[.int .i64 0, .int .i64 0, .int .i64 0, .string ⟨#[]⟩]) 4 40 Try.underlying23 hi hz0 hz1 hz2 rfl (by decide) _ _ _ rfl (HO2.out.alloc (.cells #[.int .i64 14, .int .i64 A, .int .i64 0, .string ⟨#[]⟩] 46 (0, 0))) ⟨w2.heap.size, 0, none⟩ 1 1 [.int .i64 14, .int .i64 A, .int .i64 0, .string ⟨#[]⟩] rfl rfl ?_ ?_ ?_ ?_ ?_ ?_)
        any_goals first | exact S1.out | (intro u hu; simp at hu; rcases hu with rfl | rfl | rfl | rfl <;> rfl) | (unfold maxLen; omega) | omega | exact Nat.le_trans hsz (by simp) | (simp; omega)
        intro v' w5 hown5 hgrow _
        have hneR : some w.heap.size ≠ (.slice va n vc : Value).ownBlock := fun h => own_type HO2.out (by decide) HR3.out h.symm
        have HR5 : Hid (w5.heap[w.heap.size]? = some (.cells #[.string r2, .bool b2] 69 (0, 0))) := Lib.hid (by
          rw [hgrow.block _ (by simp; have := lt_of_block HR3.out; simp at this; omega) hneR, Below.heap_alloc _ _ _ (lt_of_block HR3.out)]
          exact HR3.out)
        have HI5 := Lib.hid (HST.out ⟨14, A, 0, ⟨#[]⟩⟩ r2 b2 (fun hb => HONEY.out hb) (fun hb => HONEN.out hb))
        have hown6 : Hid (w5.ownsRow w.heap.size 46 4 v' (acc ++ [(⟨14, A, 0, ⟨#[]⟩⟩ : Jo)]).length (Jo.cells (acc ++ [(⟨14, A, 0, ⟨#[]⟩⟩ : Jo)]))) := Lib.hid (by
          rw [List.length_append, HN.out, Jo.cells_append]
          exact hown5)
        have hbel5 : Below w.heap.size w w5 := (hbel3.alloc hsz (.cells #[.int .i64 14, .int .i64 A, .int .i64 0, .string ⟨#[]⟩] 46 (0, 0))).grown hgrow (Nat.le_trans hsz (by simp)) (fun q hq => (HO2.out.lt _ hq).1)
        have HM5 := Lib.hid (HLE.out w5 r2 b2 HR5.out (fun hb => Jo.one_size HP.out ((fun hb => HONEY.out hb) hb)))
        clear hown5 hgrow hneR
        go_wp2
        go_roundw
        case rel => exact ⟨_, _, _, hown6, HR5, HI5, hbel5⟩
        case measure => exact HM5.out
      have q14 : (c == 14) = false := by simpa using k14
      obtain ⟨y0, y1, y2, y3⟩ := Bk.c4 hvX
      have HONEY : Hid (Jo.one r = some (⟨c, 0, 0, ⟨#[]⟩⟩, En.rest r 1)) := Lib.hid (by
        have := Jo.one_bare (r := r) (by rw [HC.out]; exact k0) (by rw [HC.out]; exact k12) (by rw [HC.out]; exact k13) (by rw [HC.out]; exact k14)
        rw [HC.out] at this; exact this)
      clear hvX k0 k12 k13 k14
      have S1 := Lib.hid (four_new (w1.alloc (.cells #[.int .i64 c, .int .i64 0, .int .i64 0, .string ⟨#[]⟩] 46 (0, 0))) (.int .i64 c) (.int .i64 0) (.int .i64 0) (.string ⟨#[]⟩) 46 (w1.heap.size + 1) (by simp))
      have hsz := hbelX.size
      go_wp2_with (at_builtin; refine wpList_append_own _ rfl _ _ 23 rfl w.heap.size 46 i0 (.agg #[.int .i64 0, .int .i64 0, .int .i64 0, .string ⟨#[]⟩]) 4 40 Try.underlying23 hi hz0 hz1 hz2 rfl (by decide) _ _ _ rfl (HO1.out.alloc (.cells #[.int .i64 c, .int .i64 0, .int .i64 0, .string ⟨#[]⟩] 46 (0, 0))) ⟨w1.heap.size + 1, 0, none⟩ 1 1 [.int .i64 c, .int .i64 0, .int .i64 0, .string ⟨#[]⟩] rfl rfl ?_ ?_ ?_ ?_ ?_ ?_)
      any_goals first | exact S1.out | (intro u hu; simp at hu; rcases hu with rfl | rfl | rfl | rfl <;> rfl) | (unfold maxLen; omega) | omega | exact Nat.le_trans hsz (by simp) | (simp; omega)
      intro v' w5 hown5 hgrow _
      have hneR : some w.heap.size ≠ (.slice va n vc : Value).ownBlock := fun h => own_type HO1.out (by decide) HR1.out h.symm
      have HR5 : Hid (w5.heap[w.heap.size]? = some (.cells #[.string (En.rest r 1), .bool false] 69 (0, 0))) := Lib.hid (by
        rw [hgrow.block _ (by simp; have := lt_of_block HR1.out; simp at this; omega) hneR, Below.heap_alloc _ _ _ (lt_of_block HR1.out)]
        exact HR1.out)
      have HI5 := Lib.hid (HST.out ⟨c, 0, 0, ⟨#[]⟩⟩ (En.rest r 1) false (fun _ => HONEY.out) (fun hb => by cases hb))
      have hown6 : Hid (w5.ownsRow w.heap.size 46 4 v' (acc ++ [(⟨c, 0, 0, ⟨#[]⟩⟩ : Jo)]).length (Jo.cells (acc ++ [(⟨c, 0, 0, ⟨#[]⟩⟩ : Jo)]))) := Lib.hid (by
        rw [List.length_append, HN.out, Jo.cells_append]
        exact hown5)
      have hbel5 : Below w.heap.size w w5 := (hbelX.alloc hsz (.cells #[.int .i64 c, .int .i64 0, .int .i64 0, .string ⟨#[]⟩] 46 (0, 0))).grown hgrow (Nat.le_trans hsz (by simp)) (fun q hq => (HO1.out.lt _ hq).1)
      have HM5 := Lib.hid (HLE.out w5 (En.rest r 1) false HR5.out (fun hb => Jo.one_size HP.out ((fun _ => HONEY.out) hb)))
      clear hown5 hgrow hneR
      go_wp2
      go_roundw
      case rel => exact ⟨_, _, _, hown6, HR5, HI5, hbel5⟩
      case measure => exact HM5.out
end Go.Proofs.Ytpldoffjclmacaa
