/-
  Contracts of chapter 7: participants in a list, visited; of the program.
-/
import Derived.Test.YtabihimhenhnnaaSc
import Derived.Test.YtabihimhenhnnaaIl
import Derived.Shelf.Abstract
namespace Go.Proofs.Ytabihimhenhnnaa
open Go.RowKit

/-- The list at g points at n participants in the blocks bs. -/
def PL (g n : Nat) (bs : Nat → Nat) (W : World) : Prop := ∃ L : Array Value, Bk g 48 L W ∧ L.size = n ∧ ∀ j, j < n → L[j]? = some (.pointer (some ⟨bs j, 0, none⟩))
theorem PL.cell {g n : Nat} {bs : Nat → Nat} {W : World} (h : PL g n bs W) (j : Nat) (hj : j < n) : W.cell? ⟨g, j, none⟩ = some (.pointer (some ⟨bs j, 0, none⟩)) := by
  obtain ⟨L, h1, _, h2⟩ := h
  rw [h1.cell j]
  exact h2 j hj
theorem PL.below {g n : Nat} {bs : Nat → Nat} {W W' : World} (h : PL g n bs W) {B : Nat} (hB : g < B) (hb : Below B W W') : PL g n bs W' := by
  obtain ⟨L, h1, h2⟩ := h
  exact ⟨L, ⟨(hb.block g hB).trans h1.held⟩, h2⟩
set_option maxRecDepth 100000 in
set_option maxHeartbeats 1600000 in
theorem walk_any (f : Nat) (caps : Array Value) (g n : Nat) (bs : Nat → Nat) (Inv : Nat → World → Prop) (w : World) (hn : n ≤ 1000)
    (he : ∀ args w, (callFunc f args).run Try.prog w = .ok (.enter f args) w)
    (hL : ∀ j W, j < n → Inv j W → W.cell? ⟨g, j, none⟩ = some (.pointer (some ⟨bs j, 0, none⟩)))
    (hstep : ∀ j W, j < n → Inv j W → Calls Try.prog f (#[.pointer (some ⟨bs j, 0, none⟩)] ++ caps) W fun e w' => e = .returned (.tuple #[]) ∧ Inv (j + 1) w')
    (h0 : Inv 0 w) :
    Calls Try.prog 31 #[.slice (some ⟨g, 0, none⟩) n n, .func (.func f) #[] caps] w fun e w' => e = .returned (.tuple #[]) ∧ Inv n w' := by
  go_enter Try.func31, Try.ntmps31
  go_wp2
  go_loopw [8] (fun i wr => ∃ k : Nat, k ≤ n ∧ i = .int .i64 (k : Int) ∧ Hid (Inv k wr))
    (fun i _ => n - (intOf i).toNat)
  case atStart => exact ⟨0, by omega, rfl, Lib.hid h0⟩
  case round =>
    obtain ⟨k, hk, rfl, hI⟩ := hrel
    by_cases hlt : k < n
    · have hc := hL k wr hlt hI.out
      have HS := Lib.hid (hstep k wr hlt hI.out)
      clear hL hstep
      go_wp2_with fail
      refine HS.out.mono ?_
      rintro e2 w2 ⟨rfl, h2⟩
      have hI2 := Lib.hid h2
      go_wp2
      go_roundw
      case rel => exact ⟨k + 1, by omega, by simp, hI2⟩
      case measure => simp [intOf]; omega
    · have hk2 : k = n := by omega
      subst hk2
      clear hL hstep
      go_wp2
      go_end0
      exact ⟨rfl, hI.out⟩
theorem makeFunc_run7 : ∀ (fn : Fn) (first cap : Array Value) (w : World), (Instr.makeFunc fn first cap).run Try.prog w = .ok (.func fn first cap) w := fun _ _ _ _ => rfl
/-- n participants in the blocks bs, behind the list at g: no two in one block. -/
def PB (g n : Nat) (bs : Nat → Nat) : Prop := (∀ j, j < n → g < bs j) ∧ ∀ i j, i < n → j < n → bs i = bs j → i = j
/-- Their cells. -/
def PC (n : Nat) (bs : Nat → Nat) (f : Nat → Array Value) (W : World) : Prop := ∀ j, j < n → Bk (bs j) 52 (f j) W
def Pt.raw (u : Nat → Int) (ks : List Int) (j : Nat) : Array Value := #[.int .i64 (u j), .int .i64 (ks.getD j 0), .int .i64 0, .int .i64 0]
def Pt.wtd (u : Nat → Int) (ks : List Int) (j : Nat) : Array Value := #[.int .i64 (u j), .int .i64 (ks.getD j 0), .int .i64 (Sd.wt ks j), .int .i64 1073741789]
def Pt.part (u : Nat → Int) (ks : List Int) (k j : Nat) : Array Value := if j < k then Pt.wtd u ks j else Pt.raw u ks j
theorem PC.lt {n : Nat} {bs : Nat → Nat} {f : Nat → Array Value} {W : World} (h : PC n bs f W) (j : Nat) (hj : j < n) : bs j < W.heap.size := (h j hj).lt
theorem PC.below {n : Nat} {bs : Nat → Nat} {f : Nat → Array Value} {W W' : World} (h : PC n bs f W) {B : Nat} (hB : ∀ j, j < n → bs j < B) (hb : Below B W W') : PC n bs f W' :=
  fun j hj => ⟨(hb.block (bs j) (hB j hj)).trans (h j hj).held⟩
theorem Sd.text_size7 (ks : List Int) : ∀ j, (Sd.text ks j).size = 6 + 4 * j := by
  intro j
  induction j with
  | zero => rfl
  | succ j ih => unfold Sd.text; rw [ByteArray.size_append, Dg.bytes_size, ih]; omega
set_option maxRecDepth 100000 in
set_option maxHeartbeats 1600000 in
theorem weigh_any (g n : Nat) (bs : Nat → Nat) (u : Nat → Int) (ks : List Int) (w : World) (hn : ks.length = n) (h8 : n ≤ 8) (hL : PL g n bs w) (hB : PB g n bs) (hC : PC n bs (Pt.raw u ks) w)
    (hk : ∀ j, j < n → 0 ≤ ks.getD j 0 ∧ ks.getD j 0 < 2147483579) :
    Calls Try.prog 51 #[.slice (some ⟨g, 0, none⟩) n n] w fun e w' => e = .returned (.tuple #[]) ∧ PC n bs (Pt.wtd u ks) w' ∧ PL g n bs w' ∧ Below (g + 1) w w' := by
  have hg : g < w.heap.size := by obtain ⟨L, h1, _⟩ := hL; exact h1.lt
  have hmf := makeFunc_run7
  have e1 : ∀ args w, (callFunc 65 args).run Try.prog w = .ok (.enter 65 args) w := enters_of Try.func65 (by kernel_rfl) rfl
  have e2 : ∀ args w, (callFunc 66 args).run Try.prog w = .ok (.enter 66 args) w := enters_of Try.func66 (by kernel_rfl) rfl
  have HT0 : Bk w.heap.size 9 #[.string Sd.word] (w.alloc (.cells #[.string Sd.word] 9 (0, 0))) := Bk.new _ _ _
  have hb0 : Below w.heap.size w (w.alloc (.cells #[.string Sd.word] 9 (0, 0))) := below_alloc (Below.refl _ _) _
  obtain ⟨w0, Hw0⟩ : ∃ w0, Hid (w.alloc (.cells #[.string Sd.word] 9 (0, 0)) = w0) := ⟨_, Lib.hid rfl⟩
  have hL0 := hL.below hg (Hw0.out ▸ hb0)
  rw [Hw0.out] at HT0 hb0
  have hC0 : PC n bs (Pt.raw u ks) w0 := hC.below (fun j hj => hC.lt j hj) hb0
  have hcon1 := walk_any 65 #[.pointer (some ⟨w.heap.size, 0, none⟩)] g n bs (fun j W => Bk w.heap.size 9 #[.string (Sd.text ks j)] W ∧ Below w.heap.size w0 W) w0 (by omega) e1
    (fun j W hj hI => (hL0.below hg hI.2).cell j hj)
    (fun j W hj hI => (weigh1_any (bs j) w.heap.size _ _ _ (ks.getD j 0) (Sd.text ks j) W (hk j hj).1 (by have := (hk j hj).2; omega) (by rw [Sd.text_size7]; omega) ((hC0.below (fun j hj => hC.lt j hj) hI.2) j hj) hI.1).mono
      fun e w' h => ⟨h.1, h.2.1, hI.2.trans h.2.2⟩)
    ⟨HT0, Below.refl _ _⟩
  have hcon2 : ∀ w1, Bk w.heap.size 9 #[.string (Sd.text ks n)] w1 → Below w.heap.size w0 w1 → Calls Try.prog 31 #[.slice (some ⟨g, 0, none⟩) n n, .func (.func 66) #[] #[.pointer (some ⟨w.heap.size, 0, none⟩)]] w1 fun e w' => e = .returned (.tuple #[]) ∧ Bk w.heap.size 9 #[.string (Sd.text ks n)] w' ∧ PC n bs (Pt.part u ks n) w' ∧ PL g n bs w' ∧ Below (g + 1) w w' := by
    intro w1 HT1 hb1
    refine walk_any 66 #[.pointer (some ⟨w.heap.size, 0, none⟩)] g n bs (fun j W => Bk w.heap.size 9 #[.string (Sd.text ks n)] W ∧ PC n bs (Pt.part u ks j) W ∧ PL g n bs W ∧ Below (g + 1) w W) w1 (by omega) e2 ?_ ?_ ?_
    · intro j W hj hI
      exact hI.2.2.1.cell j hj
    · rintro j W hj ⟨hI1, hI2, hI3, hI4⟩
      have hp := hI2 j hj
      have hpe : Pt.part u ks j j = Pt.raw u ks j := if_neg (by omega)
      rw [hpe] at hp
      refine (weigh2_any (bs j) w.heap.size _ _ _ (ks.getD j 0) (Sd.text ks n) W (hk j hj).1 (by have := (hk j hj).2; omega) (by rw [Sd.text_size7]; omega) hp hI1).mono ?_
      rintro e w' ⟨rfl, q1, q2, q3⟩
      have hgb := hB.1 j hj
      refine ⟨rfl, q2 _ _ _ (by have := hC.lt j hj; omega) hI1, fun i hi => ?_, hI3.below hgb q3, hI4.trans (q3.mono hgb)⟩
      by_cases hij : i = j
      · subst hij
        have h1 : Pt.part u ks (i + 1) i = Pt.wtd u ks i := if_pos (by omega)
        rw [h1]
        have h2 : Sd.wt ks i = 1 + Dg.of (Sd.text ks n ++ Dg.bytes (ks.getD i 0)) % 1073741788 := by unfold Sd.wt; rw [hn]
        unfold Pt.wtd
        rw [h2]
        exact q1
      · have h1 : Pt.part u ks (j + 1) i = Pt.part u ks j i := by unfold Pt.part; by_cases hlt : i < j <;> simp [hlt] <;> omega
        rw [h1]
        exact q2 _ _ _ (fun h => hij (hB.2 i j hi hj h)) (hI2 i hi)
    · refine ⟨HT1, ?_, hL0.below hg hb1, (hb0.trans hb1).mono hg⟩
      have h1 : Pt.part u ks 0 = Pt.raw u ks := by funext i; exact if_neg (by omega)
      rw [h1]
      exact hC0.below (fun j hj => hC.lt j hj) hb1
  clear HT0 hb0 hL0 hC0 hL hB hC hk e1 e2 hg
  go_enter Try.func51, Try.ntmps51
  go_wp2_with fail
  rw [show (⟨#[119, 101, 105, 103, 104, 116]⟩ : ByteArray) = Sd.word from rfl, Hw0.out]
  refine hcon1.mono ?_
  rintro e3 w1 ⟨rfl, h1, h2⟩
  go_wp2_with fail
  refine (hcon2 w1 h1 h2).mono ?_
  rintro e4 w2 ⟨rfl, _, h3, h4, h5⟩
  have h6 : PC n bs (Pt.wtd u ks) w2 := fun j hj => by
    have := h3 j hj
    rwa [show Pt.part u ks n j = Pt.wtd u ks j from if_pos hj] at this
  go_wp2
  go_end0
  exact ⟨rfl, h6, h4, h5⟩
set_option maxRecDepth 100000 in
set_option maxHeartbeats 1600000 in
theorem sharedKeyOf_any (g n : Nat) (bs : Nat → Nat) (u : Nat → Int) (ks : List Int) (w : World) (hn : ks.length = n) (h8 : n ≤ 8) (hL : PL g n bs w) (hC : PC n bs (Pt.wtd u ks) w)
    (hk : ∀ j, j < n → 0 ≤ ks.getD j 0 ∧ ks.getD j 0 < 2147483579) :
    Calls Try.prog 23 #[.slice (some ⟨g, 0, none⟩) n n] w fun e w' => e = .returned (.tuple #[.int .i64 (if Sd.key ks = 1 then 0 else Sd.key ks), .bool (!(Sd.key ks == 1))]) ∧ Below w.heap.size w w' := by
  have hg : g < w.heap.size := by obtain ⟨L, h1, _⟩ := hL; exact h1.lt
  have hmf := makeFunc_run7
  have e1 : ∀ args w, (callFunc 52 args).run Try.prog w = .ok (.enter 52 args) w := enters_of Try.func52 (by kernel_rfl) rfl
  have HT0 : Bk w.heap.size 50 #[.int .i64 1, .int .i64 2147483579] (w.alloc (.cells #[.int .i64 1, .int .i64 2147483579] 50 (0, 0))) := Bk.new _ _ _
  have hb0 : Below w.heap.size w (w.alloc (.cells #[.int .i64 1, .int .i64 2147483579] 50 (0, 0))) := below_alloc (Below.refl _ _) _
  obtain ⟨w0, Hw0⟩ : ∃ w0, Hid (w.alloc (.cells #[.int .i64 1, .int .i64 2147483579] 50 (0, 0)) = w0) := ⟨_, Lib.hid rfl⟩
  rw [Hw0.out] at HT0 hb0
  have hcon1 := walk_any 52 #[.pointer (some ⟨w.heap.size, 0, none⟩)] g n bs (fun j W => Bk w.heap.size 50 #[.int .i64 (Sd.prod ks j), .int .i64 2147483579] W ∧ Below w.heap.size w W) w0 (by omega) e1
    (fun j W hj hI => (hL.below hg hI.2).cell j hj)
    (fun j W hj hI => (keyStep_any (bs j) w.heap.size _ _ (ks.getD j 0) (Sd.wt ks j) (Sd.prod ks j) W (hk j hj).1 (hk j hj).2 (by have := (Sd.wt_bd ks j).2; omega) (Sd.prod_bd ks j).1 (Sd.prod_bd ks j).2 ((hC.below (fun j hj => hC.lt j hj) hI.2) j hj) hI.1).mono
      fun e w' h => ⟨h.1, h.2.1, hI.2.trans h.2.2⟩)
    ⟨HT0, hb0⟩
  have HK : Hid (Sd.key ks = Sd.prod ks n) := Lib.hid (by unfold Sd.key; rw [hn])
  rw [HK.out]
  obtain ⟨K, HKK⟩ : ∃ K, Hid (Sd.prod ks n = K) := ⟨_, Lib.hid rfl⟩
  rw [HKK.out] at hcon1 ⊢
  clear HT0 hb0 hL hC hk e1 hg HK HKK
  go_enter Try.func23, Try.ntmps23
  go_wp2_with fail
  rw [Hw0.out]
  refine hcon1.mono ?_
  rintro e3 w1 ⟨rfl, h1, h2⟩
  obtain ⟨c0, c1⟩ := Bk.c2 h1
  by_cases h : K = 1
  · subst h
    go_wp2
    go_ret2
    exact ⟨rfl, h2⟩
  · have hd : decide (K = 1) = false := by simp [h]
    have he : (K == 1) = false := by simp [h]
    go_wp2
    go_ret2
    exact ⟨rfl, h2⟩
set_option maxRecDepth 100000 in
set_option maxHeartbeats 1600000 in
theorem fillKey_any (i b kv : Nat) (a : Option Addr) (len cap : Nat) (ks : List Int) (w : World) (hi : i < len) (hK : Bk kv 23 #[.slice a len cap] w) (h : IR w a len ks) (hP : Bk b 52 #[.int .i64 0, .int .i64 0, .int .i64 0, .int .i64 0] w) :
    Calls Try.prog 22 #[.int .i64 (i : Int), .pointer (some ⟨b, 0, none⟩), .pointer (some ⟨kv, 0, none⟩)] w fun e w' => e = .returned (.bool (Gr.kok (ks.getD i 0))) ∧ Bk b 52 #[.int .i64 0, .int .i64 (ks.getD i 0), .int .i64 0, .int .i64 0] w' ∧ Below b w w' := by
  obtain ⟨ba, offa, rfl, hba, hca⟩ := h.2 (by omega)
  have d0 := hca i hi
  have k0 := hK.cell 0
  simp at k0
  obtain ⟨c0, c1, c2, c3⟩ := Bk.c4 hP
  have f1 := hP.fro 1
  have hlt := hP.lt
  obtain ⟨V, HV⟩ : ∃ V, Hid (ks.getD i 0 = V) := ⟨_, Lib.hid rfl⟩
  rw [HV.out] at d0 ⊢
  have hP1 := hP.set 1 (.int .i64 V)
  have hb1 := (Below.refl b w).setCell (p := ⟨b, 1, none⟩) (Nat.le_refl b) (.int .i64 V)
  have c11 := hP1.cell 1
  simp at c11
  have hlt1 := hP1.lt
  clear hca h hK hP HV hba
  go_enter Try.func22, Try.ntmps22
  go_wp2_with fail
  refine (implKeyOk_any V _).mono ?_
  rintro e2 w2 ⟨rfl, hb2⟩
  have hP2 := hP1.below hb2
  have hc2 := hb1.trans (hb2.mono (Nat.le_of_lt hlt1))
  clear hb2 hP1 hb1 c11
  go_wp2
  go_ret
  exact ⟨rfl, hP2, hc2⟩
set_option maxRecDepth 100000 in
set_option maxHeartbeats 1600000 in
theorem fillSign_any (i b kv : Nat) (a : Option Addr) (len cap : Nat) (us : List Int) (w : World) (hi : i < len) (hK : Bk kv 23 #[.slice a len cap] w) (h : IR w a len us) (hP : Bk b 52 #[.int .i64 0, .int .i64 0, .int .i64 0, .int .i64 0] w) :
    Calls Try.prog 30 #[.int .i64 (i : Int), .pointer (some ⟨b, 0, none⟩), .pointer (some ⟨kv, 0, none⟩)] w fun e w' => e = .returned (.bool (Gr.sok (us.getD i 0))) ∧ Bk b 52 #[.int .i64 (us.getD i 0), .int .i64 (Gr.key (us.getD i 0)), .int .i64 0, .int .i64 0] w' ∧ Below b w w' := by
  obtain ⟨ba, offa, rfl, hba, hca⟩ := h.2 (by omega)
  have d0 := hca i hi
  have k0 := hK.cell 0
  simp at k0
  have hcon := implKeyOf_any (us.getD i 0) w
  obtain ⟨Y, HY⟩ : ∃ Y, Hid (Gr.key (us.getD i 0) = Y) := ⟨_, Lib.hid rfl⟩
  obtain ⟨B, HB⟩ : ∃ B, Hid (Gr.sok (us.getD i 0) = B) := ⟨_, Lib.hid rfl⟩
  obtain ⟨V, HV⟩ : ∃ V, Hid (us.getD i 0 = V) := ⟨_, Lib.hid rfl⟩
  rw [HY.out, HB.out] at hcon ⊢
  rw [HV.out] at d0 hcon ⊢
  have hlt := hP.lt
  clear hca h HY HB HV
  go_enter Try.func30, Try.ntmps30
  go_wp2_with fail
  refine hcon.mono ?_
  rintro e2 w2 ⟨rfl, hb2⟩
  have hP2 := hP.below hb2
  have k2 : w2.cell? ⟨kv, 0, none⟩ = _ := (hb2.cell hK.lt).trans k0
  have d2 : w2.cell? ⟨ba, offa + i, none⟩ = _ := (hb2.cell hba).trans d0
  have hc2 : Below b w w2 := hb2.mono (Nat.le_of_lt hlt)
  have hP3 := (hP2.set 0 (.int .i64 V)).set 1 (.int .i64 Y)
  have hc3 := (hc2.setCell (p := ⟨b, 0, none⟩) (Nat.le_refl b) (.int .i64 V)).setCell (p := ⟨b, 1, none⟩) (Nat.le_refl b) (.int .i64 Y)
  obtain ⟨c20, c21, c22, c23⟩ := Bk.c4 hP2
  have f20 := hP2.fro 0
  have f21 := hP2.fro 1
  clear hb2 hK hP hc2 d0 k0 hP2
  go_wp2
  go_ret
  exact ⟨rfl, hP3, hc3⟩
end Go.Proofs.Ytabihimhenhnnaa
