/- For every code of at most 1<<20 bytes (longer ones are let pass by the law itself): HideParts answers as the model's HideParts; where it answers, JoinParts of the list and this share is the secret, and the share has the X that is asked for. -/
import Derived.Test.YtbhpealkhpginaaRows
import Derived.Test.YtbhpealkhpginaaQy
import Derived.Test.YtbhpealkhpginaaDy
import Derived.Deep.RegionLaw
import Derived.WalkKit
import Derived.WalkSpells
import Derived.ProofKit
import Derived.OpenShut
import Derived.ShutString
import Derived.Below
import Derived.SliceStrings
namespace Go.Proofs.Ytbhpealkhpginaa.fnHideParts
open Go.ChangeShapes Go.WideShapes Go.ChangeAt Go.RowKit
open Go.ChangeMaps (open_string shut_string)
theorem Bk.gr8 {B : Nat} {t : TypeId} {cs : Array Value} {w w' : World} (h : Bk B t cs w) (hg : w.grownBy w' none) : Bk B t cs w' := ⟨(hg.block B h.lt (by simp)).trans h.held⟩
theorem grownBy_drew8 {w w' : World} {row : Option Nat} (h : w.grownBy w' row) : w.grownBy w'.drew row := ⟨h.os, h.tape, h.output, h.size, h.block⟩
theorem gtrans8 {w a b : World} {row : Option Nat} (h : w.grownBy a row) (k : a.grownBy b row) : w.grownBy b row :=
  ⟨k.os.trans h.os, k.tape.trans h.tape, k.output.trans h.output, Nat.le_trans h.size k.size, fun j hj hr => (k.block j (Nat.lt_of_lt_of_le hj h.size) hr).trans (h.block j hj hr)⟩
theorem below_gr8 {w a b c : World} (h : Below w.heap.size w a) (k : a.grownBy b none) (r : Below b.heap.size b c) : Below w.heap.size w c :=
  below_after (Below.grown h k h.size (fun j he => by cases he)) r
set_option maxRecDepth 100000 in
set_option maxHeartbeats 6400000 in
theorem walk (a0 : Option Addr) (len0 cap0 : Nat) (z0 : List Int) (w : World) (w0 : IsRow .u8 w a0 len0 cap0 z0) :
    Calls Try.prog 6 #[.slice a0 len0 cap0] w fun e w' => e = .returned (.bool true) ∧ Below w.heap.size w w' := by
  obtain ⟨j0, hj, hy0, hy1, hy2⟩ := info_parts info_part
  have hcm := w0.len
  by_cases h : (1048576 : Int) < (len0 : Int)
  · go_enter Try.func6, Try.ntmps6
    go_wp2
    go_ret
    exact ⟨rfl, Below.refl _ _⟩
  go_enter Try.func6, Try.ntmps6
  go_wp2_with fail
  refine (drawHideParts_any a0 len0 cap0 z0 _ w0 (by omega)).mono ?_
  rintro e w1 ⟨l, g, cp, x, s, rfl, n1, n2, _, _, n3, _, h1, hb1⟩
  clear w0 h hcm
  have HQ1 := (QR.own h1).2
  have hcp := own_cap h1
  have hcon1 := fun W (h : QR W (some ⟨g, 0, none⟩) l.length l) => implHideParts_any _ l.length cp l x s W h hcp (by omega)
  have hcon2 := fun W (h : QR W (some ⟨g, 0, none⟩) l.length l) => specHideParts_any _ l.length cp l x s W h
  clear h1
  obtain ⟨m, hm⟩ : ∃ m, l.length = m := ⟨_, rfl⟩
  have HM := Lib.hid hm
  have hnm := noGuard_part
  cases hok : Po.hiOk l x s
  · obtain ⟨R, HR⟩ : ∃ K, Hid (Po.hi0 l x s = K) := ⟨_, Lib.hid rfl⟩
    obtain ⟨S, HSS⟩ : ∃ K, Hid (Po.hi1 l x s = K) := ⟨_, Lib.hid rfl⟩
    rw [hok, HR.out, HSS.out, hm] at hcon1 hcon2
    rw [hm] at HQ1
    rw [hm]
    clear hok hm HR HSS n3
    go_wp2_with fail
    refine (hcon1 _ HQ1).mono ?_
    rintro e w2 ⟨rfl, hb2⟩
    have hA2 : Bk w2.heap.size 35 #[.int .i64 R, .int .i64 S] (w2.alloc (.cells #[.int .i64 R, .int .i64 S] 35 (0, 0))) := Bk.new _ _ _
    have HQ2 := (HQ1.below hb2).alloc (.cells #[.int .i64 R, .int .i64 S] 35 (0, 0))
    replace hb2 := below_alloc (below_after hb1 hb2) (.cells #[.int .i64 R, .int .i64 S] 35 (0, 0))
    clear hb1 HQ1
    go_wp2_with fail
    refine (hcon2 _ HQ2).mono ?_
    rintro e w3 ⟨rfl, hb3⟩
    have hA3 := (hA2.below hb3).alloc (.cells #[.int .i64 R, .int .i64 S] 35 (0, 0))
    have hC3 : Bk w3.heap.size 35 #[.int .i64 R, .int .i64 S] (w3.alloc (.cells #[.int .i64 R, .int .i64 S] 35 (0, 0))) := Bk.new _ _ _
    have HQ3 := (HQ2.below hb3).alloc (.cells #[.int .i64 R, .int .i64 S] 35 (0, 0))
    replace hb3 := below_alloc (below_after hb2 hb3) (.cells #[.int .i64 R, .int .i64 S] 35 (0, 0))
    clear hb2 HQ2 hA2 hcon1 hcon2
    obtain ⟨u0, u1⟩ := Bk.c2 hA3
    obtain ⟨u2, u3⟩ := Bk.c2 hC3
    have hq1 := fun W => eq_part R S R S W
    simp only [beq_self_eq_true, Bool.and_true] at hq1
    go_wp2
    go_ret
    exact ⟨rfl, hb3⟩
  · obtain ⟨_, q0, q1⟩ := Po.hi_yes hok
    obtain ⟨j1, j2⟩ := Po.hide_ok hok
    rw [hok, q0, q1, hm] at hcon1 hcon2
    obtain ⟨S, HSS⟩ : ∃ K, Hid (Po.val (Po.all s l) x = K) := ⟨_, Lib.hid rfl⟩
    rw [HSS.out] at hcon1 hcon2 j1 j2
    have hlen2 : (l ++ [(x, S)]).length = m + 1 := by rw [Po.len_app, hm]
    have HJ : Hid (∀ W g' c', QR W (some ⟨g', 0, none⟩) (m + 1) (l ++ [(x, S)]) → m + 1 ≤ c' → Calls Try.prog 16 #[.slice (some ⟨g', 0, none⟩) (m + 1) c'] W fun e w' => e = .returned (.tuple #[.int .i64 (Po.join (l ++ [(x, S)])), .bool (Po.ok (l ++ [(x, S)]))]) ∧ Below W.heap.size W w') := Lib.hid fun W g' c' h hc => implJoinParts_any _ (m + 1) c' (l ++ [(x, S)]) W h hc (by omega)
    rw [hm] at HQ1 n3
    rw [hm]
    have HEL : Hid ((Po.enc l).length = m * 2) := Lib.hid (by rw [Po.enc_length, hm])
    have HCE : Hid (∀ W, QR W (some ⟨g, 0, none⟩) m l → ∀ j u, (Po.enc l)[j]? = some u → W.cell? ((⟨g, 0, none⟩ : Addr).add j) = some u) := Lib.hid (fun W h => by
      by_cases h0 : 0 < m
      · obtain ⟨b, off, he, _, hcc⟩ := h.2 h0
        cases he
        exact QR.enc_cells hm hcc
      · intro j u hu
        have : l = [] := List.eq_nil_of_length_eq_zero (by omega)
        subst this
        simp [Po.enc] at hu)
    rw [Po.join_yes j1, j1, j2] at HJ
    clear hok hm HSS q0 q1 hlen2 n1 n2 j1 j2
    go_wp2_with fail
    refine (hcon1 _ HQ1).mono ?_
    rintro e w2 ⟨rfl, hb2⟩
    have hA2 : Bk w2.heap.size 35 #[.int .i64 x, .int .i64 S] (w2.alloc (.cells #[.int .i64 x, .int .i64 S] 35 (0, 0))) := Bk.new _ _ _
    have HQ2 := (HQ1.below hb2).alloc (.cells #[.int .i64 x, .int .i64 S] 35 (0, 0))
    replace hb2 := below_alloc (below_after hb1 hb2) (.cells #[.int .i64 x, .int .i64 S] 35 (0, 0))
    clear hb1 HQ1
    go_wp2_with fail
    refine (hcon2 _ HQ2).mono ?_
    rintro e w3 ⟨rfl, hb3⟩
    have hA3 := (hA2.below hb3).alloc (.cells #[.int .i64 x, .int .i64 S] 35 (0, 0))
    have hC3 : Bk w3.heap.size 35 #[.int .i64 x, .int .i64 S] (w3.alloc (.cells #[.int .i64 x, .int .i64 S] 35 (0, 0))) := Bk.new _ _ _
    have HQ3 := (HQ2.below hb3).alloc (.cells #[.int .i64 x, .int .i64 S] 35 (0, 0))
    replace hb3 := below_alloc (below_after hb2 hb3) (.cells #[.int .i64 x, .int .i64 S] 35 (0, 0))
    clear hb2 HQ2 hA2 hcon1 hcon2
    obtain ⟨u0, u1⟩ := Bk.c2 hA3
    obtain ⟨u2, u3⟩ := Bk.c2 hC3
    have hq1 := fun W => eq_part x S x S W
    simp only [beq_self_eq_true, Bool.and_true] at hq1
    have HX := Lib.hid hA3
    have hc1 := Lib.hid hb3
    have HQ := Lib.hid HQ3
    obtain ⟨W1, HW1⟩ : ∃ W, Hid (w3.alloc (.cells #[.int .i64 x, .int .i64 S] 35 (0, 0)) = W) := ⟨_, Lib.hid rfl⟩
    go_wp2
    rw [HW1.out] at HX hc1 HQ hA3 ⊢
    obtain ⟨a0, a1⟩ := Bk.c2 hA3.drew
    obtain ⟨a2, a3⟩ := Bk.c2 hA3
    have w1x := hA3.lt
    clear HQ3 hb3 u0 u1 u2 u3 hC3 HW1
    have HN2 : Hid (∀ j u, [Value.int .i64 x, Value.int .i64 S][j]? = some u → ((W1.alloc (.cells #[] 35)).alloc (.cells #[.int .i64 x, .int .i64 S] 35)).cell? ((⟨W1.heap.size + 1, 0, none⟩ : Addr).add j) = some u) := Lib.hid (two_new (W1.alloc (.cells #[] 35)) _ _ _ _ (by simp))
    have HN3 : Hid (∀ j u, [Value.int .i64 x, Value.int .i64 S][j]? = some u → ((W1.alloc (.cells #[.int .i64 x, .int .i64 S] 35)).alloc (.cells #[] 35)).cell? ((⟨W1.heap.size, 0, none⟩ : Addr).add j) = some u) := Lib.hid (fun j u hj => (World.grownBy_alloc (W1.alloc (.cells #[.int .i64 x, .int .i64 S] 35)) (.cells #[] 35) none).cell (two_new W1 _ _ _ _ rfl j u hj) (by simp))
    have HX3 : Hid (((W1.alloc (.cells #[.int .i64 x, .int .i64 S] 35)).alloc (.cells #[] 35)).ownsRow W1.heap.size 35 2 (.slice (some ⟨W1.heap.size + 1, 0, none⟩) 0 0) 0 []) := Lib.hid (by
      have h := World.ownsRow_made (e := 35) (size := 2) (base := W1.heap.size) (W1.alloc (.cells #[.int .i64 x, .int .i64 S] 35)) #[] 0 (by simp) (by decide) rfl
      rw [show (W1.alloc (.cells #[.int .i64 x, .int .i64 S] 35)).heap.size = W1.heap.size + 1 by simp] at h
      exact h)
    go_region_law (first
      | (fail_if_success have := hg25
         refine step_append_own rfl _ _ 26 rfl W1.heap.size 35 j0 (.agg #[.int .i64 0, .int .i64 0]) 2 16 Try.underlying26 hj hy0 hy1 hy2 rfl (by decide) (.slice (some ⟨W1.heap.size, 0, none⟩) 0 0) 0 [] rfl (by exact World.ownsRow_made (e := 35) (size := 2) W1 #[] 0 (Nat.le_refl _) (by decide) rfl) ⟨g, 0, none⟩ m cp (Po.enc l) rfl HEL.out (by exact HCE.out (W1.alloc _) (HQ.out.alloc _)) (Po.enc_one l) (by unfold maxLen; omega) (by omega) (by simp) (fun v25 W2 hown25 hg25 => ?_)
         have hG25 : W1.grownBy W2 none := gtrans_own (grownBy_drew8 (World.grownBy_alloc W1 (.cells #[] 35) none)) hg25 (fun j he => by cases he; exact Nat.le_refl _)
         have HX2 := Bk.gr8 HX.out hG25
         obtain ⟨x20, x21⟩ := Bk.c2 HX2)
      | (fail_if_success have := hg25
         refine step_append_own rfl _ _ 26 rfl W1.heap.size 35 j0 (.agg #[.int .i64 0, .int .i64 0]) 2 16 Try.underlying26 hj hy0 hy1 hy2 rfl (by decide) (.slice (some ⟨W1.heap.size, 0, none⟩) 0 0) 0 [] rfl (by exact (World.ownsRow_made (e := 35) (size := 2) W1 #[] 0 (Nat.le_refl _) (by decide) rfl).alloc _) ⟨g, 0, none⟩ m cp (Po.enc l) rfl HEL.out (by exact HCE.out ((W1.alloc _).alloc _) ((HQ.out.alloc _).alloc _)) (Po.enc_one l) (by unfold maxLen; omega) (by omega) (by simp; omega) (fun v25 W2 hown25 hg25 => ?_)
         have hG25 : W1.grownBy W2 none := gtrans_own (grownBy_drew8 (gtrans8 (World.grownBy_alloc W1 (.cells #[] 35) none) (World.grownBy_alloc _ (.cells #[.int .i64 x, .int .i64 S] 35) none))) hg25 (fun j he => by cases he; exact Nat.le_refl _)
         have hX25 : ∀ j u, [Value.int .i64 x, Value.int .i64 S][j]? = some u → W2.cell? ((⟨W1.heap.size + 1, 0, none⟩ : Addr).add j) = some u := fun j u hj => hg25.cell (HN2.out j u hj) (by
           have : ((⟨W1.heap.size + 1, 0, none⟩ : Addr).add j).block = W1.heap.size + 1 := by unfold Addr.add; split <;> rfl
           rw [this]; simp [Value.ownBlock])
         have HX2 := Bk.gr8 HX.out hG25
         obtain ⟨x20, x21⟩ := Bk.c2 HX2)
      | (fail_if_success have := hg25
         refine step_append_own rfl _ _ 26 rfl W1.heap.size 35 j0 (.agg #[.int .i64 0, .int .i64 0]) 2 16 Try.underlying26 hj hy0 hy1 hy2 rfl (by decide) (.slice (some ⟨W1.heap.size + 1, 0, none⟩) 0 0) 0 [] rfl (by exact HX3.out) ⟨g, 0, none⟩ m cp (Po.enc l) rfl HEL.out (by exact HCE.out ((W1.alloc _).alloc _) ((HQ.out.alloc _).alloc _)) (Po.enc_one l) (by unfold maxLen; omega) (by omega) (by simp; omega) (fun v25 W2 hown25 hg25 => ?_)
         have hG25 : W1.grownBy W2 none := gtrans_own (grownBy_drew8 (gtrans8 (World.grownBy_alloc W1 (.cells #[.int .i64 x, .int .i64 S] 35) none) (World.grownBy_alloc _ (.cells #[] 35) none))) hg25 (fun j he => by cases he; exact Nat.le_succ _)
         have hX25 : ∀ j u, [Value.int .i64 x, Value.int .i64 S][j]? = some u → W2.cell? ((⟨W1.heap.size, 0, none⟩ : Addr).add j) = some u := fun j u hj => hg25.cell (HN3.out j u hj) (by
           have : ((⟨W1.heap.size, 0, none⟩ : Addr).add j).block = W1.heap.size := by unfold Addr.add; split <;> rfl
           rw [this]; simp [Value.ownBlock])
         have HX2 := Bk.gr8 HX.out hG25
         obtain ⟨x20, x21⟩ := Bk.c2 HX2)
      | (fail_if_success have := hg29
         refine step_append_own rfl _ _ 26 rfl W1.heap.size 35 j0 (.agg #[.int .i64 0, .int .i64 0]) 2 16 Try.underlying26 hj hy0 hy1 hy2 rfl (by decide) v25 _ _ rfl (by exact hown25) _ 1 1 [.int .i64 x, .int .i64 S] rfl rfl hX25 (by intro u hu; simp at hu; rcases hu with h | h <;> (subst h; rfl)) (by unfold maxLen; omega) (by omega) (by exact hG25.size) (fun v29 W4 hown29 hg29 => ?_)
         rw [Nat.zero_add] at hown29
         have hG29 : W1.grownBy W4 none := gtrans_own hG25 hg29 (fun j he => (hown25.lt _ he).1)
         obtain ⟨g6, cp6, rfl⟩ : ∃ g c, v29 = .slice (some ⟨g, 0, none⟩) (m + 1) c := by
           rcases hown29.2 with ⟨h, h0⟩ | ⟨g, c, cur, h, _⟩
           · omega
           · exact ⟨_, _, h⟩
         have HQ29 := Lib.hid (QR.own (l := l ++ [(x, S)]) (by rw [Po.enc_append]; exact hown29)).2
         have hcp29 := own_cap hown29
         have HX4 := Lib.hid (Bk.gr8 HX.out hG29)
         have hG4 := Lib.hid hG29)
      | (fail_if_success have := hg29
         refine step_append_own rfl _ _ 26 rfl W1.heap.size 35 j0 (.agg #[.int .i64 0, .int .i64 0]) 2 16 Try.underlying26 hj hy0 hy1 hy2 rfl (by decide) v25 _ _ rfl (by exact hown25.alloc _) ⟨W2.heap.size, 0, none⟩ 1 1 [.int .i64 x, .int .i64 S] rfl rfl (by exact two_new W2 W2.heap.size _ _ _ rfl) (by intro u hu; simp at hu; rcases hu with h | h <;> (subst h; rfl)) (by unfold maxLen; omega) (by omega) (by have := hG25.size; simp; omega) (fun v29 W4 hown29 hg29 => ?_)
         rw [Nat.zero_add] at hown29
         have hG29 : W1.grownBy W4 none := gtrans_own (gtrans8 hG25 (World.grownBy_alloc _ _ _)) hg29 (fun j he => (hown25.lt _ he).1)
         obtain ⟨g6, cp6, rfl⟩ : ∃ g c, v29 = .slice (some ⟨g, 0, none⟩) (m + 1) c := by
           rcases hown29.2 with ⟨h, h0⟩ | ⟨g, c, cur, h, _⟩
           · omega
           · exact ⟨_, _, h⟩
         have HQ29 := Lib.hid (QR.own (l := l ++ [(x, S)]) (by rw [Po.enc_append]; exact hown29)).2
         have hcp29 := own_cap hown29
         have HX4 := Lib.hid (Bk.gr8 HX.out hG29)
         have hG4 := Lib.hid hG29)
      | (rw [if_pos (by simp [Region.wanted])]; go_simp; go_at_call 16; refine (HJ.out W4 g6 cp6 HQ29.out hcp29).mono ?_; rintro e9 w9 ⟨rfl, hb9⟩
         have HX9 := Bk.below HX4.out hb9
         obtain ⟨x90, x91⟩ := Bk.c2 HX9
         have hc9 := below_gr8 hc1.out hG4.out hb9))
    all_goals
      go_wp2
      go_ret
      exact ⟨by simp, hc9⟩
/-! ### The row's step. -/
theorem own : ownKnob Try.prog.godebug = none := by kernel_rfl
theorem laidOut : laidOutB Try.prog = true := by kernel_rfl
set_option maxRecDepth 100000 in
theorem lifted (os : Os) (started : os.Started) (H : Type) (enc : TypeId × Value → H) :
    ReturnsInHanded {} Try.checked os 6 .any (Rows.fnHidePartsSpec.pre6 enc Try.prog Try.f6 Rows.fnHidePartsRow.domain false) (Rows.fnHidePartsSpec.post enc Try.prog Try.f6 false true false false) := by
  refine returnsInHanded_of_change (C := Try.checked) own started (by kernel_rfl) Try.func6
    (ChangeSpec.witness6 (enc := enc) (C := Try.checked) false ⟨#[], #[.slice none 0 0], []⟩ 8 (by kernel_rfl) (by kernel_rfl) (by kernel_rfl) (by kernel_rfl)) ?_
  intro W base args ds gs before hval0 hW hcnd _
  have hval : ∀ (j : Nat) t v, Try.f6.params[j]? = some t → args[j]? = some v → Value.okWide Try.prog W .any base t v := hval0
  have hW' := hW
  obtain ⟨p, q, hA0, hV, rfl, hfz, hnd⟩ := hW
  have hA : DataW.TrodAll enc Try.prog W 0 (fun _ => true) true Try.f6.params.toList args.toList ds p := hA0
  rw [Try.params6] at hA hval
  obtain ⟨v0, vs0, d0, ds0, p0, q0, hargs, rfl, rfl, h0, r0⟩ := trodAll_cons hA
  obtain ⟨rfl, rfl, rfl⟩ := trodAll_nil r0
  obtain rfl : args = #[v0] := by cases args; simp_all
  obtain ⟨rfl, rfl⟩ := trodVars_none hV
  obtain ⟨a0, len0, cap0, rfl⟩ := okWide_slice Try.underlying22 (hval 0 22 v0 rfl rfl)
  have k0 := h0
  have lt0 : ∀ x ∈ p0, x.block < W.heap.size := by obtain ⟨m, hm⟩ := k0; exact DataW.trod_lt m _ _ _ hm
  obtain ⟨z0, w0⟩ : ∃ zs, IsRow .u8 W a0 len0 cap0 zs := by
    obtain ⟨fuel, hf⟩ := h0
    rcases open_ints Try.underlying22 Try.underlying5 (by kernel_rfl) hf with ⟨hcs, _⟩ | ⟨x, l, c, zs, hcs, _, hl, hm, hz, _, hcell, hwz⟩
    · simp [Value.cells] at hcs
      obtain ⟨rfl, rfl, rfl⟩ := hcs
      exact ⟨[], .inl ⟨rfl, rfl, rfl, rfl⟩⟩
    · simp [Value.cells] at hcs
      obtain ⟨rfl, rfl, rfl⟩ := hcs
      exact ⟨zs, .inr ⟨_, rfl, hl, hm, by simpa using hz, hcell, hwz⟩⟩
  clear hA0 hval0
  refine (walk a0 len0 cap0 z0 W w0).mono fun e W' ⟨he, bel⟩ => ?_
  subst he
  exact ⟨_, rfl, _, _, _, [], _, [], hW', trodAll_mk1 (shut_bool Try.underlying4 _), (trodAll_cons_mk (Below.trod laidOut (by kernel_rfl) (of_decide_eq_true (by kernel_rfl)) k0 bel lt0) trodAll_mk0), rfl, bel.frame _, fun h => by cases h⟩
theorem over : Rows.fnHidePartsRow.holds Try.pinned (OpenSpec.ofChange Rows.fnHidePartsSpec) :=
  OpenClaim.holds_of_wide 6 Try.f6 rfl rfl rfl rfl rfl rfl rfl ⟨rfl, rfl, rfl, rfl, rfl⟩ rfl rfl rfl rfl rfl (by kernel_rfl) Try.func6 (by kernel_rfl)
    (of_decide_eq_true (by kernel_rfl)) (by unfold Func.isWrapper; first | (rw [if_pos (by decide +kernel)]; kernel_rfl) | (rw [if_neg (by decide +kernel)]; exact ⟨rfl, rfl⟩))
    (fun os started H enc _ => lifted os started H enc)
theorem proved : Rows.FnHidePartsSaid := over
#print axioms proved
end Go.Proofs.Ytbhpealkhpginaa.fnHideParts
