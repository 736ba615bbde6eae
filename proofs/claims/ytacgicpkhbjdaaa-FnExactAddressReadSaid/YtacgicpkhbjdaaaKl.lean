/-
  Plain: what the laws of addresses ask.
-/
import Derived.Test.YtacgicpkhbjdaaaKj
import Derived.Test.YtacgicpkhbjdaaaDr
namespace Go.Proofs.Ytacgicpkhbjdaaa
open Go.RowKit

theorem conv_new_drew (xs : List Int) (cap : Nat) (W : World) :
    (convert 22 9 (.slice (some ⟨W.heap.size, 0, none⟩) xs.length cap)).run Try.prog (W.alloc (.cells (xs.map (Value.int .u8)).toArray 5)).drew =
      .ok (.string (strOfNums xs)) (W.alloc (.cells (xs.map (Value.int .u8)).toArray 5)).drew := by
  refine run_convert_bytes_arg (P := Try.prog) _ 22 5 (by kernel_rfl) (by kernel_rfl) W.heap.size 0 xs.length cap xs rfl (fun i hi => ?_) 9 (by kernel_rfl)
  rw [Nat.zero_add]
  exact (World.cell?_alloc_mark W _ _ _ i).trans (by simp [List.getD, List.getElem?_eq_getElem hi])
theorem sl_lo (s : ByteArray) (i : Nat) (h : i ≤ s.size) (W : World) : (Instr.slice 9 (.string s) none (some (.int .i64 (i : Int))) none).run Try.prog W = .ok (.string (s.extract 0 i)) W := by
  simp [Instr.slice, Instr.sliceBounds, Instr.sliceBound, asIntOf, run_underlying Try.underlying9, h]
theorem sl_hi (s : ByteArray) (i : Nat) (j : Int) (hj : j = (i : Int)) (h : i ≤ s.size) (W : World) : (Instr.slice 9 (.string s) (some (.int .i64 j)) none none).run Try.prog W = .ok (.string (s.extract i s.size)) W := by
  subst hj
  simp [Instr.slice, Instr.sliceBounds, Instr.sliceBound, asIntOf, run_underlying Try.underlying9, h]
theorem sl_mid (s : ByteArray) (i k : Nat) (j j2 : Int) (hj : j = (i : Int)) (hj2 : j2 = (k : Int)) (h : i ≤ k) (h2 : k ≤ s.size) (W : World) : (Instr.slice 9 (.string s) (some (.int .i64 j)) (some (.int .i64 j2)) none).run Try.prog W = .ok (.string (s.extract i k)) W := by
  subst hj
  subst hj2
  simp [Instr.slice, Instr.sliceBounds, Instr.sliceBound, asIntOf, run_underlying Try.underlying9, h, h2]
theorem beq_bytes (x y : ByteArray) : (x.toList == y.toList) = decide (x = y) := by
  rw [Bool.eq_iff_iff]
  simp only [beq_iff_eq, decide_eq_true_eq]
  constructor
  · intro h
    rw [ByteArray.toList_eq, ByteArray.toList_eq] at h
    exact ByteArray.ext (Array.toList_inj.1 h)
  · intro h; rw [h]
theorem Ka.rb_str {l : List Int} (hl : l.length = 10) (hin : Ka.In l) : Ka.rb (Ka.str l) = Ka.ok l := by
  unfold Ka.rb
  rw [Ka.gd_str hl hin, Ka.vals_str hl hin]
  rfl
theorem Ka.mm_str {l : List Int} (hl : l.length = 10) (hin : Ka.In l) : Ka.mm (Ka.str l) = Ka.mend l := by
  unfold Ka.mm
  rw [Ka.gd_str hl hin, Ka.vals_str hl hin]
  rfl
theorem Ka.ok_of {kind n : Int} (h : Ka.ob kind n = true) : Ka.ok (Ka.of kind n) = true := by
  obtain ⟨_, _, h2, h3⟩ := (Ka.ob_iff _ _).1 h
  exact (Ka.ok_iff _).2 (Ka.of_good kind n h2 h3)
theorem Ka.of_in' {kind n : Int} (h : Ka.ob kind n = true) : Ka.In (Ka.of kind n) := by
  obtain ⟨h0, h1, _, _⟩ := (Ka.ob_iff _ _).1 h
  exact Ka.of_in h0 h1
/-- What is written is read. -/
theorem Ka.read_of {kind n : Int} (h : Ka.ob kind n = true) : Ka.rb (Ka.os kind n) = true ∧ Ka.rk (Ka.os kind n) = kind ∧ Ka.rn (Ka.os kind n) = n ∧ (Ka.os kind n).size = 10 := by
  obtain ⟨_, _, h2, h3⟩ := (Ka.ob_iff _ _).1 h
  rw [Ka.os_yes h]
  have hr : Ka.rb (Ka.str (Ka.of kind n)) = true := by rw [Ka.rb_str (Ka.of_len _ _) (Ka.of_in' h), Ka.ok_of h]
  obtain ⟨e1, e2⟩ := Ka.r_yes hr
  rw [Ka.vals_str (Ka.of_len _ _) (Ka.of_in' h)] at e1 e2
  exact ⟨hr, by rw [e1]; rfl, by rw [e2, Ka.of_num kind n h2 h3], by rw [Ka.str_size, Ka.of_len]⟩
/-- An address is written in one way. -/
theorem Ka.of_read {s : ByteArray} (h : Ka.rb s = true) : Ka.ob (Ka.rk s) (Ka.rn s) = true ∧ Ka.os (Ka.rk s) (Ka.rn s) = s := by
  obtain ⟨e1, e2⟩ := Ka.r_yes h
  have hg : Ka.gd s = true := by unfold Ka.rb at h; cases hg : Ka.gd s <;> simp_all
  have hok : Ka.ok (Ka.vals s) = true := by unfold Ka.rb at h; rw [hg] at h; exact h
  have hin := Ka.vals_in ((Ka.gd_iff s).1 hg).2
  have good := (Ka.ok_iff _).1 hok
  have h0 := Ka.at_bd hin 0
  have h7 := Ka.num7_bd hin
  have hn := good.n
  have hob : Ka.ob (Ka.rk s) (Ka.rn s) = true := (Ka.ob_iff _ _).2 ⟨by rw [e1]; exact h0.1, by rw [e1]; exact h0.2, by rw [e2]; exact h7.1, by rw [e2]; exact hn⟩
  refine ⟨hob, ?_⟩
  rw [Ka.os_yes hob, e1, e2, ← Ka.good_of (Ka.vals_len s) hin good, Ka.str_vals hg]
/-- What is mended is an address that differs in one character at most. -/
theorem Ka.mm_some {s : ByteArray} {m : List Int} (h : Ka.mm s = some m) :
    s.size = 10 ∧ (Ka.str m).size = 10 ∧ Ka.rb (Ka.str m) = true ∧ (∃ p, p < 10 ∧ ∀ k, k < 10 → k ≠ p → En.byt (Ka.str m) k = En.byt s k) ∧ (Ka.rb s = true → Ka.str m = s) := by
  unfold Ka.mm at h
  split at h
  · rename_i hg
    have hin := Ka.vals_in ((Ka.gd_iff s).1 hg).2
    have hl := Ka.vals_len s
    obtain ⟨i, _, hi, hm, hgood⟩ := Ka.seek_some 0 10 h
    have hml : m.length = 10 := by rw [hm, List.length_set, hl]
    have hmi : Ka.In m := by rw [hm]; exact hin.fit i
    refine ⟨((Ka.gd_iff s).1 hg).1, by rw [Ka.str_size, hml], by rw [Ka.rb_str hml hmi]; exact (Ka.ok_iff m).2 hgood, ⟨i, by omega, fun k hk hne => ?_⟩, fun hr => ?_⟩
    · conv => rhs; rw [← Ka.str_vals hg]
      rw [Ka.byt_str hmi (by omega), Ka.byt_str hin (by omega), hm, Ka.at_set _ i k _ (by omega), if_neg (by omega)]
    · have hok : Ka.ok (Ka.vals s) = true := by unfold Ka.rb at hr; rw [hg] at hr; exact hr
      rw [Ka.mend_self hl hin ((Ka.ok_iff _).1 hok)] at h
      cases h
      exact Ka.str_vals hg
  · cases h
theorem below_drewN9 {w w' : World} {n : Nat} (h : Below n w w') (k : Nat) : Below n w (w'.drewN k) := ⟨h.os, h.tape, h.output, h.size, h.block⟩
theorem Ka.str_inj {l m : List Int} (hl : l.length = 10) (hm : m.length = 10) (hi : Ka.In l) (hj : Ka.In m) (h : Ka.str l = Ka.str m) : l = m := by
  rw [← Ka.vals_str hl hi, ← Ka.vals_str hm hj, h]
/-- One character changed. -/
theorem Ka.one {kind n : Int} (h : Ka.ob kind n = true) (k : Nat) (v : Int) (hk : k < 10) (v0 : 0 ≤ v) (v1 : v < 31) :
    Ka.rb (Ka.str ((Ka.of kind n).set k v)) = decide (Ka.str (Ka.of kind n) = Ka.str ((Ka.of kind n).set k v)) ∧ Ka.mm (Ka.str ((Ka.of kind n).set k v)) = some (Ka.of kind n) := by
  have hl := Ka.of_len kind n
  have hin := Ka.of_in' h
  have hgood := (Ka.ok_iff _).1 (Ka.ok_of h)
  have hl2 : ((Ka.of kind n).set k v).length = 10 := by rw [List.length_set, hl]
  have hin2 := hin.set k v0 v1
  refine ⟨?_, by rw [Ka.mm_str hl2 hin2, Ka.mend_one hl hin hgood k v hk v0 v1]⟩
  rw [Ka.rb_str hl2 hin2, Bool.eq_iff_iff, Ka.ok_iff]
  simp only [decide_eq_true_eq]
  constructor
  · intro g; rw [Ka.one_not hl hin hgood k v hk v0 v1 g]
  · intro e
    have := Ka.str_inj hl hl2 hin hin2 e
    rw [← this]; exact hgood
theorem Ka.swap_in {l : List Int} (hin : Ka.In l) (k : Nat) : Ka.In (Ka.swap l k) := by
  have a := Ka.at_bd hin (k + 1)
  have b := Ka.at_bd hin k
  exact (hin.set k a.1 a.2).set (k + 1) b.1 b.2
/-- Two neighbours exchanged. -/
theorem Ka.swapped {kind n : Int} (h : Ka.ob kind n = true) (k : Nat) (hk : k < 9) :
    Ka.rb (Ka.str (Ka.swap (Ka.of kind n) k)) = decide (Ka.str (Ka.of kind n) = Ka.str (Ka.swap (Ka.of kind n) k)) := by
  have hl := Ka.of_len kind n
  have hin := Ka.of_in' h
  have hgood := (Ka.ok_iff _).1 (Ka.ok_of h)
  have hl2 : (Ka.swap (Ka.of kind n) k).length = 10 := by unfold Ka.swap; rw [List.length_set, List.length_set, hl]
  have hin2 := Ka.swap_in hin k
  rw [Ka.rb_str hl2 hin2, Bool.eq_iff_iff, Ka.ok_iff]
  simp only [decide_eq_true_eq]
  constructor
  · intro g; rw [Ka.swap_same hl k hk (Ka.swap_not hl hin hgood k hk g)]
  · intro e
    have := Ka.str_inj hl hl2 hin hin2 e
    rw [← this]; exact hgood
/-- The bytes of a list that came in. -/
theorem IsRow.at9 {w : World} {a : Option Addr} {len cap : Nat} {zs : List Int} (h : IsRow .u8 w a len cap zs) (h0 : 0 < len) :
    ∃ b off, a = some ⟨b, off, none⟩ ∧ b < w.heap.size ∧ (∀ i, i < len → w.cell? ⟨b, off + i, none⟩ = some (.int .u8 (zs.getD i 0))) ∧ ∀ i, 0 ≤ zs.getD i 0 ∧ zs.getD i 0 < 256 := by
  have hB : ∀ i, 0 ≤ zs.getD i 0 ∧ zs.getD i 0 < 256 := by
    intro i
    rcases h with ⟨_, _, _, rfl⟩ | ⟨x, _, _, _, _, _, hw⟩
    · simp
    · by_cases hi : i < zs.length
      · rw [List.getD_eq_getElem?_getD, List.getElem?_eq_getElem hi]
        exact wf_u8 (hw _ (List.getElem_mem hi))
      · rw [List.getD_eq_getElem?_getD, List.getElem?_eq_none (by omega)]; simp
  rcases h with ⟨_, h, _, _⟩ | ⟨x, rfl, hle, _, hz, hc, _⟩
  · omega
  · obtain ⟨b, off, rfl, hcc⟩ := ints_at hc (by omega)
    exact ⟨b, off, rfl, block_lt (hcc 0 (by omega)), fun i hi => hcc i (by omega), hB⟩
end Go.Proofs.Ytacgicpkhbjdaaa
