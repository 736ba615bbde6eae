/-
  Contracts of scripts: strings.Join, ScriptText; of the program.
-/
import Derived.Test.YtpldoffjclmacaaGreatDoorYh
import Derived.Test.YtpldoffjclmacaaGreatDoorOe
namespace Go.Proofs.YtpldoffjclmacaaGreatDoor
open Go.RowKit

theorem Jo.join_take (ws : List (List Int)) (k : Nat) (h : k < ws.length) (h0 : 0 < k) : Jo.join 32 (ws.take (k + 1)) = Jo.join 32 (ws.take k) ++ 32 :: ws.getD k [] := by
  rw [List.take_succ_eq_append_getElem h, Jo.join_snoc 32 _ _ (fun e => by
    have := congrArg List.length e
    rw [List.length_take, List.length_nil] at this
    omega), List.getD_eq_getElem?_getD, List.getElem?_eq_getElem h]
  rfl
theorem Jo.join_one (ws : List (List Int)) (h : 0 < ws.length) : Jo.join 32 (ws.take 1) = ws.getD 0 [] := by
  cases ws with
  | nil => simp at h
  | cons w r => rfl
theorem Jo.join_bound (ws : List (List Int)) (hw : ∀ p ∈ ws, p.length ≤ 161) (hn : ws.length ≤ 40) (k : Nat) : (Jo.join 32 (ws.take k)).length ≤ 6480 := by
  have := Jo.join_len 32 161 (ws.take k) (fun p hp => hw p (List.mem_of_mem_take hp))
  rw [List.length_take] at this
  have e : (161 + 1) * min k ws.length ≤ 162 * 40 := Nat.mul_le_mul_left 162 (by omega)
  omega
/-- The block g holds words. -/
def WR (w : World) (g n : Nat) (ws : List (List Int)) : Prop := ws.length = n ∧ g < w.heap.size ∧ ∀ j, j < n → w.cell? ⟨g, j, none⟩ = some (.string (strOfNums (ws.getD j [])))
theorem WR.below {w w' : World} {g n B : Nat} {ws : List (List Int)} (h : WR w g n ws) (hb : Below B w w') (hg : g < B) : WR w' g n ws :=
  ⟨h.1, Nat.lt_of_lt_of_le h.2.1 hb.size, fun j hj => (World.cell?_of_block (w := w) (a := ⟨g, j, none⟩) (hb.block g hg)).trans (h.2.2 j hj)⟩
theorem WR.alloc {w : World} {g n : Nat} {ws : List (List Int)} (h : WR w g n ws) (o : Obj) : WR (w.alloc o) g n ws := h.below ((Below.refl _ _).alloc (Nat.le_refl _) o) h.2.1
theorem ws_at {ws : List (List Int)} (hw : ∀ p ∈ ws, p.length ≤ 161) (k : Nat) (h : k < ws.length) : (ws.getD k []).length ≤ 161 := by
  rw [List.getD_eq_getElem?_getD, List.getElem?_eq_getElem h]
  exact hw _ (List.getElem_mem h)
theorem En.cells_appendZ (s t : ByteArray) : Lib.strCells (s ++ t) = Lib.strCells s ++ Lib.strCells t := En.cells_appendY s t
set_option maxRecDepth 100000 in
set_option maxHeartbeats 3200000 in
theorem join_any (g n cap : Nat) (ws : List (List Int)) (w : World) (h : WR w g n ws) (hn : n ≤ 40) (hnc : n ≤ cap) (_hcap : cap ≤ 9223372036854775807) (hw : ∀ p ∈ ws, p.length ≤ 161) :
    Calls Tryz.prog 20 #[.slice (some ⟨g, 0, none⟩) n cap, .string ⟨#[32]⟩] w fun e w' => e = .returned (.string (strOfNums (Jo.join 32 ws))) ∧ Below w.heap.size w w' := by
  have hl := h.1
  rcases n with _ | _ | m
  · have HE : Hid (strOfNums (Jo.join 32 ws) = ⟨#[]⟩) := Lib.hid (by
      rw [List.eq_nil_of_length_eq_zero hl]; rfl)
    clear h hl
    go_enter Tryz.func20, Tryz.ntmps20
    go_wp2
    go_ret
    exact ⟨by rw [HE.out]; rfl, Below.refl _ _⟩
  · have HE : Hid (strOfNums (Jo.join 32 ws) = strOfNums (ws.getD 0 [])) := Lib.hid (by
      rw [← Jo.join_one ws (by omega), List.take_of_length_le (by omega)])
    have c0 := h.2.2 0 (by omega)
    obtain ⟨S, HS⟩ : ∃ S, Hid (strOfNums (ws.getD 0 []) = S) := ⟨_, Lib.hid rfl⟩
    rw [HS.out] at c0 HE
    clear h hl
    go_enter Tryz.func20, Tryz.ntmps20
    go_wp2
    go_ret
    exact ⟨by rw [HE.out]; rfl, Below.refl _ _⟩
  have HLEN := Lib.hid hl
  have HWS := Lib.hid hw
  have HWR := Lib.hid h
  have HALL : Hid (strOfNums (Jo.join 32 ws) = strOfNums (Jo.join 32 (ws.take (m + 2)))) := Lib.hid (by rw [List.take_of_length_le (by omega)])
  have HBDZ : Hid (∀ k, (strOfNums (Jo.join 32 (ws.take k))).size ≤ 6480) := Lib.hid fun k => by rw [strOfNums_size]; exact Jo.join_bound ws hw (by omega) k
  have hglt := h.2.1
  have hsl : ∀ W, (Instr.slice 38 (.slice (some ⟨g, 0, none⟩) (m + 1 + 1) cap) (some (.int .i64 1)) none none).run Tryz.prog W = .ok (.slice (some ⟨g, 1, none⟩) (m + 1) (cap - 1)) W := fun W => by
    have e1 : (1 : Int) ≤ (m : Int) + 1 + 1 := by omega
    have e2 : cap ≠ 1 := by omega
    simp [Instr.slice, Instr.sliceBounds, Instr.sliceBound, asIntOf, run_underlying Tryz.underlying38, e1, e2, Addr.add]
  have hw0 : IntKind.i64.wrap (((m + 1 + 1 : Nat) : Int) - 1) = ((m + 1 : Nat) : Int) := by rw [IntWalk.i64_in _ (by omega)]; omega
  have hw1 : IntKind.i64.wrap (1 * ((m + 1 : Nat) : Int)) = ((m + 1 : Nat) : Int) := by rw [IntWalk.i64_in _ (by omega)]; omega
  have hw2 : IntKind.i64.wrap (0 + ((m + 1 : Nat) : Int)) = ((m + 1 : Nat) : Int) := by rw [IntWalk.i64_in _ (by omega)]; omega
  have hbs0 := Nat.le_refl w.heap.size
  clear hl hw h
  go_enter Tryz.func20, Tryz.ntmps20
  have hq : (1 : Int) < 9223372036854775807 / ((m : Int) + 1) := by
    have : (2 : Int) ≤ 9223372036854775807 / ((m : Int) + 1) := Int.le_ediv_of_mul_le (by omega) (by omega)
    omega
  go_wp2
  go_loopw [5, 41] (fun v i wr => ∃ (k u : Nat), k ≤ m + 2 ∧ i = .int .i64 (k : Int) ∧ v = .int .i64 (u : Int) ∧ u ≤ 41 + 161 * k ∧ Below w.heap.size w wr)
    (fun _ i _ => m + 2 - (intOf i).toNat)
  case atStart => exact ⟨0, m + 1, by omega, rfl, by simp, by omega, Below.refl _ _⟩
  case round =>
    obtain ⟨k, u, hk, rfl, rfl, hu, hbel⟩ := hrel
    clear hq hw0 hw1 hw2
    by_cases hlt : k < m + 2
    · have hwr := HWR.out.below hbel hglt
      have ck := hwr.2.2 k hlt
      have hsz : (strOfNums (ws.getD k [])).size ≤ 161 := by rw [strOfNums_size]; exact ws_at HWS.out k (by rw [HLEN.out]; omega)
      have hg2 := hwr.2.1
      obtain ⟨S, HS⟩ : ∃ S, Hid (strOfNums (ws.getD k []) = S) := ⟨_, Lib.hid rfl⟩
      rw [HS.out] at ck hsz
      have hlt2 : (k : Int) < (m : Int) + 1 + 1 := by omega
      have hno : ¬ (9223372036854775807 - (u : Int) < (S.size : Int)) := by omega
      clear hwr hsl
      go_wp2
      go_roundw
      case rel => exact ⟨k + 1, u + S.size, by omega, by simp, by simp, by omega, hbel⟩
      case measure => simp [intOf]; omega
    · obtain rfl : k = m + 2 := by omega
      obtain ⟨wo, hwo⟩ : ∃ wo, wo = wr := ⟨_, rfl⟩
      subst hwo
      have hbs := hbel.size
      have hnlt : ¬ ((m : Int) + 2 < (m : Int) + 1 + 1) := by omega
      have HFR : Hid ((wo.alloc (.cells #[.pointer none, .slice none 0 0] 70 (0, 0))).heap[wo.heap.size]? = some (.cells #[.pointer none, .slice none 0 0] 70 (0, 0))) := Lib.hid (heap_alloc_new wo _)
      have hwr0 := (HWR.out.below hbel hglt).alloc (.cells #[.pointer none, .slice none 0 0] 70 (0, 0))
      have hgr : g < wo.heap.size := by omega
      have hbel0 := hbel.alloc hbs (.cells #[.pointer none, .slice none 0 0] 70 (0, 0))
      clear hbel
      go_wp2_with fail
      refine (Tryz.Builder_Grow_fresh wo.heap.size wo.heap.size u _ (Nat.le_refl _) HFR.out (by simp) (by omega)).mono ?_
      rintro e w1 ⟨rfl, hbd1, hb1⟩
      have hwr1 := hwr0.below hb1 hgr
      have hbel1 := hbel0.trans (hb1.mono hbs)
      have c0 := hwr1.2.2 0 (by omega)
      have hsz0 : (strOfNums (ws.getD 0 [])).size ≤ 161 := by rw [strOfNums_size]; exact ws_at HWS.out 0 (by rw [HLEN.out]; omega)
      have HP1 : Hid (strOfNums (Jo.join 32 (ws.take 1)) = strOfNums (ws.getD 0 [])) := Lib.hid (by rw [Jo.join_one ws (by rw [HLEN.out]; omega)])
      obtain ⟨S0, HS0⟩ : ∃ S, Hid (strOfNums (ws.getD 0 []) = S) := ⟨_, Lib.hid rfl⟩
      rw [HS0.out] at c0 hsz0 HP1
      have hlt1 : wo.heap.size < w1.heap.size := hbd1.lt
      clear hwr0 hbel0 hb1 HS0 HFR hu
      go_wp2_with fail
      refine (bd_WriteString wo.heap.size wo.heap.size [] S0 _ (.inr hbd1) (by simp) (by omega) (by omega)).mono ?_
      rintro e w2 ⟨rfl, hbd2', hb2⟩
      have hbd2 : Hid (UsedBd wo.heap.size wo.heap.size (Lib.strCells (strOfNums (Jo.join 32 (ws.take 1)))) w2) := Lib.hid (by rw [HP1.out]; simpa using hbd2')
      have HWR2 := Lib.hid (hwr1.below hb2 hgr)
      have hbel2 := hbel1.trans (hb2.mono hbs)
      have hlt2 : wo.heap.size < w2.heap.size := hbd2'.lt
      clear hwr1 hbel1 hb2 hbd1 hbd2' c0 hsz0 hnlt
      go_wp2
      go_loopw [65] (fun i wr => ∃ k : Nat, k ≤ m + 1 ∧ i = .int .i64 (k : Int) ∧ Hid (UsedBd wo.heap.size wo.heap.size (Lib.strCells (strOfNums (Jo.join 32 (ws.take (k + 1))))) wr) ∧ Below wo.heap.size w2 wr)
        (fun i _ => m + 1 - (intOf i).toNat)
      case atStart => exact ⟨0, by omega, rfl, hbd2, Below.refl _ _⟩
      case round =>
        obtain ⟨k, hk, rfl, HBD, hbx⟩ := hrel
        have hltx : wo.heap.size < wr.heap.size := HBD.out.lt
        by_cases hlt : k < m + 1
        · have hwx := HWR2.out.below hbx hgr
          have ck := hwx.2.2 (1 + k) (by omega)
          have hg2 := hwx.2.1
          have hsz : (strOfNums (ws.getD (k + 1) [])).size ≤ 161 := by rw [strOfNums_size]; exact ws_at HWS.out (k + 1) (by rw [HLEN.out]; omega)
          rw [Nat.add_comm 1 k] at ck
          have HNX : Hid (strOfNums (Jo.join 32 (ws.take (k + 1 + 1))) = strOfNums (Jo.join 32 (ws.take (k + 1))) ++ ⟨#[32]⟩ ++ strOfNums (ws.getD (k + 1) [])) := Lib.hid (by
            rw [Jo.join_take ws (k + 1) (by rw [HLEN.out]; omega) (by omega), Jo.str_append, show (⟨#[32]⟩ : ByteArray) = strOfNums [32] from rfl, bytes_assoc, ← Jo.str_append [32]]
            rfl)
          have hpz := HBDZ.out (k + 1)
          obtain ⟨S, HS⟩ : ∃ S, Hid (strOfNums (ws.getD (k + 1) []) = S) := ⟨_, Lib.hid rfl⟩
          rw [HS.out] at ck hsz HNX
          obtain ⟨O, HO⟩ : ∃ S, Hid (strOfNums (Jo.join 32 (ws.take (k + 1))) = S) := ⟨_, Lib.hid rfl⟩
          rw [HO.out] at hpz HNX HBD
          have ck2 : wr.cell? ⟨g, 1 + k, none⟩ = some (.string S) := by rw [Nat.add_comm 1 k]; exact ck
          clear hwx HS HO
          go_wp2_with fail
          refine (bd_WriteString wo.heap.size wo.heap.size _ ⟨#[32]⟩ _ (.inr HBD.out) (by rw [Lib.strCells_length]; omega) (by decide) (by omega)).mono ?_
          rintro e w4 ⟨rfl, hbd4, hb4⟩
          rw [← En.cells_appendZ] at hbd4
          have hlt4 : wo.heap.size < w4.heap.size := hbd4.lt
          have hbx4 := hbx.trans hb4
          have hz4 : (O ++ ⟨#[32]⟩ : ByteArray).size ≤ 6490 := by rw [ByteArray.size_append]; show _ + 1 ≤ _; omega
          obtain ⟨O4, HO4⟩ : ∃ S, Hid ((O ++ ⟨#[32]⟩ : ByteArray) = S) := ⟨_, Lib.hid rfl⟩
          rw [HO4.out] at hbd4 hz4 HNX
          clear hbx hb4 HBD HO4
          go_wp2_with fail
          refine (bd_WriteString wo.heap.size wo.heap.size _ S _ (.inr hbd4) (by rw [Lib.strCells_length]; omega) (by omega) (by omega)).mono ?_
          rintro e w5 ⟨rfl, hbd5, hb5⟩
          rw [← En.cells_appendZ] at hbd5
          have HBD5 : Hid (UsedBd wo.heap.size wo.heap.size (Lib.strCells (strOfNums (Jo.join 32 (ws.take (k + 1 + 1))))) w5) := Lib.hid (by rw [HNX.out]; exact hbd5)
          have hbx5 := hbx4.trans hb5
          clear hbx4 hb5 hbd4 hbd5
          go_wp2
          go_roundw
          case rel => exact ⟨k + 1, by omega, by simp, HBD5, hbx5⟩
          case measure => simp [intOf]; omega
        · obtain rfl : k = m + 1 := by omega
          have hend : ¬ ((m : Int) + 1 < (m : Int) + 1) := by omega
          go_wp2_with fail
          refine (Tryz.Builder_String_any wo.heap.size wo.heap.size (strOfNums (Jo.join 32 (ws.take (m + 1 + 1)))).data.toList _ (.inr HBD.out) (by omega)).mono ?_
          rintro e w3 ⟨rfl, hb3⟩
          have hbel3 := hbel2.trans ((hbx.trans hb3).mono hbs)
          rw [En.mk_self]
          clear hbel2 hbx hb3
          go_wp2
          go_ret
          exact ⟨by rw [HALL.out]; rfl, hbel3⟩
theorem info_strZ : (Tryz.prog.info? 9).map (fun i => (i.zero, i.size, i.bytes)) = some (some (.string ⟨#[]⟩), 1, 16) := by kernel_rfl
/-- The block g has room for n words, the first k of which are those of ws. -/
def WB (g n k : Nat) (ws : List (List Int)) (w : World) : Prop :=
  ∃ cs : Array Value, w.heap[g]? = some (.cells cs 9 (0, 0)) ∧ cs.size = n ∧ ∀ j, j < k → cs[j]? = some (.string (strOfNums (ws.getD j [])))
theorem WB.below {g n k : Nat} {ws : List (List Int)} {w w' : World} (h : WB g n k ws w) (hb : Below w.heap.size w w') : WB g n k ws w' := by
  obtain ⟨cs, h1, h2, h3⟩ := h
  exact ⟨cs, (hb.block g (lt_of_block h1)).trans h1, h2, h3⟩
theorem WB.alloc {g n k : Nat} {ws : List (List Int)} {w : World} (h : WB g n k ws w) (o : Obj) : WB g n k ws (w.alloc o) := h.below ((Below.refl _ _).alloc (Nat.le_refl _) o)
theorem WB.step {g n k : Nat} {ws : List (List Int)} {w : World} (h : WB g n k ws w) (hk : k < n) : WB g n (k + 1) ws (w.setCell ⟨g, k, none⟩ (.string (strOfNums (ws.getD k [])))) := by
  obtain ⟨cs, h1, h2, h3⟩ := h
  refine ⟨_, block_setCell h1 k _, by simpa using h2, fun j hj => ?_⟩
  rw [Array.getElem?_setIfInBounds]
  by_cases hjk : k = j
  · subst hjk
    rw [if_pos rfl, if_pos (by omega)]
  · rw [if_neg hjk]; exact h3 j (by omega)
theorem WB.slot {g n k : Nat} {ws : List (List Int)} {w : World} (h : WB g n k ws w) (hk : k < n) : (∃ u, w.cell? ⟨g, k, none⟩ = some u) ∧ w.frozen? ⟨g, k, none⟩ = false := by
  obtain ⟨cs, h1, h2, h3⟩ := h
  exact ⟨⟨cs[k]'(by omega), by simp [World.cell?, h1, show k < cs.size by omega]⟩, by simp [World.frozen?, h1]⟩
theorem WB.wr {g n : Nat} {ws : List (List Int)} {w : World} (h : WB g n n ws w) (hl : ws.length = n) : WR w g n ws := by
  obtain ⟨cs, h1, h2, h3⟩ := h
  exact ⟨hl, lt_of_block h1, fun j hj => by
    have : w.cell? ⟨g, j, none⟩ = cs[j]? := by simp [World.cell?, h1]
    exact this.trans (h3 j hj)⟩
set_option maxRecDepth 100000 in
set_option maxHeartbeats 3200000 in
theorem implScriptText_any (a : Option Addr) (len cap : Nat) (l : List Jo) (w : World) (h : OL w a len l) (hm : len ≤ 9223372036854775807) (hg : GV w) :
    Calls Tryz.prog 7 #[.slice a len cap] w fun e w' => e = .returned (.tuple #[.string (Jo.tx l), .bool (Jo.ok l)]) ∧ Below w.heap.size w w' := by
  have hcon := implScriptOk_any a len cap l w h hm
  cases hok : Jo.ok l
  · have HT : Hid (Jo.tx l = ⟨#[]⟩) := Lib.hid (if_neg (by rw [hok]; decide))
    rw [hok] at hcon
    rw [HT.out]
    clear h hok HT hg
    go_enter Tryz.func7, Tryz.ntmps7
    go_wp2_with fail
    refine hcon.mono ?_
    rintro e1 w1 ⟨rfl, hb1⟩
    go_wp2
    go_ret2
    exact ⟨rfl, hb1⟩
  obtain ⟨i0, hi, hz0, hz1, hz2⟩ := info_parts info_strZ
  have hmk : ∀ W : World, len ≤ 40 → (Instr.makeSlice 38 (.int .i64 (len : Int)) (.int .i64 (len : Int))).run Tryz.prog W = .ok (.slice (some ⟨W.heap.size, 0, none⟩) len len) (W.alloc (.cells (madeCells #[.string ⟨#[]⟩] (len * 1)) 9)) := fun W h40 => by
    have := run_make (P := Tryz.prog) W 38 9 i0 _ Tryz.underlying38 hi hz0 .i64 .i64 (len : Int) (len : Int) (by omega) (by omega) (by rw [hz2]; omega) (by omega)
    rw [hz1] at this
    simpa [Value.cells] using this
  have HL := Lib.hid h.1
  have HOK := Lib.hid hok
  obtain ⟨hk40, hfld, _⟩ := (Jo.ok_iff l).1 hok
  have h40 : len ≤ 40 := by rw [← h.1]; exact hk40
  have hmk2 := fun W => hmk W h40
  have HWB0 : Hid (∀ W : World, WB W.heap.size len 0 (l.map Jo.word) (W.alloc (.cells (madeCells #[.string ⟨#[]⟩] len) 9))) := Lib.hid fun W => ⟨_, heap_alloc_new W _, by simp [madeCells], fun j hj => absurd hj (by omega)⟩
  have HWL : Hid ((l.map Jo.word).length = len) := Lib.hid (by rw [List.length_map]; exact h.1)
  have HWAT : Hid (∀ k, k < len → (l.map Jo.word).getD k [] = Jo.word (Jo.at_ l k)) := Lib.hid fun k hk => by
    have := Jo.at_get (l := l) (j := k) (by rw [HL.out]; exact hk)
    rw [List.getD_eq_getElem?_getD, List.getElem?_map, this]; rfl
  have HWS : Hid (∀ p ∈ l.map Jo.word, p.length ≤ 161) := Lib.hid fun p hp => by
    obtain ⟨x, hx, rfl⟩ := List.mem_map.1 hp
    exact (Jo.word_plain (hfld x hx)).2.2.1
  have HTX : Hid (Jo.tx l = strOfNums (Jo.join 32 (l.map Jo.word))) := Lib.hid (by unfold Jo.tx; rw [if_pos hok]; rfl)
  obtain ⟨ws, HWD⟩ : ∃ ws, Hid (l.map Jo.word = ws) := ⟨_, Lib.hid rfl⟩
  rw [HWD.out] at HWB0 HWL HWAT HWS HTX
  rw [HTX.out]
  rw [hok] at hcon
  clear hok hk40 hfld hmk hi hz0 hz1 hz2 HWD
  go_enter Tryz.func7, Tryz.ntmps7
  go_wp2_with fail
  refine hcon.mono ?_
  rintro e1 w1 ⟨rfl, hb1⟩
  have h1 := h.below hb1
  have hg1 := hg.below hb1
  have HBW := Lib.hid hb1
  have hws1 := hb1.size
  clear hcon hb1 h hg
  go_wp2
  go_loopw [15] (fun i wr => ∃ k : Nat, k ≤ len ∧ i = .int .i64 (k : Int) ∧ Hid (WB w1.heap.size len k ws wr) ∧ Below w1.heap.size w1 wr)
    (fun i _ => len - (intOf i).toNat)
  case atStart => exact ⟨0, by omega, rfl, Lib.hid (HWB0.out w1), (Below.refl _ _).alloc (Nat.le_refl _) _⟩
  case round =>
    obtain ⟨k, hk, rfl, HWB, hbel⟩ := hrel
    clear hmk2 HWB0
    have hbs := hbel.size
    by_cases hlt : k < len
    · obtain ⟨b, off, rfl, hb, hc⟩ := (h1.below hbel).2 (by omega)
      obtain ⟨c0, c1, c2, c3⟩ := hc k hlt
      have hf := Jo.fld_at HOK.out (show k < l.length by rw [HL.out]; exact hlt)
      have hwk := HWAT.out k hlt
      have hgr := hg1.below hbel
      have HSTEP := Lib.hid fun (W : World) (hW : WB w1.heap.size len k ws W) => hW.step hlt
      rw [hwk] at HSTEP
      have hcon := fun W hW => word_any (Jo.at_ l k) W hf hW
      obtain ⟨x, hx⟩ : ∃ x, Hid (Jo.at_ l k = x) := ⟨_, Lib.hid rfl⟩
      rw [hx.out] at c0 c1 c2 c3 HSTEP
      simp only [hx.out] at hcon
      obtain ⟨C, A, B, t⟩ := x
      simp only at c0 c1 c2 c3 hcon
      obtain ⟨S, HS⟩ : ∃ S, Hid (strOfNums (Jo.word ⟨C, A, B, t⟩) = S) := ⟨_, Lib.hid rfl⟩
      rw [HS.out] at HSTEP
      simp only [HS.out] at hcon
      have hv0 := Bk.new wr 40 #[.int .i64 C, .int .i64 A, .int .i64 B, .string t]
      have hbel0 := hbel.alloc hbs (.cells #[.int .i64 C, .int .i64 A, .int .i64 B, .string t] 40 (0, 0))
      have hgr0 := hgr.below ((Below.refl _ _).alloc (Nat.le_refl _) (.cells #[.int .i64 C, .int .i64 A, .int .i64 B, .string t] 40 (0, 0)))
      have HWB1 := Lib.hid (HWB.out.alloc (.cells #[.int .i64 C, .int .i64 A, .int .i64 B, .string t] 40 (0, 0)))
      obtain ⟨y0, y1, y2, y3⟩ := Bk.c4 hv0
      clear hc hx hf hwk hgr hbel HWB HS hv0
      go_wp2_with fail
      refine (hcon _ hgr0).mono ?_
      rintro e w2 ⟨rfl, hb2⟩
      have HWB2 := HWB1.out.below hb2
      have hbel2 := hbel0.trans (hb2.mono hbel0.size)
      obtain ⟨⟨u, su⟩, fu⟩ := HWB2.slot hlt
      have HWB3 := Lib.hid (HSTEP.out _ HWB2)
      have hbel3 := Lib.hid (hbel2.setCell (p := ⟨w1.heap.size, k, none⟩) (Nat.le_refl _) (.string S))
      clear hgr0 hb2 HWB2 hbel2 hbel0 HWB1 HSTEP hcon y0 y1 y2 y3
      go_wp2
      go_roundw
      case rel => exact ⟨k + 1, by omega, by simp, HWB3, hbel3.out⟩
      case measure => simp [intOf]; omega
    · obtain rfl : k = len := by omega
      clear h1
      go_wp2_with fail
      refine (join_any w1.heap.size k k ws _ (HWB.out.wr HWL.out) h40 (Nat.le_refl _) (by omega) HWS.out).mono ?_
      rintro e w3 ⟨rfl, hb3⟩
      have hbel3 := hbel.trans (hb3.mono hbs)
      go_wp2
      go_ret2
      exact ⟨rfl, HBW.out.trans (hbel3.mono hws1)⟩
end Go.Proofs.YtpldoffjclmacaaGreatDoor
