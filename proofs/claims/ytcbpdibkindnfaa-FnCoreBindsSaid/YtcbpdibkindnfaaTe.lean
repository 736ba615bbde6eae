/-
  Lists of strings written: contracts of EncodeTexts (program and model), and what they call.
-/
import Derived.Test.YtcbpdibkindnfaaTs
namespace Go.Proofs.Ytcbpdibkindnfaa
open Go.RowKit

set_option maxRecDepth 100000 in
set_option maxHeartbeats 800000 in
theorem l1Texts_any (a : Option Addr) (len cap : Nat) (ss : List ByteArray) (w : World) (hs : SR w a len ss) (hz : ∀ s ∈ ss, s.size ≤ 4000) (hlen : len ≤ 1000) :
    Calls Try.prog 68 #[.slice a len cap] w fun e w' => e = .returned (.string (En.texts ss)) ∧ Below w.heap.size w w' := by
  have h1 := hs.1
  have HC : Hid (∀ k, k < len → En.cat (ss.take (k + 1)) = En.cat (ss.take k) ++ En.text (ss.getD k ByteArray.empty)) := Lib.hid fun k hk => En.cat_take ss k (by omega)
  have HZ : Hid (∀ k, k < len → (ss.getD k ByteArray.empty).size ≤ 4000) := Lib.hid fun k hk => hz _ (getD_mem (by omega))
  have HK : Hid (∀ k, k ≤ len → (En.cat (ss.take k)).size ≤ 4005 * 1000) := Lib.hid fun k hk => by
    have := En.cat_size (ss.take k) (fun s hs => hz s (List.mem_of_mem_take hs))
    rw [List.length_take] at this
    omega
  have HN := Lib.hid (En.size_num len)
  clear hz
  go_enter Try.func68, Try.ntmps68
  go_wp2_with fail
  refine (l1Num_any _ _ (by omega) (by omega)).mono ?_
  rintro e w1 ⟨rfl, hb1⟩
  go_wp2
  go_loopw [3, 4] (fun o i wr => ∃ k : Nat, k ≤ len ∧ i = .int .i64 (k : Int) ∧ o = .string (En.num len ++ En.cat (ss.take k)) ∧ Below w.heap.size w wr)
    (fun _ i _ => len - (intOf i).toNat)
  case atStart => exact ⟨0, by omega, rfl, by simp [En.cat], hb1⟩
  case round =>
    obtain ⟨k, hk, rfl, rfl, hbel⟩ := hrel
    by_cases hlt : k < len
    · have hs' := hs.below hbel
      have hz1 := HZ.out k hlt
      have hk1 := HK.out k (by omega)
      have hn1 := HN.out
      have hcat := Lib.hid (HC.out k hlt)
      clear hs hb1
      obtain ⟨g, off, rfl, _, hc⟩ := hs'.2 (by omega)
      have hck := hc k hlt
      clear hc hs'
      obtain ⟨t, HT⟩ : ∃ t, Hid (ss.getD k ByteArray.empty = t) := ⟨_, Lib.hid rfl⟩
      rw [HT.out] at hck hz1
      have ht := En.text_size t hz1
      have hadd : ∀ W, (Op.stringOp .add (En.num len ++ En.cat (ss.take k)) (En.text t)).run Try.prog W = .ok (.string (En.num len ++ En.cat (ss.take k) ++ En.text t)) W :=
        fun W => run_string_add_sum (P := Try.prog) W _ _ (by rw [ByteArray.size_append]; omega)
      go_wp2_with fail
      refine (l1Text_any t _ (by omega)).mono ?_
      rintro e w2 ⟨rfl, hb2⟩
      go_wp2
      go_roundw
      case rel => exact ⟨k + 1, by omega, by simp, by rw [hcat.out, HT.out, ByteArray.append_assoc], hbel.trans (hb2.mono hbel.size)⟩
      case measure => simp [intOf]; omega
    · have hk2 : k = len := by omega
      have HR : Hid (En.texts ss = En.num len ++ En.cat (ss.take k)) := by unfold En.texts; rw [hk2, ← h1, List.take_length]; exact rfl
      clear hk2 hs hb1
      go_wp2
      go_ret
      exact ⟨by rw [HR.out]; rfl, hbel⟩

theorem En.bytes_bd (n : Int) (h0 : 0 ≤ n) (h1 : n ≤ 4294967295) : ∀ x ∈ En.bytes n, 0 ≤ x ∧ x < 256 := by
  unfold En.bytes
  split
  · intro x hx; simp at hx; omega
  · split
    · intro x hx; simp at hx; omega
    · intro x hx; simp at hx; omega
theorem En.cells_num (n : Int) (h0 : 0 ≤ n) (h1 : n ≤ 4294967295) : (En.bytes n).map (Value.int .u8) = Lib.strCells (En.num n) := by
  unfold Lib.strCells En.num
  rw [strOfNums_data, List.map_map]
  refine List.map_congr_left fun x hx => ?_
  have hb := En.bytes_bd n h0 h1 x hx
  simp only [Function.comp_apply]
  rw [En.u8 hb.1 hb.2]
theorem En.cells_append (s t : ByteArray) : Lib.strCells (s ++ t) = Lib.strCells s ++ Lib.strCells t := by
  unfold Lib.strCells
  rw [ByteArray.data_append, Array.toList_append, List.map_append]
theorem new_cells (w : World) (vs : List Value) (t : TypeId) : ∀ j u, vs[j]? = some u → (w.alloc (.cells vs.toArray t)).cell? ((⟨w.heap.size, 0, none⟩ : Addr).add j) = some u := by
  intro j u hj
  have hadr : (⟨w.heap.size, 0, none⟩ : Addr).add j = ⟨w.heap.size, j, none⟩ := by unfold Addr.add; split <;> simp_all
  rw [hadr]
  exact (World.cell?_alloc_mark w vs.toArray t (0, 0) j).trans (by simpa using hj)
theorem En.bytes_len (n : Int) : (En.bytes n).length ≤ 5 := by
  unfold En.bytes
  split
  · simp
  · split
    · simp
    · simp

set_option maxRecDepth 100000 in
set_option maxHeartbeats 1600000 in
theorem implEncodeTexts_big (a : Option Addr) (len cap : Nat) (w : World) (hlen : len ≤ 9223372036854775807) (h : 40 < len) :
    Calls Try.prog 108 #[.slice a len cap] w fun e w' => e = .returned (.tuple #[.string ⟨#[]⟩, .bool false]) ∧ Below w.heap.size w w' := by
  go_enter Try.func108, Try.ntmps108
  go_wp2
  go_ret2
  exact ⟨rfl, Below.refl _ _⟩
set_option maxRecDepth 100000 in
set_option maxHeartbeats 1600000 in
theorem implEncodeTexts_any (a : Option Addr) (len cap : Nat) (ss : List ByteArray) (w : World) (hs : SR w a len ss) (hlen : len ≤ 40) :
    Calls Try.prog 108 #[.slice a len cap] w fun e w' => ((En.fit ss 40 ∧ e = .returned (.tuple #[.string (En.texts ss), .bool true])) ∨ (¬ En.fit ss 40 ∧ e = .returned (.tuple #[.string ⟨#[]⟩, .bool false]))) ∧ Below w.heap.size w w' := by
  have hbd0 := Lib.fresh_isBuilder 70 5 w
  have h1 := hs.1
  go_enter Try.func108, Try.ntmps108
  go_wp2_with fail
  refine (numBytes_any _ _ (by omega) (by omega)).mono ?_
  rintro e w1 ⟨rfl, rfl⟩
  have hlb := En.bytes_len len
  have HB := Lib.hid (bd_below hbd0 ((Below.refl _ _).alloc (Nat.le_refl _) (.cells ((En.bytes len).map (Value.int .u8)).toArray 5)))
  have HN : Hid (∀ j u, ((En.bytes len).map (Value.int .u8))[j]? = some u → ((w.alloc (.cells #[.pointer none, .slice none 0 0] 70)).alloc (.cells ((En.bytes len).map (Value.int .u8)).toArray 5)).cell? ((⟨w.heap.size + 1, 0, none⟩ : Addr).add j) = some u) :=
    Lib.hid (by
      have h := new_cells (w.alloc (.cells #[.pointer none, .slice none 0 0] 70)) ((En.bytes len).map (Value.int .u8)) 5
      rw [show (w.alloc (.cells #[.pointer none, .slice none 0 0] 70)).heap.size = w.heap.size + 1 by simp] at h
      exact h)
  clear hbd0
  go_wp2_with fail
  refine (bd_Write w.heap.size w.heap.size [] ⟨w.heap.size + 1, 0, none⟩ _ _ ((En.bytes len).map (Value.int .u8)) _ HB.out (by simp) (by omega) (by simp) HN.out (by intro u hu; simp at hu; obtain ⟨x, _, rfl⟩ := hu; rfl) (by simp) (by simp; omega)).mono ?_
  rintro e w2 ⟨rfl, hbd, hb2⟩
  rw [List.nil_append, En.cells_num _ (by omega) (by omega)] at hbd
  have hbel0 : Below w.heap.size w w2 := (((Below.refl _ _).alloc (Nat.le_refl _) _).alloc (by simp) _).trans hb2
  clear HB HN hb2
  go_wp2
  have HC : Hid (∀ k, k < len → En.cat (ss.take (k + 1)) = En.cat (ss.take k) ++ En.text (ss.getD k ByteArray.empty)) := Lib.hid fun k hk => En.cat_take ss k (by omega)
  have HF : Hid (En.fit ss 40 ↔ ∀ j, j < len → (ss.getD j ByteArray.empty).size ≤ 4000) := Lib.hid ⟨fun h j hj => h.1 _ (getD_mem (by omega)), fun h => ⟨fun s hin => by
    obtain ⟨j, hj, rfl⟩ := List.getElem_of_mem hin
    have := h j (by omega)
    rwa [List.getD_eq_getElem?_getD, List.getElem?_eq_getElem hj] at this, by omega⟩⟩
  have HK : Hid (∀ k, k ≤ len → (∀ j, j < k → (ss.getD j ByteArray.empty).size ≤ 4000) → (En.num len ++ En.cat (ss.take k)).size ≤ 5 + 4005 * 40) := Lib.hid fun k hk hj => by
    have h2 := En.cat_size (ss.take k) (fun s hin => by
      obtain ⟨j, hjl, rfl⟩ := List.getElem_of_mem hin
      rw [List.length_take] at hjl
      have := hj j (by omega)
      rw [List.getD_eq_getElem?_getD, List.getElem?_eq_getElem (by omega)] at this
      rwa [List.getElem_take])
    rw [List.length_take] at h2
    have h3 := En.size_num len
    rw [ByteArray.size_append]
    omega
  go_loopw [18] (fun i wr => ∃ k : Nat, k ≤ len ∧ i = .int .i64 (k : Int) ∧ (∀ j, j < k → (ss.getD j ByteArray.empty).size ≤ 4000) ∧ UsedBd w.heap.size w.heap.size (Lib.strCells (En.num len ++ En.cat (ss.take k))) wr ∧ Below w.heap.size w wr)
    (fun i _ => len - (intOf i).toNat)
  case atStart => exact ⟨0, by omega, rfl, fun j hj => absurd hj (by omega), by simpa [En.cat] using hbd, hbel0⟩
  case round =>
    obtain ⟨k, hk, rfl, hsm, hub, hbel⟩ := hrel
    by_cases hlt : k < len
    · have hs' := hs.below hbel
      have hks := HK.out k (by omega) hsm
      have hcat := Lib.hid (HC.out k hlt)
      clear hs hbd hbel0
      obtain ⟨g, off, rfl, _, hc⟩ := hs'.2 (by omega)
      have hck := hc k hlt
      clear hc hs'
      obtain ⟨t, HT⟩ : ∃ t, Hid (ss.getD k ByteArray.empty = t) := ⟨_, Lib.hid rfl⟩
      rw [HT.out] at hck
      have HM := Lib.hid hsm
      clear hsm
      by_cases hbig : (t.size : Int) ≤ 4000
      · have ht := En.text_size t (by omega)
        go_wp2_with fail
        refine (implEncodeText_ok t _ hbig).mono ?_
        rintro e w3 ⟨rfl, hb3⟩
        have hub3 := bd_at_below hub hb3
        have hbel3 := hbel.trans (hb3.mono hbel.size)
        clear hub hb3 hbel
        go_wp2_with fail
        refine (bd_WriteString w.heap.size w.heap.size _ (En.text t) _ (.inr hub3) (by rw [Lib.strCells_length]; omega) (by omega) hbel3.size).mono ?_
        rintro e w4 ⟨rfl, hub4, hb4⟩
        have hbel4 := hbel3.trans hb4
        have hub5 : UsedBd w.heap.size w.heap.size (Lib.strCells (En.num len ++ En.cat (ss.take (k + 1)))) w4 := by
          rw [hcat.out, HT.out, ← ByteArray.append_assoc, En.cells_append (_ ++ _)]
          exact hub4
        clear hub3 hb4 hbel3 hub4
        go_wp2
        go_roundw
        case rel =>
          refine ⟨k + 1, by omega, by simp, fun j hj => ?_, hub5, hbel4⟩
          by_cases hjk : j < k
          · exact HM.out j hjk
          · have : j = k := by omega
            rw [this, HT.out]
            omega
        case measure => simp [intOf]; omega
      · have HNF : Hid (¬ En.fit ss 40) := Lib.hid fun hf => by
          have := HF.out.1 hf k hlt
          rw [HT.out] at this
          omega
        go_wp2_with fail
        refine (implEncodeText_no t _ (by omega)).mono ?_
        rintro e w3 ⟨rfl, hb3⟩
        have hbel3 := hbel.trans (hb3.mono hbel.size)
        clear hub hb3 hbel
        go_wp2
        go_ret2
        exact ⟨.inr ⟨HNF.out, rfl⟩, hbel3⟩
    · have hk2 : k = len := by omega
      have HFit : Hid (En.fit ss 40) := Lib.hid (HF.out.2 fun j hj => hsm j (by omega))
      have HR : Hid (En.texts ss = En.num len ++ En.cat (ss.take k)) := by unfold En.texts; rw [hk2, ← h1, List.take_length]; exact rfl
      clear hk2 hs hbd hsm
      go_wp2_with fail
      refine (Try.Builder_String_any w.heap.size w.heap.size (En.num len ++ En.cat (ss.take k)).data.toList _ (.inr hub) hbel.size).mono ?_
      rintro e w3 ⟨rfl, hb3⟩
      have hbel3 := hbel.trans hb3
      rw [En.mk_self]
      clear hub hbel hb3
      go_wp2
      go_ret2
      exact ⟨.inl ⟨HFit.out, by rw [HR.out]; rfl⟩, hbel3⟩
end Go.Proofs.Ytcbpdibkindnfaa
