/-
  Contracts of chapter 7: signing together; of the model.
-/
import Derived.Test.YtabihimhenhnnaaSa
import Derived.Test.YtabihimhenhnnaaOw
import Derived.Deep.RegionHeld3
namespace Go.Proofs.Ytabihimhenhnnaa
open Go.RowKit

def Sd.kl (us : List Int) : Nat → List Int
  | 0 => []
  | k + 1 => Sd.kl us k ++ [Gr.key (us.getD k 0)]
theorem Sd.kl_len (us : List Int) : ∀ k, (Sd.kl us k).length = k := by
  intro k
  induction k with
  | zero => rfl
  | succ k ih => unfold Sd.kl; rw [List.length_append, ih]; rfl
theorem Sd.kl_take (us : List Int) : ∀ k, k ≤ us.length → Sd.kl us k = (us.take k).map Gr.key := by
  intro k
  induction k with
  | zero => intro _; rw [List.take_zero]; rfl
  | succ k ih =>
    intro h
    unfold Sd.kl
    rw [ih (by omega), List.take_succ_eq_append_getElem (by omega : k < us.length), List.map_append, List.getD_eq_getElem?_getD, List.getElem?_eq_getElem (by omega : k < us.length)]
    rfl
theorem Sd.kl_all (us : List Int) : Sd.kl us us.length = Sd.keys us := by
  rw [Sd.kl_take us _ (Nat.le_refl _), List.take_length]
  rfl
theorem info_int7 : (Try.prog.info? 3).map (fun i => (i.zero, i.size, i.bytes)) = some (some (.int .i64 0), 1, 8) := by kernel_rfl
/-- What l7Keys answers. -/
def KP (us : List Int) (n : Nat) (w : World) (e : Ending) (w' : World) : Prop := Below w.heap.size w w' ∧
  ((Sd.sgood us n = false ∧ e = .returned (.tuple #[.slice none 0 0, .bool false])) ∨
   (Sd.sgood us n = true ∧ ∃ g cp, e = .returned (.tuple #[.slice (some ⟨g, 0, none⟩) n cp, .bool true]) ∧ IR w' (some ⟨g, 0, none⟩) n (Sd.keys us)))
set_option maxRecDepth 100000 in
set_option maxHeartbeats 1600000 in
theorem l7Keys_any (a : Option Addr) (len cap : Nat) (us : List Int) (w : World) (h : IR w a len us) (hm : len ≤ 1048576) :
    Calls Try.prog 39 #[.slice a len cap] w fun e w' => KP us len w e w' := by
  obtain ⟨i0, hi, hz0, hz1, hz2⟩ := info_parts info_int7
  have hl := h.1
  have hown0 : (w.alloc (.cells #[] 3)).ownsRow w.heap.size 3 1 (.slice (some ⟨w.heap.size, 0, none⟩) 0 0) 0 [] :=
    World.ownsRow_made (e := 3) (size := 1) w #[] 0 (Nat.le_refl _) (by decide) rfl
  have hb0 : Below w.heap.size w (w.alloc (.cells #[] 3)) := below_alloc (Below.refl _ _) _
  go_enter Try.func39, Try.ntmps39
  go_wp2
  go_loopw [4, 5] (fun o i wr => ∃ (k g cp : Nat), k ≤ len ∧ i = .int .i64 (k : Int) ∧ o = .slice (some ⟨g, 0, none⟩) k cp ∧ Hid (Sd.sgood us k = true) ∧ wr.ownsRow w.heap.size 3 1 (.slice (some ⟨g, 0, none⟩) k cp) k ((Sd.kl us k).map (Value.int .i64)) ∧ Below w.heap.size w wr)
    (fun _ i _ => len - (intOf i).toNat)
  case atStart => exact ⟨0, w.heap.size, 0, by omega, rfl, rfl, Lib.hid rfl, hown0, hb0⟩
  case round =>
    obtain ⟨k, g, cp, hk1, rfl, rfl, hgd, hown, hbel⟩ := hrel
    clear hown0 hb0
    by_cases hlt : k < len
    · obtain ⟨ba, offa, rfl, hba, hca⟩ := (h.below hbel).2 (by omega)
      have c0 := hca k hlt
      have HG : Hid (Sd.sgood us (k + 1) = Gr.sok (us.getD k 0)) := Lib.hid (by show (Sd.sgood us k && _) = _; rw [hgd.out, Bool.true_and])
      have hno : Gr.sok (us.getD k 0) = false → Hid (Sd.sgood us len = false) := fun hf => Lib.hid (Sd.sgood_no us k hf _ (by omega))
      have HL : Hid (Sd.kl us (k + 1) = Sd.kl us k ++ [Gr.key (us.getD k 0)]) := Lib.hid rfl
      have hcon := specKeyOf_any (us.getD k 0)
      obtain ⟨K, HK⟩ : ∃ K, Hid (Gr.key (us.getD k 0) = K) := ⟨_, Lib.hid rfl⟩
      rw [HK.out] at HL hcon
      obtain ⟨V, HV⟩ : ∃ V, Hid (us.getD k 0 = V) := ⟨_, Lib.hid rfl⟩
      rw [HV.out] at c0 HG hno hcon
      have hbw := hbel.size
      cases hs : Gr.sok V
      · have HN := hno hs
        rw [hs] at hcon
        clear hca h hno HV HK hs HG hown HL
        go_wp2_with fail
        refine (hcon _).mono ?_
        rintro e2 w2 ⟨rfl, rfl⟩
        go_wp2
        go_ret2
        exact ⟨hbel, Or.inl ⟨HN.out, rfl⟩⟩
      · rw [hs] at hcon HG
        clear hca h hno HV HK hs
        go_wp2_with fail
        refine (hcon _).mono ?_
        rintro e2 w2 ⟨rfl, rfl⟩
        go_wp2_with (at_builtin; refine wpList_append_own _ rfl _ _ 23 rfl w.heap.size 3 i0 (.int .i64 0) 1 8 Try.underlying23 hi hz0 hz1 hz2 rfl (by decide) _ _ _ rfl (hown.alloc (.cells #[.int .i64 K] 3 (0, 0))) ⟨w2.heap.size, 0, none⟩ 1 1 [.int .i64 K] rfl rfl ?c1 ?c2 ?c3 ?c4 ?c5 ?_)
        case c1 => exact one_new _ _ _
        case c2 => intro u hu; simp at hu; subst hu; rfl
        case c3 => unfold maxLen; omega
        case c4 => omega
        case c5 => simp; omega
        intro v' w5 hown5 hgrow _
        have hb5 : Below w.heap.size w w5 := Below.grown (below_alloc hbel (.cells #[.int .i64 K] 3 (0, 0))) hgrow (below_alloc hbel (.cells #[.int .i64 K] 3 (0, 0))).size (fun j he => (hown.lt _ he).1)
        obtain ⟨g5, cp5, rfl⟩ : ∃ g cp, v' = .slice (some ⟨g, 0, none⟩) (k + 1) cp := by
          rcases hown5.2 with ⟨h, h0⟩ | ⟨g, cap, cur, h, _⟩
          · omega
          · exact ⟨_, _, h⟩
        have hown6 : w5.ownsRow w.heap.size 3 1 (.slice (some ⟨g5, 0, none⟩) (k + 1) cp5) (k + 1) ((Sd.kl us (k + 1)).map (Value.int .i64)) := by
          rw [HL.out, List.map_append]
          exact hown5
        clear hown5 hgrow hown HL
        go_wp2
        go_roundw
        case rel => exact ⟨k + 1, g5, cp5, by omega, by simp, rfl, Lib.hid HG.out, hown6, hb5⟩
        case measure => simp [intOf]; omega
    · have hk2 : k = len := by omega
      subst hk2
      have hE : Sd.kl us k = Sd.keys us := by have := Sd.kl_all us; rwa [hl] at this
      rw [hE] at hown
      have hI := (IR.own hown).2
      clear hown h
      go_wp2
      go_ret2
      exact ⟨hbel, Or.inr ⟨hgd.out, g, cp, rfl, hI⟩⟩
end Go.Proofs.Ytabihimhenhnnaa
