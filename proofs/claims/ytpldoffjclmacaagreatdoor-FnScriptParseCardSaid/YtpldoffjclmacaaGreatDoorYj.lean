/-
  What the laid variables give: the words, the table of powers of ten.
-/
import Derived.Test.YtpldoffjclmacaaGreatDoorYh
import Derived.Test.YtpldoffjclmacaaGreatDoorRows
import Derived.ProofKit
import Derived.LaidMore
import Derived.OpenShut
namespace Go.Proofs.YtpldoffjclmacaaGreatDoor
open Go.RowKit Go.ChangeShapes Go.WideElems Go.Lib

theorem cells_of_strs {H : Type} {enc : TypeId × Value → H} {P : Program} {w : World} {base : Nat} {sp : Nat → Bool} {held : Bool} {fuel : Nat} {t e : TypeId} {n : Nat} {cs : List Value} {ls : List (List UInt8)} {p : List MemPlace}
    (ht : P.underlying t = some (.array n e)) (he : P.underlying e = some .string) (hce : P.cellsOf e = 1) (hct : P.cellsOf t = n)
    (h : DataW.trod enc P w base sp held fuel t cs = some (.agg (ls.map fun l => .lit (.string l)), p)) : cs = ls.map fun l => Value.string ⟨l.toArray⟩ := by
  cases fuel with
  | zero => simp [DataW.trod] at h
  | succ fuel =>
    simp only [DataW.trod, ht, hce, hct, Nat.mul_one] at h
    split at h
    · rename_i hl
      obtain ⟨xs, hm, hx⟩ := Option.map_eq_some_iff.1 h
      have hxs : xs.map (·.1) = ls.map fun l => (DataW.lit (.string l) : DataW H) := by
        have := congrArg Prod.fst hx
        simpa using this
      have hxl : xs.length = n := by simpa using mapM_length hm
      have hzl : ls.length = n := by
        have := congrArg List.length hxs
        simp at this
        omega
      apply List.ext_getElem?
      intro i
      by_cases hi : i < n
      · obtain ⟨b, hb, hf⟩ := mapM_at hm i i (by simp [hi])
        obtain ⟨z, hc, rfl, _⟩ := DataW.trod_string he hf
        have h1 : cs[i]? = some (.string z) := by
          have := congrArg (·[0]?) hc
          simpa [List.getElem?_take, List.getElem?_drop] using this
        have h2 : (xs.map (·.1))[i]? = some (DataW.lit (.string z.data.toList) : DataW H) := by simp [hb]
        rw [hxs] at h2
        simp only [List.getElem?_map, Option.map_eq_some_iff, DataW.lit.injEq, Lit.string.injEq] at h2
        obtain ⟨z', hz', rfl⟩ := h2
        simp [h1, hz']
      · rw [List.getElem?_eq_none (by omega), List.getElem?_eq_none (by simp; omega)]
    · cases h
theorem gWords : Tryz.prog.globalNamed "loop.example/workchain/impl.opWords" = some 0 := by kernel_rfl
theorem tWords : (Tryz.prog.globals[(0 : Nat)]?).map (·.type) = some 63 := by kernel_rfl
theorem tTab : (Tryz.prog.globals[(3 : Nat)]?).map (·.type) = some 144 := by kernel_rfl
def wordBytes : List (List UInt8) := [[120], [100, 117, 112], [100, 114, 111, 112], [115, 119, 97, 112], [101, 113, 117, 97, 108], [110, 111, 116], [105, 102], [101, 108, 115, 101], [101, 110, 100], [118, 101, 114, 105, 102, 121], [100, 105, 103, 101, 115, 116], [115, 105, 103, 110], [109, 97, 110, 121], [97, 102, 116, 101, 114], [111, 108, 100, 101, 114]]
/-- From the two variables' readings to what the walks ask. -/
theorem gv_of {W : World} {cs ct : Array Value} {f1 f2 : Nat} {p1 p2 : List MemPlace}
    (hv1 : W.var? Tryz.prog "loop.example/workchain/impl.opWords" = some cs) (hd1 : DataW.trod (fun _ => ()) Tryz.prog W 0 (fun _ => true) false f1 63 cs.toList = some (Rows.laid_loop_example_workchain_impl_opWords, p1))
    (hv2 : W.var? Tryz.prog "internal/strconv.uint64pow10" = some ct) (hd2 : DataW.trod (fun _ => ()) Tryz.prog W 0 (fun _ => true) false f2 144 ct.toList = some (Rows.laid_internal_strconv_uint64pow10, p2)) : GV W := by
  have e1 := cells_of_strs (ls := wordBytes) Tryz.underlying63 Tryz.underlying9 (by kernel_rfl) (by kernel_rfl) hd1
  have e2 := cells_of_tab (k := .u64) (zs := Lib.pow10Tab) Tryz.underlying144 Tryz.underlying134 (by kernel_rfl) (by kernel_rfl) hd2
  refine ⟨fun c hc => ?_, ?_⟩
  · have h := World.var?_cell gWords hv1 c
    have h2 : cs[c]? = some (.string (strOfNums (Jo.name c))) := by
      rw [← Array.getElem?_toList, e1]
      rcases c with _ | _ | _ | _ | _ | _ | _ | _ | _ | _ | _ | _ | _ | _ | _ | c
      all_goals first | rfl | omega
    rw [h2] at h
    simpa using h
  · unfold Lib.TabIs
    rw [hv2, ← e2]
end Go.Proofs.YtpldoffjclmacaaGreatDoor
