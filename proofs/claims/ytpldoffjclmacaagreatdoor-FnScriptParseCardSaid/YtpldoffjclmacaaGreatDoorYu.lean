/-
  Contracts of scripts: ScriptParse; of the program.
-/
import Derived.Test.YtpldoffjclmacaaGreatDoorYt
namespace Go.Proofs.YtpldoffjclmacaaGreatDoor
open Go.RowKit

set_option maxRecDepth 100000 in
set_option maxHeartbeats 6400000 in
theorem implScriptParse_any (s : ByteArray) (w : World) (hs : s.size ≤ 1048576) (hg : GX w) : Calls Tryz.prog 9 #[.string s] w (JoPs s w) := by
  have HG := Lib.hid hg
  go_enter Tryz.func9, Tryz.ntmps9
  go_wp2_with fail
  refine (scriptOfText_any s _ hs hg).mono ?_
  rintro e w1 hend
  clear hg
  rcases hend with ⟨z, hp, rfl, hb1⟩ | ⟨l, a, cap, hp, rfl, hown, hb1⟩
  · have hg1 := HG.out.below hb1
    have hE : (w1.alloc (.cells #[.string ⟨#[]⟩] 49 (0, 0))).cell? ⟨1, 0, none⟩ = some (.iface 111 (.agg #[.pointer (some ⟨10, 45, none⟩)])) := by
      have := (hg1.below ((Below.refl _ _).alloc (Nat.le_refl _) (.cells #[.string ⟨#[]⟩] 49 (0, 0)))).2.2.2.2
      rw [th_err] at this
      exact this
    have hc : (w1.alloc (.cells #[.string ⟨#[]⟩] 49 (0, 0))).cell? ⟨w1.heap.size, 0, none⟩ = some (.string ⟨#[]⟩) := (World.cell?_alloc_mark w1 #[.string ⟨#[]⟩] 49 (0, 0) 0)
    have hf : (w1.alloc (.cells #[.string ⟨#[]⟩] 49 (0, 0))).frozen? ⟨w1.heap.size, 0, none⟩ = false := by
      have h1 := heap_alloc_new w1 (.cells #[.string ⟨#[]⟩] 49 (0, 0))
      unfold World.frozen?
      rw [h1]
      rfl
    have HCON := Lib.hid (as_hit z ⟨w1.heap.size, 0, none⟩ (.string ⟨#[]⟩) (w1.alloc (.cells #[.string ⟨#[]⟩] 49 (0, 0))) hE hc hf)
    have HP := Lib.hid hp
    have hbs := hb1.size
    clear hp hE hc hf hg1
    go_wp2_with fail
    refine HCON.out.mono ?_
    rintro e w3 ⟨rfl, hw3⟩
    have hb3 : Below w.heap.size w w3 := by
      rw [hw3]
      refine Below.setCell (p := ⟨w1.heap.size, 0, none⟩) ?_ hbs _
      exact ((((hb1.alloc hbs _).alloc (by simp; omega) _).alloc (by simp; omega) _).alloc (by simp; omega) _).alloc (by simp; omega) _
    clear hw3 HCON hb1
    go_wp2
    go_ret2
    exact .inl ⟨HP.out, rfl, hb3⟩
  · have HP := Lib.hid hp
    have hbs := hb1.size
    have HO := Lib.hid (hown.alloc (.cells #[.string ⟨#[]⟩] 49 (0, 0)))
    have hb2 := hb1.alloc hbs (.cells #[.string ⟨#[]⟩] 49 (0, 0))
    clear hp hown hb1
    go_wp2_with fail
    refine (as_nil _ _).mono ?_
    rintro e w3 ⟨rfl, hw3⟩
    rw [← hw3] at HO hb2
    clear hw3
    go_wp2
    go_ret2
    exact .inr ⟨l, a, cap, HP.out, rfl, HO.out, hb2⟩
end Go.Proofs.YtpldoffjclmacaaGreatDoor
