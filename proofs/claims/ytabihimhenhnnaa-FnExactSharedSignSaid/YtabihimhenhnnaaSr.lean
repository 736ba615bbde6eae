/-
  Contracts of chapter 7: SharedKey; of the program.
-/
import Derived.Test.YtabihimhenhnnaaSe
import Derived.Test.YtabihimhenhnnaaSa
namespace Go.Proofs.Ytabihimhenhnnaa
open Go.RowKit

theorem Sd.no_any {ks : List Int} {n : Nat} (hn : ks.length = n) (h : Sd.room n = false ∨ ∃ j, j < n ∧ Gr.kok (ks.getD j 0) = false) : Sd.ok ks = false ∧ Sd.res ks = 0 := by
  rcases h with h | ⟨j, hj, h⟩
  · have h2 : Sd.ok ks = false := by unfold Sd.ok; rw [hn, h, Bool.false_and, Bool.false_and]
    exact ⟨h2, by unfold Sd.res; rw [h2]; rfl⟩
  · exact Sd.no_good (Sd.good_no ks j h _ (by omega))
theorem Sd.res_eq {ks : List Int} (h0 : 1 ≤ ks.length ∧ ks.length ≤ 8) (h1 : Sd.good ks ks.length = true) : (if Sd.key ks = 1 then 0 else Sd.key ks) = Sd.res ks ∧ (!(Sd.key ks == 1)) = Sd.ok ks := by
  by_cases h : Sd.key ks = 1
  · obtain ⟨a, b⟩ := Sd.no_one h
    rw [a, b, if_pos h, h]
    exact ⟨rfl, rfl⟩
  · obtain ⟨a, b⟩ := Sd.yes h0 h1 h
    rw [a, b, if_neg h]
    exact ⟨rfl, by simp [h]⟩
theorem Sd.kok_lt {k : Int} (h : Gr.kok k = true) : 0 ≤ k ∧ k < 2147483579 := by
  have := ((Sg.kok_iff k).mp h).1
  have h1 := this.pos
  have h2 := this.lt
  omega
set_option maxRecDepth 100000 in
set_option maxHeartbeats 1600000 in
theorem implSharedKey_any (a : Option Addr) (len cap : Nat) (ks : List Int) (w : World) (h : IR w a len ks) (hm : len ≤ 9223372036854775807) :
    Calls Try.prog 8 #[.slice a len cap] w fun e w' => e = .returned (.tuple #[.int .i64 (Sd.res ks), .bool (Sd.ok ks)]) ∧ Below w.heap.size w w' := by
  have hl := h.1
  have hmf := makeFunc_run7
  have e1 : ∀ args w, (callFunc 22 args).run Try.prog w = .ok (.enter 22 args) w := enters_of Try.func22 (by kernel_rfl) rfl
  have HK0 : Bk w.heap.size 23 #[.slice a len cap] (w.alloc (.cells #[.slice a len cap] 23 (0, 0))) := Bk.new _ _ _
  have hb0 : Below w.heap.size w (w.alloc (.cells #[.slice a len cap] 23 (0, 0))) := below_alloc (Below.refl _ _) _
  obtain ⟨w0, Hw0⟩ : ∃ w0, Hid (w.alloc (.cells #[.slice a len cap] 23 (0, 0)) = w0) := ⟨_, Lib.hid rfl⟩
  rw [Hw0.out] at HK0 hb0
  have h0 := h.below hb0
  have hcon1 := gather_any 22 #[.pointer (some ⟨w.heap.size, 0, none⟩)] len (fun _ => 0) ks (fun j => Gr.kok (ks.getD j 0)) w0 hm hl e1
    (fun j _ hk => Sd.kok_lt hk)
    (fun j b W hj hb hbl hP => fillKey_any j b w.heap.size a len cap ks W hj ⟨(hb.block _ HK0.lt).trans HK0.held⟩ (h0.below hb) hP)
  clear h h0 HK0 e1
  go_enter Try.func8, Try.ntmps8
  go_wp2_with fail
  rw [Hw0.out]
  refine hcon1.mono ?_
  rintro e2 w1 ⟨hb1, ⟨rfl, hno⟩ | ⟨g, bs, rfl, hg, hr, hok, hL, hB, hC⟩⟩
  · have HN := Lib.hid (Sd.no_any hl hno)
    have hc1 := below_after hb0 hb1
    clear hcon1 hno hl hb0 hb1 Hw0
    go_wp2
    go_ret2
    exact ⟨by rw [HN.out.1, HN.out.2]; rfl, hc1⟩
  · have hgd : Sd.good ks ks.length = true := Sd.good_all ks ks.length (fun j hj => hok j (by omega))
    have hcon2 := sharedKeyOf_any g len bs (fun _ => 0) ks w1 hl hr.2 hL hC (fun j hj => Sd.kok_bd hgd j (by omega))
    obtain ⟨r1, r2⟩ := Sd.res_eq (ks := ks) (by omega) hgd
    rw [r1, r2] at hcon2
    have hc1 := below_after hb0 hb1
    clear hcon1 hL hB hC hok hgd hr hb0 hb1 Hw0 r1 r2 hg
    go_wp2_with fail
    refine hcon2.mono ?_
    rintro e3 w2 ⟨rfl, hb2⟩
    have hc2 := below_after hc1 hb2
    go_wp2
    go_ret2
    exact ⟨rfl, hc2⟩
end Go.Proofs.Ytabihimhenhnnaa
