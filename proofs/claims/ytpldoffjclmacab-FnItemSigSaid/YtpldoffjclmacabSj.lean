/-
  Contracts of chapter 5: Sign, Verify; of the program and of the model.
-/
import Derived.Test.YtpldoffjclmacabSi
namespace Go.Proofs.Ytpldoffjclmacab
open Go.RowKit

/-- What Sign answers. -/
def Sg.o0 (secret : Int) (t : ByteArray) : Int := if Gr.sok secret then Sg.sr secret t else 0
def Sg.o1 (secret : Int) (t : ByteArray) : Int := if Gr.sok secret then Sg.ss secret t else 0
theorem Sg.o_yes {secret : Int} {t : ByteArray} (h : Gr.sok secret = true) : Sg.o0 secret t = Sg.sr secret t ∧ Sg.o1 secret t = Sg.ss secret t := by
  unfold Sg.o0 Sg.o1
  rw [h, if_pos rfl, if_pos rfl]
  exact ⟨rfl, rfl⟩
theorem Sg.o_no {secret : Int} {t : ByteArray} (h : Gr.sok secret = false) : Sg.o0 secret t = 0 ∧ Sg.o1 secret t = 0 := by
  unfold Sg.o0 Sg.o1
  rw [h, if_neg (by simp), if_neg (by simp)]
  exact ⟨rfl, rfl⟩
theorem Sg.sc_bd (secret : Int) (t : ByteArray) : 0 ≤ Sg.sc secret t ∧ Sg.sc secret t < 1073741789 := Sg.ch_bd _ _ _
set_option maxRecDepth 100000 in
set_option maxHeartbeats 1600000 in
theorem l5Sign_any (x : Int) (t : ByteArray) (w : World) (x0 : 1 ≤ x) (x1 : x ≤ 1073741788) (ht : t.size ≤ 1048576) :
    Calls Try.prog 24 #[.int .i64 x, .string t] w fun e w' => e = .returned (.agg #[.int .i64 (Sg.sr x t), .int .i64 (Sg.ss x t)]) ∧ Below w.heap.size w w' := by
  obtain ⟨n0, n1⟩ := Sg.no_bd x t
  obtain ⟨c0, c1⟩ := Sg.sc_bd x t
  have hcon1 := fun W => l5Nonce_any x t W (by omega) (by omega) ht
  have hcon4 := fun W => l5Challenge_any (Sg.sr x t) (Sg.gp x) t W (Sg.gp_bd _).1 (by have := (Sg.gp_bd (Sg.no x t)).2; unfold Sg.sr; omega) (Sg.gp_bd _).1 (by have := (Sg.gp_bd x).2; omega) ht
  have HC : Hid (Sg.ch (Sg.sr x t) (Sg.gp x) t = Sg.sc x t) := Lib.hid rfl
  have HS : Hid (Sg.ss x t = (Sg.no x t + Sg.sc x t * x) % 1073741789) := Lib.hid rfl
  have HR : Hid (Gr.pw 2147483579 4 (Sg.no x t) = Sg.sr x t) := Lib.hid rfl
  have HK : Hid (Gr.pw 2147483579 4 x = Sg.gp x) := Lib.hid rfl
  rw [HC.out] at hcon4
  obtain ⟨N, HN⟩ : ∃ N, Hid (Sg.no x t = N) := ⟨_, Lib.hid rfl⟩
  obtain ⟨C, HC2⟩ : ∃ C, Hid (Sg.sc x t = C) := ⟨_, Lib.hid rfl⟩
  rw [HC2.out] at hcon4 HS c0 c1
  rw [HN.out] at HS HR hcon1 n0 n1
  obtain ⟨R, HR2⟩ : ∃ R, Hid (Sg.sr x t = R) := ⟨_, Lib.hid rfl⟩
  obtain ⟨K, HK2⟩ : ∃ K, Hid (Sg.gp x = K) := ⟨_, Lib.hid rfl⟩
  rw [HR2.out] at HR hcon4 ⊢
  rw [HK2.out] at HK hcon4
  rw [HS.out]
  obtain ⟨p0, p1⟩ := Gr.mul_bd C x 1073741789 c0 c1 (by omega) (by omega) (by omega)
  clear HC HS HN HC2 HR2 HK2
  have HX : Bk w.heap.size 24 #[.int .i64 0, .int .i64 0] (w.alloc (.cells #[.int .i64 0, .int .i64 0] 24 (0, 0))) := Bk.new _ _ _
  go_enter Try.func24, Try.ntmps24
  go_wp2_with fail
  refine (hcon1 _).mono ?_
  rintro e1 w1 ⟨rfl, hb1⟩
  have HX1 := HX.below hb1
  have hc1 := below_after (below_alloc (Below.refl _ _) _) hb1
  clear HX hb1 hcon1
  go_wp2_with fail
  refine (l4Base_any N _ (by omega)).mono ?_
  rw [HR.out]
  rintro e2 w2 ⟨rfl, rfl⟩
  go_wp2_with fail
  refine (l4Base_any x _ (by omega)).mono ?_
  rw [HK.out]
  rintro e2 w2 ⟨rfl, rfl⟩
  go_wp2_with fail
  refine (hcon4 _).mono ?_
  rintro e4 w4 ⟨rfl, hb4⟩
  have HX4 := HX1.below hb4
  have hc4 := below_after hc1 hb4
  clear HX1 hb4 hc1 hcon4
  obtain ⟨z0, z1⟩ := Bk.c2 HX4
  obtain ⟨f0, f1⟩ := HX4.f2
  have HX5 := Bk.store2 HX4 (.int .i64 R) (.int .i64 ((N + C * x) % 1073741789))
  have hb5 := below_store2 hc4 w.heap.size (by omega) (.int .i64 R) (.int .i64 ((N + C * x) % 1073741789))
  clear HX4 hc4
  go_wp2
  refine bodyPost_ret (results_cell_row (P := Try.prog) rfl _ _ w.heap.size 24 _ (0, 0) _ rfl HX5.held Try.underlying24 rfl (by kernel_rfl)) rfl ?_
  exact ⟨rfl, hb5⟩
end Go.Proofs.Ytpldoffjclmacab
