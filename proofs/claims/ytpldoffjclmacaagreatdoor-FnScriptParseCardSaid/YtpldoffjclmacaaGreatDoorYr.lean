/-
  Contracts of scripts: opOfWord; of the program.
-/
import Derived.Test.YtpldoffjclmacaaGreatDoorYo
import Derived.Test.YtpldoffjclmacaaGreatDoorYp
import Derived.Test.YtpldoffjclmacaaGreatDoorYq
import Derived.Test.YtpldoffjclmacaaGreatDoorHx
namespace Go.Proofs.YtpldoffjclmacaaGreatDoor
open Go.RowKit Go.Maps

theorem results_cell_tmp3R {P : Program} {fn : Func} {p u : Tmp} {ty : TypeId} (h : fn.results = #[.cell p ty, .tmp u]) (tmps : Array Value) (w : World) (g : Nat) (t : TypeId) (cs : Array Value) (fr : Nat × Nat) (d : TypeDesc)
    (hp : tmps.getD p undef = .pointer (some ⟨g, 0, none⟩)) (hg : w.heap[g]? = some (.cells cs t fr))
    (hu : P.underlying ty = some d) (hd : (match d with | .struct _ | .array _ _ => true | _ => false) = true) (hi : (P.info? ty).map (·.size) = some cs.size) :
    (results fn tmps).run P w = .ok (.tuple #[.agg cs, tmps.getD u undef]) w := by
  rw [results_cell_tmp h]
  have hp' : tmps[p]?.getD undef = .pointer (some ⟨g, 0, none⟩) := by simpa using hp
  simp [Result.andThen, hp', asAddr, run_loadVar_row w g t ty cs fr d hg hu hd hi]
/-- What opOfWord hands back. -/
def OwR (s : ByteArray) (w : World) (e : Ending) (w' : World) : Prop :=
  (∃ c a b t, e = .returned (.tuple #[.agg #[.int .i64 c, .int .i64 a, .int .i64 b, .string t], .nilIface]) ∧ Hid (∃ x, Jo.opOf (Jo.L s) = some x ∧ (x = ⟨c, a, b, t⟩ ∨ (Jo.fld x = false ∧ Jo.fld ⟨c, a, b, t⟩ = false))) ∧ Below w.heap.size w w') ∨
  (∃ z, e = .returned (.tuple #[.agg #[.int .i64 0, .int .i64 0, .int .i64 0, .string ⟨#[]⟩], .iface 49 (.agg #[.string z])]) ∧ Hid (∀ x, Jo.opOf (Jo.L s) = some x → Jo.fld x = false) ∧ Below w.heap.size w w')
theorem pre_yes {s : ByteArray} (h : Lib.hasPrefix s.data.toList (strOfNums (Jo.name 0)).data.toList = true) : ∃ r, s.data.toList = 120 :: r ∧ Lib.trimPrefix s.data.toList (strOfNums (Jo.name 0)).data.toList = r := by
  have e0 : (strOfNums (Jo.name 0)).data.toList = [120] := rfl
  unfold Lib.trimPrefix
  rw [h]
  rw [e0] at h ⊢
  unfold Lib.hasPrefix at h
  cases hs : s.data.toList with
  | nil => rw [hs] at h; cases h
  | cons b r =>
    rw [hs] at h
    simp only [List.isPrefixOf, Bool.and_true, beq_iff_eq] at h
    subst h
    exact ⟨r, rfl, rfl⟩
theorem pre_no {s : ByteArray} (h : Lib.hasPrefix s.data.toList (strOfNums (Jo.name 0)).data.toList = false) : (Jo.L s).head? ≠ some 120 := by
  have e0 : (strOfNums (Jo.name 0)).data.toList = [120] := rfl
  rw [e0] at h
  unfold Lib.hasPrefix at h
  unfold Jo.L
  cases hs : s.data.toList with
  | nil => simp
  | cons b r =>
    rw [hs] at h
    simp only [List.isPrefixOf, Bool.and_true] at h
    simp only [List.map_cons, List.head?_cons]
    intro e
    have e2 : (b.toNat : Int) = 120 := Option.some.inj e
    have e3 : b = 120 := UInt8.toNat_inj.1 (by show b.toNat = 120; omega)
    rw [e3] at h
    exact absurd h (by decide)
theorem opOf_x {s : ByteArray} {r : List UInt8} (h : s.data.toList = 120 :: r) : Jo.opOf (Jo.L s) = if Hx.good ⟨r.toArray⟩ then some ⟨0, 0, 0, strOfNums (Hx.nums ⟨r.toArray⟩ ((⟨r.toArray⟩ : ByteArray).size / 2))⟩ else none := by
  have e1 : Jo.L s = 120 :: Jo.N r := by
    show Jo.N s.data.toList = _
    rw [h]; rfl
  have e2 : strOfNums (Jo.N r) = ⟨r.toArray⟩ := by
    have : Jo.N r = Jo.L ⟨r.toArray⟩ := rfl
    rw [this, Jo.str_L]
  unfold Jo.opOf
  rw [e1]
  simp only [List.head?_cons, if_true, List.tail_cons, e2]
theorem split_head {m : Int} {l p : List Int} {ps : List (List Int)} (h : Jo.split m l = p :: ps) (hp : p ≠ []) : p.head? = l.head? := by
  cases l with
  | nil => simp [Jo.split] at h; exact absurd h.1 hp
  | cons c l =>
    unfold Jo.split at h
    split at h
    · cases h; exact absurd rfl hp
    · split at h
      · cases h; rfl
      · cases h; rfl
/-- The number of parts and the first one decide. -/
theorem opOf_w {s : ByteArray} (hx : (Jo.L s).head? ≠ some 120) {p : List Int} {ps : List (List Int)} (h : Jo.split 58 (Jo.L s) = p :: ps) : Jo.opOf (Jo.L s) = match Jo.find p with
    | none => none
    | some c => if ps.length = Jo.args c then some ⟨(c : Int), Jo.argn ps 0 c, Jo.argn ps 1 c, ⟨#[]⟩⟩ else none := by
  unfold Jo.opOf Jo.opW
  rw [if_neg hx, h]
  rfl
theorem key_of {p0 : ByteArray} {c : Nat} (h : Jo.name c = Jo.L p0) : p0.data.toList = Jo.wkey c := by
  unfold Jo.wkey Jo.wstr
  rw [h, Jo.str_L]
theorem find_miss {s p0 : ByteArray} {ps : List (List Int)} {D : DataW Unit} (hM : Jo.MP 15 D) (hx : (Jo.L s).head? ≠ some 120) (h : Jo.split 58 (Jo.L s) = Jo.L p0 :: ps) (hf : Jo.find (Jo.L p0) = none) : Maps.has D (.string p0.data.toList) = false := by
  rw [Bool.eq_false_iff]
  intro hh
  obtain ⟨j, hj, he⟩ := (hM.has _).1 hh
  have e1 : Jo.name j = Jo.L p0 := by
    have : Jo.wstr j = p0 := ByteArray.ext (Array.toList_inj.1 he)
    rw [← this]
    unfold Jo.wstr
    have hb : ∀ c : Fin 15, ∀ y ∈ Jo.name c.val, 0 ≤ y ∧ y < 256 := by decide +kernel
    rw [Jo.L_str _ (hb ⟨j, hj⟩)]
  by_cases h0 : j = 0
  · subst h0
    have e2 : Jo.L p0 = [120] := e1.symm
    have := split_head h (by rw [e2]; simp)
    rw [e2] at this
    exact hx this.symm
  · have h3 := Jo.find_name ⟨j, hj⟩ (by simp only; omega)
    simp only at h3
    rw [e1, hf] at h3
    cases h3
theorem find_hit {p0 : ByteArray} {D : DataW Unit} (hM : Jo.MP 15 D) {c : Nat} (hf : Jo.find (Jo.L p0) = some c) : Maps.has D (.string p0.data.toList) = true ∧ ∀ z, D.atKey (.string p0.data.toList) z = .lit (.int .i64 (c : Int)) := by
  obtain ⟨h1, h2, h3⟩ := Jo.find_some hf
  rw [key_of h1]
  exact ⟨(hM.has _).2 ⟨c, by omega, rfl⟩, hM.at_ c (by omega)⟩
theorem numbers_loose (D : Nat) (c : Int) (w : World) (hc : w.cell? ⟨D, 0, none⟩ = some (.int .i64 c)) :
    Calls Tryz.prog 35 #[.pointer (some ⟨D, 0, none⟩)] w fun e w' => ∃ a n k, e = .returned (.slice a n k) ∧ n ≤ 2 ∧ Below w.heap.size w w' :=
  (numbers_any D c w hc).mono fun e w' h => by
    rcases h with ⟨g, he, _, _, _, _, _, hb, _⟩ | ⟨g, he, _, _, _, _, hb, _⟩ | ⟨he, _, _, _, hw⟩
    · exact ⟨_, _, _, he, by omega, hb⟩
    · exact ⟨_, _, _, he, by omega, hb⟩
    · exact ⟨_, _, _, he, by omega, by rw [hw]; exact Below.refl _ _⟩
theorem zero_fld12 {a b : Int} (h : a < 1 ∨ 5 < a ∨ b < 1 ∨ 5 < b) : Jo.fld ⟨12, a, b, ⟨#[]⟩⟩ = false := by
  unfold Jo.fld
  simp
  omega
theorem zero_fld13 {a : Int} (h : a < 0 ∨ 9999 < a) : Jo.fld ⟨13, a, 0, ⟨#[]⟩⟩ = false := by
  unfold Jo.fld
  simp
  omega
theorem zero_fld14 {a : Int} (h : a < 1 ∨ 9999 < a) : Jo.fld ⟨14, a, 0, ⟨#[]⟩⟩ = false := by
  unfold Jo.fld
  simp
  omega
theorem GV.lt {w : World} (h : GV w) : (3 : Nat) < w.heap.size := by
  apply Classical.byContradiction
  intro hlt
  have hn : w.heap[(3 : Nat)]? = none := Array.getElem?_eq_none (by omega)
  have h1 := h.2
  unfold Lib.TabIs World.var? at h1
  rw [gTab] at h1
  simp only [Option.bind_some] at h1
  rw [hn] at h1
  simp at h1
theorem GX.set {w w0 : World} (h : GX w) (h0 : GX w0) {D : Nat} (i : Nat) (v : Value) (hD : w0.heap.size ≤ D) : GX (w.setCell ⟨D, i, none⟩ v) := by
  have hc : ∀ g j (u u0 : Value), w0.cell? ⟨g, j, none⟩ = some u0 → w.cell? ⟨g, j, none⟩ = some u → (w.setCell ⟨D, i, none⟩ v).cell? ⟨g, j, none⟩ = some u := fun g j u u0 hg hu => (World.cell?_setCell_other _ _ _ _ (by
    have := World.block_lt_of_cell? w0 _ hg
    intro e; cases e; simp only at this; omega)).trans hu
  have hlt := h0.1.lt
  obtain ⟨⟨h1, h1b⟩, ⟨m, h2⟩, ⟨t3, p3, h3⟩, ⟨t4, p4, h4⟩, h5⟩ := h
  obtain ⟨⟨k1, k1b⟩, ⟨n, k2⟩, ⟨s3, q3, k3⟩, ⟨s4, q4, k4⟩, k5⟩ := h0
  refine ⟨⟨fun c hc' => hc _ _ _ _ (k1 c hc') (h1 c hc'), ?_⟩, ⟨m, hc _ _ _ _ k2 h2⟩, ⟨t3, p3, hc _ _ _ _ k3 h3⟩, ⟨t4, p4, hc _ _ _ _ k4 h4⟩, hc _ _ _ _ k5 h5⟩
  unfold Lib.TabIs World.var? at h1b ⊢
  rw [gTab] at h1b ⊢
  simp only [Option.bind_some] at h1b ⊢
  rw [Below.heap_setCell _ _ _ _ (show (3 : Nat) ≠ D by omega)]
  exact h1b
set_option maxRecDepth 100000 in
set_option maxHeartbeats 6400000 in
theorem opOfWord_x (s : ByteArray) (M : Nat) (w : World) (hs : s.size ≤ 1048576) (hg : GX w) (hp : Lib.hasPrefix s.data.toList (strOfNums (Jo.name 0)).data.toList = true) :
    Calls Tryz.prog 46 #[.string s, .map (some M)] w (OwR s w) := by
  obtain ⟨r, h1, h2⟩ := pre_yes hp
  have HOP := Lib.hid (opOf_x h1)
  have hz : (⟨r.toArray⟩ : ByteArray).size ≤ 1048576 := by
    have e1 := congrArg List.length h1
    rw [Array.length_toList, List.length_cons] at e1
    have e2 : s.data.size = s.size := rfl
    show r.toArray.size ≤ _
    rw [List.size_toArray]
    omega
  have vR0 := Bk.new w 40 #[.int .i64 0, .int .i64 0, .int .i64 0, .string ⟨#[]⟩]
  have hb0 : Below w.heap.size w (w.alloc (.cells #[.int .i64 0, .int .i64 0, .int .i64 0, .string ⟨#[]⟩] 40 (0, 0))) := (Below.refl _ _).alloc (Nat.le_refl _) _
  have hg0 := hg.1.below hb0
  have gn := hg0.1 0 (by omega)
  have hcon := fun W => Tryz.strings_CutPrefix s (strOfNums (Jo.name 0)) W
  rw [hp, h2] at hcon
  have hconF := fun W => implFromHex_any ⟨r.toArray⟩ W hz
  obtain ⟨P0, HP0⟩ : ∃ P, Hid (strOfNums (Jo.name 0) = P) := ⟨_, Lib.hid rfl⟩
  obtain ⟨X, HX⟩ : ∃ P, Hid ((⟨r.toArray⟩ : ByteArray) = P) := ⟨_, Lib.hid rfl⟩
  rw [HP0.out] at gn
  simp only [HP0.out, HX.out] at hcon
  simp only [HX.out] at hconF
  rw [HX.out] at HOP
  clear hp h1 h2 HP0 HX hg hg0 hz
  go_enter Tryz.func46, Tryz.ntmps46
  go_wp2_with fail
  refine (hcon _).mono ?_
  rintro e w1 ⟨rfl, hw1⟩
  have vR1 : Bk w.heap.size 40 #[.int .i64 0, .int .i64 0, .int .i64 0, .string ⟨#[]⟩] w1 := by rw [hw1]; exact vR0
  have hb1 : Below w.heap.size w w1 := by rw [hw1]; exact hb0
  clear hw1 vR0 hb0 gn hcon
  go_wp2_with fail
  refine (hconF _).mono ?_
  rintro e w2 hend
  obtain ⟨v2, rfl, hend, hb2⟩ := hend
  have vR2 := vR1.below hb2
  have hbel2 := below_aft9 hb1 hb2
  clear vR1 hb1 hb2 hconF
  rcases hend with ⟨hgood, rfl⟩ | ⟨hbad, rfl⟩
  · unfold Hx.yes
    obtain ⟨tt, HTT⟩ : ∃ t, Hid (strOfNums (Hx.nums X (X.size / 2)) = t) := ⟨_, Lib.hid rfl⟩
    have HY : Hid (∃ x, Jo.opOf (Jo.L s) = some x ∧ (x = ⟨0, 0, 0, tt⟩ ∨ (Jo.fld x = false ∧ Jo.fld ⟨0, 0, 0, tt⟩ = false))) := Lib.hid ⟨_, by rw [HOP.out, if_pos hgood], .inl (by rw [HTT.out])⟩
    rw [HTT.out]
    clear HOP hgood HTT
    obtain ⟨r0, r1, r2, r3⟩ := Bk.c4 vR2
    obtain ⟨z0, z1, z2, z3⟩ := vR2.f4
    have vR9 := Bk.store4 vR2 (.int .i64 0) (.int .i64 0) (.int .i64 0) (.string tt)
    have hb9 := below_store4 hbel2 w.heap.size (Nat.le_refl _) (.int .i64 0) (.int .i64 0) (.int .i64 0) (.string tt)
    clear vR2 hbel2
    go_wp2
    refine bodyPost_ret (results_cell_tmp3R (P := Tryz.prog) rfl _ _ w.heap.size 40 _ (0, 0) _ rfl vR9.held Tryz.underlying40 rfl (by kernel_rfl)) rfl ?_
    exact .inl ⟨_, _, _, _, rfl, HY, hb9⟩
  · unfold Hx.no
    have HN : Hid (∀ x, Jo.opOf (Jo.L s) = some x → Jo.fld x = false) := Lib.hid fun x hx => by rw [HOP.out, if_neg hbad] at hx; cases hx
    clear HOP hbad
    obtain ⟨r0, r1, r2, r3⟩ := Bk.c4 vR2
    obtain ⟨z0, z1, z2, z3⟩ := vR2.f4
    have vR9 := Bk.store4 vR2 (.int .i64 0) (.int .i64 0) (.int .i64 0) (.string ⟨#[]⟩)
    have hb9 := below_store4 hbel2 w.heap.size (Nat.le_refl _) (.int .i64 0) (.int .i64 0) (.int .i64 0) (.string ⟨#[]⟩)
    clear vR2 hbel2
    go_wp2
    refine bodyPost_ret (results_cell_tmp3R (P := Tryz.prog) rfl _ _ w.heap.size 40 _ (0, 0) _ rfl vR9.held Tryz.underlying40 rfl (by kernel_rfl)) rfl ?_
    exact .inr ⟨_, rfl, HN, hb9⟩
set_option maxRecDepth 100000 in
set_option maxHeartbeats 6400000 in
theorem opOfWord_w (s : ByteArray) (M : Nat) (D : DataW Unit) (w : World) (hs : s.size ≤ 1048576) (hg : GX w) (hown : w.ownsMap Tryz.prog 9 (plainElem Tryz.prog 3) M 15 D) (hM : Jo.MP 15 D) (hp : Lib.hasPrefix s.data.toList (strOfNums (Jo.name 0)).data.toList = false) :
    Calls Tryz.prog 46 #[.string s, .map (some M)] w (OwR s w) := by
  have HX := Lib.hid (pre_no hp)
  have vR0 := Bk.new w 40 #[.int .i64 0, .int .i64 0, .int .i64 0, .string ⟨#[]⟩]
  have hb0 : Below w.heap.size w (w.alloc (.cells #[.int .i64 0, .int .i64 0, .int .i64 0, .string ⟨#[]⟩] 40 (0, 0))) := (Below.refl _ _).alloc (Nat.le_refl _) _
  have hg0 := hg.below hb0
  have gn := hg0.1.1 0 (by omega)
  have hcon := fun W => Tryz.strings_CutPrefix s (strOfNums (Jo.name 0)) W
  rw [hp] at hcon
  obtain ⟨P0, HP0⟩ : ∃ P, Hid (strOfNums (Jo.name 0) = P) := ⟨_, Lib.hid rfl⟩
  obtain ⟨Y0, HY0⟩ : ∃ P, Hid ((⟨(Lib.trimPrefix s.data.toList (strOfNums (Jo.name 0)).data.toList).toArray⟩ : ByteArray) = P) := ⟨_, Lib.hid rfl⟩
  rw [HP0.out] at gn HY0
  simp only [HP0.out, HY0.out] at hcon
  have HM := Lib.hid hM
  clear hp HP0 HY0 hg hM
  go_enter Tryz.func46, Tryz.ntmps46
  go_wp2_with fail
  refine (hcon _).mono ?_
  rintro e w1 ⟨rfl, hw1⟩
  have vR1 : Bk w.heap.size 40 #[.int .i64 0, .int .i64 0, .int .i64 0, .string ⟨#[]⟩] w1 := by rw [hw1]; exact vR0
  have hb1 : Below w.heap.size w w1 := by rw [hw1]; exact hb0
  have hg1 : GX w1 := by rw [hw1]; exact hg0
  have ho1 : w1.ownsMap Tryz.prog 9 (plainElem Tryz.prog 3) M 15 D := hown.kept (row := none) ⟨hb1.os, hb1.tape, hb1.output, hb1.size, fun q hq _ => hb1.block q hq⟩ (by simp)
  clear hw1 vR0 hb0 gn hcon hg0 hown
  obtain ⟨m, hm⟩ := hg1.2.1
  go_wp2_with fail
  refine (parts_any s m _ hs hm).mono ?_
  rintro e w2 ⟨n, ss, rfl, hns, hSB2, hb2, hlt2, hn1, hsp, hszs⟩
  have vR2 := vR1.below hb2
  have hbel2 := below_aft9 hb1 hb2
  have hg2 := hg1.below hb2
  have HG2 := Lib.hid hg2
  have ho2 := ho1.kept (row := none) ⟨hb2.os, hb2.tape, hb2.output, hb2.size, fun q hq _ => hb2.block q hq⟩ (by simp)
  obtain ⟨g, HGB⟩ : ∃ g, Hid (w1.heap.size = g) := ⟨_, Lib.hid rfl⟩
  rw [HGB.out] at hSB2 ⊢
  have hRg : w.heap.size < g := by rw [← HGB.out]; exact vR1.lt
  have hlen := hSB2.1
  obtain ⟨p0, ps, hps⟩ : ∃ p0 ps, ss = p0 :: ps := by
    cases ss with
    | nil => simp at hlen; omega
    | cons a r => exact ⟨a, r, rfl⟩
  subst hps
  have c0 := hSB2.2.2 0 (by omega)
  rw [List.getD_cons_zero] at c0
  have hpz := hszs p0 (List.mem_cons_self ..)
  have HSZ : Hid (∀ j, (ps.getD j ByteArray.empty).size ≤ s.size) := Lib.hid fun j => by
    rw [List.getD_eq_getElem?_getD]
    cases hk : ps[j]? with
    | none => exact Nat.zero_le _
    | some q => exact hszs q (List.mem_cons_of_mem _ (List.mem_of_getElem? hk))
  have HSP : Hid (Jo.split 58 (Jo.L s) = Jo.L p0 :: ps.map Jo.L) := Lib.hid hsp.symm
  have HOP := Lib.hid (opOf_w HX.out HSP.out)
  have HKEY := Lib.hid (jo_keyOf p0 (by unfold maxLen; omega))
  have HMISS := Lib.hid (find_miss HM.out HX.out HSP.out)
  have HHIT := Lib.hid (fun c => find_hit (p0 := p0) HM.out (c := c))
  have hlen' : ps.length + 1 = n := hlen
  have HC2 : Hid (∀ j, j + 1 < n → ∀ W, SB W g n (p0 :: ps) → W.cell? ⟨g, j + 1, none⟩ = some (.string (ps.getD j ByteArray.empty))) := Lib.hid fun j hj W hW => by
    have := hW.2.2 (j + 1) hj
    rwa [List.getD_cons_succ] at this
  clear hsp hszs vR1 hb1 hg1 ho1 hb2 hm hlen HGB
  go_wp2_with (at_lookup; refine wpList_lookup_own_ok_int _ rfl _ _ 77 rfl 9 3 .i64 jo_keyed Tryz.underlying77 Tryz.underlying3 (jo_zero _) M 15 D rfl ho2 _ _ rfl HKEY.out ?_)
  intro c hat hwc
  cases hf : Jo.find (Jo.L p0) with
  | none =>
    have hh := HMISS.out hf
    have HN : Hid (∀ x, Jo.opOf (Jo.L s) = some x → Jo.fld x = false) := Lib.hid fun x hx => by rw [HOP.out, hf] at hx; cases hx
    rw [hh]
    have vX3 := Bk.new w2 40 #[.int .i64 c, .int .i64 0, .int .i64 0, .string ⟨#[]⟩]
    have vR3 := vR2.alloc (.cells #[.int .i64 c, .int .i64 0, .int .i64 0, .string ⟨#[]⟩] 40 (0, 0))
    have hbel3 := hbel2.alloc hbel2.size (.cells #[.int .i64 c, .int .i64 0, .int .i64 0, .string ⟨#[]⟩] 40 (0, 0))
    obtain ⟨x0, x1, x2, x3⟩ := Bk.c4 vX3
    clear hat hwc hh hf HMISS HHIT HOP HKEY HSP ho2 vR2 hbel2
    go_wp2_with fail
    refine (numbers_loose w2.heap.size c _ x0).mono ?_
    rintro e w4 ⟨na, nn, nk, rfl, hnn, hb4⟩
    have vR4 := vR3.below hb4
    have hbel4 := below_aft9 hbel3 hb4
    clear vR3 hbel3 hb4 vX3 x0 x1 x2 x3 c0
    obtain ⟨r0, r1, r2, r3⟩ := Bk.c4 vR4
    obtain ⟨z0, z1, z2, z3⟩ := vR4.f4
    have vR9 := Bk.store4 vR4 (.int .i64 0) (.int .i64 0) (.int .i64 0) (.string ⟨#[]⟩)
    have hb9 := below_store4 hbel4 w.heap.size (Nat.le_refl _) (.int .i64 0) (.int .i64 0) (.int .i64 0) (.string ⟨#[]⟩)
    clear vR4 hbel4
    go_wp2
    refine bodyPost_ret (results_cell_tmp3R (P := Tryz.prog) rfl _ _ w.heap.size 40 _ (0, 0) _ rfl vR9.held Tryz.underlying40 rfl (by kernel_rfl)) rfl ?_
    exact .inr ⟨_, rfl, HN, hb9⟩
  | some k =>
    obtain ⟨hh, hv⟩ := HHIT.out k hf
    obtain ⟨_, k1, k14⟩ := Jo.find_some hf
    have hck : c = (k : Int) := by
      have := hv (.lit (.int .i64 0))
      rw [hat] at this
      injection this with h2
      injection h2 with _ h3
    subst hck
    rw [hh]
    have HOP2 : Hid (Jo.opOf (Jo.L s) = if ps.length = Jo.args k then some ⟨(k : Int), Jo.argn (ps.map Jo.L) 0 k, Jo.argn (ps.map Jo.L) 1 k, ⟨#[]⟩⟩ else none) := Lib.hid (by
      rw [HOP.out, hf]
      simp only [List.length_map])
    have vX3 := Bk.new w2 40 #[.int .i64 (k : Int), .int .i64 0, .int .i64 0, .string ⟨#[]⟩]
    have vR3 := vR2.alloc (.cells #[.int .i64 (k : Int), .int .i64 0, .int .i64 0, .string ⟨#[]⟩] 40 (0, 0))
    have hS3 := hSB2.alloc (.cells #[.int .i64 (k : Int), .int .i64 0, .int .i64 0, .string ⟨#[]⟩] 40 (0, 0))
    have hbel3 := hbel2.alloc hbel2.size (.cells #[.int .i64 (k : Int), .int .i64 0, .int .i64 0, .string ⟨#[]⟩] 40 (0, 0))
    have hg3 := hg2.below ((Below.refl _ _).alloc (Nat.le_refl _) (.cells #[.int .i64 (k : Int), .int .i64 0, .int .i64 0, .string ⟨#[]⟩] 40 (0, 0)))
    have hgX : g < w2.heap.size := hSB2.2.1
    have hRX : w.heap.size ≠ w2.heap.size := by omega
    have hwX : w.heap.size ≤ w2.heap.size := by omega
    obtain ⟨x0, x1, x2, x3⟩ := Bk.c4 vX3
    clear hat hwc hh hv hf HMISS HHIT HOP HKEY HSP ho2 vR2 hbel2 hSB2 hg2
    by_cases k12 : k = 12
    · subst k12
      go_wp2_with fail
      refine (numbers_two w2.heap.size _ x0).mono ?_
      rintro e w4 ⟨g4, rfl, vG4, hgl, hb4⟩
      have vR4 := vR3.below hb4
      have vX4 := vX3.below hb4
      have hS4 := hS3.below hb4
      have hbel4 := below_aft9 hbel3 hb4
      have hg4 := hg3.below hb4
      have hgl4 : w2.heap.size < g4 := by simp at hgl; omega
      clear vR3 vX3 hS3 hbel3 hg3 hb4 x0 x1 x2 x3 c0
      by_cases hn3 : n = 3
      case neg =>
        have HN : Hid (∀ x, Jo.opOf (Jo.L s) = some x → Jo.fld x = false) := Lib.hid fun x hx => by
          rw [HOP2.out, if_neg (by show ¬ ps.length = 2; omega)] at hx; cases hx
        have hq3 : ((n : Int) != 3) = true := by simp; omega
        clear vX4 vG4 hS4 hg4
        obtain ⟨r0, r1, r2, r3⟩ := Bk.c4 vR4
        obtain ⟨z0, z1, z2, z3⟩ := vR4.f4
        have vR9 := Bk.store4 vR4 (.int .i64 0) (.int .i64 0) (.int .i64 0) (.string ⟨#[]⟩)
        have hb9 := below_store4 hbel4 w.heap.size (Nat.le_refl _) (.int .i64 0) (.int .i64 0) (.int .i64 0) (.string ⟨#[]⟩)
        clear vR4 hbel4
        go_wp2
        refine bodyPost_ret (results_cell_tmp3R (P := Tryz.prog) rfl _ _ w.heap.size 40 _ (0, 0) _ rfl vR9.held Tryz.underlying40 rfl (by kernel_rfl)) rfl ?_
        exact .inr ⟨_, rfl, HN, hb9⟩
      subst hn3
      have HOP3 : Hid (Jo.opOf (Jo.L s) = some ⟨12, Jo.num (Jo.L (ps.getD 0 ByteArray.empty)), Jo.num (Jo.L (ps.getD 1 ByteArray.empty)), ⟨#[]⟩⟩) := Lib.hid (by
        rw [HOP2.out, if_pos (by show ps.length = 2; omega)]
        match ps, hlen' with
        | [a, b], _ => rfl)
      have d1 := HC2.out 0 (by omega) w4 hS4
      have hz1 := HSZ.out 0
      have hz2 := HSZ.out 1
      obtain ⟨q1, HQ1⟩ : ∃ q, Hid (ps.getD 0 ByteArray.empty = q) := ⟨_, Lib.hid rfl⟩
      obtain ⟨q2, HQ2⟩ : ∃ q, Hid (ps.getD 1 ByteArray.empty = q) := ⟨_, Lib.hid rfl⟩
      rw [HQ1.out] at d1 hz1 HOP3
      rw [HQ2.out] at hz2 HOP3
      have hsl : ∀ W, (Instr.slice 38 (.slice (some ⟨g, 0, none⟩) 3 3) (some (.int .i64 1)) none none).run Tryz.prog W = .ok (.slice (some ⟨g, 1, none⟩) 2 2) W := fun W => by
        simp [Instr.slice, Instr.sliceBounds, Instr.sliceBound, asIntOf, run_underlying Tryz.underlying38, Addr.add]
      obtain ⟨g0, g1⟩ := Bk.c2 vG4
      obtain ⟨y0, y1, y2, y3⟩ := Bk.c4 vX4
      clear HOP2
      go_wp2
      refine wp_loop_rounds 3 ?_
      rw [rounds_succ]
      go_wp2_with fail
      refine (plainNumber_any q1 _ (by omega) hg4).mono ?_
      rintro e w5 ⟨n1, ok1, rfl, HT1, hb5⟩
      have vR5 := vR4.below hb5
      have vX5 := vX4.below hb5
      have vG5 := vG4.below hb5
      have hS5 := hS4.below hb5
      have hbel5 := below_aft9 hbel4 hb5
      have hg5 := hg4.below hb5
      clear vR4 vX4 vG4 hS4 hbel4 hg4 hb5 d1 g0 g1 y0 y1 y2 y3
      cases ok1
      · have HN : Hid (∀ x, Jo.opOf (Jo.L s) = some x → Jo.fld x = false) := Lib.hid fun x hx => by
          rw [HOP3.out] at hx; cases hx
          rw [HT1.out.2 rfl]; exact zero_fld12 (.inl (by omega))
        clear vX5 vG5 hS5 hg5 HOP3 HT1
        obtain ⟨r0, r1, r2, r3⟩ := Bk.c4 vR5
        obtain ⟨z0, z1, z2, z3⟩ := vR5.f4
        have vR9 := Bk.store4 vR5 (.int .i64 0) (.int .i64 0) (.int .i64 0) (.string ⟨#[]⟩)
        have hb9 := below_store4 hbel5 w.heap.size (Nat.le_refl _) (.int .i64 0) (.int .i64 0) (.int .i64 0) (.string ⟨#[]⟩)
        clear vR5 hbel5
        go_wp2
        refine bodyPost_ret (results_cell_tmp3R (P := Tryz.prog) rfl _ _ w.heap.size 40 _ (0, 0) _ rfl vR9.held Tryz.underlying40 rfl (by kernel_rfl)) rfl ?_
        exact .inr ⟨_, rfl, HN, hb9⟩
      obtain ⟨g0, g1⟩ := Bk.c2 vG5
      obtain ⟨f0, f1, f2, f3⟩ := vX5.f4
      obtain ⟨y0, y1, y2, y3⟩ := Bk.c4 vX5
      have vX6 : Bk w2.heap.size 40 #[.int .i64 12, .int .i64 n1, .int .i64 0, .string ⟨#[]⟩] _ := vX5.set 1 (.int .i64 n1)
      have vR6 := vR5.oset w2.heap.size 1 (.int .i64 n1) hRX
      have vG6 := vG5.oset w2.heap.size 1 (.int .i64 n1) (by omega)
      have hS6 : SB (w5.setCell ⟨w2.heap.size, 1, none⟩ (.int .i64 n1)) g 3 (p0 :: ps) := ⟨hS5.1, by simpa [World.setCell] using hS5.2.1, fun j hj => (World.cell?_setCell_other _ _ _ _ (by intro e; cases e; omega)).trans (hS5.2.2 j hj)⟩
      have hbel6 := hbel5.setCell (p := ⟨w2.heap.size, 1, none⟩) hwX (.int .i64 n1)
      have hg6 := GX.set hg5 HG2.out (D := w2.heap.size) 1 (.int .i64 n1) (Nat.le_refl _)
      have d2 := HC2.out 1 (by omega) _ hS6
      rw [HQ2.out] at d2
      obtain ⟨i0, i1⟩ := Bk.c2 vG6
      clear vR5 vX5 vG5 hS5 hbel5 hg5
      go_wp2
      rw [rounds_succ]
      go_wp2_with fail
      refine (plainNumber_any q2 _ (by omega) hg6).mono ?_
      rintro e w7 ⟨n2, ok2, rfl, HT2, hb7⟩
      have vR7 := vR6.below hb7
      have vX7 := vX6.below hb7
      have vG7 := vG6.below hb7
      have hbel7 := below_aft9 hbel6 hb7
      clear vR6 vX6 vG6 hS6 hbel6 hg6 hb7 d2 g0 g1 y0 y1 y2 y3 f0 f1 f2 f3 i0 i1
      cases ok2
      · have HN : Hid (∀ x, Jo.opOf (Jo.L s) = some x → Jo.fld x = false) := Lib.hid fun x hx => by
          rw [HOP3.out] at hx; cases hx
          rw [HT2.out.2 rfl]; exact zero_fld12 (.inr (.inr (.inl (by omega))))
        clear vX7 vG7 HOP3 HT1 HT2
        obtain ⟨r0, r1, r2, r3⟩ := Bk.c4 vR7
        obtain ⟨z0, z1, z2, z3⟩ := vR7.f4
        have vR9 := Bk.store4 vR7 (.int .i64 0) (.int .i64 0) (.int .i64 0) (.string ⟨#[]⟩)
        have hb9 := below_store4 hbel7 w.heap.size (Nat.le_refl _) (.int .i64 0) (.int .i64 0) (.int .i64 0) (.string ⟨#[]⟩)
        clear vR7 hbel7
        go_wp2
        refine bodyPost_ret (results_cell_tmp3R (P := Tryz.prog) rfl _ _ w.heap.size 40 _ (0, 0) _ rfl vR9.held Tryz.underlying40 rfl (by kernel_rfl)) rfl ?_
        exact .inr ⟨_, rfl, HN, hb9⟩
      obtain ⟨g0, g1⟩ := Bk.c2 vG7
      obtain ⟨f0, f1, f2, f3⟩ := vX7.f4
      obtain ⟨y0, y1, y2, y3⟩ := Bk.c4 vX7
      have vX8 : Bk w2.heap.size 40 #[.int .i64 12, .int .i64 n1, .int .i64 n2, .string ⟨#[]⟩] _ := vX7.set 2 (.int .i64 n2)
      have vR8 := vR7.oset w2.heap.size 2 (.int .i64 n2) hRX
      have hbel8 := hbel7.setCell (p := ⟨w2.heap.size, 2, none⟩) hwX (.int .i64 n2)
      have HY : Hid (∃ x, Jo.opOf (Jo.L s) = some x ∧ (x = ⟨12, n1, n2, ⟨#[]⟩⟩ ∨ (Jo.fld x = false ∧ Jo.fld ⟨12, n1, n2, ⟨#[]⟩⟩ = false))) := Lib.hid (by
        refine ⟨_, HOP3.out, ?_⟩
        rcases HT1.out.1 rfl with e1 | ⟨e1, e2⟩
        · rcases HT2.out.1 rfl with e3 | ⟨e3, e4⟩
          · left; rw [e1, e3]
          · right; rw [e3]; exact ⟨zero_fld12 (.inr (.inr (.inl (by omega)))), zero_fld12 (by omega)⟩
        · right; rw [e1]; exact ⟨zero_fld12 (.inl (by omega)), zero_fld12 (by omega)⟩)
      clear vX7 vG7 vR7 hbel7 HOP3 HT1 HT2
      go_wp2
      rw [rounds_succ]
      obtain ⟨b0, b1, b2, b3⟩ := Bk.c4 vX8
      obtain ⟨r0, r1, r2, r3⟩ := Bk.c4 vR8
      obtain ⟨z0, z1, z2, z3⟩ := vR8.f4
      have vR9 := Bk.store4 vR8 (.int .i64 12) (.int .i64 n1) (.int .i64 n2) (.string ⟨#[]⟩)
      have hb9 := below_store4 hbel8 w.heap.size (Nat.le_refl _) (.int .i64 12) (.int .i64 n1) (.int .i64 n2) (.string ⟨#[]⟩)
      clear vR8 hbel8
      go_wp2
      refine bodyPost_ret (results_cell_tmp3R (P := Tryz.prog) rfl _ _ w.heap.size 40 _ (0, 0) _ rfl vR9.held Tryz.underlying40 rfl (by kernel_rfl)) rfl ?_
      exact .inl ⟨_, _, _, _, rfl, HY, hb9⟩
    by_cases k13 : k = 13
    · subst k13
      go_wp2_with fail
      refine (numbers_one w2.heap.size 13 _ x0 (by omega)).mono ?_
      rintro e w4 ⟨g4, rfl, vG4, hgl, hb4⟩
      have vR4 := vR3.below hb4
      have vX4 := vX3.below hb4
      have hS4 := hS3.below hb4
      have hbel4 := below_aft9 hbel3 hb4
      have hg4 := hg3.below hb4
      have hgl4 : w2.heap.size < g4 := by simp at hgl; omega
      clear vR3 vX3 hS3 hbel3 hg3 hb4 x0 x1 x2 x3 c0
      by_cases hn3 : n = 2
      case neg =>
        have HN : Hid (∀ x, Jo.opOf (Jo.L s) = some x → Jo.fld x = false) := Lib.hid fun x hx => by
          rw [HOP2.out, if_neg (by show ¬ ps.length = 1; omega)] at hx; cases hx
        have hq3 : ((n : Int) != 2) = true := by simp; omega
        clear vX4 vG4 hS4 hg4
        obtain ⟨r0, r1, r2, r3⟩ := Bk.c4 vR4
        obtain ⟨z0, z1, z2, z3⟩ := vR4.f4
        have vR9 := Bk.store4 vR4 (.int .i64 0) (.int .i64 0) (.int .i64 0) (.string ⟨#[]⟩)
        have hb9 := below_store4 hbel4 w.heap.size (Nat.le_refl _) (.int .i64 0) (.int .i64 0) (.int .i64 0) (.string ⟨#[]⟩)
        clear vR4 hbel4
        go_wp2
        refine bodyPost_ret (results_cell_tmp3R (P := Tryz.prog) rfl _ _ w.heap.size 40 _ (0, 0) _ rfl vR9.held Tryz.underlying40 rfl (by kernel_rfl)) rfl ?_
        exact .inr ⟨_, rfl, HN, hb9⟩
      subst hn3
      have HOP3 : Hid (Jo.opOf (Jo.L s) = some ⟨13, Jo.num (Jo.L (ps.getD 0 ByteArray.empty)), 0, ⟨#[]⟩⟩) := Lib.hid (by
        rw [HOP2.out, if_pos (by show ps.length = 1; omega)]
        match ps, hlen' with
        | [a], _ => rfl)
      have d1 := HC2.out 0 (by omega) w4 hS4
      have hz1 := HSZ.out 0
      obtain ⟨q1, HQ1⟩ : ∃ q, Hid (ps.getD 0 ByteArray.empty = q) := ⟨_, Lib.hid rfl⟩
      rw [HQ1.out] at d1 hz1 HOP3
      have hsl : ∀ W, (Instr.slice 38 (.slice (some ⟨g, 0, none⟩) 2 2) (some (.int .i64 1)) none none).run Tryz.prog W = .ok (.slice (some ⟨g, 1, none⟩) 1 1) W := fun W => by
        simp [Instr.slice, Instr.sliceBounds, Instr.sliceBound, asIntOf, run_underlying Tryz.underlying38, Addr.add]
      have g0 : w4.cell? ⟨g4, 0, none⟩ = some (.pointer (some ⟨w2.heap.size, 1, none⟩)) := vG4.cell 0
      obtain ⟨y0, y1, y2, y3⟩ := Bk.c4 vX4
      clear HOP2
      go_wp2
      refine wp_loop_rounds 2 ?_
      rw [rounds_succ]
      go_wp2_with fail
      refine (plainNumber_any q1 _ (by omega) hg4).mono ?_
      rintro e w5 ⟨n1, ok1, rfl, HT1, hb5⟩
      have vR5 := vR4.below hb5
      have vX5 := vX4.below hb5
      have vG5 := vG4.below hb5
      have hbel5 := below_aft9 hbel4 hb5
      clear vR4 vX4 vG4 hS4 hbel4 hg4 hb5 d1 g0 y0 y1 y2 y3
      cases ok1
      · have HN : Hid (∀ x, Jo.opOf (Jo.L s) = some x → Jo.fld x = false) := Lib.hid fun x hx => by
          rw [HOP3.out] at hx; cases hx
          rw [HT1.out.2 rfl]; exact zero_fld13 (.inl (by omega))
        clear vX5 vG5 HOP3 HT1
        obtain ⟨r0, r1, r2, r3⟩ := Bk.c4 vR5
        obtain ⟨z0, z1, z2, z3⟩ := vR5.f4
        have vR9 := Bk.store4 vR5 (.int .i64 0) (.int .i64 0) (.int .i64 0) (.string ⟨#[]⟩)
        have hb9 := below_store4 hbel5 w.heap.size (Nat.le_refl _) (.int .i64 0) (.int .i64 0) (.int .i64 0) (.string ⟨#[]⟩)
        clear vR5 hbel5
        go_wp2
        refine bodyPost_ret (results_cell_tmp3R (P := Tryz.prog) rfl _ _ w.heap.size 40 _ (0, 0) _ rfl vR9.held Tryz.underlying40 rfl (by kernel_rfl)) rfl ?_
        exact .inr ⟨_, rfl, HN, hb9⟩
      have g0 : w5.cell? ⟨g4, 0, none⟩ = some (.pointer (some ⟨w2.heap.size, 1, none⟩)) := vG5.cell 0
      obtain ⟨f0, f1, f2, f3⟩ := vX5.f4
      obtain ⟨y0, y1, y2, y3⟩ := Bk.c4 vX5
      have vX6 : Bk w2.heap.size 40 #[.int .i64 13, .int .i64 n1, .int .i64 0, .string ⟨#[]⟩] _ := vX5.set 1 (.int .i64 n1)
      have vR6 := vR5.oset w2.heap.size 1 (.int .i64 n1) hRX
      have hbel6 := hbel5.setCell (p := ⟨w2.heap.size, 1, none⟩) hwX (.int .i64 n1)
      have HY : Hid (∃ x, Jo.opOf (Jo.L s) = some x ∧ (x = ⟨13, n1, 0, ⟨#[]⟩⟩ ∨ (Jo.fld x = false ∧ Jo.fld ⟨13, n1, 0, ⟨#[]⟩⟩ = false))) := Lib.hid (by
        refine ⟨_, HOP3.out, ?_⟩
        rcases HT1.out.1 rfl with e1 | ⟨e1, e2⟩
        · left; rw [e1]
        · right; rw [e1]; exact ⟨zero_fld13 (.inl (by omega)), zero_fld13 (by omega)⟩)
      clear vR5 vX5 vG5 hbel5 HOP3 HT1
      go_wp2
      rw [rounds_succ]
      obtain ⟨b0, b1, b2, b3⟩ := Bk.c4 vX6
      obtain ⟨r0, r1, r2, r3⟩ := Bk.c4 vR6
      obtain ⟨z0, z1, z2, z3⟩ := vR6.f4
      have vR9 := Bk.store4 vR6 (.int .i64 13) (.int .i64 n1) (.int .i64 0) (.string ⟨#[]⟩)
      have hb9 := below_store4 hbel6 w.heap.size (Nat.le_refl _) (.int .i64 13) (.int .i64 n1) (.int .i64 0) (.string ⟨#[]⟩)
      clear vR6 hbel6
      go_wp2
      refine bodyPost_ret (results_cell_tmp3R (P := Tryz.prog) rfl _ _ w.heap.size 40 _ (0, 0) _ rfl vR9.held Tryz.underlying40 rfl (by kernel_rfl)) rfl ?_
      exact .inl ⟨_, _, _, _, rfl, HY, hb9⟩
    by_cases k14 : k = 14
    · subst k14
      go_wp2_with fail
      refine (numbers_one w2.heap.size 14 _ x0 (by omega)).mono ?_
      rintro e w4 ⟨g4, rfl, vG4, hgl, hb4⟩
      have vR4 := vR3.below hb4
      have vX4 := vX3.below hb4
      have hS4 := hS3.below hb4
      have hbel4 := below_aft9 hbel3 hb4
      have hg4 := hg3.below hb4
      have hgl4 : w2.heap.size < g4 := by simp at hgl; omega
      clear vR3 vX3 hS3 hbel3 hg3 hb4 x0 x1 x2 x3 c0
      by_cases hn3 : n = 2
      case neg =>
        have HN : Hid (∀ x, Jo.opOf (Jo.L s) = some x → Jo.fld x = false) := Lib.hid fun x hx => by
          rw [HOP2.out, if_neg (by show ¬ ps.length = 1; omega)] at hx; cases hx
        have hq3 : ((n : Int) != 2) = true := by simp; omega
        clear vX4 vG4 hS4 hg4
        obtain ⟨r0, r1, r2, r3⟩ := Bk.c4 vR4
        obtain ⟨z0, z1, z2, z3⟩ := vR4.f4
        have vR9 := Bk.store4 vR4 (.int .i64 0) (.int .i64 0) (.int .i64 0) (.string ⟨#[]⟩)
        have hb9 := below_store4 hbel4 w.heap.size (Nat.le_refl _) (.int .i64 0) (.int .i64 0) (.int .i64 0) (.string ⟨#[]⟩)
        clear vR4 hbel4
        go_wp2
        refine bodyPost_ret (results_cell_tmp3R (P := Tryz.prog) rfl _ _ w.heap.size 40 _ (0, 0) _ rfl vR9.held Tryz.underlying40 rfl (by kernel_rfl)) rfl ?_
        exact .inr ⟨_, rfl, HN, hb9⟩
      subst hn3
      have HOP3 : Hid (Jo.opOf (Jo.L s) = some ⟨14, Jo.num (Jo.L (ps.getD 0 ByteArray.empty)), 0, ⟨#[]⟩⟩) := Lib.hid (by
        rw [HOP2.out, if_pos (by show ps.length = 1; omega)]
        match ps, hlen' with
        | [a], _ => rfl)
      have d1 := HC2.out 0 (by omega) w4 hS4
      have hz1 := HSZ.out 0
      obtain ⟨q1, HQ1⟩ : ∃ q, Hid (ps.getD 0 ByteArray.empty = q) := ⟨_, Lib.hid rfl⟩
      rw [HQ1.out] at d1 hz1 HOP3
      have hsl : ∀ W, (Instr.slice 38 (.slice (some ⟨g, 0, none⟩) 2 2) (some (.int .i64 1)) none none).run Tryz.prog W = .ok (.slice (some ⟨g, 1, none⟩) 1 1) W := fun W => by
        simp [Instr.slice, Instr.sliceBounds, Instr.sliceBound, asIntOf, run_underlying Tryz.underlying38, Addr.add]
      have g0 : w4.cell? ⟨g4, 0, none⟩ = some (.pointer (some ⟨w2.heap.size, 1, none⟩)) := vG4.cell 0
      obtain ⟨y0, y1, y2, y3⟩ := Bk.c4 vX4
      clear HOP2
      go_wp2
      refine wp_loop_rounds 2 ?_
      rw [rounds_succ]
      go_wp2_with fail
      refine (plainNumber_any q1 _ (by omega) hg4).mono ?_
      rintro e w5 ⟨n1, ok1, rfl, HT1, hb5⟩
      have vR5 := vR4.below hb5
      have vX5 := vX4.below hb5
      have vG5 := vG4.below hb5
      have hbel5 := below_aft9 hbel4 hb5
      clear vR4 vX4 vG4 hS4 hbel4 hg4 hb5 d1 g0 y0 y1 y2 y3
      cases ok1
      · have HN : Hid (∀ x, Jo.opOf (Jo.L s) = some x → Jo.fld x = false) := Lib.hid fun x hx => by
          rw [HOP3.out] at hx; cases hx
          rw [HT1.out.2 rfl]; exact zero_fld14 (.inl (by omega))
        clear vX5 vG5 HOP3 HT1
        obtain ⟨r0, r1, r2, r3⟩ := Bk.c4 vR5
        obtain ⟨z0, z1, z2, z3⟩ := vR5.f4
        have vR9 := Bk.store4 vR5 (.int .i64 0) (.int .i64 0) (.int .i64 0) (.string ⟨#[]⟩)
        have hb9 := below_store4 hbel5 w.heap.size (Nat.le_refl _) (.int .i64 0) (.int .i64 0) (.int .i64 0) (.string ⟨#[]⟩)
        clear vR5 hbel5
        go_wp2
        refine bodyPost_ret (results_cell_tmp3R (P := Tryz.prog) rfl _ _ w.heap.size 40 _ (0, 0) _ rfl vR9.held Tryz.underlying40 rfl (by kernel_rfl)) rfl ?_
        exact .inr ⟨_, rfl, HN, hb9⟩
      have g0 : w5.cell? ⟨g4, 0, none⟩ = some (.pointer (some ⟨w2.heap.size, 1, none⟩)) := vG5.cell 0
      obtain ⟨f0, f1, f2, f3⟩ := vX5.f4
      obtain ⟨y0, y1, y2, y3⟩ := Bk.c4 vX5
      have vX6 : Bk w2.heap.size 40 #[.int .i64 14, .int .i64 n1, .int .i64 0, .string ⟨#[]⟩] _ := vX5.set 1 (.int .i64 n1)
      have vR6 := vR5.oset w2.heap.size 1 (.int .i64 n1) hRX
      have hbel6 := hbel5.setCell (p := ⟨w2.heap.size, 1, none⟩) hwX (.int .i64 n1)
      have HY : Hid (∃ x, Jo.opOf (Jo.L s) = some x ∧ (x = ⟨14, n1, 0, ⟨#[]⟩⟩ ∨ (Jo.fld x = false ∧ Jo.fld ⟨14, n1, 0, ⟨#[]⟩⟩ = false))) := Lib.hid (by
        refine ⟨_, HOP3.out, ?_⟩
        rcases HT1.out.1 rfl with e1 | ⟨e1, e2⟩
        · left; rw [e1]
        · right; rw [e1]; exact ⟨zero_fld14 (.inl (by omega)), zero_fld14 (by omega)⟩)
      clear vR5 vX5 vG5 hbel5 HOP3 HT1
      go_wp2
      rw [rounds_succ]
      obtain ⟨b0, b1, b2, b3⟩ := Bk.c4 vX6
      obtain ⟨r0, r1, r2, r3⟩ := Bk.c4 vR6
      obtain ⟨z0, z1, z2, z3⟩ := vR6.f4
      have vR9 := Bk.store4 vR6 (.int .i64 14) (.int .i64 n1) (.int .i64 0) (.string ⟨#[]⟩)
      have hb9 := below_store4 hbel6 w.heap.size (Nat.le_refl _) (.int .i64 14) (.int .i64 n1) (.int .i64 0) (.string ⟨#[]⟩)
      clear vR6 hbel6
      go_wp2
      refine bodyPost_ret (results_cell_tmp3R (P := Tryz.prog) rfl _ _ w.heap.size 40 _ (0, 0) _ rfl vR9.held Tryz.underlying40 rfl (by kernel_rfl)) rfl ?_
      exact .inl ⟨_, _, _, _, rfl, HY, hb9⟩
    have harg : Jo.args k = 0 := by unfold Jo.args; rw [if_neg k12, if_neg (by omega)]
    go_wp2_with fail
    refine (numbers_none w2.heap.size (k : Int) _ x0 (by omega) (by omega) (by omega)).mono ?_
    rintro e w4 ⟨rfl, hw4⟩
    rw [← hw4] at vR3 vX3 hbel3 hS3 hg3 x0 x1 x2 x3
    clear hw4 c0
    by_cases hn1' : n = 1
    case neg =>
      have HN : Hid (∀ x, Jo.opOf (Jo.L s) = some x → Jo.fld x = false) := Lib.hid fun x hx => by
        rw [HOP2.out, if_neg (by rw [harg]; omega)] at hx; cases hx
      have hq3 : ((n : Int) != 1) = true := by simp; omega
      clear vX3 hS3 hg3 k12 k13 k14 harg
      obtain ⟨r0, r1, r2, r3⟩ := Bk.c4 vR3
      obtain ⟨z0, z1, z2, z3⟩ := vR3.f4
      have vR9 := Bk.store4 vR3 (.int .i64 0) (.int .i64 0) (.int .i64 0) (.string ⟨#[]⟩)
      have hb9 := below_store4 hbel3 w.heap.size (Nat.le_refl _) (.int .i64 0) (.int .i64 0) (.int .i64 0) (.string ⟨#[]⟩)
      clear vR3 hbel3
      go_wp2
      refine bodyPost_ret (results_cell_tmp3R (P := Tryz.prog) rfl _ _ w.heap.size 40 _ (0, 0) _ rfl vR9.held Tryz.underlying40 rfl (by kernel_rfl)) rfl ?_
      exact .inr ⟨_, rfl, HN, hb9⟩
    subst hn1'
    have HY : Hid (∃ x, Jo.opOf (Jo.L s) = some x ∧ (x = ⟨(k : Int), 0, 0, ⟨#[]⟩⟩ ∨ (Jo.fld x = false ∧ Jo.fld ⟨(k : Int), 0, 0, ⟨#[]⟩⟩ = false))) := Lib.hid (by
      refine ⟨_, by rw [HOP2.out, if_pos (by rw [harg]; omega)], .inl ?_⟩
      unfold Jo.argn
      rw [harg]
      simp)
    obtain ⟨sa, hsl⟩ : ∃ sa, ∀ W, (Instr.slice 38 (.slice (some ⟨g, 0, none⟩) 1 1) (some (.int .i64 1)) none none).run Tryz.prog W = .ok (.slice sa 0 0) W := ⟨_, fun W => by
      simp [Instr.slice, Instr.sliceBounds, Instr.sliceBound, asIntOf, run_underlying Tryz.underlying38, Addr.add]
      rfl⟩
    clear k12 k13 k14 harg HOP2
    go_wp2
    refine wp_loop_rounds 1 ?_
    rw [rounds_succ]
    obtain ⟨r0, r1, r2, r3⟩ := Bk.c4 vR3
    obtain ⟨z0, z1, z2, z3⟩ := vR3.f4
    have vR9 := Bk.store4 vR3 (.int .i64 (k : Int)) (.int .i64 0) (.int .i64 0) (.string ⟨#[]⟩)
    have hb9 := below_store4 hbel3 w.heap.size (Nat.le_refl _) (.int .i64 (k : Int)) (.int .i64 0) (.int .i64 0) (.string ⟨#[]⟩)
    clear vR3 hbel3
    go_wp2
    refine bodyPost_ret (results_cell_tmp3R (P := Tryz.prog) rfl _ _ w.heap.size 40 _ (0, 0) _ rfl vR9.held Tryz.underlying40 rfl (by kernel_rfl)) rfl ?_
    exact .inl ⟨_, _, _, _, rfl, HY, hb9⟩
end Go.Proofs.YtpldoffjclmacaaGreatDoor
