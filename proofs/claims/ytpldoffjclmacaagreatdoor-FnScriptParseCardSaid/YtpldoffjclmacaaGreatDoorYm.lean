/-
  Contracts of scripts: ScriptParse; of the model.
-/
import Derived.Test.YtpldoffjclmacaaGreatDoorOj
import Derived.Test.YtpldoffjclmacaaGreatDoorOk
namespace Go.Proofs.YtpldoffjclmacaaGreatDoor
open Go.RowKit

/-- What l10Split hands back; the block is one of strings. -/
def JoSp2 (ps : List (List Int)) (w : World) (e : Ending) (w' : World) : Prop :=
  ∃ g cap, e = .returned (.slice (some ⟨g, 0, none⟩) ps.length cap) ∧ w.heap.size ≤ g ∧ g < w'.heap.size ∧ (∀ j, j < ps.length → w'.cell? ⟨g, j, none⟩ = some (.string (strOfNums (ps.getD j [])))) ∧ Below w.heap.size w w' ∧ ∃ cs, w'.heap[g]? = some (.cells cs 9 (0, 0))
set_option maxRecDepth 100000 in
set_option maxHeartbeats 1600000 in
theorem l10Split_two (s : ByteArray) (m : Int) (w : World) (hs : s.size ≤ 900000) (m0 : 0 ≤ m) (m1 : m < 256) :
    Calls Tryz.prog 26 #[.string s, .int .u8 m] w (JoSp2 (Jo.split m (Jo.L s)) w) := by
  obtain ⟨i0, hi, hz0, hz1, hz2⟩ := info_parts info_str9
  have HALL : Hid (Jo.split m (Jo.L s) = Jo.sp m s s.size) := Lib.hid (by
    unfold Jo.sp
    rw [List.take_of_length_le (by rw [Jo.L_len]; exact Nat.le_refl _)])
  go_enter Tryz.func26, Tryz.ntmps26
  go_wp2
  go_loopw [5, 6] (fun v i wr => ∃ k : Nat, k ≤ s.size ∧ i = .int .i64 (k : Int) ∧ Hid (wr.ownsRow w.heap.size 9 1 v (Jo.sp m s k).length (Jo.vals (Jo.sp m s k))) ∧ Below w.heap.size w wr)
    (fun _ i _ => s.size - (intOf i).toNat)
  case atStart => exact ⟨0, by omega, rfl, Lib.hid ⟨rfl, .inr ⟨w.heap.size, 1, #[.string ⟨#[]⟩], rfl, Nat.le_refl _, heap_alloc_new w _, Nat.le_refl _, by decide, rfl, rfl⟩⟩, (Below.refl _ _).alloc (Nat.le_refl _) _⟩
  case round =>
    obtain ⟨k, hk, rfl, HOWN, hbel⟩ := hrel
    obtain ⟨l1, l2, l3⟩ := Jo.sp_len m s k
    obtain ⟨n, hn⟩ : ∃ n, (Jo.sp m s k).length = n + 1 := ⟨(Jo.sp m s k).length - 1, by omega⟩
    have hown := HOWN.out
    rw [hn] at hown l2
    obtain ⟨g, cp, rfl⟩ : ∃ g cp, u5 = .slice (some ⟨g, 0, none⟩) (n + 1) cp := by
      rcases hown.2 with ⟨_, h0⟩ | ⟨g, cap', cur, h1, _⟩
      · omega
      · exact ⟨_, _, h1⟩
    have hncp : n + 1 ≤ cp := by
      rcases hown.2 with ⟨h0, _⟩ | ⟨g', cap', cur, h1, _, _, h2, _⟩
      · cases h0
      · cases h1; exact h2
    have hglt := (hown.lt g rfl)
    have HN := Lib.hid hn
    clear HOWN l1
    by_cases hlt : k < s.size
    · have hb := En.byt_bd s k
      have hx : ∀ h : k < s.size, ((s[k]'h).toNat : Int) = En.byt s k := fun h => En.byt_eq _ _ h
      have HSUC := Lib.hid (Jo.sp_succ (m := m) hlt)
      have hsl0 : ∀ W, (Instr.slice 9 (.string s) (some (.int .i64 (k : Int))) (some (.int .i64 ((k : Int) + 1))) none).run Tryz.prog W = .ok (.string (strOfNums [En.byt s k])) W := fun W => by
        have e : s.extract k (k + 1) = strOfNums [En.byt s k] := by
          apply Jo.L_inj
          rw [Jo.L_str _ (fun x hx => by simp at hx; subst hx; exact En.byt_bd s k), Jo.L_extract, show k + 1 - k = 1 by omega]
          have hl : k < (Jo.L s).length := by rw [Jo.L_len]; exact hlt
          rw [List.drop_eq_getElem_cons hl]
          have := Jo.L_get s k hlt
          rw [List.getElem?_eq_getElem hl] at this
          rw [Option.some.inj this]
          rfl
        rw [← e]
        exact sl_mid9 s k (k + 1) _ _ rfl (by omega) (by omega) (by omega) W
      obtain ⟨x, HX⟩ : ∃ x, Hid (En.byt s k = x) := ⟨_, Lib.hid rfl⟩
      rw [HX.out] at hb HSUC
      simp only [HX.out] at hx hsl0
      by_cases hxm : x = m
      · subst hxm
        have hq : (x == x) = true := by simp
        have hbs := hbel.size
        have HNX : Hid (Jo.sp x s (k + 1) = Jo.sp x s k ++ [[]]) := Lib.hid (by
          rw [HSUC.out]
          obtain ⟨p, ps, hp⟩ := Jo.split_ne x ((Jo.L s).take k)
          have : Jo.sp x s k = p :: ps := hp
          rw [this, Jo.put_mark])
        have S1 := Lib.hid (one_new wr (.string ⟨#[]⟩) 9)
        clear hsl0 hn
        go_wp2_with (at_builtin; refine wpList_append_own _ rfl _ _ 38 rfl w.heap.size 9 i0 (.string ⟨#[]⟩) 1 16 Tryz.underlying38 hi hz0 hz1 hz2 rfl (by decide) _ _ _ rfl (hown.alloc (.cells #[.string ⟨#[]⟩] 9 (0, 0))) ⟨wr.heap.size, 0, none⟩ 1 1 [.string ⟨#[]⟩] rfl rfl ?_ ?_ ?_ ?_ ?_ ?_)
        any_goals first | exact S1.out | (intro u hu; simp at hu; subst hu; rfl) | (unfold maxLen; omega) | omega | (simp; omega)
        intro v' w5 hown5 hgrow _
        have hown6 : Hid (w5.ownsRow w.heap.size 9 1 v' (Jo.sp x s (k + 1)).length (Jo.vals (Jo.sp x s (k + 1)))) := Lib.hid (by
          rw [HNX.out, List.length_append, HN.out]
          unfold Jo.vals
          rw [List.map_append]
          exact hown5)
        have hbel2 : Below w.heap.size w w5 := (hbel.alloc hbs (.cells #[.string ⟨#[]⟩] 9)).grown hgrow (by simp; omega) (fun q hq => (hown.lt _ hq).1)
        clear hown hown5 hgrow hbel
        go_wp2
        go_roundw
        case rel => exact ⟨k + 1, by omega, by simp, hown6, hbel2⟩
        case measure => simp [intOf]; omega
      · have hq : (x == m) = false := by simpa using hxm
        have HNX : Hid (Jo.sp m s (k + 1) = (Jo.sp m s k).set n ((Jo.sp m s k).getD n [] ++ [x])) := Lib.hid (by rw [HSUC.out, Jo.put_char hxm _ n hn])
        have hpl := l3 n
        have hcell : wr.cell? ⟨g, n, none⟩ = some (.string (strOfNums ((Jo.sp m s k).getD n []))) := by
          have h1 := hown.cells (g := g) rfl n (.string (strOfNums ((Jo.sp m s k).getD n []))) (by
            unfold Jo.vals
            rw [List.getElem?_map, List.getD_eq_getElem?_getD, List.getElem?_eq_getElem (by omega)]
            rfl)
          have hadr : (⟨g, 0, none⟩ : Addr).add n = ⟨g, n, none⟩ := by unfold Addr.add; split <;> simp_all
          rwa [hadr] at h1
        obtain ⟨P, HP⟩ : ∃ P, Hid ((Jo.sp m s k).getD n [] = P) := ⟨_, Lib.hid rfl⟩
        rw [HP.out] at hcell hpl HNX
        have hfro : wr.frozen? ⟨g, n, none⟩ = false := by
          rcases hown.2 with ⟨h0, _⟩ | ⟨g', cap', cur, h1, _, hh, _⟩
          · cases h0
          · cases h1
            simp [World.frozen?, hh]
        have hadd := fun W => str_add W P [x] (by simp; omega)
        have hw1 : IntKind.i64.wrap ((k : Int) + 1) = (k : Int) + 1 := IntWalk.i64_in _ (by omega)
        have hown2 := ownsRow_set hown n (.string (strOfNums (P ++ [x])))
        have hb2 := hbel.setCell (p := ⟨g, n, none⟩) hglt.1 (.string (strOfNums (P ++ [x])))
        have hfd : wr.drew.frozen? ⟨g, n, none⟩ = false := hfro
        have hcd : wr.drew.cell? ⟨g, n, none⟩ = some (.string (strOfNums P)) := hcell
        have HF : Hid (((wr.drew.setCell ⟨g, n, none⟩ (.string (strOfNums (P ++ [x])))).ownsRow w.heap.size 9 1 (.slice (some ⟨g, 0, none⟩) (n + 1) cp) (n + 1) ((Jo.vals (Jo.sp m s k)).set n (.string (strOfNums (P ++ [x]))))) ∧ Below w.heap.size w (wr.drew.setCell ⟨g, n, none⟩ (.string (strOfNums (P ++ [x]))))) := Lib.hid ⟨hown2, hbel.drew.setCell (p := ⟨g, n, none⟩) hglt.1 _⟩
        clear hown hown2 hb2 hbel hn l3 HP
        go_wp2
        go_region
        go_wp2
        go_roundw
        case rel => exact ⟨k + 1, by omega, by simp, Lib.hid (by
            rw [HNX.out, List.length_set, HN.out]
            unfold Jo.vals
            rw [List.map_set]
            exact HF.out.1), HF.out.2⟩
        case measure => simp [intOf]; omega
    · obtain rfl : k = s.size := by omega
      have hcells : Hid (∀ j, j < (Jo.sp m s s.size).length → wr.cell? ⟨g, j, none⟩ = some (.string (strOfNums ((Jo.sp m s s.size).getD j [])))) := Lib.hid fun j hj => by
        have h1 := hown.cells (g := g) rfl j (.string (strOfNums ((Jo.sp m s s.size).getD j []))) (by
          unfold Jo.vals
          rw [List.getElem?_map, List.getD_eq_getElem?_getD, List.getElem?_eq_getElem hj]
          rfl)
        have hadr : (⟨g, 0, none⟩ : Addr).add j = ⟨g, j, none⟩ := by unfold Addr.add; split <;> simp_all
        rwa [hadr] at h1
      have HT : Hid (∃ cs, wr.heap[g]? = some (.cells cs 9 (0, 0))) := Lib.hid (by
        rcases hown.2 with ⟨h0, _⟩ | ⟨g', cap', cur, h1, _, hh, _⟩
        · cases h0
        · cases h1; exact ⟨cur, hh⟩)
      have HG := Lib.hid hglt
      clear hown hn l3 hglt
      go_wp2
      go_ret
      exact ⟨g, cp, by rw [HALL.out, HN.out]; rfl, HG.out.1, HG.out.2, by rw [HALL.out]; exact hcells.out, hbel, HT.out⟩
/-- What ScriptParse hands back. -/
def JoPs (s : ByteArray) (w : World) (e : Ending) (w' : World) : Prop :=
  (Jo.parse (Jo.L s) = none ∧ e = .returned (.tuple #[.slice none 0 0, .bool false]) ∧ Below w.heap.size w w') ∨
  (∃ l a cap, Jo.parse (Jo.L s) = some l ∧ e = .returned (.tuple #[.slice a l.length cap, .bool true]) ∧ w'.ownsRow w.heap.size 40 4 (.slice a l.length cap) l.length (Jo.cells l) ∧ Below w.heap.size w w')
theorem four_newP (W : World) (a b c d : Value) (t : TypeId) (B : Nat) (hB : B = W.heap.size) : ∀ j u, [a, b, c, d][j]? = some u → (W.alloc (.cells #[a, b, c, d] t (0, 0))).cell? ((⟨B, 0, none⟩ : Addr).add j) = some u := by
  subst hB
  intro j u hj
  have hadr : (⟨W.heap.size, 0, none⟩ : Addr).add j = ⟨W.heap.size, j, none⟩ := by unfold Addr.add; split <;> simp_all
  rw [hadr]
  exact (World.cell?_alloc_mark W #[a, b, c, d] t (0, 0) j).trans (by simpa using hj)
theorem own_typeP {w : World} {B n k : Nat} {v : Value} {bs : List Value} {D : Nat} {cs : Array Value} {t e : TypeId} {fr : Nat × Nat} (hown : w.ownsRow B e k v n bs) (ht : t ≠ e) (hD : w.heap[D]? = some (.cells cs t fr)) : v.ownBlock ≠ some D := by
  intro h
  rcases hown.2 with ⟨he, _⟩ | ⟨g, cap, cur, he, _, hh, _⟩
  · rw [he] at h; simp [Value.ownBlock] at h
  · rw [he] at h
    have hg : g = D := by simpa [Value.ownBlock] using h
    subst hg
    rw [hD] at hh
    cases hh
    exact ht rfl
theorem Jo.L_nil {s : ByteArray} : Jo.L s = [] ↔ s.size = 0 := by
  rw [← Jo.L_len]; exact List.length_eq_zero_iff.symm
theorem Jo.parse_big {s : ByteArray} (h : 7000 < s.size) : Jo.parse (Jo.L s) = none := by
  unfold Jo.parse
  rw [if_neg (fun e => by have := Jo.L_nil.1 e; omega), if_pos (by rw [Jo.L_len]; exact h)]
theorem Jo.parse_nil {s : ByteArray} (h : s.size = 0) : Jo.parse (Jo.L s) = some [] := by
  unfold Jo.parse
  rw [if_pos (Jo.L_nil.2 h)]
theorem Jo.parse_of {s : ByteArray} (h0 : s.size ≠ 0) (h : s.size ≤ 7000) : Jo.parse (Jo.L s) = match Jo.ops (Jo.split 32 (Jo.L s)) with
    | none => none
    | some l => if Jo.ok l = true then some l else none := by
  unfold Jo.parse
  rw [if_neg (fun e => h0 (Jo.L_nil.1 e)), if_neg (by rw [Jo.L_len]; omega)]
  cases Jo.ops (Jo.split 32 (Jo.L s)) <;> rfl
set_option maxRecDepth 100000 in
set_option maxHeartbeats 3200000 in
theorem specScriptParse_any (s : ByteArray) (w : World) (hs : s.size ≤ 1048576) : Calls Tryz.prog 12 #[.string s] w (JoPs s w) := by
  obtain ⟨i0, hi, hz0, hz1, hz2⟩ := info_parts info_op
  have hE := str_empty_iff s
  have hown0 : (w.alloc (.cells #[] 40 (0, 0))).ownsRow w.heap.size 40 4 (.slice (some ⟨w.heap.size, 0, none⟩) 0 0) 0 (Jo.cells []) := World.ownsRow_made _ _ _ (Nat.le_refl _) (by decide) rfl
  have hbel0 : Below w.heap.size w (w.alloc (.cells #[] 40 (0, 0))) := (Below.refl _ _).alloc (Nat.le_refl _) _
  by_cases h0 : s.size = 0
  · have hne : s.toList.isEmpty = true := by rw [hE]; exact decide_eq_true h0
    have HP := Lib.hid (Jo.parse_nil h0)
    have HO := Lib.hid hown0
    clear hE h0 hown0
    go_enter Tryz.func12, Tryz.ntmps12
    go_wp2
    go_ret2
    exact .inr ⟨[], _, _, HP.out, rfl, HO.out, hbel0⟩
  have hne : s.toList.isEmpty = false := by rw [hE]; exact decide_eq_false h0
  by_cases hbig : 7000 < s.size
  · have HP := Lib.hid (Jo.parse_big hbig)
    have hgt : (7000 : Int) < (s.size : Int) := by omega
    clear hE h0 hown0
    go_enter Tryz.func12, Tryz.ntmps12
    go_wp2
    go_ret2
    exact .inl ⟨HP.out, rfl, hbel0⟩
  have hgt : ¬ (7000 : Int) < (s.size : Int) := by omega
  have HP := Lib.hid (Jo.parse_of h0 (by omega))
  have hcon := fun W => l10Split_two s 32 W (by omega) (by decide) (by decide)
  have HSL := Lib.hid (Jo.split_len 32 (Jo.L s))
  have HBD := Lib.hid (Jo.split_bd (m := 32) (Jo.L_bd (s := s)))
  have HLL := Lib.hid (Jo.L_len s)
  obtain ⟨ws, HW⟩ : ∃ ws, Hid (Jo.split 32 (Jo.L s) = ws) := ⟨_, Lib.hid rfl⟩
  rw [HW.out] at HP HSL HBD
  simp only [HW.out] at hcon
  have hnw : ws.length ≤ 7001 := by have := HSL.out.1; rw [HLL.out] at this; omega
  have HWZ : Hid (∀ k, (strOfNums (ws.getD k [])).size ≤ 7000) := Lib.hid fun k => by
    rw [strOfNums_size, List.getD_eq_getElem?_getD]
    cases hk : ws[k]? with
    | none => simp
    | some p => have := HSL.out.2 p (List.mem_of_getElem? hk); rw [HLL.out] at this; simp only [Option.getD_some]; omega
  have HLK : Hid (∀ k, Jo.L (strOfNums (ws.getD k [])) = ws.getD k []) := Lib.hid fun k => Jo.L_str _ (by
    rw [List.getD_eq_getElem?_getD]
    cases hk : ws[k]? with
    | none => intro c hc; cases hc
    | some p => exact HBD.out p (List.mem_of_getElem? hk))
  obtain ⟨n, HN⟩ : ∃ n, Hid (ws.length = n) := ⟨_, Lib.hid rfl⟩
  rw [HN.out] at hnw
  clear hE HW HSL HLL HBD h0 hbig
  go_enter Tryz.func12, Tryz.ntmps12
  go_wp2_with fail
  refine (hcon _).mono ?_
  rintro e w1 ⟨g, cap, he, hg0, hglt, hcells, hb1, cs, hcs⟩
  rw [HN.out] at he
  subst he
  have HO1 := Lib.hid (hown0.kept (row := none) ⟨hb1.os, hb1.tape, hb1.output, hb1.size, fun q hq _ => hb1.block q hq⟩ (Classical.em _))
  have hbel1 := below_aft9 hbel0 hb1
  have HCS := Lib.hid hcs
  have HCC : Hid (∀ W : World, W.heap[g]? = some (.cells cs 9 (0, 0)) → ∀ j, j < n → W.cell? ⟨g, j, none⟩ = some (.string (strOfNums (ws.getD j [])))) := Lib.hid fun W hW j hj => by
    have h1 := hcells j (by rw [HN.out]; exact hj)
    have e1 : w1.cell? ⟨g, j, none⟩ = cs[j]? := by simp [World.cell?, hcs]
    have e2 : W.cell? ⟨g, j, none⟩ = cs[j]? := by simp [World.cell?, hW]
    rw [e2, ← e1]; exact h1
  clear hown0 hbel0 hcells hb1 hcs hcon
  go_wp2
  go_loopw [4, 6] (fun v i wr => ∃ (k : Nat) (l : List Jo), k ≤ n ∧ i = .int .i64 (k : Int) ∧ Hid (wr.ownsRow w.heap.size 40 4 v k (Jo.cells l)) ∧ Hid (l.length = k) ∧ Hid (Jo.ops (ws.take k) = some l) ∧ Hid (wr.heap[g]? = some (.cells cs 9 (0, 0))) ∧ Below w.heap.size w wr)
    (fun _ i _ => n - (intOf i).toNat)
  case atStart => exact ⟨0, [], by omega, rfl, HO1, Lib.hid rfl, Lib.hid rfl, HCS, hbel1⟩
  case round =>
    obtain ⟨k, l, hk, rfl, HOWN, HLEN, HOPS, HG, hbel⟩ := hrel
    clear HO1 HCS hbel1 hglt
    have hbs := hbel.size
    obtain ⟨va, vc, rfl⟩ : ∃ va vc, u4 = .slice va k vc := by
      rcases HOWN.out.2 with ⟨h1, h2⟩ | ⟨g, cap', cur, h1, _⟩
      · exact ⟨none, 0, by rw [h1, h2]⟩
      · exact ⟨_, _, h1⟩
    by_cases hlt : k < n
    · have ck := HCC.out wr HG.out k hlt
      have hgl := lt_of_block HG.out
      have hcon := fun W => l10Op_any (strOfNums (ws.getD k [])) W (by have := HWZ.out k; omega)
      rw [HLK.out k] at hcon
      have HYES := Lib.hid (Jo.ops_take (ws := ws) (k := k) (by rw [HN.out]; exact hlt) HOPS.out)
      have HBAD := Lib.hid (Jo.ops_take_bad (ws := ws) (k := k) (by rw [HN.out]; exact hlt) HOPS.out)
      obtain ⟨S, HS⟩ : ∃ S, Hid (strOfNums (ws.getD k []) = S) := ⟨_, Lib.hid rfl⟩
      rw [HS.out] at ck hcon
      have HCON := Lib.hid hcon
      clear hcon HS
      go_wp2_with fail
      refine (HCON.out _).mono ?_
      rintro e w2 ⟨c, a, b, t, ok, rfl, hy, hno, hb2⟩
      have hbel2 := below_aft9 hbel hb2
      have hbs2 := hbel2.size
      have HO2 := Lib.hid ((HOWN.out.kept (row := none) ⟨hb2.os, hb2.tape, hb2.output, hb2.size, fun q hq _ => hb2.block q hq⟩ (Classical.em _)).alloc (.cells #[.int .i64 c, .int .i64 a, .int .i64 b, .string t] 40 (0, 0)))
      have HG2 := Lib.hid ((hb2.block g hgl).trans HG.out)
      have hbel3 := hbel2.alloc hbs2 (.cells #[.int .i64 c, .int .i64 a, .int .i64 b, .string t] 40 (0, 0))
      have vX := Bk.new w2 40 #[.int .i64 c, .int .i64 a, .int .i64 b, .string t]
      obtain ⟨y0, y1, y2, y3⟩ := Bk.c4 vX
      cases ok
      · have HB : Hid (Jo.parse (Jo.L s) = none) := Lib.hid (by rw [HP.out, HBAD.out (hno rfl)])
        clear hy hno HYES HBAD HOWN hb2 hbel vX
        go_wp2
        go_ret2
        exact .inl ⟨HB.out, rfl, hbel3⟩
      have HY2 : Hid (Jo.ops (ws.take (k + 1)) = some (l ++ [(⟨c, a, b, t⟩ : Jo)])) := Lib.hid (by rw [HYES.out, hy rfl])
      have S1 := Lib.hid (four_newP (w2.alloc (.cells #[.int .i64 c, .int .i64 a, .int .i64 b, .string t] 40 (0, 0))) (.int .i64 c) (.int .i64 a) (.int .i64 b) (.string t) 40 (w2.heap.size + 1) (by simp))
      have hsz := hbel3.size
      have hgl2 : g < w2.heap.size := lt_of_block HG2.out
      clear hy hno HYES HBAD HOWN hb2 hbel vX ck HCON
      go_wp2_with (at_builtin; refine wpList_append_own _ rfl _ _ 23 rfl w.heap.size 40 i0 (.agg #[.int .i64 0, .int .i64 0, .int .i64 0, .string ⟨#[]⟩]) 4 40 Tryz.underlying23 hi hz0 hz1 hz2 rfl (by decide) _ _ _ rfl (HO2.out.alloc (.cells #[.int .i64 c, .int .i64 a, .int .i64 b, .string t] 40 (0, 0))) ⟨w2.heap.size + 1, 0, none⟩ 1 1 [.int .i64 c, .int .i64 a, .int .i64 b, .string t] rfl rfl ?_ ?_ ?_ ?_ ?_ ?_)
      any_goals first | exact S1.out | (intro u hu; simp at hu; rcases hu with rfl | rfl | rfl | rfl <;> rfl) | (unfold maxLen; omega) | omega | exact Nat.le_trans hsz (by simp) | (simp; omega)
      intro v' w5 hown5 hgrow _
      have hne5 : some g ≠ (.slice va k vc : Value).ownBlock := fun h => own_typeP (D := g) (t := 9) HO2.out (by decide) (by rw [Below.heap_alloc _ _ _ hgl2]; exact HG2.out) h.symm
      have HG5 : Hid (w5.heap[g]? = some (.cells cs 9 (0, 0))) := Lib.hid (by
        rw [hgrow.block g (by simp; omega) hne5, Below.heap_alloc _ _ _ (by simp; omega), Below.heap_alloc _ _ _ hgl2]
        exact HG2.out)
      have hown6 : Hid (w5.ownsRow w.heap.size 40 4 v' (k + 1) (Jo.cells (l ++ [(⟨c, a, b, t⟩ : Jo)]))) := Lib.hid (by
        rw [Jo.cells_append]
        exact hown5)
      have hl6 : Hid ((l ++ [(⟨c, a, b, t⟩ : Jo)]).length = k + 1) := Lib.hid (by rw [List.length_append, HLEN.out]; rfl)
      have hbel5 : Below w.heap.size w w5 := (hbel3.alloc hsz (.cells #[.int .i64 c, .int .i64 a, .int .i64 b, .string t] 40 (0, 0))).grown hgrow (Nat.le_trans hsz (by simp)) (fun q hq => (HO2.out.lt _ hq).1)
      clear hown5 hgrow hne5 HO2 S1
      go_wp2
      go_roundw
      case rel => exact ⟨k + 1, _, by omega, by simp, hown6, hl6, HY2, HG5, hbel5⟩
      case measure => simp [intOf]; omega
    · obtain rfl : k = n := by omega
      have HPP : Hid (Jo.parse (Jo.L s) = if Jo.ok l = true then some l else none) := Lib.hid (by
        have e := HOPS.out
        rw [List.take_of_length_le (by rw [HN.out]; exact Nat.le_refl _)] at e
        rw [HP.out, e])
      have hol := OL.own HOWN.out
      have hcon := specScriptOk_any va k vc l wr hol.2 (by omega)
      obtain ⟨f, HF⟩ : ∃ f, Hid (Jo.ok l = f) := ⟨_, Lib.hid rfl⟩
      rw [HF.out] at hcon HPP
      clear hol
      go_wp2_with fail
      refine hcon.mono ?_
      rintro e w2 ⟨rfl, hb2⟩
      have hbel2 := below_aft9 hbel hb2
      have HO2 := Lib.hid (HOWN.out.kept (row := none) ⟨hb2.os, hb2.tape, hb2.output, hb2.size, fun q hq _ => hb2.block q hq⟩ (Classical.em _))
      clear hcon HOWN hb2 hbel
      cases f
      · go_wp2
        go_ret2
        exact .inl ⟨by rw [HPP.out]; rfl, rfl, hbel2⟩
      · go_wp2
        go_ret2
        exact .inr ⟨l, va, vc, by rw [HPP.out]; rfl, by rw [HLEN.out]; rfl, by rw [HLEN.out]; exact HO2.out, hbel2⟩
end Go.Proofs.YtpldoffjclmacaaGreatDoor
