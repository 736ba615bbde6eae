/-
  Maps of coins by their places: what the map's operations do.
-/
import Derived.Test.YtohameoomlehlabCp
import Derived.Maps.OwnSet
namespace Go.Proofs.Ytohameoomlehlab
open Go.RowKit Go.Maps

set_option maxRecDepth 1000000 in
theorem place_laid : laidOutB Try.prog = true := by kernel_rfl
set_option maxRecDepth 1000000 in
theorem place_row : (60 : TypeId) < Try.prog.types.size := of_decide_eq_true (by kernel_rfl)
theorem place_at : Try.prog.keyTypeAt 2 60 = true := by kernel_rfl
theorem place_law : Keyed Try.prog 60 := Keyed.of_law (deep_law_laid place_laid (m := 2) (by omega) place_row place_at (by rw [Try.underlying60]))
theorem place_type : Try.prog.keyType 60 = true := by kernel_rfl
theorem place_cells : Try.prog.cellsOf 60 = 2 := by kernel_rfl
theorem place_cell1 : Try.prog.cellsOf 3 = 1 := by kernel_rfl
theorem place_key {t o : Int} (h : Co.In t o) : keyOf Try.prog 60 (Co.kv t o) = some (Co.key t o) := by
  have hu := Try.underlying60
  have hk := place_type
  have hc := place_cells
  have hci := place_cell1
  have hui := Try.underlying3
  have hw1 := Co.wf64 h.1
  have hw2 := Co.wf64 h.2
  have hrow := place_row
  obtain ⟨z, hz⟩ : ∃ z, z = Try.prog.types.size := ⟨_, rfl⟩
  rw [← hz] at hrow
  obtain ⟨m, hm⟩ : ∃ m : Nat, z = m + 1 := ⟨z - 1, by have h2 : 60 < z := hrow; omega⟩
  unfold keyOf Co.kv
  rw [hu, hk, ← hz, hm]
  simp [hu, Value.formed, hc, Value.cells, Program.keyLits, hci, hui, hw1, hw2, Co.key]
theorem key_inj {t o t' o' : Int} (h : Co.In t o) (h' : Co.In t' o') (e : Co.key t o = Co.key t' o') : t = t' ∧ o = o' := by
  have h1 := place_key h
  have h2 := place_key h'
  rw [← e] at h2
  have := place_law.inj h1 h2
  unfold Co.kv at this
  simpa using this
theorem Co.Is.put {D : Co.D} {l : List Co} (h : Co.Is D l) (hm : Tidy D) {c : Co} (hc : Co.In c.tx c.out) (hn : ∀ a ∈ l, ¬ (a.tx = c.tx ∧ a.out = c.out)) : Co.Is (D.put (Co.key c.tx c.out) c.dat) (l ++ [c]) := by
  have hne : ∀ a ∈ l, Co.key a.tx a.out ≠ Co.key c.tx c.out := fun a ha e => hn a ha (key_inj (h.inn a ha) hc e)
  have hno : Maps.has D (Co.key c.tx c.out) = false := by
    cases hh : Maps.has D (Co.key c.tx c.out) with
    | false => rfl
    | true =>
      obtain ⟨a, ha, e⟩ := h.only _ hh
      exact absurd e.symm (hne a ha)
  refine ⟨h.apart.snoc hn, fun a ha => ?_, ?_, fun a ha zd => ?_, fun kl hk => ?_⟩
  · rcases List.mem_append.1 ha with h1 | h1
    · exact h.inn a h1
    · simp at h1
      subst h1
      exact hc
  · rw [size_put hm, hno, List.length_append, h.size]
    rfl
  · rcases List.mem_append.1 ha with h1 | h1
    · rw [atKey_put_other (hne a h1), h.at_ a h1]
    · simp at h1
      subst h1
      rw [atKey_put_same hm.isMap (Co.isKey _ _)]
  · by_cases he : kl = Co.key c.tx c.out
    · exact ⟨c, List.mem_append.2 (.inr (by simp)), he⟩
    · rw [has_put_other he] at hk
      obtain ⟨a, ha, e⟩ := h.only kl hk
      exact ⟨a, List.mem_append.2 (.inl ha), e⟩
theorem Co.Is.del {D : Co.D} {l : List Co} (h : Co.Is D l) (hm : Tidy D) {c : Co} (hc : c ∈ l) : Co.Is (D.del (Co.key c.tx c.out)) (Co.drop l c.tx c.out) := by
  have hsub : ∀ a, a ∈ Co.drop l c.tx c.out ↔ a ∈ l ∧ ¬ (a.tx = c.tx ∧ a.out = c.out) := fun a => by
    unfold Co.drop
    rw [List.mem_filter, Bool.not_eq_true', ← Bool.not_eq_true, Co.hit_iff]
  have hne : ∀ a ∈ Co.drop l c.tx c.out, Co.key a.tx a.out ≠ Co.key c.tx c.out := fun a ha e => ((hsub a).1 ha).2 (key_inj (h.inn a ((hsub a).1 ha).1) (h.inn c hc) e)
  refine ⟨h.apart.filter _, fun a ha => h.inn a ((hsub a).1 ha).1, ?_, fun a ha zd => ?_, fun kl hk => ?_⟩
  · have h1 := size_del (k := Co.key c.tx c.out) hm
    rw [h.has hc, if_pos rfl, h.size] at h1
    have h2 : (Co.drop l c.tx c.out).length + 1 = l.length := by
      have hp : (c :: Co.drop l c.tx c.out).Perm l := by
        refine (List.perm_ext_iff_of_nodup (List.nodup_cons.2 ⟨fun hx => ((hsub c).1 hx).2 ⟨rfl, rfl⟩, Co.Apart.nodup (l := Co.drop l c.tx c.out) (h.apart.filter _)⟩) h.apart.nodup).2 fun a => ?_
        rw [List.mem_cons, hsub]
        constructor
        · rintro (rfl | ⟨h3, _⟩)
          · exact hc
          · exact h3
        · intro ha
          by_cases hq : a.tx = c.tx ∧ a.out = c.out
          · exact .inl (h.apart.one ha hc hq.1 hq.2)
          · exact .inr ⟨ha, hq⟩
      have := hp.length_eq
      simpa using this
    omega
  · rw [atKey_del_other (hne a ha), h.at_ a ((hsub a).1 ha).1]
  · by_cases he : kl = Co.key c.tx c.out
    · rw [he, has_del_same] at hk
      cases hk
    · rw [has_del_other he] at hk
      obtain ⟨a, ha, e⟩ := h.only kl hk
      refine ⟨a, (hsub a).2 ⟨ha, fun hq => he ?_⟩, e⟩
      rw [e, hq.1, hq.2]
/-- Block b is a map of the coins l. -/
def CM (w : World) (b n : Nat) (l : List Co) : Prop := ∃ D : Co.D, w.ownsMap Try.prog 60 Co.rdr b n D ∧ Co.Is D l
theorem CM.made (w : World) : CM (w.alloc (.map #[] 0)) w.heap.size 0 [] := ⟨_, World.ownsMap_made _ _ _ _, Co.Is.nil⟩
theorem CM.kept {w w' : World} {b n : Nat} {l : List Co} {row : Option Nat} (h : CM w b n l) (hg : w.grownBy w' row) (hne : some b ≠ row) : CM w' b n l := by
  obtain ⟨D, h1, h2⟩ := h
  exact ⟨D, h1.kept hg hne, h2⟩
theorem CM.alloc {w : World} {b n : Nat} {l : List Co} (h : CM w b n l) (o : Obj) : CM (w.alloc o) b n l := h.kept (World.grownBy_alloc w o none) (by simp)
theorem CM.drew {w : World} {b n : Nat} {l : List Co} (h : CM w b n l) : CM w.drew b n l := h
theorem CM.below {w w' : World} {b n : Nat} {l : List Co} (h : CM w b n l) (hb : Below w.heap.size w w') : CM w' b n l :=
  h.kept (row := none) ⟨hb.os, hb.tape, hb.output, hb.size, fun k hk _ => hb.block k hk⟩ (by simp)
theorem CM.lt {w : World} {b n : Nat} {l : List Co} (h : CM w b n l) : b < w.heap.size := by
  obtain ⟨D, h1, _⟩ := h
  exact h1.lt
theorem zero_coin (w : World) : (zeroValue 30).run Try.prog w = .ok (Co.val ⟨0, 0, 0, ⟨#[]⟩, 0, false⟩) w := by kernel_rfl
/-- 'v, ok := m[k]'. -/
theorem CM.look {w : World} {b n : Nat} {l : List Co} (h : CM w b n l) {t o : Int} (hi : Co.In t o) : (Instr.lookup 56 (.map (some b)) (Co.kv t o) true).run Try.prog w = .ok (.tuple #[Co.val ((Co.pick l t o).getD ⟨0, 0, 0, ⟨#[]⟩, 0, false⟩), .bool (Co.pick l t o).isSome]) w := by
  obtain ⟨D, h1, h2⟩ := h
  obtain ⟨v, ps, hrun, hv⟩ := h1.look_ok place_law Try.underlying56 (zero_coin w) (Co.rdr_val _) (place_key hi)
  obtain ⟨c, rfl, hy⟩ := Co.rdr_inv hv
  have hd := congrArg Prod.fst hy
  simp only at hd
  rw [hrun]
  cases hp : Co.pick l t o with
  | none =>
    have hno : Maps.has D (Co.key t o) = false := by
      cases hh : Maps.has D (Co.key t o) with
      | false => rfl
      | true =>
        obtain ⟨a, ha, e⟩ := h2.only _ hh
        obtain ⟨e1, e2⟩ := key_inj hi (h2.inn a ha) e
        exact absurd ⟨e1.symm, e2.symm⟩ (Co.pick_none hp a ha)
    rw [atKey_of_not_has hno] at hd
    rw [hno, ← Co.dat_inj hd]
    rfl
  | some a =>
    obtain ⟨ha, rfl, rfl⟩ := Co.pick_some hp
    rw [h2.at_ a ha] at hd
    rw [h2.has ha, ← Co.dat_inj hd]
    rfl
/-- 'm[k] = v', k a new place. -/
theorem CM.put {w : World} {b n : Nat} {l : List Co} (h : CM w b n l) (hn : n < maxLen) {c : Co} (hi : Co.In c.tx c.out) (hp : Co.pick l c.tx c.out = none) : ∃ w', (Instr.mapUpdate 56 (.map (some b)) (Co.kv c.tx c.out) c.val).run Try.prog w = .ok () w' ∧ CM w' b (n + 1) (l ++ [c]) ∧ w.grownBy w' (some b) ∧ w'.heap.size = w.heap.size := by
  obtain ⟨D, h1, h2⟩ := h
  obtain ⟨w', hrun, h3, h4⟩ := h1.store place_law Try.underlying56 hn (place_key hi) (Co.rdr_val c)
  refine ⟨w', hrun, ⟨_, h3, h2.put (h1.tidy place_law) hi (Co.pick_none hp)⟩, h4.grown, ?_⟩
  obtain ⟨es, clock, es', clock', _, rfl⟩ := h4
  simp [Go.ChangeMaps.setBlock]
/-- 'delete(m, k)', k a place of the map. -/
theorem CM.del {w : World} {b n : Nat} {l : List Co} (h : CM w b n l) {c : Co} (hc : c ∈ l) (ty : TypeId) : ∃ w', (Builtin.delete_ #[56, 60] ty #[.map (some b), Co.kv c.tx c.out]).run Try.prog w = .ok (.tuple #[]) w' ∧ CM w' b n (Co.drop l c.tx c.out) ∧ w.grownBy w' (some b) ∧ w'.heap.size = w.heap.size := by
  obtain ⟨D, h1, h2⟩ := h
  obtain ⟨w', hrun, h3, h4⟩ := h1.drop place_law Try.underlying56 (place_key (h2.inn c hc)) ty
  refine ⟨w', hrun, ⟨_, h3, h2.del (h1.tidy place_law) hc⟩, h4.grown, ?_⟩
  obtain ⟨es, clock, es', clock', _, rfl⟩ := h4
  simp [Go.ChangeMaps.setBlock]
/-- 'delete(m, k)', whatever k. -/
theorem CM.del_any {w : World} {b n : Nat} {l : List Co} (h : CM w b n l) {t o : Int} (hi : Co.In t o) (ty : TypeId) : ∃ w', (Builtin.delete_ #[56, 60] ty #[.map (some b), Co.kv t o]).run Try.prog w = .ok (.tuple #[]) w' ∧ (∀ c, Co.pick l t o = some c → CM w' b n (Co.drop l t o)) ∧ w.grownBy w' (some b) ∧ w'.heap.size = w.heap.size := by
  obtain ⟨D, h1, h2⟩ := h
  obtain ⟨w', hrun, h3, h4⟩ := h1.drop place_law Try.underlying56 (place_key hi) ty
  refine ⟨w', hrun, fun c hp => ?_, h4.grown, ?_⟩
  · obtain ⟨hc, rfl, rfl⟩ := Co.pick_some hp
    exact ⟨_, h3, h2.del (h1.tidy place_law) hc⟩
  · obtain ⟨es, clock, es', clock', _, rfl⟩ := h4
    simp [Go.ChangeMaps.setBlock]
/-- .. for every type that the call bears. -/
theorem CM.del_all {w : World} {b n : Nat} {l : List Co} (h : CM w b n l) {t o : Int} (hi : Co.In t o) : ∃ w', (∀ ty, (Builtin.delete_ #[56, 60] ty #[.map (some b), .agg #[.int .i64 t, .int .i64 o]]).run Try.prog w = .ok (.tuple #[]) w') ∧ (∀ c, Co.pick l t o = some c → CM w' b n (Co.drop l t o)) ∧ w.grownBy w' (some b) ∧ w'.heap.size = w.heap.size := by
  obtain ⟨w', h1, h2⟩ := h.del_any hi 0
  exact ⟨w', fun _ => h1, h2⟩
/-- 'len(m)'. -/
theorem CM.len {w : World} {b n : Nat} {l : List Co} (h : CM w b n l) (ty : TypeId) : (Builtin.len_ #[56] ty #[.map (some b)]).run Try.prog w = .ok (.int .i64 (l.length : Int)) w := by
  obtain ⟨D, h1, h2⟩ := h
  have := h1.len Try.underlying56 ty
  rw [h2.size] at this
  exact this
end Go.Proofs.Ytohameoomlehlab
