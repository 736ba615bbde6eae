/-
  Plain mathematics of locks: what a run of each does.
-/
import Derived.Test.YtoocibabceeagabGreatUa
import Derived.Test.YtoocibabceeagabGreatWj
namespace Go.Proofs.YtoocibabceeagabGreat

theorem Vm.opens_go {E : Vm} {l : List Jo} {ss : List ByteArray} {m : List ByteArray × List Bool} (hok : Jo.ok l = true) (hf : Vm.fits ss) (hg : Vm.go E l ss.reverse [] = .ok m) : Vm.opens E (some l) ss = (match m.1.reverse with
    | [a] => decide (a.size ≠ 0)
    | _ => false) := by
  rw [Vm.opens_some]
  unfold Vm.run
  rw [if_pos ⟨hok, hf⟩, hg]
  simp only
  rcases m.1.reverse with _ | ⟨a, _ | ⟨b, r⟩⟩
  · rfl
  · exact Bool.true_and _
  · rfl
theorem Vm.opens_err {E : Vm} {l : List Jo} {ss : List ByteArray} {c : Int} (hg : Vm.go E l ss.reverse [] = .error c) : Vm.opens E (some l) ss = false := by
  refine Vm.opens_code ?_
  unfold Vm.run
  split
  · rw [hg]
    have := Vm.go_err hg
    show c ≠ 0
    omega
  · show (1 : Int) ≠ 0
    decide
theorem Vm.opens_unfit {E : Vm} {l : List Jo} {ss : List ByteArray} (hf : ¬ Vm.fits ss) : Vm.opens E (some l) ss = false := by
  refine Vm.opens_code ?_
  unfold Vm.run
  rw [if_neg fun h => hf h.2]
  show (1 : Int) ≠ 0
  decide
/-! ### steps -/
theorem Lk.outside {c : Int} (h : c < 6 ∨ 8 < c) : ¬ (6 ≤ c ∧ c ≤ 8) := by omega
theorem Vm.put_ok {a : ByteArray} {r : List ByteArray} (h : r.length < 24) : Vm.put a r = .ok (a :: r) := if_pos h
theorem Vm.put_no {a : ByteArray} {r : List ByteArray} (h : ¬ r.length < 24) : Vm.put a r = .error 5 := if_neg h
theorem Vm.go_cons (E : Vm) (x : Jo) (l : List Jo) (s : List ByteArray) (br : List Bool) : Vm.go E (x :: l) s br = match Vm.step E x s br with
    | .ok m => Vm.go E l m.1 m.2
    | .error c => .error c := rfl
theorem Vm.go_nil (E : Vm) (s : List ByteArray) (br : List Bool) : Vm.go E [] s br = .ok (s, br) := rfl
theorem Vm.st_push (E : Vm) (n : Int) (s : List ByteArray) (br : List Bool) (hl : Vm.live br = true) (h : s.length < 24) : Vm.step E (Lk.push n) s br = .ok (Dg.bytes n :: s, br) := by
  have e : Vm.act E (Lk.push n) s = .ok (Dg.bytes n :: s) := Vm.put_ok h
  unfold Vm.step
  rw [if_neg (show ¬ (6 ≤ (Lk.push n).c ∧ (Lk.push n).c ≤ 8) from Lk.outside (c := 0) (by decide)), if_pos hl, e]
theorem Vm.st_skip (E : Vm) (x : Jo) (s : List ByteArray) (br : List Bool) (hx : ¬ (6 ≤ x.c ∧ x.c ≤ 8)) (hl : Vm.live br = false) : Vm.step E x s br = .ok (s, br) := by
  unfold Vm.step
  rw [if_neg hx, if_neg (by rw [hl]; decide)]
theorem Vm.st_act (E : Vm) (x : Jo) (s : List ByteArray) (br : List Bool) (hx : ¬ (6 ≤ x.c ∧ x.c ≤ 8)) (hl : Vm.live br = true) : Vm.step E x s br = match Vm.act E x s with
    | .ok r => .ok (r, br)
    | .error c => .error c := by
  unfold Vm.step
  rw [if_neg hx, if_pos hl]
  cases Vm.act E x s <;> rfl
theorem Vm.st_equal (E : Vm) (a b : ByteArray) (r : List ByteArray) (br : List Bool) (hl : Vm.live br = true) : Vm.step E (Lk.code 4) (a :: b :: r) br = .ok (Vm.tr (decide (b = a)) :: r, br) := by
  rw [Vm.st_act E _ _ _ (by first | decide | exact Lk.outside (c := 0) (by decide) | exact Lk.outside (c := 12) (by decide) | exact Lk.outside (c := 13) (by decide) | exact Lk.outside (c := 14) (by decide)) hl]
  rfl
theorem Vm.st_digest (E : Vm) (a : ByteArray) (r : List ByteArray) (br : List Bool) (hl : Vm.live br = true) : Vm.step E (Lk.code 10) (a :: r) br = .ok (Dg.bytes (Dg.of a) :: r, br) := by
  rw [Vm.st_act E _ _ _ (by first | decide | exact Lk.outside (c := 0) (by decide) | exact Lk.outside (c := 12) (by decide) | exact Lk.outside (c := 13) (by decide) | exact Lk.outside (c := 14) (by decide)) hl]
  rfl
theorem Vm.st_digest0 (E : Vm) (br : List Bool) (hl : Vm.live br = true) : Vm.step E (Lk.code 10) [] br = .error 2 := by
  rw [Vm.st_act E _ _ _ (by first | decide | exact Lk.outside (c := 0) (by decide) | exact Lk.outside (c := 12) (by decide) | exact Lk.outside (c := 13) (by decide) | exact Lk.outside (c := 14) (by decide)) hl]
  rfl
theorem Vm.st_verify1 (E : Vm) (r : List ByteArray) (br : List Bool) (hl : Vm.live br = true) : Vm.step E (Lk.code 9) (Vm.tr true :: r) br = .ok (r, br) := by
  rw [Vm.st_act E _ _ _ (by first | decide | exact Lk.outside (c := 0) (by decide) | exact Lk.outside (c := 12) (by decide) | exact Lk.outside (c := 13) (by decide) | exact Lk.outside (c := 14) (by decide)) hl]
  rfl
theorem Vm.st_verify0 (E : Vm) (r : List ByteArray) (br : List Bool) (hl : Vm.live br = true) : Vm.step E (Lk.code 9) (Vm.tr false :: r) br = .error 3 := by
  rw [Vm.st_act E _ _ _ (by first | decide | exact Lk.outside (c := 0) (by decide) | exact Lk.outside (c := 12) (by decide) | exact Lk.outside (c := 13) (by decide) | exact Lk.outside (c := 14) (by decide)) hl]
  rfl
theorem Vm.st_sign (E : Vm) (k g : ByteArray) (r : List ByteArray) (br : List Bool) (hl : Vm.live br = true) : Vm.step E (Lk.code 11) (k :: g :: r) br = .ok (Vm.tr (Vm.sg E.t g k) :: r, br) := by
  rw [Vm.st_act E _ _ _ (by first | decide | exact Lk.outside (c := 0) (by decide) | exact Lk.outside (c := 12) (by decide) | exact Lk.outside (c := 13) (by decide) | exact Lk.outside (c := 14) (by decide)) hl]
  rfl
theorem Vm.st_sign1 (E : Vm) (k : ByteArray) (br : List Bool) (hl : Vm.live br = true) : Vm.step E (Lk.code 11) [k] br = .error 2 := by
  rw [Vm.st_act E _ _ _ (by first | decide | exact Lk.outside (c := 0) (by decide) | exact Lk.outside (c := 12) (by decide) | exact Lk.outside (c := 13) (by decide) | exact Lk.outside (c := 14) (by decide)) hl]
  rfl
theorem Vm.st_if (E : Vm) (a : ByteArray) (r : List ByteArray) (br : List Bool) (hl : Vm.live br = true) : Vm.step E (Lk.code 6) (a :: r) br = .ok (r, decide (a.size ≠ 0) :: br) := by
  unfold Vm.step Vm.cond
  rw [if_pos (by decide), if_pos (by rfl), if_pos hl]
theorem Vm.st_if0 (E : Vm) (br : List Bool) (hl : Vm.live br = true) : Vm.step E (Lk.code 6) [] br = .error 2 := by
  unfold Vm.step Vm.cond
  rw [if_pos (by decide), if_pos (by rfl), if_pos hl]
theorem Vm.st_else (E : Vm) (b : Bool) (s : List ByteArray) (br : List Bool) : Vm.step E (Lk.code 7) s (b :: br) = .ok (s, (!b) :: br) := by
  unfold Vm.step Vm.cond
  rw [if_pos (by decide), if_neg (by decide), if_pos (by rfl)]
theorem Vm.st_end (E : Vm) (b : Bool) (s : List ByteArray) (br : List Bool) : Vm.step E (Lk.code 8) s (b :: br) = .ok (s, br) := by
  unfold Vm.step Vm.cond
  rw [if_pos (by decide), if_neg (by decide), if_neg (by decide)]
theorem Vm.st_after (E : Vm) (h : Int) (s : List ByteArray) (br : List Bool) (hl : Vm.live br = true) : Vm.step E ⟨13, h, 0, ⟨#[]⟩⟩ s br = if h ≤ E.h then .ok (s, br) else .error 4 := by
  rw [Vm.st_act E _ _ _ (by first | decide | exact Lk.outside (c := 0) (by decide) | exact Lk.outside (c := 12) (by decide) | exact Lk.outside (c := 13) (by decide) | exact Lk.outside (c := 14) (by decide)) hl, Vm.act_13 rfl]
  by_cases hh : h ≤ E.h
  · rw [if_pos hh, if_pos hh]
  · rw [if_neg hh, if_neg hh]
theorem Vm.st_older (E : Vm) (h : Int) (s : List ByteArray) (br : List Bool) (hl : Vm.live br = true) : Vm.step E ⟨14, h, 0, ⟨#[]⟩⟩ s br = if h ≤ E.a then .ok (s, br) else .error 4 := by
  rw [Vm.st_act E _ _ _ (by first | decide | exact Lk.outside (c := 0) (by decide) | exact Lk.outside (c := 12) (by decide) | exact Lk.outside (c := 13) (by decide) | exact Lk.outside (c := 14) (by decide)) hl, Vm.act_14 rfl]
  by_cases hh : h ≤ E.a
  · rw [if_pos hh, if_pos hh]
  · rw [if_neg hh, if_neg hh]
/-! ### the key lock -/
theorem Vm.go_key (E : Vm) (k : Int) (s : List ByteArray) (hs : s.length < 24) : Vm.go E (Lk.key k) s [] = match (generalizing := false) s with
    | [] => .error 2
    | g :: r => .ok (Vm.tr (Vm.sg E.t g (Dg.bytes k)) :: r, []) := by
  unfold Lk.key
  rw [Vm.go_cons, Vm.st_push E k s [] rfl hs]
  simp only
  rw [Vm.go_cons]
  cases s with
  | nil => rw [Vm.st_sign1 E _ [] rfl]
  | cons g r => rw [Vm.st_sign E _ _ _ [] rfl]; rfl
theorem Vm.go_key_full (E : Vm) (k : Int) (s : List ByteArray) (hs : ¬ s.length < 24) : Vm.go E (Lk.key k) s [] = .error 5 := by
  have e : Vm.act E (Lk.push k) s = .error 5 := Vm.put_no hs
  unfold Lk.key
  rw [Vm.go_cons, Vm.st_act E _ _ _ (by first | decide | exact Lk.outside (c := 0) (by decide) | exact Lk.outside (c := 12) (by decide) | exact Lk.outside (c := 13) (by decide) | exact Lk.outside (c := 14) (by decide)) rfl, e]
theorem Vm.sg_big {t s k : ByteArray} (h : s.size ≠ 8) : Vm.sg t s k = false := by
  unfold Vm.sg
  rw [decide_eq_false h, Bool.false_and]
theorem Vm.opens_key (E : Vm) (k : Int) (ss : List ByteArray) : Vm.opens E (some (Lk.key k)) ss = (match ss with
    | [g] => Vm.sg E.t g (Dg.bytes k)
    | _ => false) := by
  by_cases hf : Vm.fits ss
  · by_cases hl : ss.length < 24
    · have hg := Vm.go_key E k ss.reverse (by simpa using hl)
      rcases ss with _ | ⟨a, _ | ⟨b, r⟩⟩
      · exact Vm.opens_err hg
      · rw [Vm.opens_go (Lk.ok_key k) hf hg]
        show decide ((Vm.tr (Vm.sg E.t a (Dg.bytes k))).size ≠ 0) = Vm.sg E.t a (Dg.bytes k)
        cases Vm.sg E.t a (Dg.bytes k) <;> rfl
      · obtain ⟨x, y, z, hx⟩ : ∃ x y z, (a :: b :: r).reverse = x :: y :: z := by
          have hlen : (a :: b :: r).reverse.length = r.length + 2 := by simp
          rcases h : (a :: b :: r).reverse with _ | ⟨x, _ | ⟨y, z⟩⟩
          · rw [h] at hlen; simp at hlen
          · rw [h] at hlen; simp at hlen
          · exact ⟨x, y, z, rfl⟩
        rw [hx] at hg
        have hg2 : Vm.go E (Lk.key k) (a :: b :: r).reverse [] = .ok (Vm.tr (Vm.sg E.t x (Dg.bytes k)) :: y :: z, []) := by rw [hx]; exact hg
        rw [Vm.opens_go (Lk.ok_key k) hf hg2]
        obtain ⟨u, v, w, hu⟩ : ∃ u v w, (Vm.tr (Vm.sg E.t x (Dg.bytes k)) :: y :: z).reverse = u :: v :: w := by
          have hlen : (Vm.tr (Vm.sg E.t x (Dg.bytes k)) :: y :: z).reverse.length = z.length + 2 := by simp
          rcases h : (Vm.tr (Vm.sg E.t x (Dg.bytes k)) :: y :: z).reverse with _ | ⟨u, _ | ⟨v, w⟩⟩
          · rw [h] at hlen; simp at hlen
          · rw [h] at hlen; simp at hlen
          · exact ⟨u, v, w, rfl⟩
        simp only
        rw [hu]
    · rw [Vm.opens_err (Vm.go_key_full E k ss.reverse (by simpa using hl))]
      rcases ss with _ | ⟨a, _ | ⟨b, r⟩⟩
      · rfl
      · simp at hl
      · rfl
  · rw [Vm.opens_unfit hf]
    rcases ss with _ | ⟨a, _ | ⟨b, r⟩⟩
    · rfl
    · have ha : ¬ a.size ≤ 80 := fun h => hf ⟨by simp, fun x hx => by simp at hx; rw [hx]; exact h⟩
      exact (Vm.sg_big (by omega)).symm
    · rfl
/-! ### signatures -/
theorem Wt.sec_sok {x : Int} (h : Wt.sec x = true) : Gr.sok x = true := h
theorem Wt.sr_bd (x : Int) (t : ByteArray) : 0 ≤ Sg.sr x t ∧ Sg.sr x t ≤ 4294967295 := by
  have := Sg.gp_bd (Sg.no x t)
  unfold Sg.sr
  omega
theorem Wt.ss_bd (x : Int) (t : ByteArray) : 0 ≤ Sg.ss x t ∧ Sg.ss x t ≤ 4294967295 := by
  unfold Sg.ss
  omega
theorem Wt.sig_isd (x : Int) (t : ByteArray) : Jo.isd (Sg.sr x t) = true ∧ Jo.isd (Sg.ss x t) = true :=
  ⟨(Jo.isd_iff _).2 (Wt.sr_bd x t), (Jo.isd_iff _).2 (Wt.ss_bd x t)⟩
theorem Wt.sig_size (x : Int) (t : ByteArray) : (Wt.sig x t).size = 8 := by
  unfold Wt.sig
  rw [Jo.item_len, if_pos (Wt.sig_isd x t)]
theorem Vm.sg_item {t : ByteArray} {r s k : Int} (h : Jo.isd r = true ∧ Jo.isd s = true) (hk : 0 ≤ k ∧ k ≤ 4294967295) : Vm.sg t (Jo.item r s) (Dg.bytes k) = Sg.ver k t r s := by
  have hl : (Jo.item r s).size = 8 := by rw [Jo.item_len, if_pos h]
  obtain ⟨h1, h2⟩ := Jo.read_item h
  unfold Jo.sr at h1
  unfold Jo.ss at h2
  rw [if_pos hl] at h1 h2
  unfold Vm.sg
  rw [h1, h2, decide_eq_true hl, decide_eq_true (Dg.bytes_size k), Dg.num_bytes k hk.1 hk.2, Bool.true_and, Bool.true_and]
theorem Wt.gp_bd (x : Int) : 0 ≤ Sg.gp x ∧ Sg.gp x ≤ 4294967295 := by
  have := Sg.gp_bd x
  omega
theorem Wt.sg_other (x : Int) (t u : ByteArray) : Vm.sg u (Wt.sig x t) (Dg.bytes (Sg.gp x)) = Sg.ver (Sg.gp x) u (Sg.sr x t) (Sg.ss x t) :=
  Vm.sg_item (Wt.sig_isd x t) (Wt.gp_bd x)
theorem Wt.sg_sig {x : Int} (h : Wt.sec x = true) (t : ByteArray) : Vm.sg t (Wt.sig x t) (Dg.bytes (Sg.gp x)) = true := by
  rw [Wt.sg_other]
  exact Sg.sign_ver x t (Wt.sec_sok h)
theorem Wt.kok_gp {x : Int} (h : Wt.sec x = true) : Gr.kok (Sg.gp x) = true := by
  rw [← Sg.key_ok (Wt.sec_sok h)]
  exact Gr.key_kok (Wt.sec_sok h)
/-! ### the shared lock -/
theorem Vm.go_pushes (E : Vm) (l : List Jo) : ∀ (zs : List Int) (s : List ByteArray) (br : List Bool), Vm.live br = true → s.length + zs.length ≤ 24 → Vm.go E (zs.map Lk.push ++ l) s br = Vm.go E l ((zs.map Dg.bytes).reverse ++ s) br := by
  intro zs
  induction zs with
  | nil => intro s br _ _; rfl
  | cons z zs ih =>
    intro s br hb hl
    simp only [List.length_cons] at hl
    rw [List.map_cons, List.cons_append, Vm.go_cons, Vm.st_push E z s br hb (by omega)]
    simp only
    rw [ih _ br hb (by simp only [List.length_cons]; omega)]
    simp
theorem Vm.many_sigs (t : ByteArray) : ∀ zs : List Int, (∀ z ∈ zs, Wt.sec z = true) → Vm.many t (zs.map fun x => Wt.sig x t) ((zs.map Sg.gp).map Dg.bytes) = true := by
  intro zs
  induction zs with
  | nil => intro _; rfl
  | cons z zs ih =>
    intro h
    rw [List.map_cons, List.map_cons, List.map_cons, Vm.many_yes _ _ (Wt.sg_sig (h z (List.mem_cons_self ..)) t)]
    exact ih fun y hy => h y (List.mem_cons_of_mem _ hy)
theorem Vm.st_many (E : Vm) (n : Nat) (ks ss : List ByteArray) (hk : ks.length = n) (hs : ss.length = n) : Vm.step E ⟨12, (n : Int), (n : Int), ⟨#[]⟩⟩ (ks.reverse ++ ss.reverse) [] = .ok ([Vm.tr (Vm.many E.t ss ks)], []) := by
  rw [Vm.st_act E _ _ _ (by first | decide | exact Lk.outside (c := 0) (by decide) | exact Lk.outside (c := 12) (by decide) | exact Lk.outside (c := 13) (by decide) | exact Lk.outside (c := 14) (by decide)) rfl]
  have e : Vm.act E ⟨12, (n : Int), (n : Int), ⟨#[]⟩⟩ (ks.reverse ++ ss.reverse) = (if (ks.reverse ++ ss.reverse).length < ((n : Int) + (n : Int)).toNat then .error 2
    else .ok (Vm.tr (Vm.many E.t (((ks.reverse ++ ss.reverse).drop (n : Int).toNat).take (n : Int).toNat).reverse ((ks.reverse ++ ss.reverse).take (n : Int).toNat).reverse) :: (ks.reverse ++ ss.reverse).drop ((n : Int) + (n : Int)).toNat)) := rfl
  have h2 : ((n : Int) + (n : Int)).toNat = n + n := by omega
  have h1 : ((n : Int)).toNat = n := by omega
  have hkr : ks.reverse.length = n := by simpa using hk
  have hsr : ss.reverse.length = n := by simpa using hs
  rw [h1, h2, if_neg (by rw [List.length_append, hkr, hsr]; omega)] at e
  rw [e]
  simp only
  rw [List.drop_left' hkr, List.take_left' hkr, List.take_of_length_le (by omega), List.reverse_reverse, List.reverse_reverse, List.drop_of_length_le (by rw [List.length_append, hkr, hsr]; omega)]
theorem Vm.opens_many (E : Vm) (zs : List Int) (h : ∀ z ∈ zs, Wt.sec z = true) (h1 : 1 ≤ zs.length) (h5 : zs.length ≤ 5) : Vm.opens E (some (Lk.many (zs.length : Int) (zs.map Sg.gp))) (zs.map fun x => Wt.sig x E.t) = true := by
  have hok : Jo.ok (Lk.many (zs.length : Int) (zs.map Sg.gp)) = true := by
    rw [Lk.ok_many _ _ (by simpa using h5)]
    unfold Lk.manyLen Lk.manyNeed
    simp
    omega
  have hf : Vm.fits (zs.map fun x => Wt.sig x E.t) := ⟨by simp; omega, fun x hx => by
    obtain ⟨z, _, rfl⟩ := List.mem_map.1 hx
    rw [Wt.sig_size]
    decide⟩
  have hg : Vm.go E (Lk.many (zs.length : Int) (zs.map Sg.gp)) (zs.map fun x => Wt.sig x E.t).reverse [] = .ok ([Vm.tr true], []) := by
    rw [Lk.many_eq, Vm.go_pushes E _ _ _ [] rfl (by simp; omega), Vm.go_cons]
    have := Vm.st_many E zs.length ((zs.map Sg.gp).map Dg.bytes) (zs.map fun x => Wt.sig x E.t) (by simp) (by simp)
    rw [Vm.many_sigs E.t zs h] at this
    rw [List.length_map, this]
    rfl
  rw [Vm.opens_go hok hf hg]
  rfl
/-! ### the timed lock -/
theorem Vm.go_timed_first (E : Vm) (d p h q : Int) (b : ByteArray) (r : List ByteArray) (hb : b.size ≠ 0) (hr : r.length < 24) : Vm.go E (Lk.timed d p h q) (b :: r) [] = match (generalizing := false) r with
    | [] => .error 2
    | x :: r1 => if Dg.bytes (Dg.of x) = Dg.bytes d then (match r1 with
      | [] => .error 2
      | g :: r2 => .ok (Vm.tr (Vm.sg E.t g (Dg.bytes p)) :: r2, [])) else .error 3 := by
  unfold Lk.timed
  rw [Vm.go_cons, Vm.st_if E b r [] rfl, decide_eq_true hb]
  simp only
  rw [Vm.go_cons]
  rcases r with _ | ⟨x, r1⟩
  · rw [Vm.st_digest0 E _ rfl]
  simp only [List.length_cons] at hr
  rw [Vm.st_digest E x r1 _ rfl]
  simp only
  rw [Vm.go_cons, Vm.st_push E d _ _ rfl (by simp only [List.length_cons]; omega)]
  simp only
  rw [Vm.go_cons, Vm.st_equal E _ _ _ _ rfl]
  simp only
  rw [Vm.go_cons]
  by_cases he : Dg.bytes (Dg.of x) = Dg.bytes d
  · rw [decide_eq_true he, Vm.st_verify1 E _ _ rfl, if_pos he]
    simp only
    rw [Vm.go_cons, Vm.st_push E p _ _ rfl (by omega)]
    simp only
    rw [Vm.go_cons]
    rcases r1 with _ | ⟨g, r2⟩
    · rw [Vm.st_sign1 E _ _ rfl]
    rw [Vm.st_sign E _ _ _ _ rfl]
    simp only
    rw [Vm.go_cons, Vm.st_else]
    simp only
    rw [Vm.go_cons, Vm.st_skip E _ _ _ (by first | decide | exact Lk.outside (c := 0) (by decide) | exact Lk.outside (c := 12) (by decide) | exact Lk.outside (c := 13) (by decide) | exact Lk.outside (c := 14) (by decide)) rfl]
    simp only
    rw [Vm.go_cons, Vm.st_skip E _ _ _ (by first | decide | exact Lk.outside (c := 0) (by decide) | exact Lk.outside (c := 12) (by decide) | exact Lk.outside (c := 13) (by decide) | exact Lk.outside (c := 14) (by decide)) rfl]
    simp only
    rw [Vm.go_cons, Vm.st_skip E _ _ _ (by first | decide | exact Lk.outside (c := 0) (by decide) | exact Lk.outside (c := 12) (by decide) | exact Lk.outside (c := 13) (by decide) | exact Lk.outside (c := 14) (by decide)) rfl]
    simp only
    rw [Vm.go_cons, Vm.st_end]
    rfl
  · rw [decide_eq_false he, Vm.st_verify0 E _ _ rfl, if_neg he]
theorem Vm.go_timed_last (E : Vm) (d p h q : Int) (b : ByteArray) (r : List ByteArray) (hb : b.size = 0) (hr : r.length < 24) : Vm.go E (Lk.timed d p h q) (b :: r) [] = if h ≤ E.h then (match (generalizing := false) r with
    | [] => .error 2
    | g :: r2 => .ok (Vm.tr (Vm.sg E.t g (Dg.bytes q)) :: r2, [])) else .error 4 := by
  have hd : decide (b.size ≠ 0) = false := by simp [hb]
  unfold Lk.timed
  rw [Vm.go_cons, Vm.st_if E b r [] rfl, hd]
  simp only
  rw [Vm.go_cons, Vm.st_skip E _ _ _ (by first | decide | exact Lk.outside (c := 0) (by decide) | exact Lk.outside (c := 12) (by decide) | exact Lk.outside (c := 13) (by decide) | exact Lk.outside (c := 14) (by decide)) rfl]
  simp only
  rw [Vm.go_cons, Vm.st_skip E _ _ _ (by first | decide | exact Lk.outside (c := 0) (by decide) | exact Lk.outside (c := 12) (by decide) | exact Lk.outside (c := 13) (by decide) | exact Lk.outside (c := 14) (by decide)) rfl]
  simp only
  rw [Vm.go_cons, Vm.st_skip E _ _ _ (by first | decide | exact Lk.outside (c := 0) (by decide) | exact Lk.outside (c := 12) (by decide) | exact Lk.outside (c := 13) (by decide) | exact Lk.outside (c := 14) (by decide)) rfl]
  simp only
  rw [Vm.go_cons, Vm.st_skip E _ _ _ (by first | decide | exact Lk.outside (c := 0) (by decide) | exact Lk.outside (c := 12) (by decide) | exact Lk.outside (c := 13) (by decide) | exact Lk.outside (c := 14) (by decide)) rfl]
  simp only
  rw [Vm.go_cons, Vm.st_skip E _ _ _ (by first | decide | exact Lk.outside (c := 0) (by decide) | exact Lk.outside (c := 12) (by decide) | exact Lk.outside (c := 13) (by decide) | exact Lk.outside (c := 14) (by decide)) rfl]
  simp only
  rw [Vm.go_cons, Vm.st_skip E _ _ _ (by first | decide | exact Lk.outside (c := 0) (by decide) | exact Lk.outside (c := 12) (by decide) | exact Lk.outside (c := 13) (by decide) | exact Lk.outside (c := 14) (by decide)) rfl]
  simp only
  rw [Vm.go_cons, Vm.st_else]
  simp only
  rw [Vm.go_cons, Vm.st_after E _ _ _ rfl]
  by_cases hh : h ≤ E.h
  · rw [if_pos hh, if_pos hh]
    simp only
    rw [Vm.go_cons, Vm.st_push E q _ _ rfl hr]
    simp only
    rw [Vm.go_cons]
    rcases r with _ | ⟨g, r2⟩
    · rw [Vm.st_sign1 E _ _ rfl]
    rw [Vm.st_sign E _ _ _ _ rfl]
    simp only
    rw [Vm.go_cons, Vm.st_end]
    rfl
  · rw [if_neg hh, if_neg hh]
/-! ### the revocable lock -/
theorem Vm.go_rev_first (E : Vm) (v d o : Int) (b : ByteArray) (r : List ByteArray) (hb : b.size ≠ 0) (hr : r.length < 24) : Vm.go E (Lk.revocable v d o) (b :: r) [] = match (generalizing := false) r with
    | [] => .error 2
    | g :: r2 => .ok (Vm.tr (Vm.sg E.t g (Dg.bytes v)) :: r2, []) := by
  unfold Lk.revocable
  rw [Vm.go_cons, Vm.st_if E b r [] rfl, decide_eq_true hb]
  simp only
  rw [Vm.go_cons, Vm.st_push E v _ _ rfl hr]
  simp only
  rw [Vm.go_cons]
  rcases r with _ | ⟨g, r2⟩
  · rw [Vm.st_sign1 E _ _ rfl]
  rw [Vm.st_sign E _ _ _ _ rfl]
  simp only
  rw [Vm.go_cons, Vm.st_else]
  simp only
  rw [Vm.go_cons, Vm.st_skip E _ _ _ (by first | decide | exact Lk.outside (c := 0) (by decide) | exact Lk.outside (c := 12) (by decide) | exact Lk.outside (c := 13) (by decide) | exact Lk.outside (c := 14) (by decide)) rfl]
  simp only
  rw [Vm.go_cons, Vm.st_skip E _ _ _ (by first | decide | exact Lk.outside (c := 0) (by decide) | exact Lk.outside (c := 12) (by decide) | exact Lk.outside (c := 13) (by decide) | exact Lk.outside (c := 14) (by decide)) rfl]
  simp only
  rw [Vm.go_cons, Vm.st_skip E _ _ _ (by first | decide | exact Lk.outside (c := 0) (by decide) | exact Lk.outside (c := 12) (by decide) | exact Lk.outside (c := 13) (by decide) | exact Lk.outside (c := 14) (by decide)) rfl]
  simp only
  rw [Vm.go_cons, Vm.st_end]
  rfl
theorem Vm.go_rev_last (E : Vm) (v d o : Int) (b : ByteArray) (r : List ByteArray) (hb : b.size = 0) (hr : r.length < 24) : Vm.go E (Lk.revocable v d o) (b :: r) [] = if d ≤ E.a then (match (generalizing := false) r with
    | [] => .error 2
    | g :: r2 => .ok (Vm.tr (Vm.sg E.t g (Dg.bytes o)) :: r2, [])) else .error 4 := by
  have hd : decide (b.size ≠ 0) = false := by simp [hb]
  unfold Lk.revocable
  rw [Vm.go_cons, Vm.st_if E b r [] rfl, hd]
  simp only
  rw [Vm.go_cons, Vm.st_skip E _ _ _ (by first | decide | exact Lk.outside (c := 0) (by decide) | exact Lk.outside (c := 12) (by decide) | exact Lk.outside (c := 13) (by decide) | exact Lk.outside (c := 14) (by decide)) rfl]
  simp only
  rw [Vm.go_cons, Vm.st_skip E _ _ _ (by first | decide | exact Lk.outside (c := 0) (by decide) | exact Lk.outside (c := 12) (by decide) | exact Lk.outside (c := 13) (by decide) | exact Lk.outside (c := 14) (by decide)) rfl]
  simp only
  rw [Vm.go_cons, Vm.st_else]
  simp only
  rw [Vm.go_cons, Vm.st_older E _ _ _ rfl]
  by_cases hh : d ≤ E.a
  · rw [if_pos hh, if_pos hh]
    simp only
    rw [Vm.go_cons, Vm.st_push E o _ _ rfl hr]
    simp only
    rw [Vm.go_cons]
    rcases r with _ | ⟨g, r2⟩
    · rw [Vm.st_sign1 E _ _ rfl]
    rw [Vm.st_sign E _ _ _ _ rfl]
    simp only
    rw [Vm.go_cons, Vm.st_end]
    rfl
  · rw [if_neg hh, if_neg hh]
/-! ### what is opened -/
theorem Wt.fits2 (x : Int) (t b : ByteArray) (hb : b.size ≤ 80) : Vm.fits [Wt.sig x t, b] := ⟨by simp, fun y hy => by
  simp at hy
  rcases hy with rfl | rfl
  · rw [Wt.sig_size]; decide
  · exact hb⟩
theorem Wt.fits3 (x : Int) (t p b : ByteArray) (hp : p.size ≤ 80) (hb : b.size ≤ 80) : Vm.fits [Wt.sig x t, p, b] := ⟨by simp, fun y hy => by
  simp at hy
  rcases hy with rfl | rfl | rfl
  · rw [Wt.sig_size]; decide
  · exact hp
  · exact hb⟩
theorem Wt.opens_key {E : Vm} {x : Int} (t : ByteArray) : Vm.opens E (some (Lk.key (Sg.gp x))) [Wt.sig x t] = Sg.ver (Sg.gp x) E.t (Sg.sr x t) (Sg.ss x t) := by
  rw [Vm.opens_key]
  exact Wt.sg_other x t E.t
theorem Wt.opens_payee {E : Vm} {x h q : Int} {p : ByteArray} (hx : Wt.sec x = true) (hp : p.size ≤ 80) (hh : 0 ≤ h ∧ h ≤ 9999) : Vm.opens E (some (Lk.timed (Dg.of p) (Sg.gp x) h q)) [Wt.sig x E.t, p, Vm.tr true] = true := by
  have hok : Jo.ok (Lk.timed (Dg.of p) (Sg.gp x) h q) = true := by
    rw [Lk.ok_timed]
    simp
    exact hh
  have hg := Vm.go_timed_first E (Dg.of p) (Sg.gp x) h q (Vm.tr true) [p, Wt.sig x E.t] (by decide) (by simp)
  have hg := hg.trans (if_pos rfl)
  simp only at hg
  rw [Wt.sg_sig hx] at hg
  rw [Vm.opens_go hok (Wt.fits3 x E.t p _ hp (by decide)) (m := ([Vm.tr true], [])) hg]
  rfl
theorem Wt.opens_last {E : Vm} {x d p h : Int} (hx : Wt.sec x = true) (hh : 0 ≤ h ∧ h ≤ 9999) : Vm.opens E (some (Lk.timed d p h (Sg.gp x))) [Wt.sig x E.t, ⟨#[]⟩] = decide (h ≤ E.h) := by
  have hok : Jo.ok (Lk.timed d p h (Sg.gp x)) = true := by
    rw [Lk.ok_timed]
    simp
    exact hh
  have hg := Vm.go_timed_last E d p h (Sg.gp x) ⟨#[]⟩ [Wt.sig x E.t] rfl (by simp)
  by_cases hle : h ≤ E.h
  · rw [if_pos hle] at hg
    simp only at hg
    rw [Wt.sg_sig hx] at hg
    rw [Vm.opens_go hok (Wt.fits2 x E.t _ (by decide)) (m := ([Vm.tr true], [])) hg, decide_eq_true hle]
    rfl
  · rw [if_neg hle] at hg
    rw [Vm.opens_err (ss := [Wt.sig x E.t, ⟨#[]⟩]) hg, decide_eq_false hle]
theorem Wt.opens_old {E : Vm} {x v d : Int} (hx : Wt.sec x = true) (hh : 1 ≤ d ∧ d ≤ 99) : Vm.opens E (some (Lk.revocable v d (Sg.gp x))) [Wt.sig x E.t, ⟨#[]⟩] = decide (d ≤ E.a) := by
  have hok : Jo.ok (Lk.revocable v d (Sg.gp x)) = true := by
    rw [Lk.ok_revocable]
    simp
    exact hh
  have hg := Vm.go_rev_last E v d (Sg.gp x) ⟨#[]⟩ [Wt.sig x E.t] rfl (by simp)
  by_cases hle : d ≤ E.a
  · rw [if_pos hle] at hg
    simp only at hg
    rw [Wt.sg_sig hx] at hg
    rw [Vm.opens_go hok (Wt.fits2 x E.t _ (by decide)) (m := ([Vm.tr true], [])) hg, decide_eq_true hle]
    rfl
  · rw [if_neg hle] at hg
    rw [Vm.opens_err (ss := [Wt.sig x E.t, ⟨#[]⟩]) hg, decide_eq_false hle]
theorem Wt.opens_revoked {E : Vm} {x d o : Int} (hx : Wt.sec x = true) (hh : 1 ≤ d ∧ d ≤ 99) : Vm.opens E (some (Lk.revocable (Sg.gp x) d o)) [Wt.sig x E.t, Vm.tr true] = true := by
  have hok : Jo.ok (Lk.revocable (Sg.gp x) d o) = true := by
    rw [Lk.ok_revocable]
    simp
    exact hh
  have hg := Vm.go_rev_first E (Sg.gp x) d o (Vm.tr true) [Wt.sig x E.t] (by decide) (by simp)
  simp only at hg
  rw [Wt.sg_sig hx] at hg
  rw [Vm.opens_go hok (Wt.fits2 x E.t _ (by decide)) (m := ([Vm.tr true], [])) hg]
  rfl
theorem Vm.one_of {a : ByteArray} {r : List ByteArray} (h : (match (a :: r).reverse with
    | [x] => decide (x.size ≠ 0)
    | _ => false) = true) : r = [] := by
  have hl : ∀ l : List ByteArray, (match l with
    | [x] => decide (x.size ≠ 0)
    | _ => false) = true → l.length = 1 := by
    intro l hl
    rcases l with _ | ⟨x, _ | ⟨y, z⟩⟩
    · simp at hl
    · rfl
    · simp at hl
  have := hl _ h
  simp at this
  exact this
/-- What opens a timed lock. -/
theorem Vm.opens_timed {E : Vm} {d p h q : Int} {ss : List ByteArray} (hd : 0 ≤ d ∧ d ≤ 4294967295) (ho : Vm.opens E (some (Lk.timed d p h q)) ss = true) :
    (∃ g x b, ss = [g, x, b] ∧ b.size ≠ 0 ∧ Dg.of x = d) ∨ (∃ g b, ss = [g, b] ∧ b.size = 0) := by
  have hf : Vm.fits ss := Decidable.byContradiction fun hf => by rw [Vm.opens_unfit hf] at ho; cases ho
  have hok : Jo.ok (Lk.timed d p h q) = true := by
    cases hc : Jo.ok (Lk.timed d p h q)
    · have : Vm.opens E (some (Lk.timed d p h q)) ss = false := Vm.opens_code (by
        unfold Vm.run
        rw [if_neg (fun g => by rw [hc] at g; exact absurd g.1 (by decide))]
        show (1 : Int) ≠ 0
        decide)
      rw [this] at ho
      cases ho
    · rfl
  have hlen := hf.1
  rw [← List.length_reverse] at hlen
  have hss := (List.reverse_reverse ss).symm
  rcases hr : ss.reverse with _ | ⟨b, r⟩
  · have hg : Vm.go E (Lk.timed d p h q) ss.reverse [] = .error 2 := by
      rw [hr]
      unfold Lk.timed
      rw [Vm.go_cons, Vm.st_if0 E [] rfl]
    rw [Vm.opens_err hg] at ho
    cases ho
  rw [hr] at hlen hss
  simp only [List.length_cons] at hlen
  by_cases hb : b.size = 0
  · have hg := Vm.go_timed_last E d p h q b r hb (by omega)
    rw [← hr] at hg
    by_cases hle : h ≤ E.h
    · rw [if_pos hle] at hg
      rcases r with _ | ⟨g, r2⟩
      · rw [Vm.opens_err hg] at ho
        cases ho
      simp only at hg
      rw [Vm.opens_go hok hf hg] at ho
      have := Vm.one_of ho
      subst this
      exact .inr ⟨g, b, hss, hb⟩
    · rw [if_neg hle] at hg
      rw [Vm.opens_err hg] at ho
      cases ho
  · have hg := Vm.go_timed_first E d p h q b r hb (by omega)
    rw [← hr] at hg
    rcases r with _ | ⟨x, r1⟩
    · rw [Vm.opens_err hg] at ho
      cases ho
    simp only at hg
    by_cases he : Dg.bytes (Dg.of x) = Dg.bytes d
    · rw [if_pos he] at hg
      rcases r1 with _ | ⟨g, r2⟩
      · rw [Vm.opens_err hg] at ho
        cases ho
      simp only at hg
      rw [Vm.opens_go hok hf hg] at ho
      have := Vm.one_of ho
      subst this
      refine .inl ⟨g, x, b, hss, hb, ?_⟩
      have hbd := Dg.of_bd x
      rw [← Dg.num_bytes (Dg.of x) hbd.1 hbd.2, he, Dg.num_bytes d hd.1 hd.2]
    · rw [if_neg he] at hg
      rw [Vm.opens_err hg] at ho
      cases ho
/-! ### the digest stands in the bytes -/
theorem bytes_mid (A D R : ByteArray) (ha : A.size = 4) (hd : D.size = 4) : (A ++ (D ++ R)).extract 4 8 = D := by
  apply ByteArray.ext
  apply Array.toList_inj.1
  have ha' : A.data.toList.length = 4 := by rw [Array.length_toList]; exact ha
  have hd' : D.data.toList.length = 4 := by rw [Array.length_toList]; exact hd
  rw [ByteArray.data_extract, Array.toList_extract, ByteArray.data_append, Array.toList_append, ByteArray.data_append, Array.toList_append, List.extract_eq_take_drop, List.drop_left' ha', List.take_left' hd']
theorem Lk.timed_bytes (d p h q : Int) : ∃ A R, A.size = 4 ∧ Jo.bytes (Lk.timed d p h q) = A ++ (Dg.bytes d ++ R) := by
  have e0 : Jo.bytes (Lk.timed d p h q) = Jo.enc (Lk.code 6) ++ (Jo.enc (Lk.code 10) ++ (Jo.enc (Lk.push d) ++ Jo.bytes [Lk.code 4, Lk.code 9, Lk.push p, Lk.code 11, Lk.code 7, ⟨13, h, 0, ⟨#[]⟩⟩, Lk.push q, Lk.code 11, Lk.code 8])) := rfl
  generalize Jo.bytes [Lk.code 4, Lk.code 9, Lk.push p, Lk.code 11, Lk.code 7, ⟨13, h, 0, ⟨#[]⟩⟩, Lk.push q, Lk.code 11, Lk.code 8] = R at e0
  have e1 : (Jo.enc (Lk.code 6)).size = 1 := by decide
  have e2 : (Jo.enc (Lk.code 10)).size = 1 := by decide
  have e3 : Jo.enc (Lk.push d) = (strOfNums [0] ++ En.num 4) ++ Dg.bytes d := by
    unfold Jo.enc
    rw [Jo.tail_c0 _ rfl]
    unfold En.text
    show strOfNums [0] ++ (En.num ((Dg.bytes d).size : Int) ++ Dg.bytes d) = _
    rw [Dg.bytes_size, bytes_assoc]
    rfl
  refine ⟨Jo.enc (Lk.code 6) ++ (Jo.enc (Lk.code 10) ++ (strOfNums [0] ++ En.num 4)), R, by decide, ?_⟩
  rw [e0, e3]
  simp only [bytes_assoc]
theorem Lk.timed_cut (d p h q : Int) : (Jo.bytes (Lk.timed d p h q)).extract 4 8 = Dg.bytes d ∧ 8 ≤ (Jo.bytes (Lk.timed d p h q)).size := by
  obtain ⟨A, R, ha, e⟩ := Lk.timed_bytes d p h q
  rw [e]
  refine ⟨bytes_mid A _ R ha (Dg.bytes_size d), ?_⟩
  rw [ByteArray.size_append, ByteArray.size_append, ha, Dg.bytes_size]
  omega
end Go.Proofs.YtoocibabceeagabGreat
