/-
  Plain mathematics of scripts: bytes, written and read; items of signatures.
-/
import Derived.Test.YtohameoomlehlaaGreatPb
import Derived.Test.YtohameoomlehlaaGreatTx
import Derived.Test.YtohameoomlehlaaGreatDg
namespace Go.Proofs.YtohameoomlehlaaGreat

/-- What stands behind the code. -/
def Jo.tail (x : Jo) : ByteArray :=
  if x.c = 0 then En.text x.t else if x.c = 12 then En.num x.a ++ En.num x.b else if x.c = 13 ∨ x.c = 14 then En.num x.a else ⟨#[]⟩
/-- The bytes of an operation. -/
def Jo.enc (x : Jo) : ByteArray := strOfNums [x.c] ++ Jo.tail x
/-- The bytes of operations. -/
def Jo.bytes : List Jo → ByteArray
  | [] => ⟨#[]⟩
  | x :: l => Jo.enc x ++ Jo.bytes l
theorem bytes_assoc (a b c : ByteArray) : a ++ b ++ c = a ++ (b ++ c) := by
  apply ByteArray.ext
  simp [ByteArray.data_append]
theorem bytes_nil (a : ByteArray) : a ++ (⟨#[]⟩ : ByteArray) = a := by
  apply ByteArray.ext
  simp [ByteArray.data_append]
theorem bytes_nil' (a : ByteArray) : (⟨#[]⟩ : ByteArray) ++ a = a := by
  apply ByteArray.ext
  simp [ByteArray.data_append]
theorem Jo.bytes_append (l m : List Jo) : Jo.bytes (l ++ m) = Jo.bytes l ++ Jo.bytes m := by
  induction l with
  | nil => exact (bytes_nil' _).symm
  | cons x l ih => show Jo.enc x ++ Jo.bytes (l ++ m) = Jo.enc x ++ Jo.bytes l ++ Jo.bytes m; rw [ih, bytes_assoc]
theorem Jo.bytes_snoc (l : List Jo) (x : Jo) : Jo.bytes (l ++ [x]) = Jo.bytes l ++ Jo.enc x := by
  rw [Jo.bytes_append]
  show _ ++ (Jo.enc x ++ ⟨#[]⟩) = _
  rw [bytes_nil]
/-- What is read behind the code. -/
def Jo.oneR (c : Int) (r : ByteArray) : Option (Jo × ByteArray) :=
  if c = 0 then (match En.decT r with
    | none => none
    | some x => some (⟨0, 0, 0, x.1⟩, x.2))
  else if c = 12 then (match En.dec r with
    | none => none
    | some x => match En.dec x.2 with
      | none => none
      | some y => some (⟨12, x.1, y.1, ⟨#[]⟩⟩, y.2))
  else if c = 13 ∨ c = 14 then (match En.dec r with
    | none => none
    | some x => some (⟨c, x.1, 0, ⟨#[]⟩⟩, x.2))
  else some (⟨c, 0, 0, ⟨#[]⟩⟩, r)
/-- One operation. -/
def Jo.one (s : ByteArray) : Option (Jo × ByteArray) := Jo.oneR (En.byt s 0) (En.rest s 1)
/-- The operations of a string, n at most. -/
def Jo.rd : Nat → ByteArray → Option (List Jo)
  | 0, s => if s.size = 0 then some [] else none
  | n + 1, s => if s.size = 0 then some [] else match Jo.one s with
    | none => none
    | some x => match Jo.rd n x.2 with
      | none => none
      | some l => some (x.1 :: l)
/-- The script of bytes. -/
def Jo.read (s : ByteArray) : Option (List Jo) := match Jo.rd s.size s with
  | none => none
  | some l => if Jo.ok l = true then some l else none
theorem En.decT_size {s t r : ByteArray} (h : En.decT s = some (t, r)) : r.size ≤ s.size := by
  have := (En.text_decT h).1
  rw [← this, ByteArray.size_append]
  omega
theorem Jo.oneR_size {c : Int} {r : ByteArray} {x : Jo} {u : ByteArray} (h : Jo.oneR c r = some (x, u)) : u.size ≤ r.size := by
  unfold Jo.oneR at h
  split at h
  · split at h
    · cases h
    · rename_i y hy
      cases h
      exact En.decT_size (t := y.1) hy
  · split at h
    · split at h
      · cases h
      · rename_i y hy
        split at h
        · cases h
        · rename_i z hz
          cases h
          have h1 := (En.dec_bd (n := y.1) (r := y.2) hy).2.2
          have h2 := (En.dec_bd (n := z.1) (r := z.2) hz).2.2
          omega
    · split at h
      · split at h
        · cases h
        · rename_i y hy
          cases h
          have h1 := (En.dec_bd (n := y.1) (r := y.2) hy).2.2
          omega
      · cases h; exact Nat.le_refl _
theorem Jo.one_size {s : ByteArray} {x : Jo} {u : ByteArray} (hs : 0 < s.size) (h : Jo.one s = some (x, u)) : u.size < s.size := by
  have h1 := Jo.oneR_size h
  rw [En.size_rest] at h1
  have : (1 : Int).toNat = 1 := rfl
  omega
theorem Jo.rd_zero {n : Nat} {s : ByteArray} (h : s.size = 0) : Jo.rd n s = some [] := by
  cases n with
  | zero => exact if_pos h
  | succ n => exact if_pos h
/-- More room does not matter. -/
theorem Jo.rd_room (n : Nat) : ∀ (m : Nat) (s : ByteArray), s.size ≤ n → s.size ≤ m → Jo.rd n s = Jo.rd m s := by
  induction n with
  | zero => intro m s h1 h2; rw [Jo.rd_zero (by omega), Jo.rd_zero (by omega)]
  | succ n ih =>
    intro m s h1 h2
    by_cases h0 : s.size = 0
    · rw [Jo.rd_zero h0, Jo.rd_zero h0]
    · obtain ⟨k, rfl⟩ : ∃ k, m = k + 1 := ⟨m - 1, by omega⟩
      simp only [Jo.rd]
      rw [if_neg h0, if_neg h0]
      cases hx : Jo.one s with
      | none => rfl
      | some x =>
        have := Jo.one_size (x := x.1) (u := x.2) (by omega) hx
        simp only
        rw [ih k x.2 (by omega) (by omega)]
/-- The operations of a string. -/
def Jo.all (s : ByteArray) : Option (List Jo) := Jo.rd s.size s
theorem Jo.all_nil {s : ByteArray} (h : s.size = 0) : Jo.all s = some [] := Jo.rd_zero h
theorem Jo.all_none {s : ByteArray} (h : 0 < s.size) (h1 : Jo.one s = none) : Jo.all s = none := by
  unfold Jo.all
  obtain ⟨k, hk⟩ : ∃ k, s.size = k + 1 := ⟨s.size - 1, by omega⟩
  rw [hk]
  simp only [Jo.rd]
  rw [if_neg (by omega), h1]
theorem Jo.all_some {s u : ByteArray} {x : Jo} (h : 0 < s.size) (h1 : Jo.one s = some (x, u)) : Jo.all s = match Jo.all u with
    | none => none
    | some l => some (x :: l) := by
  unfold Jo.all
  have hlt := Jo.one_size h h1
  obtain ⟨k, hk⟩ : ∃ k, s.size = k + 1 := ⟨s.size - 1, by omega⟩
  conv => lhs; rw [hk]
  simp only [Jo.rd]
  rw [if_neg (by omega), h1]
  simp only
  rw [Jo.rd_room k u.size u (by omega) (Nat.le_refl _)]
theorem str_one_append (c : Int) (t : ByteArray) : En.rest (strOfNums [c] ++ t) 1 = t := by
  have h := En.rest_append (strOfNums [c]) t
  rwa [strOfNums_size] at h
theorem byt_one_append (c : Int) (t : ByteArray) (h0 : 0 ≤ c) (h1 : c < 256) : En.byt (strOfNums [c] ++ t) 0 = c := by
  unfold En.byt
  rw [ByteArray.data_append, Array.toList_append, strOfNums_data]
  exact En.u8 h0 h1
theorem Jo.enc_size (x : Jo) (t : ByteArray) : 0 < (Jo.enc x ++ t).size := by
  unfold Jo.enc
  rw [ByteArray.size_append, ByteArray.size_append, strOfNums_size]
  simp only [List.length_cons, List.length_nil]
  omega
theorem Jo.one_enc {x : Jo} (h : Jo.fld x = true) (t : ByteArray) : Jo.one (Jo.enc x ++ t) = some (x, t) := by
  have key : ∀ y : Jo, 0 ≤ y.c → y.c < 256 → Jo.one (Jo.enc y ++ t) = Jo.oneR y.c (Jo.tail y ++ t) := fun y h0 h1 => by
    unfold Jo.one Jo.enc
    rw [bytes_assoc, byt_one_append _ _ h0 h1, str_one_append]
  rcases Jo.kinds h with ⟨e, ht⟩ | ⟨e, h1, h2, h3⟩ | ⟨e, h1, h2⟩ | ⟨e, h1, h2⟩ | ⟨k, e, h1, h2⟩
  · rw [e, key _ (by simp only; omega) (by simp only; omega)]
    show Jo.oneR 0 (En.text x.t ++ t) = _
    unfold Jo.oneR
    rw [if_pos rfl, En.decT_text _ _ (by omega)]
  · rw [e, key _ (by simp only; omega) (by simp only; omega)]
    show Jo.oneR 12 (En.num x.a ++ En.num x.b ++ t) = _
    unfold Jo.oneR
    rw [if_neg (by decide), if_pos rfl, bytes_assoc, En.dec_num _ _ (by omega) (by omega)]
    simp only
    rw [En.dec_num _ _ (by omega) (by omega)]
  · rw [e, key _ (by simp only; omega) (by simp only; omega)]
    show Jo.oneR 13 (En.num x.a ++ t) = _
    unfold Jo.oneR
    rw [if_neg (by decide), if_neg (by decide), if_pos (by decide), En.dec_num _ _ (by omega) (by omega)]
  · rw [e, key _ (by simp only; omega) (by simp only; omega)]
    show Jo.oneR 14 (En.num x.a ++ t) = _
    unfold Jo.oneR
    rw [if_neg (by decide), if_neg (by decide), if_pos (by decide), En.dec_num _ _ (by omega) (by omega)]
  · rw [e, key _ (by simp) (by simp; omega)]
    have ht : Jo.tail ⟨(k : Int), 0, 0, ⟨#[]⟩⟩ = ⟨#[]⟩ := by
      unfold Jo.tail
      rw [if_neg (show ¬ (k : Int) = 0 by omega), if_neg (show ¬ (k : Int) = 12 by omega), if_neg (show ¬ ((k : Int) = 13 ∨ (k : Int) = 14) by omega)]
    rw [ht, bytes_nil']
    unfold Jo.oneR
    rw [if_neg (show ¬ (k : Int) = 0 by omega), if_neg (show ¬ (k : Int) = 12 by omega), if_neg (show ¬ ((k : Int) = 13 ∨ (k : Int) = 14) by omega)]
theorem str_front (s : ByteArray) (h : 0 < s.size) : strOfNums [En.byt s 0] ++ En.rest s 1 = s := by
  have hf := En.front_rest s 1 (by omega) (by omega)
  have h1 : En.front s 1 = strOfNums [En.byt s 0] := by
    apply Jo.L_inj
    rw [Jo.L_str _ (fun x hx => by simp at hx; subst hx; exact En.byt_bd s 0)]
    unfold En.front
    rw [Jo.L_extract]
    have hg := Jo.L_get s 0 h
    cases hL : Jo.L s with
    | nil => rw [hL] at hg; cases hg
    | cons a r => rw [hL] at hg; simp at hg; subst hg; rfl
  rw [← h1]; exact hf
theorem Jo.enc_one {s u : ByteArray} {x : Jo} (hs : 0 < s.size) (h : Jo.one s = some (x, u)) : Jo.enc x ++ u = s := by
  have hb := En.byt_bd s 0
  have hf := str_front s hs
  unfold Jo.one Jo.oneR at h
  unfold Jo.enc
  generalize En.byt s 0 = c at h hf hb
  generalize En.rest s 1 = r at h hf
  split at h
  · rename_i hc
    subst hc
    split at h
    · cases h
    · rename_i y hy
      cases h
      show strOfNums [0] ++ En.text y.1 ++ y.2 = s
      rw [bytes_assoc, (En.text_decT (t := y.1) (r := y.2) hy).1]; exact hf
  · rename_i hc0
    split at h
    · rename_i hc
      subst hc
      split at h
      · cases h
      · rename_i y hy
        split at h
        · cases h
        · rename_i z hz
          cases h
          show strOfNums [12] ++ (En.num y.1 ++ En.num z.1) ++ z.2 = s
          rw [bytes_assoc, bytes_assoc, En.num_dec (n := z.1) (r := z.2) hz, En.num_dec (n := y.1) (r := y.2) hy]; exact hf
    · rename_i hc12
      split at h
      · rename_i hc
        split at h
        · cases h
        · rename_i y hy
          cases h
          have ht : Jo.tail ⟨c, y.1, 0, ⟨#[]⟩⟩ = En.num y.1 := by
            unfold Jo.tail
            simp only
            rw [if_neg hc0, if_neg hc12, if_pos hc]
          rw [ht, bytes_assoc, En.num_dec (n := y.1) (r := y.2) hy]; exact hf
      · rename_i hc
        cases h
        have ht : Jo.tail ⟨c, 0, 0, ⟨#[]⟩⟩ = ⟨#[]⟩ := by
          unfold Jo.tail
          simp only
          rw [if_neg hc0, if_neg hc12, if_neg hc]
        rw [ht, bytes_nil]; exact hf
theorem Jo.all_bytes {l : List Jo} (h : ∀ x ∈ l, Jo.fld x = true) : Jo.all (Jo.bytes l) = some l := by
  induction l with
  | nil => exact Jo.all_nil rfl
  | cons x l ih =>
    rw [show Jo.bytes (x :: l) = Jo.enc x ++ Jo.bytes l from rfl, Jo.all_some (Jo.enc_size _ _) (Jo.one_enc (h x (List.mem_cons_self ..)) _), ih (fun y hy => h y (List.mem_cons_of_mem _ hy))]
theorem Jo.bytes_rd (n : Nat) : ∀ (s : ByteArray) (l : List Jo), Jo.rd n s = some l → Jo.bytes l = s := by
  induction n with
  | zero =>
    intro s l h
    unfold Jo.rd at h
    split at h
    · rename_i h0
      cases h
      exact (Jo.size_zero h0).symm
    · cases h
  | succ n ih =>
    intro s l h
    simp only [Jo.rd] at h
    split at h
    · rename_i h0
      cases h
      exact (Jo.size_zero h0).symm
    · split at h
      · cases h
      · rename_i x hx
        split at h
        · cases h
        · rename_i m hm
          cases h
          show Jo.enc x.1 ++ Jo.bytes m = s
          rw [ih _ _ hm]
          exact Jo.enc_one (x := x.1) (u := x.2) (by omega) hx
/-- What is written is read. -/
theorem Jo.read_bytes {l : List Jo} (h : Jo.ok l = true) : Jo.read (Jo.bytes l) = some l := by
  have h1 := Jo.all_bytes ((Jo.ok_iff l).1 h).2.1
  unfold Jo.all at h1
  unfold Jo.read
  rw [h1]
  exact if_pos h
/-- A script has one string of bytes. -/
theorem Jo.bytes_read {s : ByteArray} {l : List Jo} (h : Jo.read s = some l) : Jo.bytes l = s ∧ Jo.ok l = true := by
  unfold Jo.read at h
  split at h
  · cases h
  · rename_i m hm
    split at h
    · rename_i hok
      cases h
      exact ⟨Jo.bytes_rd _ _ _ hm, hok⟩
    · cases h
end Go.Proofs.YtohameoomlehlaaGreat
