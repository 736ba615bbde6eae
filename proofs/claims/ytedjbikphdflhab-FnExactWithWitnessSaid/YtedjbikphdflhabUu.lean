/-
  What a call owns that hands back a transaction, in a form for the exact laws.
-/
import Derived.Test.YtedjbikphdflhabUt
namespace Go.Proofs.Ytedjbikphdflhab
open Go.RowKit

/-- A transaction as a result: its inputs and outputs are rows that the call owns. -/
def HasTx (base : Nat) (w : World) (a : Option Addr) (c : Nat) (b : Option Addr) (d N M : Nat) (T : Tr) (l : List (Tr.In × Value)) : Prop :=
  l.map Prod.fst = T.ins ∧ l.length = N ∧ T.outs.length = M ∧ OwnI base w (.slice a N c) l ∧ OwnO base w (.slice b M d) T.outs
theorem HasTx.below {base : Nat} {w w' : World} {a b : Option Addr} {c d N M : Nat} {T : Tr} {l : List (Tr.In × Value)} (h : HasTx base w a c b d N M T l) (hb : Below w.heap.size w w') : HasTx base w' a c b d N M T l :=
  ⟨h.1, h.2.1, h.2.2.1, h.2.2.2.1.below13 hb, h.2.2.2.2.below13 hb⟩
theorem HasTx.alloc {base : Nat} {w : World} {a b : Option Addr} {c d N M : Nat} {T : Tr} {l : List (Tr.In × Value)} (h : HasTx base w a c b d N M T l) (o : Obj) : HasTx base (w.alloc o) a c b d N M T l :=
  h.below ((Below.refl _ _).alloc (Nat.le_refl _) o)
theorem HasTx.drew {base : Nat} {w : World} {a b : Option Addr} {c d N M : Nat} {T : Tr} {l : List (Tr.In × Value)} (h : HasTx base w a c b d N M T l) : HasTx base w.drew a c b d N M T l :=
  h.below (Below.refl _ _).drew
theorem HasTx.trR {base : Nat} {w : World} {a b : Option Addr} {c d N M : Nat} {T : Tr} {l : List (Tr.In × Value)} (h : HasTx base w a c b d N M T l) : TrR base w a N b M T := OwnI.trR3 h.2.2.2.1 h.2.2.2.2 h.1
/-- All its blocks lie below hi. -/
def UpTx (hi : Nat) (a : Option Addr) (c : Nat) (b : Option Addr) (d N M : Nat) (l : List (Tr.In × Value)) : Prop := UpI hi (.slice a N c) l ∧ ∀ q, (Value.slice b M d).ownBlock = some q → q < hi
theorem HasTx.up {base : Nat} {w : World} {a b : Option Addr} {c d N M : Nat} {T : Tr} {l : List (Tr.In × Value)} (h : HasTx base w a c b d N M T l) : UpTx w.heap.size a c b d N M l := ⟨h.2.2.2.1.up, fun q hq => (World.ownsRow.lt h.2.2.2.2 q hq).2⟩
theorem UpTx.mono {hi hi' : Nat} {a b : Option Addr} {c d N M : Nat} {l : List (Tr.In × Value)} (h : UpTx hi a c b d N M l) (hh : hi ≤ hi') : UpTx hi' a c b d N M l :=
  ⟨⟨fun g hg => Nat.lt_of_lt_of_le (h.1.1 g hg) hh, fun x hx g hg => Nat.lt_of_lt_of_le (h.1.2 x hx g hg) hh⟩, fun q hq => Nat.lt_of_lt_of_le (h.2 q hq) hh⟩
theorem HasTx.segLo {base lo hi : Nat} {w w' : World} {a b : Option Addr} {c d N M : Nat} {T : Tr} {l : List (Tr.In × Value)} (h : HasTx base w a c b d N M T l) (hs : Seg lo hi w w') (hu : UpTx lo a c b d N M l) : HasTx base w' a c b d N M T l :=
  ⟨h.1, h.2.1, h.2.2.1, h.2.2.2.1.segLo hs hu.1, h.2.2.2.2.segLo hs hu.2⟩
theorem HasTx.segHi {base lo hi : Nat} {w w' : World} {a b : Option Addr} {c d N M : Nat} {T : Tr} {l : List (Tr.In × Value)} (h : HasTx base w a c b d N M T l) (hs : Seg lo hi w w') (hu : hi ≤ base) : HasTx base w' a c b d N M T l :=
  ⟨h.1, h.2.1, h.2.2.1, h.2.2.2.1.segHi hs hu, h.2.2.2.2.segHi hs hu⟩
/-- The same, marked from number k on. -/
def HasMk (base : Nat) (w : World) (a : Option Addr) (c : Nat) (b : Option Addr) (d N M : Nat) (l : List (Tr.In × Value)) (k : Int) : Prop :=
  l.length = N ∧ OwnI base w (.slice a N c) (Tr.mkI k l) ∧ OwnO base w (.slice b M d) (Tr.mkO (Tr.mkE k l) M)
theorem HasMk.below {base : Nat} {w w' : World} {a b : Option Addr} {c d N M : Nat} {l : List (Tr.In × Value)} {k : Int} (h : HasMk base w a c b d N M l k) (hb : Below w.heap.size w w') : HasMk base w' a c b d N M l k :=
  ⟨h.1, h.2.1.below13 hb, h.2.2.below13 hb⟩
theorem HasMk.alloc {base : Nat} {w : World} {a b : Option Addr} {c d N M : Nat} {l : List (Tr.In × Value)} {k : Int} (h : HasMk base w a c b d N M l k) (o : Obj) : HasMk base (w.alloc o) a c b d N M l k :=
  h.below ((Below.refl _ _).alloc (Nat.le_refl _) o)
theorem own_lenU {w : World} {base k n n' c : Nat} {e : TypeId} {a : Option Addr} {xs : List Value} (h : w.ownsRow base e k (.slice a n c) n' xs) : n = n' := by
  rcases h.2 with ⟨he, h0⟩ | ⟨g, cap, cur, he, _⟩
  · cases he; exact h0.symm
  · cases he; rfl
/-- What the program's and the model's calls answer. -/
def AnsQ (N M : Nat) (T : Tr) (AF : Int) (NT : ByteArray) (ok : Bool) (w : World) (e : Ending) (w' : World) : Prop :=
  ∃ a c b d l, e = .returned (.tuple #[.agg #[.slice a N c, .slice b M d, .int .i64 AF, .string NT], .bool ok]) ∧ Below w.heap.size w w' ∧ Hid (HasTx w.heap.size w' a c b d N M T l)
def AnsQD (N M : Nat) (T : Tr) (AF : Int) (NT : ByteArray) (ok : Bool) (w : World) (e : Ending) (w' : World) : Prop :=
  ∃ a c b d l, e = .returned (.tuple #[.agg #[.slice a N c, .slice b M d, .int .i64 AF, .string NT], .bool ok]) ∧ Below w.heap.size w w' ∧ Hid (HasTx w.heap.size w' a c b d N M T l) ∧ Hid (DistW l)
theorem TxAns.own {o : Option Tr} {N M : Nat} {T : Tr} {AF : Int} {NT : ByteArray} {ok : Bool} (hT : Tr.getO o = T) (hN : T.ins.length = N) (hM : T.outs.length = M) (hA : T.after = AF) (hS : T.note = NT) (hk : o.isSome = ok) {w w' : World} {e : Ending} (h : TxAns o w e w') : AnsQ N M T AF NT ok w e w' := by
  obtain ⟨a, n, c, b, m, d, af, nt, ok', rfl, hb, h⟩ := h
  rcases h with ⟨h1, rfl, rfl, rfl, rfl, rfl, rfl, rfl, rfl, rfl⟩ | ⟨l, outs, h1, rfl, h3, h4⟩
  · have h1 := h1.out
    subst h1
    subst hT
    subst hN hM hA hS hk
    exact ⟨none, 0, none, 0, [], rfl, hb, Lib.hid ⟨rfl, rfl, rfl, ⟨World.ownsRow_nil _ _ _ _, fun x hx => by cases hx⟩, World.ownsRow_nil _ _ _ _⟩⟩
  · have h1 := h1.out
    subst h1
    subst hT
    have hn : n = l.length := own_lenU h3.1
    have hm : m = outs.length := own_lenU h4
    subst hn hm hA hS hk
    have e1 : N = l.length := by rw [← hN]; simp [Tr.getO]
    have e2 : M = outs.length := by rw [← hM]; simp [Tr.getO]
    subst e1 e2
    exact ⟨a, c, b, d, l, rfl, hb, Lib.hid ⟨rfl, rfl, rfl, h3, h4⟩⟩
theorem TxAnsD.own {o : Option Tr} {N M : Nat} {T : Tr} {AF : Int} {NT : ByteArray} {ok : Bool} (hT : Tr.getO o = T) (hN : T.ins.length = N) (hM : T.outs.length = M) (hA : T.after = AF) (hS : T.note = NT) (hk : o.isSome = ok) {w w' : World} {e : Ending} (h : TxAnsD o w e w') : AnsQD N M T AF NT ok w e w' := by
  obtain ⟨a, n, c, b, m, d, af, nt, ok', rfl, hb, h⟩ := h
  rcases h with ⟨h1, rfl, rfl, rfl, rfl, rfl, rfl, rfl, rfl, rfl⟩ | ⟨l, outs, h1, rfl, h3, h4, h5⟩
  · have h1 := h1.out
    subst h1
    subst hT
    subst hN hM hA hS hk
    exact ⟨none, 0, none, 0, [], rfl, hb, Lib.hid ⟨rfl, rfl, rfl, ⟨World.ownsRow_nil _ _ _ _, fun x hx => by cases hx⟩, World.ownsRow_nil _ _ _ _⟩, Lib.hid DistW.nil⟩
  · have h1 := h1.out
    subst h1
    subst hT
    have hn : n = l.length := own_lenU h3.1
    have hm : m = outs.length := own_lenU h4
    subst hn hm hA hS hk
    have e1 : N = l.length := by rw [← hN]; simp [Tr.getO]
    have e2 : M = outs.length := by rw [← hM]; simp [Tr.getO]
    subst e1 e2
    exact ⟨a, c, b, d, l, rfl, hb, Lib.hid ⟨rfl, rfl, rfl, h3, h4⟩, h5⟩
/-- A transaction of the right shape has few marks. -/
theorem Tr.few {T : Tr} {N M : Nat} (h : T.fit) (hN : T.ins.length = N) (hM : T.outs.length = M) : N ≤ 6 ∧ M ≤ 6 ∧ (∀ x ∈ T.ins, x.wit.length ≤ 24) := by
  subst hN hM
  exact ⟨h.nin, h.nout, fun x hx => (h.ins x hx).2.2.1⟩
theorem Tr.mkE_few (l : List (Tr.In × Value)) (h : ∀ x ∈ l, x.1.wit.length ≤ 24) : ∀ k, Tr.mkE k l ≤ k + (l.length : Int) * 26 := by
  induction l with
  | nil => intro k; simp [Tr.mkE]
  | cons x l ih =>
    intro k
    have h1 := ih (fun y hy => h y (by simp [hy])) (k + 1 + 1 + (x.1.wit.length : Int))
    have h2 := h x (by simp)
    simp only [Tr.mkE, List.length_cons]
    omega
theorem Tr.fit_none : (⟨[], [], 0, ⟨#[]⟩⟩ : Tr).fit := ⟨by simp, by simp, (by intro x hx; cases hx), (by intro x hx; cases hx), by simp, by simp [ByteArray.size]⟩
/-- Marks on a result. -/
theorem mark_has {base hi : Nat} {w : World} {a b : Option Addr} {c d N M : Nat} {T : Tr} {l : List (Tr.In × Value)} (AF : Int) (NT : ByteArray) (h : HasTx base w a c b d N M T l) (hd : DistW l) (hu : UpTx hi a c b d N M l) (hhi : hi ≤ w.heap.size) (hs : T.small) :
    Calls Try.prog 19 #[.agg #[.slice a N c, .slice b M d, .int .i64 AF, .string NT], .int .i64 1] w fun e w' => e = .returned (.int .i64 (Tr.mkE 1 l + 2 * (M : Int))) ∧ Hid (HasMk base w' a c b d N M l 1) ∧ Hid (Seg base hi w w') := by
  obtain ⟨h1, h2, h3, h4, h5⟩ := h
  have h6 := hs.nin
  have h7 := hs.nout
  refine (markTx_any base hi a N c b M d AF NT l T.outs 1 w h4 h5 h2 h3 hd hu.1 hu.2 hhi (by omega) (by omega) (by rw [← h1, List.length_map] at h6; omega) (by omega) (fun x hx => (hs.wit x.1 (by rw [← h1]; exact List.mem_map_of_mem hx)).1)).mono ?_
  rintro e w' ⟨he, hI, hO, hsg⟩
  exact ⟨he, Lib.hid ⟨h2, hI, hO⟩, Lib.hid hsg⟩
theorem held_has {base : Nat} {w : World} {a b : Option Addr} {c d N M : Nat} {l : List (Tr.In × Value)} (AF : Int) (NT : ByteArray) (h : HasMk base w a c b d N M l 1) (h1 : Tr.mkE 1 l ≤ 1000) (hN : N ≤ 6) (hM : M ≤ 6) :
    Calls Try.prog 20 #[.agg #[.slice a N c, .slice b M d, .int .i64 AF, .string NT], .int .i64 1] w fun e w' => e = .returned (.int .i64 (Tr.mkE 1 l + 2 * (M : Int))) ∧ Below w.heap.size w w' :=
  heldTx_any base a N c b M d AF NT l 1 w h.2.1 h.2.2 h.1 (by omega) h1 (by omega) (by omega)
end Go.Proofs.Ytedjbikphdflhab
