/-
  What WithWitness answers with one string.
-/
import Derived.Test.YtcbpdibkindnfaaUn
import Derived.Test.YtcbpdibkindnfaaVa
import Derived.Test.YtcbpdibkindnfaaUz
import Derived.Deep.RegionWith
namespace Go.Proofs.Ytcbpdibkindnfaa
open Go.RowKit

theorem SR.oneV {W : World} {g : Nat} {x : ByteArray} (h : W.heap[g]? = some (.cells #[.string x] 9 (0, 0))) : SR W (some ⟨g, 0, none⟩) 1 [x] :=
  ⟨rfl, fun _ => ⟨g, 0, rfl, lt_of_block h, fun i hi => by
    obtain rfl : i = 0 := by omega
    exact (⟨h⟩ : Bk g 9 #[.string x] W).cell 0⟩⟩
/-- "other". -/
def Tr.oth : ByteArray := ⟨#[111, 116, 104, 101, 114]⟩
/-- The answer of WithWitness, in names. -/
def AnsW (o : Option Tr) (w : World) (e : Ending) (w' : World) : Prop :=
  ∃ a n c b m d, e = .returned (.tuple #[.agg #[.slice a n c, .slice b m d, .int .i64 (Tr.getO o).after, .string (Tr.getO o).note], .bool o.isSome]) ∧ Hid (TrR w.heap.size w' a n b m (Tr.getO o)) ∧ Hid (n ≤ c) ∧ Below w.heap.size w w'
theorem implWithOne (lo : Nat) (a : Option Addr) (n c : Nat) (b : Option Addr) (m d : Nat) (t : Tr) (i : Int) (g : Nat) (w : World) (h : TrR lo w a n b m t) (hcap : n ≤ c) (hs : t.small) (hg : w.heap[g]? = some (.cells #[.string Tr.oth] 9 (0, 0))) :
    Calls Try.prog 17 #[.agg #[.slice a n c, .slice b m d, .int .i64 t.after, .string t.note], .int .i64 i, .slice (some ⟨g, 0, none⟩) 1 1] w (AnsW (t.withOk i [Tr.oth]) w) :=
  (implWithWitness_any lo a n c b m d t i (some ⟨g, 0, none⟩) 1 [Tr.oth] w h hcap hs (SR.oneV hg) (by simp) (by intro s hs; rw [List.mem_singleton] at hs; subst hs; decide)).mono fun e w' q => q.ans.trV
end Go.Proofs.Ytcbpdibkindnfaa
