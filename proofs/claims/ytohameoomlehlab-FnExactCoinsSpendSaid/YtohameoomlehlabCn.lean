/-
  What the exact laws of chapter 14 call.
-/
import Derived.Test.YtohameoomlehlabCm
import Derived.Test.YtohameoomlehlabCd
namespace Go.Proofs.Ytohameoomlehlab
open Go.RowKit

theorem CB.lolock {l : List Co} (h : ∀ j, j < l.length → (Co.nth l j).lock.size ≤ 1048576) : ∀ x ∈ l, x.lock.size ≤ 1048576 := fun x hx => by
  obtain ⟨j, hj, rfl⟩ := Co.mem_nth hx
  exact h j hj
theorem CoL.lenC {lo : Nat} {w : World} {a : Option Addr} {n : Nat} {l : List Co} (h : CoL lo w a n l) : l.length = n := h.1
end Go.Proofs.Ytohameoomlehlab
