/-
  Chapter 8: the program's contracts and the model's, side by side.
-/
import Derived.Test.YtbhpealkhpginaaRl
import Derived.Test.YtbhpealkhpginaaRo
import Derived.Test.YtbhpealkhpginaaRp
import Derived.Test.YtbhpealkhpginaaQv
namespace Go.Proofs.Ytbhpealkhpginaa
open Go.RowKit

theorem own_cap {w : World} {base size n cap k : Nat} {e : TypeId} {a : Addr} {xs : List Value} (h : w.ownsRow base e size (.slice (some a) n cap) k xs) : n ≤ cap := by
  rcases h.2 with ⟨h, _⟩ | ⟨g, cap', cur, he, _, _, hn, _⟩
  · cases h
  · cases he
    exact hn
end Go.Proofs.Ytbhpealkhpginaa
