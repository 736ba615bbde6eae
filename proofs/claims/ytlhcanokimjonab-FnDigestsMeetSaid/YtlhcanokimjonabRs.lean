/-
  Contracts of the model's reader: le, num, DecodeNum.
-/
import Derived.Test.YtlhcanokimjonabRd
import Derived.Deep.QuietTactic
import Derived.BigQuiet
import Derived.WalkSmall
namespace Go.Proofs.Ytlhcanokimjonab
open Go.RowKit
end Go.Proofs.Ytlhcanokimjonab
