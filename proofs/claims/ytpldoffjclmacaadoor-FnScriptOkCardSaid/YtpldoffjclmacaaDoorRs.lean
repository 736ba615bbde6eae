/-
  Contracts of the model's reader: le, num, DecodeNum.
-/
import Derived.Test.YtpldoffjclmacaaDoorRd
import Derived.Deep.QuietTactic
import Derived.BigQuiet
import Derived.WalkSmall
namespace Go.Proofs.YtpldoffjclmacaaDoor
open Go.RowKit
end Go.Proofs.YtpldoffjclmacaaDoor
