/-
  Contracts of the model's reader: le, num, DecodeNum.
-/
import Derived.Test.YtpldoffjclmacaaGreatDoorRd
import Derived.Deep.QuietTactic
import Derived.BigQuiet
import Derived.WalkSmall
namespace Go.Proofs.YtpldoffjclmacaaGreatDoor
open Go.RowKit
end Go.Proofs.YtpldoffjclmacaaGreatDoor
