/-
  Contracts of the model: l13With, l13Copy, WithWitness.
-/
import Derived.Test.YtcbpdibkindnfaaGreatTm
import Derived.Test.YtcbpdibkindnfaaGreatTp
import Derived.Test.YtcbpdibkindnfaaGreatTh
import Derived.Deep.RegionWith
import Derived.Deep.RegionLaw
namespace Go.Proofs.YtcbpdibkindnfaaGreat
open Go.RowKit
end Go.Proofs.YtcbpdibkindnfaaGreat
