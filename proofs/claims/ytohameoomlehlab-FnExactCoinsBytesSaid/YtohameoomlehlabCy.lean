/-
  The program's coins, all of them.
-/
import Derived.Test.YtohameoomlehlabGb
import Derived.Test.YtohameoomlehlabGf
import Derived.Test.YtohameoomlehlabGg
