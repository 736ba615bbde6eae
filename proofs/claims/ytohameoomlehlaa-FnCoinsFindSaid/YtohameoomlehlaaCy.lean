/-
  The program's coins, all of them.
-/
import Derived.Test.YtohameoomlehlaaGb
import Derived.Test.YtohameoomlehlaaGf
import Derived.Test.YtohameoomlehlaaGg
