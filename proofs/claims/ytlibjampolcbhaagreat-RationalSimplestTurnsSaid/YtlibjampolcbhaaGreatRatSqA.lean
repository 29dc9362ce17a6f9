/-
  Stage 2: square roots by values.
-/
import Derived.Test.YtlibjampolcbhaaGreatRatLb
import Derived.Test.YtlibjampolcbhaaGreatRatK
namespace Go.Proofs.YtlibjampolcbhaaGreat
open Go.RowKit
section
variable {q : RVal} {x : Rat} {w : World}
end
end Go.Proofs.YtlibjampolcbhaaGreat
