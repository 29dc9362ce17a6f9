/-
  Stage 2: the laws' valid.
-/
import Derived.Test.YtlibjampolcbhaaGreatRatZ
import Derived.Test.YtlibjampolcbhaaGreatRatG
namespace Go.Proofs.YtlibjampolcbhaaGreat
open Go.RowKit
end Go.Proofs.YtlibjampolcbhaaGreat
