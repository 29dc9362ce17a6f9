/-
  Written by mkbase.py: RefShift, RootsP.
-/
import Derived.Test.YtlibjampolcbhaaGreatBaseG
import Derived.Deep.DeepCutAuto
import Derived.Deep.RegionHeld3
namespace Go.Proofs.YtlibjampolcbhaaGreat
open Go.RowKit
end Go.Proofs.YtlibjampolcbhaaGreat
namespace Go.Proofs.YtlibjampolcbhaaGreat
open Go.RowKit
end Go.Proofs.YtlibjampolcbhaaGreat
namespace Go.Proofs.YtlibjampolcbhaaGreat
open Go.RowKit
end Go.Proofs.YtlibjampolcbhaaGreat
namespace Go.Proofs.YtlibjampolcbhaaGreat
open Go.RowKit
end Go.Proofs.YtlibjampolcbhaaGreat
