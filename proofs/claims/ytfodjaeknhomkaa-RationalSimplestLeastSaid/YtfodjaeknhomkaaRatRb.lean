/-
  Stage 2: the reference's Make, Of and the test of two numbers.
-/
import Derived.Test.YtfodjaeknhomkaaRatRa
namespace Go.Proofs.Ytfodjaeknhomkaa
open Go.RowKit
end Go.Proofs.Ytfodjaeknhomkaa
