/-
  Stage 2: the reference's negative, lowest, Make and Of.
-/
import Derived.Test.YtlibjampolcbhaaGreatRatRw
namespace Go.Proofs.YtlibjampolcbhaaGreat
open Go.RowKit
theorem RetN.of {z : Int} {w U : World} {r : Nat} {g : Bool} {A : Option Addr} {n c : Nat} {xs : List Nat} (h : Ba U r g A n c xs) (ho : ov g xs = some z) (hb : Below w.heap.size w U) : RetN z w (.returned (.agg #[.bool g, .slice A n c])) U := ⟨g, A, n, c, xs, rfl, h.sl, ho, hb⟩
theorem RetW.of {x : Rat} {w U : World} {r : Nat} {q : RVal} (h : Rb U r q) (ho : rv q.o q.od = some x) (hb : Below w.heap.size w U) : RetW x w (.returned (.agg #[.bool q.g, .slice q.A q.n q.c, .bool q.gd, .slice q.Ad q.nd q.cd])) U := ⟨q, rfl, h.sl, ho, hb⟩
end Go.Proofs.YtlibjampolcbhaaGreat
