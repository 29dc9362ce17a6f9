/-
  Stage 2: what the laws' walks stand on: calls of rationals by their values, under bounds.
-/
import Derived.Test.YtlibjampolcbhaaGreatRatY
import Derived.Test.YtlibjampolcbhaaGreatRatVa
import Derived.Test.YtlibjampolcbhaaGreatRatL
namespace Go.Proofs.YtlibjampolcbhaaGreat
open Go.RowKit
/-- A rational of a value is handed back, and no error. -/
def RetV (x : Rat) (w : World) (e : Ending) (w' : World) : Prop := ∃ q : RVal, e = .returned (.tuple #[.agg #[.bool q.g, .slice q.A q.n q.c, .bool q.gd, .slice q.Ad q.nd q.cd], .int .i64 0]) ∧ q.In w' ∧ rv q.o q.od = some x ∧ Below w.heap.size w w'
theorem RetR.v {x : Rat} {n d : Int} (hn : n = x.num) (hd : d = (x.den : Int)) {w : World} {e : Ending} {w' : World} (h : RetR n d 0 w e w') : RetV x w e w' := by
  obtain ⟨q, rfl, hi, o1, o2, hb⟩ := h
  exact ⟨q, rfl, hi, by rw [o1, o2, hn, hd]; exact rv_of x, hb⟩
section
variable {q q' : RVal} {x y : Rat} {w : World} {e f : Nat}
def RetW (x : Rat) (w : World) (e : Ending) (w' : World) : Prop := ∃ q : RVal, e = .returned (.agg #[.bool q.g, .slice q.A q.n q.c, .bool q.gd, .slice q.Ad q.nd q.cd]) ∧ q.In w' ∧ rv q.o q.od = some x ∧ Below w.heap.size w w'
end
end Go.Proofs.YtlibjampolcbhaaGreat
