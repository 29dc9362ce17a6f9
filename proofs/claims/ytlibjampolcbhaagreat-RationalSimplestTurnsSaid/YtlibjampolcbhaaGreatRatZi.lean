/-
  Stage 2: calls of integers by their values, and the worlds behind a call in a drawn region whose result goes to a box of its own.
-/
import Derived.Test.YtlibjampolcbhaaGreatRatSqA
import Derived.Test.YtlibjampolcbhaaGreatRatJ
import Derived.Test.YtlibjampolcbhaaGreatRatQ
namespace Go.Proofs.YtlibjampolcbhaaGreat
open Go.RowKit
/-- An integer of a value is handed back, alone, or with no error. -/
def RetN (z : Int) (w : World) (e : Ending) (w' : World) : Prop := ∃ g A n c xs, e = .returned (.agg #[.bool g, .slice A n c]) ∧ Sl w' w'.heap.size A n c xs ∧ ov g xs = some z ∧ Below w.heap.size w w'
theorem RetI.n {z : Int} {w : World} {e : Ending} {w' : World} (hz : z.natAbs < BIG) (h : RetI z w e w') : RetN z w e w' := by
  obtain ⟨A, n, c, xs, rfl, hs, hx, hv, hb⟩ := h
  exact ⟨_, A, n, c, xs, rfl, hs, ov_res hs.ok hx hv hz, hb⟩
section
variable {g g' : Bool} {A A' : Option Addr} {n c n' c' : Nat} {xs ys : List Nat} {w : World} {a b : Int}
end
theorem Ba.drewZ {w : World} {r : Nat} {g : Bool} {A : Option Addr} {n c : Nat} {xs : List Nat} (h : Ba w r g A n c xs) : Ba w.drew r g A n c xs := ⟨h.bx.drew, h.sl.drew⟩
def RMid (B : Nat) (w0 : World) (x : Rat) (p s : Value) (wx : World) : Prop := ∃ r q, p = .pointer (some ⟨r, 0, none⟩) ∧ s = .int .i64 0 ∧ Rb wx r q ∧ rv q.o q.od = some x ∧ Below B w0 wx
section
variable {B r : Nat} {w0 v : World} {z : Int} {x : Rat} {g : Bool} {A : Option Addr} {n c : Nat} {xs : List Nat} {q : RVal}
theorem rMid_old (bn : Rb v r RVal.nil) (hB : Below B w0 v) (hle : B ≤ r) (hq : q.In v) (ho : rv q.o q.od = some x) :
    RMid B w0 x (.pointer (some ⟨r, 0, none⟩)) (.int .i64 0) ((((v.setCell ⟨r, 0, none⟩ (.bool q.g)).setCell ⟨r, 1, none⟩ (.slice q.A q.n q.c)).setCell ⟨r, 2, none⟩ (.bool q.gd)).setCell ⟨r, 3, none⟩ (.slice q.Ad q.nd q.cd)) :=
  ⟨r, q, rfl, rfl, Rb.put bn hq, ho, below_put4 hB hle _ _ _ _⟩
theorem rMid_new (hB : Below B w0 v) (hle : B ≤ v.heap.size) (hq : q.In v) (ho : rv q.o q.od = some x) :
    RMid B w0 x (.pointer (some ⟨v.heap.size, 0, none⟩)) (.int .i64 0) (v.alloc (.cells #[.bool q.g, .slice q.A q.n q.c, .bool q.gd, .slice q.Ad q.nd q.cd] 27)) :=
  ⟨v.heap.size, q, rfl, rfl, Rb.new hq, ho, hB.alloc hle _⟩
end
end Go.Proofs.YtlibjampolcbhaaGreat
