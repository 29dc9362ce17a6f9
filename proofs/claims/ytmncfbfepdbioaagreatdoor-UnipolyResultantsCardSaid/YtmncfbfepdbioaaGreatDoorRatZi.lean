/-
 Stage 2: what the laws' walks stand on: calls of rationals by their values, under bounds. Stage 2: square roots by values. Stage 2: calls of integers by their values, and the worlds behind a call in a drawn region whose result goes to a box of its own.
-/
import Derived.Test.YtmncfbfepdbioaaGreatDoorRatY
import Derived.Test.YtmncfbfepdbioaaGreatDoorRatVa
import Derived.Test.YtmncfbfepdbioaaGreatDoorRatL
import Derived.Test.YtmncfbfepdbioaaGreatDoorPolQ
namespace Go.Proofs.YtmncfbfepdbioaaGreatDoor
open Go.RowKit
def RetV (x : Rat) (w : World) (e : Ending) (w' : World) : Prop := ∃ q : RVal, e = .returned (.tuple #[.agg #[.bool q.g, .slice q.A q.n q.c, .bool q.gd, .slice q.Ad q.nd q.cd], .int .i64 0]) /\ q.In w' /\ rv q.o q.od = some x /\ Below w.heap.size w w'
theorem RetR.v {x : Rat} {n d : Int} (hn : n = x.num) (hd : d = (x.den : Int)) {w : World} {e : Ending} {w' : World} (h : RetR n d 0 w e w') : RetV x w e w' := by
 obtain ⟨q, rfl, hi, o1, o2, hb⟩ := h
 exact ⟨q, rfl, hi, by rw [o1, o2, hn, hd]; exact rv_of x, hb⟩
section
variable {q q' : RVal} {x y : Rat} {w : World} {e f : Nat}
def RetW (x : Rat) (w : World) (e : Ending) (w' : World) : Prop := ∃ q : RVal, e = .returned (.agg #[.bool q.g, .slice q.A q.n q.c, .bool q.gd, .slice q.Ad q.nd q.cd]) /\ q.In w' /\ rv q.o q.od = some x /\ Below w.heap.size w w'
end
end Go.Proofs.YtmncfbfepdbioaaGreatDoor
namespace Go.Proofs.YtmncfbfepdbioaaGreatDoor
open Go.RowKit
section
variable {q : RVal} {x : Rat} {w : World}
end
end Go.Proofs.YtmncfbfepdbioaaGreatDoor
namespace Go.Proofs.YtmncfbfepdbioaaGreatDoor
open Go.RowKit
def RetN (z : Int) (w : World) (e : Ending) (w' : World) : Prop := ∃ g A n c xs, e = .returned (.agg #[.bool g, .slice A n c]) /\ Sl w' w'.heap.size A n c xs /\ ov g xs = some z /\ Below w.heap.size w w'
theorem RetI.n {z : Int} {w : World} {e : Ending} {w' : World} (hz : z.natAbs < BIG) (h : RetI z w e w') : RetN z w e w' := by
 obtain ⟨A, n, c, xs, rfl, hs, hx, hv, hb⟩ := h
 exact ⟨_, A, n, c, xs, rfl, hs, ov_res hs.ok hx hv hz, hb⟩
theorem big_small {z : Int} (h1 : -9223372036854775808 <= z) (h2 : z <= 9223372036854775807) : z.natAbs < BIG :=
 big_le (e := 64) (show z.natAbs < pw 64 by rw [show pw 64 = 18446744073709551616 from by decide]; omega) (by decide)
section
variable {g g' : Bool} {A A' : Option Addr} {n c n' c' : Nat} {xs ys : List Nat} {w : World} {a b : Int}
end
section
variable {B r : Nat} {w0 v : World} {z : Int} {x : Rat} {g : Bool} {A : Option Addr} {n c : Nat} {xs : List Nat} {q : RVal}
end
end Go.Proofs.YtmncfbfepdbioaaGreatDoor
