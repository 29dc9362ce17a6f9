/-
 Stage 2: what the laws' walks stand on: calls of rationals by their values, under bounds. Stage 2: square roots by values. Stage 2: calls of integers by their values, and the worlds behind a call in a drawn region whose result goes to a box of its own.
-/
import Derived.Test.YtmncfbfepdbioaaGreatDoorRatY
import Derived.Test.YtmncfbfepdbioaaGreatDoorRatVa
import Derived.Test.YtmncfbfepdbioaaGreatDoorRatL
import Derived.Test.YtmncfbfepdbioaaGreatDoorPolQ
namespace Go.Proofs.YtmncfbfepdbioaaGreatDoor
open Go.RowKit
def RetV (x : Rat) (w : World) (e : Ending) (w' : World) : Prop := ∃ q : RVal, e = .returned (.tuple #[.agg #[.bool q.g, .slice q.A q.n q.c, .bool q.gd, .slice q.Ad q.nd q.cd], .int .i64 0]) /\ q.In w' /\ rv q.o q.od = some x /\ Below w.heap.size w w'
theorem RetR.v {x : Rat} {n d : Int} (hn : n = x.num) (hd : d = (x.den : Int)) {w : World} {e : Ending} {w' : World} (h : RetR n d 0 w e w') : RetV x w e w' := by
 obtain ⟨q, rfl, hi, o1, o2, hb⟩ := h
 exact ⟨q, rfl, hi, by rw [o1, o2, hn, hd]; exact rv_of x, hb⟩
section
variable {q q' : RVal} {x y : Rat} {w : World} {e f : Nat}
def RetW (x : Rat) (w : World) (e : Ending) (w' : World) : Prop := ∃ q : RVal, e = .returned (.agg #[.bool q.g, .slice q.A q.n q.c, .bool q.gd, .slice q.Ad q.nd q.cd]) /\ q.In w' /\ rv q.o q.od = some x /\ Below w.heap.size w w'
end
end Go.Proofs.YtmncfbfepdbioaaGreatDoor
namespace Go.Proofs.YtmncfbfepdbioaaGreatDoor
open Go.RowKit
section
variable {q : RVal} {x : Rat} {w : World}
end
end Go.Proofs.YtmncfbfepdbioaaGreatDoor
namespace Go.Proofs.YtmncfbfepdbioaaGreatDoor
open Go.RowKit
def RetN (z : Int) (w : World) (e : Ending) (w' : World) : Prop := ∃ g A n c xs, e = .returned (.agg #[.bool g, .slice A n c]) /\ Sl w' w'.heap.size A n c xs /\ ov g xs = some z /\ Below w.heap.size w w'
def RetZZ (z : Int) (w : World) (e : Ending) (w' : World) : Prop := ∃ g A n c xs, e = .returned (.tuple #[.agg #[.bool g, .slice A n c], .int .i64 0]) /\ Sl w' w'.heap.size A n c xs /\ ov g xs = some z /\ Below w.heap.size w w'
theorem RetI.n {z : Int} {w : World} {e : Ending} {w' : World} (hz : z.natAbs < BIG) (h : RetI z w e w') : RetN z w e w' := by
 obtain ⟨A, n, c, xs, rfl, hs, hx, hv, hb⟩ := h
 exact ⟨_, A, n, c, xs, rfl, hs, ov_res hs.ok hx hv hz, hb⟩
theorem RetIE.zz {z : Int} {w : World} {e : Ending} {w' : World} (hz : z.natAbs < BIG) (h : RetIE z 0 w e w') : RetZZ z w e w' := by
 obtain ⟨A, n, c, xs, rfl, hs, hx, hv, hb⟩ := h
 exact ⟨_, A, n, c, xs, rfl, hs, ov_res hs.ok hx hv hz, hb⟩
theorem big_small {z : Int} (h1 : -9223372036854775808 <= z) (h2 : z <= 9223372036854775807) : z.natAbs < BIG :=
 big_le (e := 64) (show z.natAbs < pw 64 by rw [show pw 64 = 18446744073709551616 from by decide]; omega) (by decide)
theorem of_z (n : Int) (w : World) (h1 : -9223372036854775808 <= n) (h2 : n <= 9223372036854775807) : Calls Tryz.prog 28 #[.int .i64 n] w (RetN n w) :=
 (of_any n w h1 h2).mono fun _ _ k => k.n (big_small h1 h2)
section
variable {g g' : Bool} {A A' : Option Addr} {n c n' c' : Nat} {xs ys : List Nat} {w : World} {a b : Int}
theorem add_z (h : Sl w w.heap.size A n c xs) (h' : Sl w w.heap.size A' n' c' ys) (hx : ov g xs = some a) (hy : ov g' ys = some b) (hb : (a + b).natAbs < BIG) :
 Calls Tryz.prog 45 #[.agg #[.bool g, .slice A n c], .agg #[.bool g', .slice A' n' c']] w (RetZZ (a + b) w) := by
 have C := add_ov (neg := g) (neg' := g') h h'
 rw [hx, hy, show o2Z (· + ·) (some a) (some b) = a + b from (fit_yes hb).1, show o2E (· + ·) (some a) (some b) = 0 from (fit_yes hb).2] at C
 exact C.mono fun _ _ k => k.zz hb
theorem make_z (h : Sl w w.heap.size A n c xs) (h' : Sl w w.heap.size A' n' c' ys) (hx : ov g xs = some a) (hy : ov g' ys = some b) (hb : b ≠ 0) :
 Calls Tryz.prog 46 #[.agg #[.bool g, .slice A n c], .agg #[.bool g', .slice A' n' c']] w (RetV (Rat.divInt a b) w) := by
 have C := make_ov (neg := g) (neg' := g') h h'
 have m := mk_ok (s := a) hb
 rw [hx, hy, m.1, m.2.1, m.2.2] at C
 exact C.mono fun _ _ k => RetR.v rfl rfl k
end
theorem Ba.drewZ {w : World} {r : Nat} {g : Bool} {A : Option Addr} {n c : Nat} {xs : List Nat} (h : Ba w r g A n c xs) : Ba w.drew r g A n c xs := ⟨h.bx.drew, h.sl.drew⟩
def IMid (B : Nat) (w0 : World) (z : Int) (p s : Value) (wx : World) : Prop := ∃ r g A n c xs, p = .pointer (some ⟨r, 0, none⟩) /\ s = .int .i64 0 /\ Ba wx r g A n c xs /\ ov g xs = some z /\ Below B w0 wx
def RMid (B : Nat) (w0 : World) (x : Rat) (p s : Value) (wx : World) : Prop := ∃ r q, p = .pointer (some ⟨r, 0, none⟩) /\ s = .int .i64 0 /\ Rb wx r q /\ rv q.o q.od = some x /\ Below B w0 wx
section
variable {B r : Nat} {w0 v : World} {z : Int} {x : Rat} {g : Bool} {A : Option Addr} {n c : Nat} {xs : List Nat} {q : RVal}
theorem iMid_old (bn : Bx v r false none 0 0) (hB : Below B w0 v) (hle : B <= r) (hs : Sl v v.heap.size A n c xs) (ho : ov g xs = some z) :
 IMid B w0 z (.pointer (some ⟨r, 0, none⟩)) (.int .i64 0) ((v.setCell ⟨r, 0, none⟩ (.bool g)).setCell ⟨r, 1, none⟩ (.slice A n c)) :=
 have nb : Ba v r false none 0 0 [] := ⟨bn, Sl.nil _ _⟩
 ⟨r, g, A, n, c, xs, rfl, rfl, nb.stored hs _, ho, below_ret hB hle _ _⟩
theorem iMid_new (hB : Below B w0 v) (hle : B <= v.heap.size) (hs : Sl v v.heap.size A n c xs) (ho : ov g xs = some z) :
 IMid B w0 z (.pointer (some ⟨v.heap.size, 0, none⟩)) (.int .i64 0) (v.alloc (.cells #[.bool g, .slice A n c] 25)) :=
 ⟨v.heap.size, g, A, n, c, xs, rfl, rfl, ⟨Bx.new _ _ _ _ _, hs.on (below_new _ _)⟩, ho, hB.alloc hle _⟩
theorem rMid_old (bn : Rb v r RVal.nil) (hB : Below B w0 v) (hle : B <= r) (hq : q.In v) (ho : rv q.o q.od = some x) :
 RMid B w0 x (.pointer (some ⟨r, 0, none⟩)) (.int .i64 0) ((((v.setCell ⟨r, 0, none⟩ (.bool q.g)).setCell ⟨r, 1, none⟩ (.slice q.A q.n q.c)).setCell ⟨r, 2, none⟩ (.bool q.gd)).setCell ⟨r, 3, none⟩ (.slice q.Ad q.nd q.cd)) :=
 ⟨r, q, rfl, rfl, Rb.put bn hq, ho, below_put4 hB hle _ _ _ _⟩
theorem rMid_new (hB : Below B w0 v) (hle : B <= v.heap.size) (hq : q.In v) (ho : rv q.o q.od = some x) :
 RMid B w0 x (.pointer (some ⟨v.heap.size, 0, none⟩)) (.int .i64 0) (v.alloc (.cells #[.bool q.g, .slice q.A q.n q.c, .bool q.gd, .slice q.Ad q.nd q.cd] 27)) :=
 ⟨v.heap.size, q, rfl, rfl, Rb.new hq, ho, hB.alloc hle _⟩
end
end Go.Proofs.YtmncfbfepdbioaaGreatDoor
