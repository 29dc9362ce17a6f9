/-
  IntegerValid returns true, for every integer, valid or not, and every int.
-/
import Derived.Test.YtalgcppogjpilaaSmall
import Derived.Test.YtalgcppogjpilaaArgs
namespace Go.Proofs.Ytalgcppogjpilaa
open Go.RowKit

/-- A box whose integer need not be valid. -/
structure Ba (w : World) (r : Nat) (neg : Bool) (A : Option Addr) (n c : Nat) (xs : List Nat) : Prop where
  bx : Bx w r neg A n c
  sl : Sl w w.heap.size A n c xs
theorem Ba.on {w w' : World} {r : Nat} {neg : Bool} {A : Option Addr} {n c : Nat} {xs : List Nat} (h : Ba w r neg A n c xs) (hb : Below w.heap.size w w') : Ba w' r neg A n c xs :=
  ⟨h.bx.below hb h.bx.lt, h.sl.on hb⟩
theorem Ba.drew {w : World} {r : Nat} {neg : Bool} {A : Option Addr} {n c : Nat} {xs : List Nat} (h : Ba w r neg A n c xs) : Ba w.drew r neg A n c xs := ⟨h.bx.drew, h.sl.drew⟩

set_option maxHeartbeats 4000000 in
theorem integerValid_any (neg : Bool) (A : Option Addr) (n c : Nat) (xs : List Nat) (z : Int) (w : World) (h : Sl w w.heap.size A n c xs) (h1 : -9223372036854775808 ≤ z) (h2 : z ≤ 9223372036854775807) :
    Calls Try.prog 3 #[.agg #[.bool neg, .slice A n c], .int .i64 z] w fun e w' => e = .returned (.bool true) ∧ Below w.heap.size w w' := by
  go_enter Try.func3, Try.ntmps3
  go_wp2_with fail
  generalize hW : World.alloc w _ = W
  have ha : Ba W w.heap.size neg A n c xs := by rw [← hW]; exact ⟨Bx.new _ _ _ _ _, h.on (below_new _ _)⟩
  have hb : Below w.heap.size w W := by rw [← hW]; exact below_new _ _
  have HB := Lib.hid hb
  clear hW hb
  refine (of_any z _ h1 h2).mono ?_
  rintro e w1 ⟨A1, n1, c1, xs1, rfl, hs1, hx1, hv1, hb1⟩
  have Hv1 := Lib.hid hv1
  have ha1 := ha.on hb1
  have HB1 := Lib.hid (below_chain HB.out HB.out.size hb1)
  clear hv1 ha hb1 HB
  go_wp2_with fail
  generalize hW : World.alloc w1 _ = V
  have hx : Bd V w1.heap.size (decide (z < 0)) A1 n1 c1 xs1 z.natAbs := by rw [← hW]; exact Bd.new hs1 hx1 Hv1.out
  have ha2 : Ba V w.heap.size neg A n c xs := by rw [← hW]; exact ha1.on (below_new _ _)
  have HB2 := Lib.hid (show Below w.heap.size w V by rw [← hW]; exact below_chain HB1.out HB1.out.size (below_new _ _))
  clear hW hs1 hx1 Hv1 ha1 HB1
  generalize w1.heap.size = r1 at *
  refine (small_of _ _ _ _ z _ hx.sl hx.nz hx.mag h1 h2).mono ?_
  rintro e w2 ⟨rfl, hb2⟩
  have ha3 := ha2.on hb2
  have hx3 := hx.on hb2
  have HB3 := Lib.hid (below_chain HB2.out HB2.out.size hb2)
  clear hb2 ha2 hx HB2
  have hvx := vld_of hx3.sl.ok hx3.nz (by
    rw [hx3.mag]
    have e1 : z.natAbs < 4294967296 ^ 2 := by omega
    exact Nat.lt_of_lt_of_le e1 (Nat.pow_le_pow_right (by decide) (by decide))) (fun e => by rw [hx3.mag]; simp at e; omega : decide (z < 0) = true → 0 < val xs1)
  have Hvx := Lib.hid hvx
  have hzz : (z == z) = true := by simp
  clear hvx
  go_wp2_with fail
  have a := ha3.drew
  have x := hx3.drew
  have B : Below w.heap.size w w2.drew := HB3.out.drew
  have p1 := a.bx.c0
  have q1 := a.bx.c1
  have p2 := x.bx.c0
  have q2 := x.bx.c1
  clear ha3 hx3 HB3
  go_region_held3 (fun w' => w'.cell? ⟨w.heap.size, 0, none⟩ = some (.bool neg) ∧ w'.cell? ⟨w.heap.size, 1, none⟩ = some (.slice A n c) ∧ w'.cell? ⟨r1, 0, none⟩ = some (.bool (decide (z < 0))) ∧ w'.cell? ⟨r1, 1, none⟩ = some (.slice A1 n1 c1))
    (first | exact ⟨p1, q1, p2, q2⟩ | go_keep)
    (first
      | (go_at_call 20
         refine (works_any _).mono ?_
         rintro e w3 ⟨rfl, hbn⟩
         have a := a.on hbn
         have x := x.on hbn
         have B := below_chain B B.size hbn
         have p1 := a.bx.c0
         have q1 := a.bx.c1
         have p2 := x.bx.c0
         have q2 := x.bx.c1
         clear hbn)
      | (go_at_call 21
         (with_reducible refine (valid_any neg A n c _ xs _ a.sl (Nat.le_refl _)).mono ?_)
         rintro e w3 ⟨rfl, hbn⟩
         have a := a.on hbn
         have x := x.on hbn
         have B := below_chain B B.size hbn
         have p1 := a.bx.c0
         have q1 := a.bx.c1
         have p2 := x.bx.c0
         have q2 := x.bx.c1
         clear hbn)
      | (go_at_call 21
         (with_reducible refine (valid_any (decide (z < 0)) A1 n1 c1 _ xs1 _ x.sl (Nat.le_refl _)).mono ?_)
         rintro e w3 ⟨rfl, hbn⟩
         rw [Hvx.out]
         have a := a.on hbn
         have x := x.on hbn
         have B := below_chain B B.size hbn
         have p1 := a.bx.c0
         have q1 := a.bx.c1
         have p2 := x.bx.c0
         have q2 := x.bx.c1
         clear hbn)
      | (go_at_call 22
         (with_reducible refine (rvalid_any neg A n c _ xs _ a.sl (Nat.le_refl _)).mono ?_)
         rintro e w3 ⟨rfl, hbn⟩
         have a := a.on hbn
         have x := x.on hbn
         have B := below_chain B B.size hbn
         have p1 := a.bx.c0
         have q1 := a.bx.c1
         have p2 := x.bx.c0
         have q2 := x.bx.c1
         clear hbn)
      | (go_at_call 23
         have hq : xs1 = xsO := uniq x.sl.ok hsO.ok x.nz hxO (x.mag.trans hvO.symm)
         (with_reducible refine (lsame_yes _ _ _ _ _ _ _ _ _ _ _ x.sl hsO rfl hq).mono ?_)
         clear hq
         rintro e w3 ⟨rfl, hbn⟩
         have a := a.on hbn
         have x := x.on hbn
         have B := below_chain B B.size hbn
         have p1 := a.bx.c0
         have q1 := a.bx.c1
         have p2 := x.bx.c0
         have q2 := x.bx.c1
         clear hbn)
      | (go_at_call 24
         refine (rof_any _ _ h1 h2).mono ?_
         rintro e w3 ⟨AO, nO, cO, xsO, rfl, hsO, hxO, hvO, hbn⟩
         have a := a.on hbn
         have x := x.on hbn
         have B := below_chain B B.size hbn
         have p1 := a.bx.c0
         have q1 := a.bx.c1
         have p2 := x.bx.c0
         have q2 := x.bx.c1
         clear hbn))
  go_wp2
  go_ret
  exact ⟨rfl, B⟩

end Go.Proofs.Ytalgcppogjpilaa
