/-
  IntegerProducts returns true, for any two integers, valid or not.
-/
import Derived.Test.YtalgcppogjpilaaRefMul
import Derived.Test.YtalgcppogjpilaaLawSums
namespace Go.Proofs.Ytalgcppogjpilaa
open Go.RowKit

set_option maxRecDepth 20000 in
set_option maxHeartbeats 4000000 in
theorem integerProducts_walk (neg neg' : Bool) (A A' : Option Addr) (n c n' c' : Nat) (xs ys : List Nat) (w : World) (h : Sl w w.heap.size A n c xs) (h' : Sl w w.heap.size A' n' c' ys) (z e : Int)
    (C1 : Hid (On2 29 neg neg' A A' n c n' c' xs ys z e)) (C2 : Hid (On2 30 neg neg' A A' n c n' c' xs ys z e)) :
    Calls Try.prog 5 #[.agg #[.bool neg, .slice A n c], .agg #[.bool neg', .slice A' n' c']] w (fun e w' => e = .returned (.bool true) ∧ Below w.heap.size w w') := by
  have hee : (e == e) = true := by simp
  go_enter Try.func5, Try.ntmps5
  go_wp2_with fail
  generalize hW : World.alloc (World.alloc w _) _ = V
  obtain ⟨hb, a, b⟩ := two_boxes neg neg' A A' n c n' c' xs ys w V h h' hW
  have HB := Lib.hid hb
  clear hW hb h h'
  generalize hr0 : w.heap.size = r0 at *
  have HR := Lib.hid hr0
  clear hr0
  have ka0 := a.bx.c0
  have ka1 := a.bx.c1
  have kb0 := b.bx.c0
  have kb1 := b.bx.c1
  have la := a.bx.lt
  have lb := b.bx.lt
  go_wp2_with fail
  clear ka0 ka1 la kb0 kb1 lb
  refine (C1.out _ a.sl b.sl).mono ?_
  rintro e w1 ⟨A1, n1, c1, xs1, rfl, hs1, hx1, hv1, hbn⟩
  replace a := a.on hbn
  replace b := b.on hbn
  replace HB := Lib.hid (show Below r0 w w1 from below_chain HB.out (by have := HR.out; have := HB.out.size; omega) hbn)
  clear hbn
  have F1 := Lib.hid (And.intro hx1 hv1)
  clear hx1 hv1
  have ka0 := a.bx.c0
  have ka1 := a.bx.c1
  have kb0 := b.bx.c0
  have kb1 := b.bx.c1
  have la := a.bx.lt
  have lb := b.bx.lt
  go_wp2_with fail
  clear ka0 ka1 la kb0 kb1 lb
  generalize hW : World.alloc w1 _ = V1
  have x : Ba V1 w1.heap.size (decide (z < 0)) A1 n1 c1 xs1 := by rw [← hW]; exact ⟨Bx.new _ _ _ _ _, hs1.on (below_new _ _)⟩
  replace a : Ba V1 (r0) (neg) A n c xs := by rw [← hW]; exact a.on (below_new _ _)
  replace b : Ba V1 (r0 + 1) (neg') A' n' c' ys := by rw [← hW]; exact b.on (below_new _ _)
  replace HB := Lib.hid (show Below r0 w V1 by rw [← hW]; exact HB.out.alloc (by have := HR.out; have := HB.out.size; omega) _)
  clear hW hs1
  generalize w1.heap.size = r1 at *
  refine (C2.out _ a.sl b.sl).mono ?_
  rintro e w2 ⟨A2, n2, c2, xs2, rfl, hs2, hx2, hv2, hbn⟩
  replace a := a.on hbn
  replace b := b.on hbn
  replace x := x.on hbn
  replace HB := Lib.hid (show Below r0 w w2 from below_chain HB.out (by have := HR.out; have := HB.out.size; omega) hbn)
  clear hbn
  have F2 := Lib.hid (And.intro hx2 hv2)
  clear hx2 hv2
  go_wp2_with fail
  generalize hW : World.alloc w2 _ = V2
  have y : Ba V2 w2.heap.size (decide (z < 0)) A2 n2 c2 xs2 := by rw [← hW]; exact ⟨Bx.new _ _ _ _ _, hs2.on (below_new _ _)⟩
  replace a : Ba V2 (r0) (neg) A n c xs := by rw [← hW]; exact a.on (below_new _ _)
  replace b : Ba V2 (r0 + 1) (neg') A' n' c' ys := by rw [← hW]; exact b.on (below_new _ _)
  replace x : Ba V2 (r1) (decide (z < 0)) A1 n1 c1 xs1 := by rw [← hW]; exact x.on (below_new _ _)
  replace HB := Lib.hid (show Below r0 w V2 by rw [← hW]; exact HB.out.alloc (by have := HR.out; have := HB.out.size; omega) _)
  clear hW hs2
  generalize w2.heap.size = r2 at *
  refine (works_any _).mono ?_
  rintro e w3 ⟨rfl, hbn⟩
  replace a := a.on hbn
  replace b := b.on hbn
  replace x := x.on hbn
  replace y := y.on hbn
  replace HB := Lib.hid (show Below r0 w w3 from below_chain HB.out (by have := HR.out; have := HB.out.size; omega) hbn)
  clear hbn
  have kx0 := x.bx.c0
  have kx1 := x.bx.c1
  have ky0 := y.bx.c0
  have ky1 := y.bx.c1
  have lx := x.bx.lt
  have ly := y.bx.lt
  go_wp2_with fail
  clear kx0 kx1 lx ky0 ky1 ly
  refine (lsame_yes _ _ _ _ _ _ _ _ _ _ _ x.sl y.sl rfl (uniq x.sl.ok y.sl.ok F1.out.1 F2.out.1 (F1.out.2.trans F2.out.2.symm))).mono ?_
  rintro e w4 ⟨rfl, hbn⟩
  replace a := a.on hbn
  replace b := b.on hbn
  replace x := x.on hbn
  replace y := y.on hbn
  replace HB := Lib.hid (show Below r0 w w4 from below_chain HB.out (by have := HR.out; have := HB.out.size; omega) hbn)
  clear hbn
  go_wp2
  go_ret
  exact ⟨rfl, HR.out ▸ HB.out⟩

theorem integerProducts_any (neg neg' : Bool) (A A' : Option Addr) (n c n' c' : Nat) (xs ys : List Nat) (w : World) (h : Sl w w.heap.size A n c xs) (h' : Sl w w.heap.size A' n' c' ys) :
    Calls Try.prog 5 #[.agg #[.bool neg, .slice A n c], .agg #[.bool neg', .slice A' n' c']] w fun e w' => e = .returned (.bool true) ∧ Below w.heap.size w w' :=
  integerProducts_walk neg neg' A A' n c n' c' xs ys w h h' _ _ (fun w h h' => mul_any neg neg' A A' n c n' c' xs ys w h h') (fun w h h' => rmul_any neg neg' A A' n c n' c' xs ys w h h')

end Go.Proofs.Ytalgcppogjpilaa
