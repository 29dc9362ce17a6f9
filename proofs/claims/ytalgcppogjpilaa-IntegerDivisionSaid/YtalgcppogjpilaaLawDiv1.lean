/-
  The walks of IntegerDivision where an argument is not valid or the divisor is 0.
-/
import Derived.Test.YtalgcppogjpilaaDivZ
namespace Go.Proofs.Ytalgcppogjpilaa
open Go.RowKit

set_option maxRecDepth 20000 in
set_option maxHeartbeats 4000000 in
theorem division_bad1 (neg neg' : Bool) (A A' : Option Addr) (n c n' c' : Nat) (xs ys : List Nat) (w : World) (h : Sl w w.heap.size A n c xs) (h' : Sl w w.heap.size A' n' c' ys) (oa ob : Option Int) (zq zr er : Int)
    (Oa : Hid (ov neg xs = oa)) (Ob : Hid (ov neg' ys = ob)) (ZQ : Hid (dvQ oa ob = zq)) (ZR : Hid (dvR oa ob = zr)) (ER : Hid (dvE oa ob = er)) (hv : vld neg xs = false) (he : (er == 1) = true) :
    Calls Try.prog 12 #[.agg #[.bool neg, .slice A n c], .agg #[.bool neg', .slice A' n' c']] w (fun e w' => e = .returned (.bool true) ∧ Below w.heap.size w w') := by
  go_enter Try.func12, Try.ntmps12
  go_wp2_with fail
  generalize hW : World.alloc (World.alloc w _) _ = V
  obtain ⟨hb, a, b⟩ := two_boxes neg neg' A A' n c n' c' xs ys w V h h' hW
  have HB := Lib.hid hb
  clear hW hb h h'
  generalize hr0 : w.heap.size = r0 at *
  have HR := Lib.hid hr0
  clear hr0
  have ka0 := a.bx.c0
  have ka1 := a.bx.c1
  have kb0 := b.bx.c0
  have kb1 := b.bx.c1
  have la := a.bx.lt
  have lb := b.bx.lt
  go_wp2_with fail
  clear ka0 ka1 la kb0 kb1 lb
  have C := divMod_ov (neg := neg) (neg' := neg') a.sl b.sl
  rw [Oa.out, Ob.out, ZQ.out, ZR.out, ER.out] at C
  refine C.mono ?_
  clear C
  rintro e w1 ⟨A1, n1, c1, xs1, A1b, n1b, c1b, xs1b, rfl, hs1, hx1, hv1, hs1b, hx1b, hv1b, hbn⟩
  replace a := a.on hbn
  replace b := b.on hbn
  replace HB := Lib.hid (show Below r0 w w1 from below_chain HB.out (by have := HR.out; have := HB.out.size; omega) hbn)
  clear hbn
  have F1 := Lib.hid (And.intro hx1 hv1)
  have F1b := Lib.hid (And.intro hx1b hv1b)
  clear hx1 hv1 hx1b hv1b
  have ka0 := a.bx.c0
  have ka1 := a.bx.c1
  have la := a.bx.lt
  go_wp2_with fail
  clear ka0 ka1 la
  generalize hW : World.alloc (World.alloc w1 _) _ = V1
  obtain ⟨hb2, q, r⟩ := two_boxes (decide (zq < 0)) (decide (zr < 0)) A1 A1b n1 c1 n1b c1b xs1 xs1b w1 V1 hs1 hs1b hW
  replace a := a.on hb2
  replace b := b.on hb2
  replace HB := Lib.hid (show Below r0 w V1 from below_chain HB.out (by have := HR.out; have := HB.out.size; omega) hb2)
  clear hW hs1 hs1b hb2
  generalize w1.heap.size = r1 at *
  refine (rvalid_any _ _ _ _ _ xs _ a.sl (Nat.le_refl _)).mono ?_
  rintro e w2 ⟨rfl, hbn⟩
  replace a := a.on hbn
  replace b := b.on hbn
  replace q := q.on hbn
  replace r := r.on hbn
  replace HB := Lib.hid (show Below r0 w w2 from below_chain HB.out (by have := HR.out; have := HB.out.size; omega) hbn)
  clear hbn
  rw [hv]
  go_wp2_with fail
  refine (works_any _).mono ?_
  rintro e w3 ⟨rfl, hbn⟩
  replace a := a.on hbn
  replace b := b.on hbn
  replace q := q.on hbn
  replace r := r.on hbn
  replace HB := Lib.hid (show Below r0 w w3 from below_chain HB.out (by have := HR.out; have := HB.out.size; omega) hbn)
  clear hbn
  go_wp2
  go_ret
  exact ⟨rfl, HR.out ▸ HB.out⟩


set_option maxRecDepth 20000 in
set_option maxHeartbeats 4000000 in
theorem division_bad2 (neg neg' : Bool) (A A' : Option Addr) (n c n' c' : Nat) (xs ys : List Nat) (w : World) (h : Sl w w.heap.size A n c xs) (h' : Sl w w.heap.size A' n' c' ys) (oa ob : Option Int) (zq zr er : Int)
    (Oa : Hid (ov neg xs = oa)) (Ob : Hid (ov neg' ys = ob)) (ZQ : Hid (dvQ oa ob = zq)) (ZR : Hid (dvR oa ob = zr)) (ER : Hid (dvE oa ob = er)) (hv : vld neg xs = true) (hv' : vld neg' ys = false) (he : (er == 1) = true) :
    Calls Try.prog 12 #[.agg #[.bool neg, .slice A n c], .agg #[.bool neg', .slice A' n' c']] w (fun e w' => e = .returned (.bool true) ∧ Below w.heap.size w w') := by
  go_enter Try.func12, Try.ntmps12
  go_wp2_with fail
  generalize hW : World.alloc (World.alloc w _) _ = V
  obtain ⟨hb, a, b⟩ := two_boxes neg neg' A A' n c n' c' xs ys w V h h' hW
  have HB := Lib.hid hb
  clear hW hb h h'
  generalize hr0 : w.heap.size = r0 at *
  have HR := Lib.hid hr0
  clear hr0
  have ka0 := a.bx.c0
  have ka1 := a.bx.c1
  have kb0 := b.bx.c0
  have kb1 := b.bx.c1
  have la := a.bx.lt
  have lb := b.bx.lt
  go_wp2_with fail
  clear ka0 ka1 la kb0 kb1 lb
  have C := divMod_ov (neg := neg) (neg' := neg') a.sl b.sl
  rw [Oa.out, Ob.out, ZQ.out, ZR.out, ER.out] at C
  refine C.mono ?_
  clear C
  rintro e w1 ⟨A1, n1, c1, xs1, A1b, n1b, c1b, xs1b, rfl, hs1, hx1, hv1, hs1b, hx1b, hv1b, hbn⟩
  replace a := a.on hbn
  replace b := b.on hbn
  replace HB := Lib.hid (show Below r0 w w1 from below_chain HB.out (by have := HR.out; have := HB.out.size; omega) hbn)
  clear hbn
  have F1 := Lib.hid (And.intro hx1 hv1)
  have F1b := Lib.hid (And.intro hx1b hv1b)
  clear hx1 hv1 hx1b hv1b
  have ka0 := a.bx.c0
  have ka1 := a.bx.c1
  have la := a.bx.lt
  go_wp2_with fail
  clear ka0 ka1 la
  generalize hW : World.alloc (World.alloc w1 _) _ = V1
  obtain ⟨hb2, q, r⟩ := two_boxes (decide (zq < 0)) (decide (zr < 0)) A1 A1b n1 c1 n1b c1b xs1 xs1b w1 V1 hs1 hs1b hW
  replace a := a.on hb2
  replace b := b.on hb2
  replace HB := Lib.hid (show Below r0 w V1 from below_chain HB.out (by have := HR.out; have := HB.out.size; omega) hb2)
  clear hW hs1 hs1b hb2
  generalize w1.heap.size = r1 at *
  refine (rvalid_any _ _ _ _ _ xs _ a.sl (Nat.le_refl _)).mono ?_
  rintro e w2 ⟨rfl, hbn⟩
  replace a := a.on hbn
  replace b := b.on hbn
  replace q := q.on hbn
  replace r := r.on hbn
  replace HB := Lib.hid (show Below r0 w w2 from below_chain HB.out (by have := HR.out; have := HB.out.size; omega) hbn)
  clear hbn
  rw [hv]
  have kb0 := b.bx.c0
  have kb1 := b.bx.c1
  have lb := b.bx.lt
  go_wp2_with fail
  clear kb0 kb1 lb
  refine (rvalid_any _ _ _ _ _ ys _ b.sl (Nat.le_refl _)).mono ?_
  rintro e w3 ⟨rfl, hbn⟩
  replace a := a.on hbn
  replace b := b.on hbn
  replace q := q.on hbn
  replace r := r.on hbn
  replace HB := Lib.hid (show Below r0 w w3 from below_chain HB.out (by have := HR.out; have := HB.out.size; omega) hbn)
  clear hbn
  rw [hv']
  go_wp2_with fail
  refine (works_any _).mono ?_
  rintro e w4 ⟨rfl, hbn⟩
  replace a := a.on hbn
  replace b := b.on hbn
  replace q := q.on hbn
  replace r := r.on hbn
  replace HB := Lib.hid (show Below r0 w w4 from below_chain HB.out (by have := HR.out; have := HB.out.size; omega) hbn)
  clear hbn
  go_wp2
  go_ret
  exact ⟨rfl, HR.out ▸ HB.out⟩


set_option maxRecDepth 20000 in
set_option maxHeartbeats 4000000 in
theorem division_zero (neg neg' : Bool) (A A' : Option Addr) (n c n' c' : Nat) (xs ys : List Nat) (w : World) (h : Sl w w.heap.size A n c xs) (h' : Sl w w.heap.size A' n' c' ys) (oa ob : Option Int) (zq zr er : Int)
    (Oa : Hid (ov neg xs = oa)) (Ob : Hid (ov neg' ys = ob)) (ZQ : Hid (dvQ oa ob = zq)) (ZR : Hid (dvR oa ob = zr)) (ER : Hid (dvE oa ob = er)) (hv : vld neg xs = true) (hv' : vld neg' ys = true) (he : (er == 4) = true) (hn : n' = 0) :
    Calls Try.prog 12 #[.agg #[.bool neg, .slice A n c], .agg #[.bool neg', .slice A' n' c']] w (fun e w' => e = .returned (.bool true) ∧ Below w.heap.size w w') := by
  have hn1 : ((n' : Int) == 0) = true := by rw [hn]; rfl
  clear hn
  go_enter Try.func12, Try.ntmps12
  go_wp2_with fail
  generalize hW : World.alloc (World.alloc w _) _ = V
  obtain ⟨hb, a, b⟩ := two_boxes neg neg' A A' n c n' c' xs ys w V h h' hW
  have HB := Lib.hid hb
  clear hW hb h h'
  generalize hr0 : w.heap.size = r0 at *
  have HR := Lib.hid hr0
  clear hr0
  have ka0 := a.bx.c0
  have ka1 := a.bx.c1
  have kb0 := b.bx.c0
  have kb1 := b.bx.c1
  have la := a.bx.lt
  have lb := b.bx.lt
  go_wp2_with fail
  clear ka0 ka1 la kb0 kb1 lb
  have C := divMod_ov (neg := neg) (neg' := neg') a.sl b.sl
  rw [Oa.out, Ob.out, ZQ.out, ZR.out, ER.out] at C
  refine C.mono ?_
  clear C
  rintro e w1 ⟨A1, n1, c1, xs1, A1b, n1b, c1b, xs1b, rfl, hs1, hx1, hv1, hs1b, hx1b, hv1b, hbn⟩
  replace a := a.on hbn
  replace b := b.on hbn
  replace HB := Lib.hid (show Below r0 w w1 from below_chain HB.out (by have := HR.out; have := HB.out.size; omega) hbn)
  clear hbn
  have F1 := Lib.hid (And.intro hx1 hv1)
  have F1b := Lib.hid (And.intro hx1b hv1b)
  clear hx1 hv1 hx1b hv1b
  have ka0 := a.bx.c0
  have ka1 := a.bx.c1
  have la := a.bx.lt
  go_wp2_with fail
  clear ka0 ka1 la
  generalize hW : World.alloc (World.alloc w1 _) _ = V1
  obtain ⟨hb2, q, r⟩ := two_boxes (decide (zq < 0)) (decide (zr < 0)) A1 A1b n1 c1 n1b c1b xs1 xs1b w1 V1 hs1 hs1b hW
  replace a := a.on hb2
  replace b := b.on hb2
  replace HB := Lib.hid (show Below r0 w V1 from below_chain HB.out (by have := HR.out; have := HB.out.size; omega) hb2)
  clear hW hs1 hs1b hb2
  generalize w1.heap.size = r1 at *
  refine (rvalid_any _ _ _ _ _ xs _ a.sl (Nat.le_refl _)).mono ?_
  rintro e w2 ⟨rfl, hbn⟩
  replace a := a.on hbn
  replace b := b.on hbn
  replace q := q.on hbn
  replace r := r.on hbn
  replace HB := Lib.hid (show Below r0 w w2 from below_chain HB.out (by have := HR.out; have := HB.out.size; omega) hbn)
  clear hbn
  rw [hv]
  have kb0 := b.bx.c0
  have kb1 := b.bx.c1
  have lb := b.bx.lt
  go_wp2_with fail
  clear kb0 kb1 lb
  refine (rvalid_any _ _ _ _ _ ys _ b.sl (Nat.le_refl _)).mono ?_
  rintro e w3 ⟨rfl, hbn⟩
  replace a := a.on hbn
  replace b := b.on hbn
  replace q := q.on hbn
  replace r := r.on hbn
  replace HB := Lib.hid (show Below r0 w w3 from below_chain HB.out (by have := HR.out; have := HB.out.size; omega) hbn)
  clear hbn
  rw [hv']
  have kb0 := b.bx.c0
  have kb1 := b.bx.c1
  have lb := b.bx.lt
  go_wp2_with fail
  clear kb0 kb1 lb
  refine (works_any _).mono ?_
  rintro e w4 ⟨rfl, hbn⟩
  replace a := a.on hbn
  replace b := b.on hbn
  replace q := q.on hbn
  replace r := r.on hbn
  replace HB := Lib.hid (show Below r0 w w4 from below_chain HB.out (by have := HR.out; have := HB.out.size; omega) hbn)
  clear hbn
  go_wp2
  go_ret
  exact ⟨rfl, HR.out ▸ HB.out⟩


end Go.Proofs.Ytalgcppogjpilaa
