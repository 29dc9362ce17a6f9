/-
  The walks of IntegerEuclid.
-/
import Derived.Test.YtalgcppogjpilaaGcdP
import Derived.Test.YtalgcppogjpilaaLawDiv2
namespace Go.Proofs.Ytalgcppogjpilaa
open Go.RowKit

theorem no_limbs {w : World} {B n c : Nat} {A : Option Addr} {xs : List Nat} (h : Sl w B A n c xs) (nx : Nz xs) (e : val xs = 0) : n = 0 := by
  have := h.len
  rw [val_zero nx e] at this
  exact this.symm

set_option maxRecDepth 20000 in
set_option maxHeartbeats 4000000 in
theorem euclid_bad1 (neg neg' neg'' : Bool) (A A' A'' : Option Addr) (n c n' c' n'' c'' : Nat) (xs ys zs : List Nat) (w : World) (h : Sl w w.heap.size A n c xs) (h' : Sl w w.heap.size A' n' c' ys) (h'' : Sl w w.heap.size A'' n'' c'' zs) (hv : vld neg xs = false) :
    Calls Try.prog 13 #[.agg #[.bool neg, .slice A n c], .agg #[.bool neg', .slice A' n' c'], .agg #[.bool neg'', .slice A'' n'' c'']] w (fun e w' => e = .returned (.bool true) ∧ Below w.heap.size w w') := by
  go_enter Try.func13, Try.ntmps13
  go_wp2_with fail
  generalize hW : World.alloc (World.alloc (World.alloc w _) _) _ = V
  obtain ⟨hb, a, b, d⟩ := three_boxes neg neg' neg'' A A' A'' n c n' c' n'' c'' xs ys zs w V h h' h'' hW
  have HB := Lib.hid hb
  clear hW hb h h' h''
  generalize hr0 : w.heap.size = r0 at *
  have HR := Lib.hid hr0
  clear hr0
  have ka0 := a.bx.c0
  have ka1 := a.bx.c1
  have kb0 := b.bx.c0
  have kb1 := b.bx.c1
  have kd0 := d.bx.c0
  have kd1 := d.bx.c1
  have la := a.bx.lt
  have lb := b.bx.lt
  have ld := d.bx.lt
  go_wp2_with fail
  clear ka0 ka1 la kb0 kb1 lb kd0 kd1 ld
  refine (rvalid_any _ _ _ _ _ xs _ a.sl (Nat.le_refl _)).mono ?_
  rintro e w1 ⟨rfl, hbn⟩
  replace a := a.on hbn
  replace b := b.on hbn
  replace d := d.on hbn
  replace HB := Lib.hid (show Below r0 w w1 from below_chain HB.out (by have := HR.out; have := HB.out.size; omega) hbn)
  clear hbn
  rw [hv]
  have kb0 := b.bx.c0
  have kb1 := b.bx.c1
  have lb := b.bx.lt
  go_wp2_with fail
  clear kb0 kb1 lb
  refine (works_any _).mono ?_
  rintro e w2 ⟨rfl, hbn⟩
  replace a := a.on hbn
  replace b := b.on hbn
  replace d := d.on hbn
  replace HB := Lib.hid (show Below r0 w w2 from below_chain HB.out (by have := HR.out; have := HB.out.size; omega) hbn)
  clear hbn
  go_wp2
  go_ret
  exact ⟨rfl, HR.out ▸ HB.out⟩


set_option maxRecDepth 20000 in
set_option maxHeartbeats 4000000 in
theorem euclid_bad2 (neg neg' neg'' : Bool) (A A' A'' : Option Addr) (n c n' c' n'' c'' : Nat) (xs ys zs : List Nat) (w : World) (h : Sl w w.heap.size A n c xs) (h' : Sl w w.heap.size A' n' c' ys) (h'' : Sl w w.heap.size A'' n'' c'' zs) (hv : vld neg xs = true) (hv' : vld neg' ys = false) :
    Calls Try.prog 13 #[.agg #[.bool neg, .slice A n c], .agg #[.bool neg', .slice A' n' c'], .agg #[.bool neg'', .slice A'' n'' c'']] w (fun e w' => e = .returned (.bool true) ∧ Below w.heap.size w w') := by
  go_enter Try.func13, Try.ntmps13
  go_wp2_with fail
  generalize hW : World.alloc (World.alloc (World.alloc w _) _) _ = V
  obtain ⟨hb, a, b, d⟩ := three_boxes neg neg' neg'' A A' A'' n c n' c' n'' c'' xs ys zs w V h h' h'' hW
  have HB := Lib.hid hb
  clear hW hb h h' h''
  generalize hr0 : w.heap.size = r0 at *
  have HR := Lib.hid hr0
  clear hr0
  have ka0 := a.bx.c0
  have ka1 := a.bx.c1
  have kb0 := b.bx.c0
  have kb1 := b.bx.c1
  have kd0 := d.bx.c0
  have kd1 := d.bx.c1
  have la := a.bx.lt
  have lb := b.bx.lt
  have ld := d.bx.lt
  go_wp2_with fail
  clear ka0 ka1 la kb0 kb1 lb kd0 kd1 ld
  refine (rvalid_any _ _ _ _ _ xs _ a.sl (Nat.le_refl _)).mono ?_
  rintro e w1 ⟨rfl, hbn⟩
  replace a := a.on hbn
  replace b := b.on hbn
  replace d := d.on hbn
  replace HB := Lib.hid (show Below r0 w w1 from below_chain HB.out (by have := HR.out; have := HB.out.size; omega) hbn)
  clear hbn
  rw [hv]
  have kb0 := b.bx.c0
  have kb1 := b.bx.c1
  have lb := b.bx.lt
  go_wp2_with fail
  clear kb0 kb1 lb
  refine (rvalid_any _ _ _ _ _ ys _ b.sl (Nat.le_refl _)).mono ?_
  rintro e w2 ⟨rfl, hbn⟩
  replace a := a.on hbn
  replace b := b.on hbn
  replace d := d.on hbn
  replace HB := Lib.hid (show Below r0 w w2 from below_chain HB.out (by have := HR.out; have := HB.out.size; omega) hbn)
  clear hbn
  rw [hv']
  have kb0 := b.bx.c0
  have kb1 := b.bx.c1
  have lb := b.bx.lt
  go_wp2_with fail
  clear kb0 kb1 lb
  refine (works_any _).mono ?_
  rintro e w3 ⟨rfl, hbn⟩
  replace a := a.on hbn
  replace b := b.on hbn
  replace d := d.on hbn
  replace HB := Lib.hid (show Below r0 w w3 from below_chain HB.out (by have := HR.out; have := HB.out.size; omega) hbn)
  clear hbn
  go_wp2
  go_ret
  exact ⟨rfl, HR.out ▸ HB.out⟩


set_option maxRecDepth 20000 in
set_option maxHeartbeats 4000000 in
theorem euclid_bad3 (neg neg' neg'' : Bool) (A A' A'' : Option Addr) (n c n' c' n'' c'' : Nat) (xs ys zs : List Nat) (w : World) (h : Sl w w.heap.size A n c xs) (h' : Sl w w.heap.size A' n' c' ys) (h'' : Sl w w.heap.size A'' n'' c'' zs) (hv : vld neg xs = true) (hv' : vld neg' ys = true) (hv'' : vld neg'' zs = false) :
    Calls Try.prog 13 #[.agg #[.bool neg, .slice A n c], .agg #[.bool neg', .slice A' n' c'], .agg #[.bool neg'', .slice A'' n'' c'']] w (fun e w' => e = .returned (.bool true) ∧ Below w.heap.size w w') := by
  go_enter Try.func13, Try.ntmps13
  go_wp2_with fail
  generalize hW : World.alloc (World.alloc (World.alloc w _) _) _ = V
  obtain ⟨hb, a, b, d⟩ := three_boxes neg neg' neg'' A A' A'' n c n' c' n'' c'' xs ys zs w V h h' h'' hW
  have HB := Lib.hid hb
  clear hW hb h h' h''
  generalize hr0 : w.heap.size = r0 at *
  have HR := Lib.hid hr0
  clear hr0
  have ka0 := a.bx.c0
  have ka1 := a.bx.c1
  have kb0 := b.bx.c0
  have kb1 := b.bx.c1
  have kd0 := d.bx.c0
  have kd1 := d.bx.c1
  have la := a.bx.lt
  have lb := b.bx.lt
  have ld := d.bx.lt
  go_wp2_with fail
  clear ka0 ka1 la kb0 kb1 lb kd0 kd1 ld
  refine (rvalid_any _ _ _ _ _ xs _ a.sl (Nat.le_refl _)).mono ?_
  rintro e w1 ⟨rfl, hbn⟩
  replace a := a.on hbn
  replace b := b.on hbn
  replace d := d.on hbn
  replace HB := Lib.hid (show Below r0 w w1 from below_chain HB.out (by have := HR.out; have := HB.out.size; omega) hbn)
  clear hbn
  rw [hv]
  have kb0 := b.bx.c0
  have kb1 := b.bx.c1
  have lb := b.bx.lt
  go_wp2_with fail
  clear kb0 kb1 lb
  refine (rvalid_any _ _ _ _ _ ys _ b.sl (Nat.le_refl _)).mono ?_
  rintro e w2 ⟨rfl, hbn⟩
  replace a := a.on hbn
  replace b := b.on hbn
  replace d := d.on hbn
  replace HB := Lib.hid (show Below r0 w w2 from below_chain HB.out (by have := HR.out; have := HB.out.size; omega) hbn)
  clear hbn
  rw [hv']
  have kd0 := d.bx.c0
  have kd1 := d.bx.c1
  have ld := d.bx.lt
  go_wp2_with fail
  clear kd0 kd1 ld
  refine (rvalid_any _ _ _ _ _ zs _ d.sl (Nat.le_refl _)).mono ?_
  rintro e w3 ⟨rfl, hbn⟩
  replace a := a.on hbn
  replace b := b.on hbn
  replace d := d.on hbn
  replace HB := Lib.hid (show Below r0 w w3 from below_chain HB.out (by have := HR.out; have := HB.out.size; omega) hbn)
  clear hbn
  rw [hv'']
  have kb0 := b.bx.c0
  have kb1 := b.bx.c1
  have lb := b.bx.lt
  go_wp2_with fail
  clear kb0 kb1 lb
  refine (works_any _).mono ?_
  rintro e w4 ⟨rfl, hbn⟩
  replace a := a.on hbn
  replace b := b.on hbn
  replace d := d.on hbn
  replace HB := Lib.hid (show Below r0 w w4 from below_chain HB.out (by have := HR.out; have := HB.out.size; omega) hbn)
  clear hbn
  go_wp2
  go_ret
  exact ⟨rfl, HR.out ▸ HB.out⟩


set_option maxRecDepth 20000 in
set_option maxHeartbeats 4000000 in
theorem euclid_bad4 (neg neg' neg'' : Bool) (A A' A'' : Option Addr) (n c n' c' n'' c'' : Nat) (xs ys zs : List Nat) (w : World) (h : Sl w w.heap.size A n c xs) (h' : Sl w w.heap.size A' n' c' ys) (h'' : Sl w w.heap.size A'' n'' c'' zs) (hv : vld neg xs = true) (hv' : vld neg' ys = true) (hv'' : vld neg'' zs = true) (h0 : ((n' : Int) == 0) = true) :
    Calls Try.prog 13 #[.agg #[.bool neg, .slice A n c], .agg #[.bool neg', .slice A' n' c'], .agg #[.bool neg'', .slice A'' n'' c'']] w (fun e w' => e = .returned (.bool true) ∧ Below w.heap.size w w') := by
  go_enter Try.func13, Try.ntmps13
  go_wp2_with fail
  generalize hW : World.alloc (World.alloc (World.alloc w _) _) _ = V
  obtain ⟨hb, a, b, d⟩ := three_boxes neg neg' neg'' A A' A'' n c n' c' n'' c'' xs ys zs w V h h' h'' hW
  have HB := Lib.hid hb
  clear hW hb h h' h''
  generalize hr0 : w.heap.size = r0 at *
  have HR := Lib.hid hr0
  clear hr0
  have ka0 := a.bx.c0
  have ka1 := a.bx.c1
  have kb0 := b.bx.c0
  have kb1 := b.bx.c1
  have kd0 := d.bx.c0
  have kd1 := d.bx.c1
  have la := a.bx.lt
  have lb := b.bx.lt
  have ld := d.bx.lt
  go_wp2_with fail
  clear ka0 ka1 la kb0 kb1 lb kd0 kd1 ld
  refine (rvalid_any _ _ _ _ _ xs _ a.sl (Nat.le_refl _)).mono ?_
  rintro e w1 ⟨rfl, hbn⟩
  replace a := a.on hbn
  replace b := b.on hbn
  replace d := d.on hbn
  replace HB := Lib.hid (show Below r0 w w1 from below_chain HB.out (by have := HR.out; have := HB.out.size; omega) hbn)
  clear hbn
  rw [hv]
  have kb0 := b.bx.c0
  have kb1 := b.bx.c1
  have lb := b.bx.lt
  go_wp2_with fail
  clear kb0 kb1 lb
  refine (rvalid_any _ _ _ _ _ ys _ b.sl (Nat.le_refl _)).mono ?_
  rintro e w2 ⟨rfl, hbn⟩
  replace a := a.on hbn
  replace b := b.on hbn
  replace d := d.on hbn
  replace HB := Lib.hid (show Below r0 w w2 from below_chain HB.out (by have := HR.out; have := HB.out.size; omega) hbn)
  clear hbn
  rw [hv']
  have kd0 := d.bx.c0
  have kd1 := d.bx.c1
  have ld := d.bx.lt
  go_wp2_with fail
  clear kd0 kd1 ld
  refine (rvalid_any _ _ _ _ _ zs _ d.sl (Nat.le_refl _)).mono ?_
  rintro e w3 ⟨rfl, hbn⟩
  replace a := a.on hbn
  replace b := b.on hbn
  replace d := d.on hbn
  replace HB := Lib.hid (show Below r0 w w3 from below_chain HB.out (by have := HR.out; have := HB.out.size; omega) hbn)
  clear hbn
  rw [hv'']
  have kb0 := b.bx.c0
  have kb1 := b.bx.c1
  have lb := b.bx.lt
  go_wp2_with fail
  clear kb0 kb1 lb
  refine (works_any _).mono ?_
  rintro e w4 ⟨rfl, hbn⟩
  replace a := a.on hbn
  replace b := b.on hbn
  replace d := d.on hbn
  replace HB := Lib.hid (show Below r0 w w4 from below_chain HB.out (by have := HR.out; have := HB.out.size; omega) hbn)
  clear hbn
  go_wp2
  go_ret
  exact ⟨rfl, HR.out ▸ HB.out⟩


set_option maxRecDepth 20000 in
set_option maxHeartbeats 4000000 in
theorem euclid_walk (neg neg' neg'' : Bool) (A A' A'' : Option Addr) (n c n' c' n'' c'' : Nat) (xs ys zs : List Nat) (w : World) (h : Sl w w.heap.size A n c xs) (h' : Sl w w.heap.size A' n' c' ys) (h'' : Sl w w.heap.size A'' n'' c'' zs) (va vb vc zg zq zr zq1 zx zq2 zy z5 e5 z6 e6 zw : Int)
    (Oa : Hid (ov neg xs = some va)) (Ob : Hid (ov neg' ys = some vb)) (Oc : Hid (ov neg'' zs = some vc)) (hv : vld neg xs = true) (hv' : vld neg' ys = true) (hv'' : vld neg'' zs = true) (hn1 : ((n' : Int) == 0) = false)
    (Z1 : Hid (o2Z gcdZ (some va) (some vb) = zg)) (E1 : Hid (o2E gcdZ (some va) (some vb) = 0)) (BG : Hid (zg.natAbs < BIG))
    (ZQ : Hid (dvQ (some va) (some vb) = zq)) (ZR : Hid (dvR (some va) (some vb) = zr)) (ER : Hid (dvE (some va) (some vb) = 0)) (BR : Hid (zr.natAbs < BIG))
    (Z3 : Hid (o2Z gcdZ (some vb) (some zr) = zg)) (E3 : Hid (o2E gcdZ (some vb) (some zr) = 0))
    (ZQ1 : Hid (dvQ (some va) (some zg) = zq1)) (ZR1 : Hid (dvR (some va) (some zg) = zx)) (ER1 : Hid (dvE (some va) (some zg) = 0)) (X0 : Hid (zx = 0))
    (ZQ2 : Hid (dvQ (some vb) (some zg) = zq2)) (ZR2 : Hid (dvR (some vb) (some zg) = zy)) (ER2 : Hid (dvE (some vb) (some zg) = 0)) (Y0 : Hid (zy = 0))
    (Z5 : Hid (o2Z (· * ·) (some va) (some vc) = z5)) (E5 : Hid (o2E (· * ·) (some va) (some vc) = e5)) (B5 : Hid (z5.natAbs < BIG))
    (Z6 : Hid (o2Z (· * ·) (some vb) (some vc) = z6)) (E6 : Hid (o2E (· * ·) (some vb) (some vc) = e6)) (B6 : Hid (z6.natAbs < BIG))
    (Q : Hid ((e5 != 0) = false → (e6 != 0) = false → (o2Z gcdZ (some z5) (some z6) = zw ∧ o2E gcdZ (some z5) (some z6) = 0) ∧ o2Z (· * ·) (some zg) (some (vc.natAbs : Int)) = zw ∧ o2E (· * ·) (some zg) (some (vc.natAbs : Int)) = 0)) :
    Calls Try.prog 13 #[.agg #[.bool neg, .slice A n c], .agg #[.bool neg', .slice A' n' c'], .agg #[.bool neg'', .slice A'' n'' c'']] w (fun e w' => e = .returned (.bool true) ∧ Below w.heap.size w w') := by
  go_enter Try.func13, Try.ntmps13
  go_wp2_with fail
  generalize hW : World.alloc (World.alloc (World.alloc w _) _) _ = V
  obtain ⟨hb, a, b, d⟩ := three_boxes neg neg' neg'' A A' A'' n c n' c' n'' c'' xs ys zs w V h h' h'' hW
  have HB := Lib.hid hb
  clear hW hb h h' h''
  generalize hr0 : w.heap.size = r0 at *
  have HR := Lib.hid hr0
  clear hr0
  have lob0 : r0 < V.heap.size := by have := b.bx.lt; omega
  have lod1 : r0 + 1 < V.heap.size := by have := d.bx.lt; omega
  have lod2 : r0 < V.heap.size := by have := d.bx.lt; omega
  have ka0 := a.bx.c0
  have ka1 := a.bx.c1
  have kb0 := b.bx.c0
  have kb1 := b.bx.c1
  have kd0 := d.bx.c0
  have kd1 := d.bx.c1
  have la := a.bx.lt
  have lb := b.bx.lt
  have ld := d.bx.lt
  go_wp2_with fail
  clear ka0 ka1 la kb0 kb1 lb kd0 kd1 ld
  clear lob0 lod1 lod2
  refine (rvalid_any _ _ _ _ _ xs _ a.sl (Nat.le_refl _)).mono ?_
  rintro e w1 ⟨rfl, hbn⟩
  replace a := a.on hbn
  replace b := b.on hbn
  replace d := d.on hbn
  replace HB := Lib.hid (show Below r0 w w1 from below_chain HB.out (by have := HR.out; have := HB.out.size; omega) hbn)
  clear hbn
  rw [hv]
  have lob0 : r0 < w1.heap.size := by have := b.bx.lt; omega
  have kb0 := b.bx.c0
  have kb1 := b.bx.c1
  have lb := b.bx.lt
  go_wp2_with fail
  clear kb0 kb1 lb
  clear lob0
  refine (rvalid_any _ _ _ _ _ ys _ b.sl (Nat.le_refl _)).mono ?_
  rintro e w2 ⟨rfl, hbn⟩
  replace a := a.on hbn
  replace b := b.on hbn
  replace d := d.on hbn
  replace HB := Lib.hid (show Below r0 w w2 from below_chain HB.out (by have := HR.out; have := HB.out.size; omega) hbn)
  clear hbn
  rw [hv']
  have lod0 : r0 + 1 < w2.heap.size := by have := d.bx.lt; omega
  have lod1 : r0 < w2.heap.size := by have := d.bx.lt; omega
  have kd0 := d.bx.c0
  have kd1 := d.bx.c1
  have ld := d.bx.lt
  go_wp2_with fail
  clear kd0 kd1 ld
  clear lod0 lod1
  refine (rvalid_any _ _ _ _ _ zs _ d.sl (Nat.le_refl _)).mono ?_
  rintro e w3 ⟨rfl, hbn⟩
  replace a := a.on hbn
  replace b := b.on hbn
  replace d := d.on hbn
  replace HB := Lib.hid (show Below r0 w w3 from below_chain HB.out (by have := HR.out; have := HB.out.size; omega) hbn)
  clear hbn
  rw [hv'']
  have lob0 : r0 < w3.heap.size := by have := b.bx.lt; omega
  have ka0 := a.bx.c0
  have ka1 := a.bx.c1
  have kb0 := b.bx.c0
  have kb1 := b.bx.c1
  have la := a.bx.lt
  have lb := b.bx.lt
  go_wp2_with fail
  clear ka0 ka1 la kb0 kb1 lb
  clear lob0
  have C := gcd_ov (neg := neg) (neg' := neg') a.sl b.sl
  rw [Oa.out, Ob.out, Z1.out, E1.out] at C
  refine C.mono ?_
  clear C
  rintro e w4 ⟨A4, n4, c4, xs4, rfl, hs4, hx4, hv4, hbn⟩
  replace a := a.on hbn
  replace b := b.on hbn
  replace d := d.on hbn
  replace HB := Lib.hid (show Below r0 w w4 from below_chain HB.out (by have := HR.out; have := HB.out.size; omega) hbn)
  clear hbn
  have F4 := Lib.hid (And.intro hx4 hv4)
  clear hx4 hv4
  have lob0 : r0 < w4.heap.size := by have := b.bx.lt; omega
  have ka0 := a.bx.c0
  have ka1 := a.bx.c1
  have kb0 := b.bx.c0
  have kb1 := b.bx.c1
  have la := a.bx.lt
  have lb := b.bx.lt
  go_wp2_with fail
  clear ka0 ka1 la kb0 kb1 lb
  clear lob0
  generalize hW : World.alloc w4 _ = V4
  have g : Ba V4 w4.heap.size (decide (zg < 0)) A4 n4 c4 xs4 := by rw [← hW]; exact ⟨Bx.new _ _ _ _ _, hs4.on (below_new _ _)⟩
  replace a : Ba V4 (r0) (neg) A n c xs := by rw [← hW]; exact a.on (below_new _ _)
  replace b : Ba V4 (r0 + 1) (neg') A' n' c' ys := by rw [← hW]; exact b.on (below_new _ _)
  replace d : Ba V4 (r0 + 1 + 1) (neg'') A'' n'' c'' zs := by rw [← hW]; exact d.on (below_new _ _)
  replace HB := Lib.hid (show Below r0 w V4 by rw [← hW]; exact HB.out.alloc (by have := HR.out; have := HB.out.size; omega) _)
  clear hW hs4
  generalize w4.heap.size = r4 at *
  have C := divMod_ov (neg := neg) (neg' := neg') a.sl b.sl
  rw [Oa.out, Ob.out, ZQ.out, ZR.out, ER.out] at C
  refine C.mono ?_
  clear C
  rintro e w5 ⟨A5, n5, c5, xs5, A5b, n5b, c5b, xs5b, rfl, hs5, hx5, hv5, hs5b, hx5b, hv5b, hbn⟩
  replace a := a.on hbn
  replace b := b.on hbn
  replace d := d.on hbn
  replace g := g.on hbn
  replace HB := Lib.hid (show Below r0 w w5 from below_chain HB.out (by have := HR.out; have := HB.out.size; omega) hbn)
  clear hbn
  have F5 := Lib.hid (And.intro hx5 hv5)
  have F5b := Lib.hid (And.intro hx5b hv5b)
  clear hx5 hv5 hx5b hv5b
  have lob0 : r0 < w5.heap.size := by have := b.bx.lt; omega
  have kb0 := b.bx.c0
  have kb1 := b.bx.c1
  have lb := b.bx.lt
  go_wp2_with fail
  clear kb0 kb1 lb
  clear lob0
  generalize hW : World.alloc (World.alloc w5 _) _ = V5
  obtain ⟨hb2, q0, r⟩ := two_boxes (decide (zq < 0)) (decide (zr < 0)) A5 A5b n5 c5 n5b c5b xs5 xs5b w5 V5 hs5 hs5b hW
  replace a := a.on hb2
  replace b := b.on hb2
  replace d := d.on hb2
  replace g := g.on hb2
  replace HB := Lib.hid (show Below r0 w V5 from below_chain HB.out (by have := HR.out; have := HB.out.size; omega) hb2)
  clear hW hs5 hs5b hb2
  generalize w5.heap.size = r5 at *
  clear q0
  have C := gcd_ov (neg := neg') (neg' := decide (zr < 0)) b.sl r.sl
  rw [Ob.out, ov_res r.sl.ok F5b.out.1 F5b.out.2 BR.out, Z3.out, E3.out] at C
  refine C.mono ?_
  clear C
  rintro e w6 ⟨A6, n6, c6, xs6, rfl, hs6, hx6, hv6, hbn⟩
  replace a := a.on hbn
  replace b := b.on hbn
  replace d := d.on hbn
  replace g := g.on hbn
  replace r := r.on hbn
  replace HB := Lib.hid (show Below r0 w w6 from below_chain HB.out (by have := HR.out; have := HB.out.size; omega) hbn)
  clear hbn
  have F6 := Lib.hid (And.intro hx6 hv6)
  clear hx6 hv6
  clear r
  have ka0 := a.bx.c0
  have ka1 := a.bx.c1
  have kg0 := g.bx.c0
  have kg1 := g.bx.c1
  have la := a.bx.lt
  have lg := g.bx.lt
  go_wp2_with fail
  clear ka0 ka1 la kg0 kg1 lg
  generalize hW : World.alloc w6 _ = V6
  have h : Ba V6 w6.heap.size (decide (zg < 0)) A6 n6 c6 xs6 := by rw [← hW]; exact ⟨Bx.new _ _ _ _ _, hs6.on (below_new _ _)⟩
  replace a : Ba V6 (r0) (neg) A n c xs := by rw [← hW]; exact a.on (below_new _ _)
  replace b : Ba V6 (r0 + 1) (neg') A' n' c' ys := by rw [← hW]; exact b.on (below_new _ _)
  replace d : Ba V6 (r0 + 1 + 1) (neg'') A'' n'' c'' zs := by rw [← hW]; exact d.on (below_new _ _)
  replace g : Ba V6 (r4) (decide (zg < 0)) A4 n4 c4 xs4 := by rw [← hW]; exact g.on (below_new _ _)
  replace HB := Lib.hid (show Below r0 w V6 by rw [← hW]; exact HB.out.alloc (by have := HR.out; have := HB.out.size; omega) _)
  clear hW hs6
  generalize w6.heap.size = r6 at *
  have C := divMod_ov (neg := neg) (neg' := decide (zg < 0)) a.sl g.sl
  rw [Oa.out, ov_res g.sl.ok F4.out.1 F4.out.2 BG.out, ZQ1.out, ZR1.out, ER1.out] at C
  refine C.mono ?_
  clear C
  rintro e w7 ⟨A7, n7, c7, xs7, A7b, n7b, c7b, xs7b, rfl, hs7, hx7, hv7, hs7b, hx7b, hv7b, hbn⟩
  replace a := a.on hbn
  replace b := b.on hbn
  replace d := d.on hbn
  replace g := g.on hbn
  replace h := h.on hbn
  replace HB := Lib.hid (show Below r0 w w7 from below_chain HB.out (by have := HR.out; have := HB.out.size; omega) hbn)
  clear hbn
  have F7 := Lib.hid (And.intro hx7 hv7)
  have F7b := Lib.hid (And.intro hx7b hv7b)
  clear hx7 hv7 hx7b hv7b
  have nx0 : n7b = 0 := no_limbs hs7b F7b.out.1 (by rw [F7b.out.2, X0.out]; rfl)
  have hnx : ((n7b : Int) == 0) = true := by rw [nx0]; rfl
  clear nx0
  have lob0 : r0 < w7.heap.size := by have := b.bx.lt; omega
  have kb0 := b.bx.c0
  have kb1 := b.bx.c1
  have kg0 := g.bx.c0
  have kg1 := g.bx.c1
  have lb := b.bx.lt
  have lg := g.bx.lt
  go_wp2_with fail
  clear kb0 kb1 lb kg0 kg1 lg
  clear lob0
  generalize hW : World.alloc (World.alloc w7 _) _ = V7
  obtain ⟨hb2, q1, x⟩ := two_boxes (decide (zq1 < 0)) (decide (zx < 0)) A7 A7b n7 c7 n7b c7b xs7 xs7b w7 V7 hs7 hs7b hW
  replace a := a.on hb2
  replace b := b.on hb2
  replace d := d.on hb2
  replace g := g.on hb2
  replace h := h.on hb2
  replace HB := Lib.hid (show Below r0 w V7 from below_chain HB.out (by have := HR.out; have := HB.out.size; omega) hb2)
  clear hW hs7 hs7b hb2
  generalize w7.heap.size = r7 at *
  clear q1
  have C := divMod_ov (neg := neg') (neg' := decide (zg < 0)) b.sl g.sl
  rw [Ob.out, ov_res g.sl.ok F4.out.1 F4.out.2 BG.out, ZQ2.out, ZR2.out, ER2.out] at C
  refine C.mono ?_
  clear C
  rintro e w8 ⟨A8, n8, c8, xs8, A8b, n8b, c8b, xs8b, rfl, hs8, hx8, hv8, hs8b, hx8b, hv8b, hbn⟩
  replace a := a.on hbn
  replace b := b.on hbn
  replace d := d.on hbn
  replace g := g.on hbn
  replace h := h.on hbn
  replace x := x.on hbn
  replace HB := Lib.hid (show Below r0 w w8 from below_chain HB.out (by have := HR.out; have := HB.out.size; omega) hbn)
  clear hbn
  have F8 := Lib.hid (And.intro hx8 hv8)
  have F8b := Lib.hid (And.intro hx8b hv8b)
  clear hx8 hv8 hx8b hv8b
  have ny0 : n8b = 0 := no_limbs hs8b F8b.out.1 (by rw [F8b.out.2, Y0.out]; rfl)
  have hny : ((n8b : Int) == 0) = true := by rw [ny0]; rfl
  clear ny0
  go_wp2_with fail
  generalize hW : World.alloc (World.alloc w8 _) _ = V8
  obtain ⟨hb2, q2, y⟩ := two_boxes (decide (zq2 < 0)) (decide (zy < 0)) A8 A8b n8 c8 n8b c8b xs8 xs8b w8 V8 hs8 hs8b hW
  replace a := a.on hb2
  replace b := b.on hb2
  replace d := d.on hb2
  replace g := g.on hb2
  replace h := h.on hb2
  replace x := x.on hb2
  replace HB := Lib.hid (show Below r0 w V8 from below_chain HB.out (by have := HR.out; have := HB.out.size; omega) hb2)
  clear hW hs8 hs8b hb2
  generalize w8.heap.size = r8 at *
  clear q2
  refine (works_any _).mono ?_
  rintro e w9 ⟨rfl, hbn⟩
  replace a := a.on hbn
  replace b := b.on hbn
  replace d := d.on hbn
  replace g := g.on hbn
  replace h := h.on hbn
  replace x := x.on hbn
  replace y := y.on hbn
  replace HB := Lib.hid (show Below r0 w w9 from below_chain HB.out (by have := HR.out; have := HB.out.size; omega) hbn)
  clear hbn
  have kg0 := g.bx.c0
  have kg1 := g.bx.c1
  have kh0 := h.bx.c0
  have kh1 := h.bx.c1
  have lg := g.bx.lt
  have lh := h.bx.lt
  go_wp2_with fail
  clear kg0 kg1 lg kh0 kh1 lh
  refine (lsame_yes _ _ _ _ _ _ _ _ _ _ _ g.sl h.sl rfl (uniq g.sl.ok h.sl.ok F4.out.1 F6.out.1 (F4.out.2.trans F6.out.2.symm))).mono ?_
  rintro e w10 ⟨rfl, hbn⟩
  replace a := a.on hbn
  replace b := b.on hbn
  replace d := d.on hbn
  replace g := g.on hbn
  replace h := h.on hbn
  replace x := x.on hbn
  replace y := y.on hbn
  replace HB := Lib.hid (show Below r0 w w10 from below_chain HB.out (by have := HR.out; have := HB.out.size; omega) hbn)
  clear hbn
  clear h
  have lox0 : r7 < w10.heap.size := by have := x.bx.lt; omega
  have loy1 : r8 < w10.heap.size := by have := y.bx.lt; omega
  have lod2 : r0 + 1 < w10.heap.size := by have := d.bx.lt; omega
  have lod3 : r0 < w10.heap.size := by have := d.bx.lt; omega
  have kx0 := x.bx.c0
  have kx1 := x.bx.c1
  have ky0 := y.bx.c0
  have ky1 := y.bx.c1
  have ka0 := a.bx.c0
  have ka1 := a.bx.c1
  have kd0 := d.bx.c0
  have kd1 := d.bx.c1
  have lx := x.bx.lt
  have ly := y.bx.lt
  have la := a.bx.lt
  have ld := d.bx.lt
  go_wp2_with fail
  clear kx0 kx1 lx ky0 ky1 ly ka0 ka1 la kd0 kd1 ld
  clear lox0 loy1 lod2 lod3
  clear x y
  have C := mul_ov (neg := neg) (neg' := neg'') a.sl d.sl
  rw [Oa.out, Oc.out, Z5.out, E5.out] at C
  refine C.mono ?_
  clear C
  rintro e w11 ⟨A11, n11, c11, xs11, rfl, hs11, hx11, hv11, hbn⟩
  replace a := a.on hbn
  replace b := b.on hbn
  replace d := d.on hbn
  replace g := g.on hbn
  replace HB := Lib.hid (show Below r0 w w11 from below_chain HB.out (by have := HR.out; have := HB.out.size; omega) hbn)
  clear hbn
  have F11 := Lib.hid (And.intro hx11 hv11)
  clear hx11 hv11
  have lob0 : r0 < w11.heap.size := by have := b.bx.lt; omega
  have lod1 : r0 + 1 < w11.heap.size := by have := d.bx.lt; omega
  have lod2 : r0 < w11.heap.size := by have := d.bx.lt; omega
  have kb0 := b.bx.c0
  have kb1 := b.bx.c1
  have kd0 := d.bx.c0
  have kd1 := d.bx.c1
  have lb := b.bx.lt
  have ld := d.bx.lt
  go_wp2_with fail
  clear kb0 kb1 lb kd0 kd1 ld
  clear lob0 lod1 lod2
  generalize hW : World.alloc w11 _ = V11
  have p : Ba V11 w11.heap.size (decide (z5 < 0)) A11 n11 c11 xs11 := by rw [← hW]; exact ⟨Bx.new _ _ _ _ _, hs11.on (below_new _ _)⟩
  replace a : Ba V11 (r0) (neg) A n c xs := by rw [← hW]; exact a.on (below_new _ _)
  replace b : Ba V11 (r0 + 1) (neg') A' n' c' ys := by rw [← hW]; exact b.on (below_new _ _)
  replace d : Ba V11 (r0 + 1 + 1) (neg'') A'' n'' c'' zs := by rw [← hW]; exact d.on (below_new _ _)
  replace g : Ba V11 (r4) (decide (zg < 0)) A4 n4 c4 xs4 := by rw [← hW]; exact g.on (below_new _ _)
  replace HB := Lib.hid (show Below r0 w V11 by rw [← hW]; exact HB.out.alloc (by have := HR.out; have := HB.out.size; omega) _)
  clear hW hs11
  generalize w11.heap.size = r11 at *
  have C := mul_ov (neg := neg') (neg' := neg'') b.sl d.sl
  rw [Ob.out, Oc.out, Z6.out, E6.out] at C
  refine C.mono ?_
  clear C
  rintro e w12 ⟨A12, n12, c12, xs12, rfl, hs12, hx12, hv12, hbn⟩
  replace a := a.on hbn
  replace b := b.on hbn
  replace d := d.on hbn
  replace g := g.on hbn
  replace p := p.on hbn
  replace HB := Lib.hid (show Below r0 w w12 from below_chain HB.out (by have := HR.out; have := HB.out.size; omega) hbn)
  clear hbn
  have F12 := Lib.hid (And.intro hx12 hv12)
  clear hx12 hv12
  go_upto_region 11 with fail
  generalize hW : World.alloc w12 _ = V12
  have q : Ba V12 w12.heap.size (decide (z6 < 0)) A12 n12 c12 xs12 := by rw [← hW]; exact ⟨Bx.new _ _ _ _ _, hs12.on (below_new _ _)⟩
  replace a : Ba V12 (r0) (neg) A n c xs := by rw [← hW]; exact a.on (below_new _ _)
  replace b : Ba V12 (r0 + 1) (neg') A' n' c' ys := by rw [← hW]; exact b.on (below_new _ _)
  replace d : Ba V12 (r0 + 1 + 1) (neg'') A'' n'' c'' zs := by rw [← hW]; exact d.on (below_new _ _)
  replace g : Ba V12 (r4) (decide (zg < 0)) A4 n4 c4 xs4 := by rw [← hW]; exact g.on (below_new _ _)
  replace p : Ba V12 (r11) (decide (z5 < 0)) A11 n11 c11 xs11 := by rw [← hW]; exact p.on (below_new _ _)
  replace HB := Lib.hid (show Below r0 w V12 by rw [← hW]; exact HB.out.alloc (by have := HR.out; have := HB.out.size; omega) _)
  clear hW hs12
  generalize w12.heap.size = r12 at *
  by_cases h5 : (e5 != 0) = true
  · go_wp2
    go_ret
    exact ⟨rfl, HR.out ▸ HB.out⟩
  replace h5 : (e5 != 0) = false := by simpa using h5
  by_cases h6 : (e6 != 0) = true
  · go_wp2
    go_ret
    exact ⟨rfl, HR.out ▸ HB.out⟩
  replace h6 : (e6 != 0) = false := by simpa using h6
  have HQ := Lib.hid (Q.out h5 h6)
  have kp0 := p.bx.c0
  have kp1 := p.bx.c1
  have kq0 := q.bx.c0
  have kq1 := q.bx.c1
  have lp := p.bx.lt
  have lq := q.bx.lt
  go_wp2_with fail
  clear kp0 kp1 lp kq0 kq1 lq
  have C := gcd_ov (neg := decide (z5 < 0)) (neg' := decide (z6 < 0)) p.sl q.sl
  rw [ov_res p.sl.ok F11.out.1 F11.out.2 B5.out, ov_res q.sl.ok F12.out.1 F12.out.2 B6.out, HQ.out.1.1, HQ.out.1.2] at C
  refine C.mono ?_
  clear C
  rintro e w13 ⟨A13, n13, c13, xs13, rfl, hs13, hx13, hv13, hbn⟩
  replace a := a.on hbn
  replace b := b.on hbn
  replace d := d.on hbn
  replace g := g.on hbn
  replace p := p.on hbn
  replace q := q.on hbn
  replace HB := Lib.hid (show Below r0 w w13 from below_chain HB.out (by have := HR.out; have := HB.out.size; omega) hbn)
  clear hbn
  have F13 := Lib.hid (And.intro hx13 hv13)
  clear hx13 hv13
  have lod0 : r0 + 1 < w13.heap.size := by have := d.bx.lt; omega
  have lod1 : r0 < w13.heap.size := by have := d.bx.lt; omega
  have kg0 := g.bx.c0
  have kg1 := g.bx.c1
  have kd0 := d.bx.c0
  have kd1 := d.bx.c1
  have lg := g.bx.lt
  have ld := d.bx.lt
  go_wp2_with fail
  clear kg0 kg1 lg kd0 kd1 ld
  clear lod0 lod1
  generalize hW : World.alloc w13 _ = V13
  have s : Ba V13 w13.heap.size (decide (zw < 0)) A13 n13 c13 xs13 := by rw [← hW]; exact ⟨Bx.new _ _ _ _ _, hs13.on (below_new _ _)⟩
  replace a : Ba V13 (r0) (neg) A n c xs := by rw [← hW]; exact a.on (below_new _ _)
  replace b : Ba V13 (r0 + 1) (neg') A' n' c' ys := by rw [← hW]; exact b.on (below_new _ _)
  replace d : Ba V13 (r0 + 1 + 1) (neg'') A'' n'' c'' zs := by rw [← hW]; exact d.on (below_new _ _)
  replace g : Ba V13 (r4) (decide (zg < 0)) A4 n4 c4 xs4 := by rw [← hW]; exact g.on (below_new _ _)
  replace p : Ba V13 (r11) (decide (z5 < 0)) A11 n11 c11 xs11 := by rw [← hW]; exact p.on (below_new _ _)
  replace q : Ba V13 (r12) (decide (z6 < 0)) A12 n12 c12 xs12 := by rw [← hW]; exact q.on (below_new _ _)
  replace HB := Lib.hid (show Below r0 w V13 by rw [← hW]; exact HB.out.alloc (by have := HR.out; have := HB.out.size; omega) _)
  clear hW hs13
  generalize w13.heap.size = r13 at *
  have C := mul_ov (neg := decide (zg < 0)) (neg' := false) g.sl d.sl
  rw [ov_res g.sl.ok F4.out.1 F4.out.2 BG.out, ov_mag d.sl.ok (ov_parts Oc.out).1 (ov_parts Oc.out).2.1 (ov_lt d.sl.ok Oc.out), HQ.out.2.1, HQ.out.2.2] at C
  refine C.mono ?_
  clear C
  rintro e w14 ⟨A14, n14, c14, xs14, rfl, hs14, hx14, hv14, hbn⟩
  replace a := a.on hbn
  replace b := b.on hbn
  replace d := d.on hbn
  replace g := g.on hbn
  replace p := p.on hbn
  replace q := q.on hbn
  replace s := s.on hbn
  replace HB := Lib.hid (show Below r0 w w14 from below_chain HB.out (by have := HR.out; have := HB.out.size; omega) hbn)
  clear hbn
  have F14 := Lib.hid (And.intro hx14 hv14)
  clear hx14 hv14
  have ks0 := s.bx.c0
  have ks1 := s.bx.c1
  have ls := s.bx.lt
  go_wp2_with fail
  clear ks0 ks1 ls
  generalize hW : World.alloc w14 _ = V14
  have t : Ba V14 w14.heap.size (decide (zw < 0)) A14 n14 c14 xs14 := by rw [← hW]; exact ⟨Bx.new _ _ _ _ _, hs14.on (below_new _ _)⟩
  replace a : Ba V14 (r0) (neg) A n c xs := by rw [← hW]; exact a.on (below_new _ _)
  replace b : Ba V14 (r0 + 1) (neg') A' n' c' ys := by rw [← hW]; exact b.on (below_new _ _)
  replace d : Ba V14 (r0 + 1 + 1) (neg'') A'' n'' c'' zs := by rw [← hW]; exact d.on (below_new _ _)
  replace g : Ba V14 (r4) (decide (zg < 0)) A4 n4 c4 xs4 := by rw [← hW]; exact g.on (below_new _ _)
  replace p : Ba V14 (r11) (decide (z5 < 0)) A11 n11 c11 xs11 := by rw [← hW]; exact p.on (below_new _ _)
  replace q : Ba V14 (r12) (decide (z6 < 0)) A12 n12 c12 xs12 := by rw [← hW]; exact q.on (below_new _ _)
  replace s : Ba V14 (r13) (decide (zw < 0)) A13 n13 c13 xs13 := by rw [← hW]; exact s.on (below_new _ _)
  replace HB := Lib.hid (show Below r0 w V14 by rw [← hW]; exact HB.out.alloc (by have := HR.out; have := HB.out.size; omega) _)
  clear hW hs14
  generalize w14.heap.size = r14 at *
  refine (lsame_yes _ _ _ _ _ _ _ _ _ _ _ s.sl t.sl rfl (uniq s.sl.ok t.sl.ok F13.out.1 F14.out.1 (F13.out.2.trans F14.out.2.symm))).mono ?_
  rintro e w15 ⟨rfl, hbn⟩
  replace a := a.on hbn
  replace b := b.on hbn
  replace d := d.on hbn
  replace g := g.on hbn
  replace p := p.on hbn
  replace q := q.on hbn
  replace s := s.on hbn
  replace t := t.on hbn
  replace HB := Lib.hid (show Below r0 w w15 from below_chain HB.out (by have := HR.out; have := HB.out.size; omega) hbn)
  clear hbn
  go_wp2
  go_ret
  exact ⟨rfl, HR.out ▸ HB.out⟩


end Go.Proofs.Ytalgcppogjpilaa
