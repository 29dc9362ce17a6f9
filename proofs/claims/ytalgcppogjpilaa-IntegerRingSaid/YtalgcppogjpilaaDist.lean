/-
  The walk of distributes.
-/
import Derived.Test.YtalgcppogjpilaaChain
namespace Go.Proofs.Ytalgcppogjpilaa
open Go.RowKit

/-- What stands in the middle: the first half has said yes, and the arguments and both products lie as they lay. -/
def DistMid (r0 : Nat) (w : World) (neg neg' neg'' : Bool) (A A' A'' : Option Addr) (n c n' c' n'' c'' : Nat) (xs ys zs : List Nat) (r1 : Nat) (g1 : Bool) (A1 : Option Addr) (n1 c1 : Nat) (xs1 : List Nat) (r2 : Nat) (g2 : Bool) (A2 : Option Addr) (n2 c2 : Nat) (xs2 : List Nat) (s : Value) (wx : World) : Prop :=
  s = .bool true ∧ Ba wx r0 neg A n c xs ∧ Ba wx (r0 + 1) neg' A' n' c' ys ∧ Ba wx (r0 + 1 + 1) neg'' A'' n'' c'' zs ∧ Ba wx r1 g1 A1 n1 c1 xs1 ∧ Ba wx r2 g2 A2 n2 c2 xs2 ∧ Below r0 w wx

set_option maxRecDepth 20000 in
set_option maxHeartbeats 4000000 in
theorem distributes_walk (neg neg' neg'' : Bool) (A A' A'' : Option Addr) (n c n' c' n'' c'' : Nat) (xs ys zs : List Nat) (w : World) (h : Sl w w.heap.size A n c xs) (h' : Sl w w.heap.size A' n' c' ys) (h'' : Sl w w.heap.size A'' n'' c'' zs) (oa ob od : Option Int) (z1 e1 z2 e2 z3 e3 z4 e4 z5 e5 z6 e6 z7 e7 z8 e8 : Int)
    (Oa : Hid (ov neg xs = oa)) (Ob : Hid (ov neg' ys = ob)) (Od : Hid (ov neg'' zs = od))
    (Z1 : Hid (o2Z (· * ·) oa ob = z1)) (E1 : Hid (o2E (· * ·) oa ob = e1)) (B1 : Hid (z1.natAbs < BIG))
    (Z2 : Hid (o2Z (· * ·) oa od = z2)) (E2 : Hid (o2E (· * ·) oa od = e2)) (B2 : Hid (z2.natAbs < BIG))
    (Z3 : Hid (o2Z (· + ·) ob od = z3)) (E3 : Hid (o2E (· + ·) ob od = e3)) (B3 : Hid (z3.natAbs < BIG))
    (Z4 : Hid (o2Z (· * ·) oa (some z3) = z4)) (E4 : Hid (o2E (· * ·) oa (some z3) = e4))
    (Z5 : Hid (o2Z (· + ·) (some z1) (some z2) = z5)) (E5 : Hid (o2E (· + ·) (some z1) (some z2) = e5))
    (Z6 : Hid (o2Z (· - ·) ob od = z6)) (E6 : Hid (o2E (· - ·) ob od = e6)) (B6 : Hid (z6.natAbs < BIG))
    (Z7 : Hid (o2Z (· * ·) oa (some z6) = z7)) (E7 : Hid (o2E (· * ·) oa (some z6) = e7))
    (Z8 : Hid (o2Z (· - ·) (some z1) (some z2) = z8)) (E8 : Hid (o2E (· - ·) (some z1) (some z2) = e8))
    (Q1 : Hid ((e1 != 0) = false → (e2 != 0) = false → (e3 != 0) = false → (e4 != 0) = false → (e5 != 0) = false → z4 = z5)) (Q2 : Hid ((e1 != 0) = false → (e2 != 0) = false → (e6 != 0) = false → (e7 != 0) = false → (e8 != 0) = false → z7 = z8)) :
    Calls Try.prog 49 #[.agg #[.bool neg, .slice A n c], .agg #[.bool neg', .slice A' n' c'], .agg #[.bool neg'', .slice A'' n'' c'']] w (fun e w' => e = .returned (.bool true) ∧ Below w.heap.size w w') := by
  go_enter Try.func49, Try.ntmps49
  go_wp2_with fail
  generalize hW : World.alloc (World.alloc (World.alloc w _) _) _ = V
  obtain ⟨hb, a, b, d⟩ := three_boxes neg neg' neg'' A A' A'' n c n' c' n'' c'' xs ys zs w V h h' h'' hW
  have HB := Lib.hid hb
  clear hW hb h h' h''
  generalize hr0 : w.heap.size = r0 at *
  have HR := Lib.hid hr0
  clear hr0
  have ka0 := a.bx.c0
  have ka1 := a.bx.c1
  have kb0 := b.bx.c0
  have kb1 := b.bx.c1
  have la := a.bx.lt
  have lb := b.bx.lt
  go_wp2_with fail
  clear ka0 ka1 la kb0 kb1 lb
  have C := mul_ov (neg := neg) (neg' := neg') a.sl b.sl
  rw [Oa.out, Ob.out, Z1.out, E1.out] at C
  refine C.mono ?_
  clear C
  rintro e w1 ⟨A1, n1, c1, xs1, rfl, hs1, hx1, hv1, hbn⟩
  replace a := a.on hbn
  replace b := b.on hbn
  replace d := d.on hbn
  replace HB := Lib.hid (show Below r0 w w1 from below_chain HB.out (by have := HR.out; have := HB.out.size; omega) hbn)
  clear hbn
  have F1 := Lib.hid (And.intro hx1 hv1)
  clear hx1 hv1
  have ka0 := a.bx.c0
  have ka1 := a.bx.c1
  have kd0 := d.bx.c0
  have kd1 := d.bx.c1
  have la := a.bx.lt
  have ld := d.bx.lt
  go_wp2_with fail
  clear ka0 ka1 la kd0 kd1 ld
  have ne_a_x := Nat.ne_of_lt a.bx.lt
  have ne_x_a := Nat.ne_of_gt a.bx.lt
  have ne_b_x := Nat.ne_of_lt b.bx.lt
  have ne_x_b := Nat.ne_of_gt b.bx.lt
  have ne_d_x := Nat.ne_of_lt d.bx.lt
  have ne_x_d := Nat.ne_of_gt d.bx.lt
  have ge_x : r0 ≤ w1.heap.size := by have := HR.out; have := HB.out.size; omega
  generalize hW : World.alloc w1 _ = V1
  have x : Ba V1 w1.heap.size (decide (z1 < 0)) A1 n1 c1 xs1 := by rw [← hW]; exact ⟨Bx.new _ _ _ _ _, hs1.on (below_new _ _)⟩
  replace a : Ba V1 (r0) (neg) A n c xs := by rw [← hW]; exact a.on (below_new _ _)
  replace b : Ba V1 (r0 + 1) (neg') A' n' c' ys := by rw [← hW]; exact b.on (below_new _ _)
  replace d : Ba V1 (r0 + 1 + 1) (neg'') A'' n'' c'' zs := by rw [← hW]; exact d.on (below_new _ _)
  replace HB := Lib.hid (show Below r0 w V1 by rw [← hW]; exact HB.out.alloc (by have := HR.out; have := HB.out.size; omega) _)
  clear hW hs1
  generalize w1.heap.size = r1 at *
  have C := mul_ov (neg := neg) (neg' := neg'') a.sl d.sl
  rw [Oa.out, Od.out, Z2.out, E2.out] at C
  refine C.mono ?_
  clear C
  rintro e w2 ⟨A2, n2, c2, xs2, rfl, hs2, hx2, hv2, hbn⟩
  replace a := a.on hbn
  replace b := b.on hbn
  replace d := d.on hbn
  replace x := x.on hbn
  replace HB := Lib.hid (show Below r0 w w2 from below_chain HB.out (by have := HR.out; have := HB.out.size; omega) hbn)
  clear hbn
  have F2 := Lib.hid (And.intro hx2 hv2)
  clear hx2 hv2
  have kb0 := b.bx.c0
  have kb1 := b.bx.c1
  have kd0 := d.bx.c0
  have kd1 := d.bx.c1
  have lb := b.bx.lt
  have ld := d.bx.lt
  go_wp2_with fail
  clear kb0 kb1 lb kd0 kd1 ld
  have ne_a_y := Nat.ne_of_lt a.bx.lt
  have ne_y_a := Nat.ne_of_gt a.bx.lt
  have ne_b_y := Nat.ne_of_lt b.bx.lt
  have ne_y_b := Nat.ne_of_gt b.bx.lt
  have ne_d_y := Nat.ne_of_lt d.bx.lt
  have ne_y_d := Nat.ne_of_gt d.bx.lt
  have ne_x_y := Nat.ne_of_lt x.bx.lt
  have ne_y_x := Nat.ne_of_gt x.bx.lt
  have ge_y : r0 ≤ w2.heap.size := by have := HR.out; have := HB.out.size; omega
  generalize hW : World.alloc w2 _ = V2
  have y : Ba V2 w2.heap.size (decide (z2 < 0)) A2 n2 c2 xs2 := by rw [← hW]; exact ⟨Bx.new _ _ _ _ _, hs2.on (below_new _ _)⟩
  replace a : Ba V2 (r0) (neg) A n c xs := by rw [← hW]; exact a.on (below_new _ _)
  replace b : Ba V2 (r0 + 1) (neg') A' n' c' ys := by rw [← hW]; exact b.on (below_new _ _)
  replace d : Ba V2 (r0 + 1 + 1) (neg'') A'' n'' c'' zs := by rw [← hW]; exact d.on (below_new _ _)
  replace x : Ba V2 (r1) (decide (z1 < 0)) A1 n1 c1 xs1 := by rw [← hW]; exact x.on (below_new _ _)
  replace HB := Lib.hid (show Below r0 w V2 by rw [← hW]; exact HB.out.alloc (by have := HR.out; have := HB.out.size; omega) _)
  clear hW hs2
  generalize w2.heap.size = r2 at *
  have C := add_ov (neg := neg') (neg' := neg'') b.sl d.sl
  rw [Ob.out, Od.out, Z3.out, E3.out] at C
  refine C.mono ?_
  clear C
  rintro e w3 ⟨A3, n3, c3, xs3, rfl, hs3, hx3, hv3, hbn⟩
  replace a := a.on hbn
  replace b := b.on hbn
  replace d := d.on hbn
  replace x := x.on hbn
  replace y := y.on hbn
  replace HB := Lib.hid (show Below r0 w w3 from below_chain HB.out (by have := HR.out; have := HB.out.size; omega) hbn)
  clear hbn
  have F3 := Lib.hid (And.intro hx3 hv3)
  clear hx3 hv3
  have ka0 := a.bx.c0
  have ka1 := a.bx.c1
  have la := a.bx.lt
  go_wp2_with fail
  clear ka0 ka1 la
  have ne_a_s := Nat.ne_of_lt a.bx.lt
  have ne_s_a := Nat.ne_of_gt a.bx.lt
  have ne_b_s := Nat.ne_of_lt b.bx.lt
  have ne_s_b := Nat.ne_of_gt b.bx.lt
  have ne_d_s := Nat.ne_of_lt d.bx.lt
  have ne_s_d := Nat.ne_of_gt d.bx.lt
  have ne_x_s := Nat.ne_of_lt x.bx.lt
  have ne_s_x := Nat.ne_of_gt x.bx.lt
  have ne_y_s := Nat.ne_of_lt y.bx.lt
  have ne_s_y := Nat.ne_of_gt y.bx.lt
  have ge_s : r0 ≤ w3.heap.size := by have := HR.out; have := HB.out.size; omega
  generalize hW : World.alloc w3 _ = V3
  have s : Ba V3 w3.heap.size (decide (z3 < 0)) A3 n3 c3 xs3 := by rw [← hW]; exact ⟨Bx.new _ _ _ _ _, hs3.on (below_new _ _)⟩
  replace a : Ba V3 (r0) (neg) A n c xs := by rw [← hW]; exact a.on (below_new _ _)
  replace b : Ba V3 (r0 + 1) (neg') A' n' c' ys := by rw [← hW]; exact b.on (below_new _ _)
  replace d : Ba V3 (r0 + 1 + 1) (neg'') A'' n'' c'' zs := by rw [← hW]; exact d.on (below_new _ _)
  replace x : Ba V3 (r1) (decide (z1 < 0)) A1 n1 c1 xs1 := by rw [← hW]; exact x.on (below_new _ _)
  replace y : Ba V3 (r2) (decide (z2 < 0)) A2 n2 c2 xs2 := by rw [← hW]; exact y.on (below_new _ _)
  replace HB := Lib.hid (show Below r0 w V3 by rw [← hW]; exact HB.out.alloc (by have := HR.out; have := HB.out.size; omega) _)
  clear hW hs3
  generalize w3.heap.size = r3 at *
  have C := mul_ov (neg := neg) (neg' := decide (z3 < 0)) a.sl s.sl
  rw [Oa.out, ov_res s.sl.ok F3.out.1 F3.out.2 B3.out, Z4.out, E4.out] at C
  refine C.mono ?_
  clear C
  rintro e w4 ⟨A4, n4, c4, xs4, rfl, hs4, hx4, hv4, hbn⟩
  replace a := a.on hbn
  replace b := b.on hbn
  replace d := d.on hbn
  replace x := x.on hbn
  replace y := y.on hbn
  replace s := s.on hbn
  replace HB := Lib.hid (show Below r0 w w4 from below_chain HB.out (by have := HR.out; have := HB.out.size; omega) hbn)
  clear hbn
  have F4 := Lib.hid (And.intro hx4 hv4)
  clear hx4 hv4
  have k0 := s.bx.c0
  have k1 := s.bx.c1
  have k2 := s.bx.f 0
  have k3 := s.bx.f 1
  go_upto_region 5 with fail
  clear k0 k1 k2 k3
  generalize hW : (w4.setCell ⟨r3, 0, none⟩ (.bool (decide (z4 < 0)))).setCell ⟨r3, 1, none⟩ (.slice A4 n4 c4) = V4
  replace a : Ba V4 (r0) (neg) A n c xs := by rw [← hW]; exact a.aside s ne_a_s _ _
  replace b : Ba V4 (r0 + 1) (neg') A' n' c' ys := by rw [← hW]; exact b.aside s ne_b_s _ _
  replace d : Ba V4 (r0 + 1 + 1) (neg'') A'' n'' c'' zs := by rw [← hW]; exact d.aside s ne_d_s _ _
  replace x : Ba V4 (r1) (decide (z1 < 0)) A1 n1 c1 xs1 := by rw [← hW]; exact x.aside s ne_x_s _ _
  replace y : Ba V4 (r2) (decide (z2 < 0)) A2 n2 c2 xs2 := by rw [← hW]; exact y.aside s ne_y_s _ _
  replace s : Ba V4 (r3) (decide (z4 < 0)) A4 n4 c4 xs4 := by rw [← hW]; exact s.stored hs4 _
  replace HB := Lib.hid (show Below r0 w V4 by rw [← hW]; exact below_ret HB.out ge_s _ _)
  clear hW hs4
  have kx0 := x.bx.c0
  have kx1 := x.bx.c1
  have ky0 := y.bx.c0
  have ky1 := y.bx.c1
  have lx := x.bx.lt
  have ly := y.bx.lt
  go_wp2_with fail
  clear kx0 kx1 lx ky0 ky1 ly
  have C := add_ov (neg := decide (z1 < 0)) (neg' := decide (z2 < 0)) x.sl y.sl
  rw [ov_res x.sl.ok F1.out.1 F1.out.2 B1.out, ov_res y.sl.ok F2.out.1 F2.out.2 B2.out, Z5.out, E5.out] at C
  refine C.mono ?_
  clear C
  rintro e w5 ⟨A5, n5, c5, xs5, rfl, hs5, hx5, hv5, hbn⟩
  replace a := a.on hbn
  replace b := b.on hbn
  replace d := d.on hbn
  replace x := x.on hbn
  replace y := y.on hbn
  replace s := s.on hbn
  replace HB := Lib.hid (show Below r0 w w5 from below_chain HB.out (by have := HR.out; have := HB.out.size; omega) hbn)
  clear hbn
  have F5 := Lib.hid (And.intro hx5 hv5)
  clear hx5 hv5
  by_cases he1 : (e1 != 0) = true
  · go_wp2
    go_ret
    exact ⟨rfl, HR.out ▸ (HB.out.alloc (by have := HR.out; have := HB.out.size; omega) _)⟩
  replace he1 : (e1 != 0) = false := by simpa using he1
  by_cases he2 : (e2 != 0) = true
  · go_wp2
    go_ret
    exact ⟨rfl, HR.out ▸ (HB.out.alloc (by have := HR.out; have := HB.out.size; omega) _)⟩
  replace he2 : (e2 != 0) = false := by simpa using he2
  go_upto_region 8 with fail
  have ne_a_t := Nat.ne_of_lt a.bx.lt
  have ne_t_a := Nat.ne_of_gt a.bx.lt
  have ne_b_t := Nat.ne_of_lt b.bx.lt
  have ne_t_b := Nat.ne_of_gt b.bx.lt
  have ne_d_t := Nat.ne_of_lt d.bx.lt
  have ne_t_d := Nat.ne_of_gt d.bx.lt
  have ne_x_t := Nat.ne_of_lt x.bx.lt
  have ne_t_x := Nat.ne_of_gt x.bx.lt
  have ne_y_t := Nat.ne_of_lt y.bx.lt
  have ne_t_y := Nat.ne_of_gt y.bx.lt
  have ne_s_t := Nat.ne_of_lt s.bx.lt
  have ne_t_s := Nat.ne_of_gt s.bx.lt
  have ge_t : r0 ≤ w5.heap.size := by have := HR.out; have := HB.out.size; omega
  generalize hW : World.alloc w5 _ = V5
  have t : Ba V5 w5.heap.size (decide (z5 < 0)) A5 n5 c5 xs5 := by rw [← hW]; exact ⟨Bx.new _ _ _ _ _, hs5.on (below_new _ _)⟩
  replace a : Ba V5 (r0) (neg) A n c xs := by rw [← hW]; exact a.on (below_new _ _)
  replace b : Ba V5 (r0 + 1) (neg') A' n' c' ys := by rw [← hW]; exact b.on (below_new _ _)
  replace d : Ba V5 (r0 + 1 + 1) (neg'') A'' n'' c'' zs := by rw [← hW]; exact d.on (below_new _ _)
  replace x : Ba V5 (r1) (decide (z1 < 0)) A1 n1 c1 xs1 := by rw [← hW]; exact x.on (below_new _ _)
  replace y : Ba V5 (r2) (decide (z2 < 0)) A2 n2 c2 xs2 := by rw [← hW]; exact y.on (below_new _ _)
  replace s : Ba V5 (r3) (decide (z4 < 0)) A4 n4 c4 xs4 := by rw [← hW]; exact s.on (below_new _ _)
  replace HB := Lib.hid (show Below r0 w V5 by rw [← hW]; exact HB.out.alloc (by have := HR.out; have := HB.out.size; omega) _)
  clear hW hs5
  generalize w5.heap.size = r5 at *
  go_cut [16] (fun s16 wx => DistMid r0 w neg neg' neg'' A A' A'' n c n' c' n'' c'' xs ys zs r1 (decide (z1 < 0)) A1 n1 c1 xs1 r2 (decide (z2 < 0)) A2 n2 c2 xs2 s16 wx)
  case first =>
    by_cases he3 : (e3 != 0) = true
    · go_wp2_with fail
      go_meet
      exact ⟨rfl, a, b, d, x, y, HB.out⟩
    · replace he3 : (e3 != 0) = false := by simpa using he3
      by_cases he4 : (e4 != 0) = true
      · go_wp2_with fail
        go_meet
        exact ⟨rfl, a, b, d, x, y, HB.out⟩
      · replace he4 : (e4 != 0) = false := by simpa using he4
        by_cases he5 : (e5 != 0) = true
        · go_wp2_with fail
          go_meet
          exact ⟨rfl, a, b, d, x, y, HB.out⟩
        · replace he5 : (e5 != 0) = false := by simpa using he5
          have kx0 := s.bx.c0
          have kx1 := s.bx.c1
          have ky0 := t.bx.c0
          have ky1 := t.bx.c1
          go_wp2_with fail
          refine (lsame_yes _ _ _ _ _ _ _ _ _ _ _ s.sl t.sl (by rw [Q1.out he1 he2 he3 he4 he5]) (uniq s.sl.ok t.sl.ok F4.out.1 F5.out.1 (by rw [F4.out.2, F5.out.2, Q1.out he1 he2 he3 he4 he5]))).mono ?_
          rintro e w9 ⟨rfl, hbn⟩
          go_wp2_with fail
          go_meet
          exact ⟨rfl, a.on hbn, b.on hbn, d.on hbn, x.on hbn, y.on hbn, below_chain HB.out (by have := HR.out; have := HB.out.size; omega) hbn⟩
  case rest =>
  obtain ⟨rfl, a, b, d, x, y, hb⟩ := hcut
  have HB := Lib.hid hb
  clear hb
  have kb0 := b.bx.c0
  have kb1 := b.bx.c1
  have kd0 := d.bx.c0
  have kd1 := d.bx.c1
  have lb := b.bx.lt
  have ld := d.bx.lt
  go_wp2_with fail
  clear kb0 kb1 lb kd0 kd1 ld
  have C := sub_ov (neg := neg') (neg' := neg'') b.sl d.sl
  rw [Ob.out, Od.out, Z6.out, E6.out] at C
  refine C.mono ?_
  clear C
  rintro e w6 ⟨A6, n6, c6, xs6, rfl, hs6, hx6, hv6, hbn⟩
  replace a := a.on hbn
  replace b := b.on hbn
  replace d := d.on hbn
  replace x := x.on hbn
  replace y := y.on hbn
  replace HB := Lib.hid (show Below r0 w w6 from below_chain HB.out (by have := HR.out; have := HB.out.size; omega) hbn)
  clear hbn
  have F6 := Lib.hid (And.intro hx6 hv6)
  clear hx6 hv6
  have ka0 := a.bx.c0
  have ka1 := a.bx.c1
  have la := a.bx.lt
  go_wp2_with fail
  clear ka0 ka1 la
  have ne_a_p := Nat.ne_of_lt a.bx.lt
  have ne_p_a := Nat.ne_of_gt a.bx.lt
  have ne_b_p := Nat.ne_of_lt b.bx.lt
  have ne_p_b := Nat.ne_of_gt b.bx.lt
  have ne_d_p := Nat.ne_of_lt d.bx.lt
  have ne_p_d := Nat.ne_of_gt d.bx.lt
  have ne_x_p := Nat.ne_of_lt x.bx.lt
  have ne_p_x := Nat.ne_of_gt x.bx.lt
  have ne_y_p := Nat.ne_of_lt y.bx.lt
  have ne_p_y := Nat.ne_of_gt y.bx.lt
  have ge_p : r0 ≤ w6.heap.size := by have := HR.out; have := HB.out.size; omega
  generalize hW : World.alloc w6 _ = V6
  have p : Ba V6 w6.heap.size (decide (z6 < 0)) A6 n6 c6 xs6 := by rw [← hW]; exact ⟨Bx.new _ _ _ _ _, hs6.on (below_new _ _)⟩
  replace a : Ba V6 (r0) (neg) A n c xs := by rw [← hW]; exact a.on (below_new _ _)
  replace b : Ba V6 (r0 + 1) (neg') A' n' c' ys := by rw [← hW]; exact b.on (below_new _ _)
  replace d : Ba V6 (r0 + 1 + 1) (neg'') A'' n'' c'' zs := by rw [← hW]; exact d.on (below_new _ _)
  replace x : Ba V6 (r1) (decide (z1 < 0)) A1 n1 c1 xs1 := by rw [← hW]; exact x.on (below_new _ _)
  replace y : Ba V6 (r2) (decide (z2 < 0)) A2 n2 c2 xs2 := by rw [← hW]; exact y.on (below_new _ _)
  replace HB := Lib.hid (show Below r0 w V6 by rw [← hW]; exact HB.out.alloc (by have := HR.out; have := HB.out.size; omega) _)
  clear hW hs6
  generalize w6.heap.size = r6 at *
  have C := mul_ov (neg := neg) (neg' := decide (z6 < 0)) a.sl p.sl
  rw [Oa.out, ov_res p.sl.ok F6.out.1 F6.out.2 B6.out, Z7.out, E7.out] at C
  refine C.mono ?_
  clear C
  rintro e w7 ⟨A7, n7, c7, xs7, rfl, hs7, hx7, hv7, hbn⟩
  replace a := a.on hbn
  replace b := b.on hbn
  replace d := d.on hbn
  replace x := x.on hbn
  replace y := y.on hbn
  replace p := p.on hbn
  replace HB := Lib.hid (show Below r0 w w7 from below_chain HB.out (by have := HR.out; have := HB.out.size; omega) hbn)
  clear hbn
  have F7 := Lib.hid (And.intro hx7 hv7)
  clear hx7 hv7
  have k0 := p.bx.c0
  have k1 := p.bx.c1
  have k2 := p.bx.f 0
  have k3 := p.bx.f 1
  go_upto_region 11 with fail
  clear k0 k1 k2 k3
  generalize hW : (w7.setCell ⟨r6, 0, none⟩ (.bool (decide (z7 < 0)))).setCell ⟨r6, 1, none⟩ (.slice A7 n7 c7) = V7
  replace a : Ba V7 (r0) (neg) A n c xs := by rw [← hW]; exact a.aside p ne_a_p _ _
  replace b : Ba V7 (r0 + 1) (neg') A' n' c' ys := by rw [← hW]; exact b.aside p ne_b_p _ _
  replace d : Ba V7 (r0 + 1 + 1) (neg'') A'' n'' c'' zs := by rw [← hW]; exact d.aside p ne_d_p _ _
  replace x : Ba V7 (r1) (decide (z1 < 0)) A1 n1 c1 xs1 := by rw [← hW]; exact x.aside p ne_x_p _ _
  replace y : Ba V7 (r2) (decide (z2 < 0)) A2 n2 c2 xs2 := by rw [← hW]; exact y.aside p ne_y_p _ _
  replace p : Ba V7 (r6) (decide (z7 < 0)) A7 n7 c7 xs7 := by rw [← hW]; exact p.stored hs7 _
  replace HB := Lib.hid (show Below r0 w V7 by rw [← hW]; exact below_ret HB.out ge_p _ _)
  clear hW hs7
  have kx0 := x.bx.c0
  have kx1 := x.bx.c1
  have ky0 := y.bx.c0
  have ky1 := y.bx.c1
  have lx := x.bx.lt
  have ly := y.bx.lt
  go_wp2_with fail
  clear kx0 kx1 lx ky0 ky1 ly
  have C := sub_ov (neg := decide (z1 < 0)) (neg' := decide (z2 < 0)) x.sl y.sl
  rw [ov_res x.sl.ok F1.out.1 F1.out.2 B1.out, ov_res y.sl.ok F2.out.1 F2.out.2 B2.out, Z8.out, E8.out] at C
  refine C.mono ?_
  clear C
  rintro e w8 ⟨A8, n8, c8, xs8, rfl, hs8, hx8, hv8, hbn⟩
  replace a := a.on hbn
  replace b := b.on hbn
  replace d := d.on hbn
  replace x := x.on hbn
  replace y := y.on hbn
  replace p := p.on hbn
  replace HB := Lib.hid (show Below r0 w w8 from below_chain HB.out (by have := HR.out; have := HB.out.size; omega) hbn)
  clear hbn
  have F8 := Lib.hid (And.intro hx8 hv8)
  clear hx8 hv8
  go_upto_region 12 with fail
  have ne_a_u := Nat.ne_of_lt a.bx.lt
  have ne_u_a := Nat.ne_of_gt a.bx.lt
  have ne_b_u := Nat.ne_of_lt b.bx.lt
  have ne_u_b := Nat.ne_of_gt b.bx.lt
  have ne_d_u := Nat.ne_of_lt d.bx.lt
  have ne_u_d := Nat.ne_of_gt d.bx.lt
  have ne_x_u := Nat.ne_of_lt x.bx.lt
  have ne_u_x := Nat.ne_of_gt x.bx.lt
  have ne_y_u := Nat.ne_of_lt y.bx.lt
  have ne_u_y := Nat.ne_of_gt y.bx.lt
  have ne_p_u := Nat.ne_of_lt p.bx.lt
  have ne_u_p := Nat.ne_of_gt p.bx.lt
  have ge_u : r0 ≤ w8.heap.size := by have := HR.out; have := HB.out.size; omega
  generalize hW : World.alloc w8 _ = V8
  have u : Ba V8 w8.heap.size (decide (z8 < 0)) A8 n8 c8 xs8 := by rw [← hW]; exact ⟨Bx.new _ _ _ _ _, hs8.on (below_new _ _)⟩
  replace a : Ba V8 (r0) (neg) A n c xs := by rw [← hW]; exact a.on (below_new _ _)
  replace b : Ba V8 (r0 + 1) (neg') A' n' c' ys := by rw [← hW]; exact b.on (below_new _ _)
  replace d : Ba V8 (r0 + 1 + 1) (neg'') A'' n'' c'' zs := by rw [← hW]; exact d.on (below_new _ _)
  replace x : Ba V8 (r1) (decide (z1 < 0)) A1 n1 c1 xs1 := by rw [← hW]; exact x.on (below_new _ _)
  replace y : Ba V8 (r2) (decide (z2 < 0)) A2 n2 c2 xs2 := by rw [← hW]; exact y.on (below_new _ _)
  replace p : Ba V8 (r6) (decide (z7 < 0)) A7 n7 c7 xs7 := by rw [← hW]; exact p.on (below_new _ _)
  replace HB := Lib.hid (show Below r0 w V8 by rw [← hW]; exact HB.out.alloc (by have := HR.out; have := HB.out.size; omega) _)
  clear hW hs8
  generalize w8.heap.size = r8 at *
  by_cases he6 : (e6 != 0) = true
  · go_wp2
    go_ret
    exact ⟨rfl, HR.out ▸ HB.out⟩
  · replace he6 : (e6 != 0) = false := by simpa using he6
    by_cases he7 : (e7 != 0) = true
    · go_wp2
      go_ret
      exact ⟨rfl, HR.out ▸ HB.out⟩
    · replace he7 : (e7 != 0) = false := by simpa using he7
      by_cases he8 : (e8 != 0) = true
      · go_wp2
        go_ret
        exact ⟨rfl, HR.out ▸ HB.out⟩
      · replace he8 : (e8 != 0) = false := by simpa using he8
        have kx0 := p.bx.c0
        have kx1 := p.bx.c1
        have ky0 := u.bx.c0
        have ky1 := u.bx.c1
        go_wp2_with fail
        refine (lsame_yes _ _ _ _ _ _ _ _ _ _ _ p.sl u.sl (by rw [Q2.out he1 he2 he6 he7 he8]) (uniq p.sl.ok u.sl.ok F7.out.1 F8.out.1 (by rw [F7.out.2, F8.out.2, Q2.out he1 he2 he6 he7 he8]))).mono ?_
        rintro e w9 ⟨rfl, hbn⟩
        go_wp2
        go_ret
        exact ⟨rfl, HR.out ▸ below_chain HB.out (by have := HR.out; have := HB.out.size; omega) hbn⟩


end Go.Proofs.Ytalgcppogjpilaa
