/-
  The walks of IntegerHalves.
-/
import Derived.Test.YtalgcppogjpilaaShift
import Derived.Test.YtalgcppogjpilaaLawDiv2
namespace Go.Proofs.Ytalgcppogjpilaa
open Go.RowKit

theorem lone_box (neg : Bool) (A : Option Addr) (n c : Nat) (xs : List Nat) (w W : World) (h : Sl w w.heap.size A n c xs) (hW : w.alloc (.cells #[.bool neg, .slice A n c] 24) = W) :
    Below w.heap.size w W ∧ Ba W w.heap.size neg A n c xs := by
  subst hW
  exact ⟨below_new _ _, Bx.new _ _ _ _ _, h.on (below_new _ _)⟩

set_option maxRecDepth 20000 in
set_option maxHeartbeats 4000000 in
theorem halves_bad (neg : Bool) (A : Option Addr) (n c : Nat) (xs : List Nat) (w : World) (h : Sl w w.heap.size A n c xs) (s : Int) (k : Nat) (hs : bits .and .i64 s 4095 = (k : Int)) (hv : vld neg xs = false) :
    Calls Try.prog 15 #[.agg #[.bool neg, .slice A n c], .int .i64 s] w (fun e w' => e = .returned (.bool true) ∧ Below w.heap.size w w') := by
  go_enter Try.func15, Try.ntmps15
  go_wp2_with fail
  generalize hW : World.alloc w _ = V
  obtain ⟨hb, a⟩ := lone_box neg A n c xs w V h hW
  have HB := Lib.hid hb
  clear hW hb h
  generalize hr0 : w.heap.size = r0 at *
  have HR := Lib.hid hr0
  clear hr0
  have ka0 := a.bx.c0
  have ka1 := a.bx.c1
  have la := a.bx.lt
  go_upto_region 2 with fail
  clear ka0 ka1 la
  clear hs
  have ka0 := a.bx.c0
  have ka1 := a.bx.c1
  have la := a.bx.lt
  go_wp2_with fail
  clear ka0 ka1 la
  refine (rvalid_any _ _ _ _ _ xs _ a.sl (Nat.le_refl _)).mono ?_
  rintro e w1 ⟨rfl, hbn⟩
  replace a := a.on hbn
  replace HB := Lib.hid (show Below r0 w w1 from below_chain HB.out (by have := HR.out; have := HB.out.size; omega) hbn)
  clear hbn
  rw [hv]
  go_wp2_with fail
  refine (works_any _).mono ?_
  rintro e w2 ⟨rfl, hbn⟩
  replace a := a.on hbn
  replace HB := Lib.hid (show Below r0 w w2 from below_chain HB.out (by have := HR.out; have := HB.out.size; omega) hbn)
  clear hbn
  go_wp2
  go_ret
  exact ⟨rfl, HR.out ▸ HB.out⟩


set_option maxRecDepth 20000 in
set_option maxHeartbeats 4000000 in
theorem halves_big (neg : Bool) (A : Option Addr) (n c : Nat) (xs : List Nat) (w : World) (h : Sl w w.heap.size A n c xs) (s : Int) (k : Nat) (hs : bits .and .i64 s 4095 = (k : Int)) (hk : k ≤ 4095) (va z1 z2 o z3 zq zr : Int)
    (Oa : Hid (ov neg xs = some va)) (hv : vld neg xs = true)
    (Z1 : Hid (oZ (shf · (k : Int)) (some va) = z1)) (E1 : Hid (oE (shf · (k : Int)) (some va) = 2)) (B1 : Hid (z1.natAbs < BIG))
    (Z2 : Hid (oZ (shf · (-(k : Int))) (some z1) = z2)) (E2 : Hid (oE (shf · (-(k : Int))) (some z1) = 0))
    (KO : Hid (∀ w : World, Calls Try.prog 18 #[.int .i64 1] w (RetI o w))) (BO : Hid (o.natAbs < BIG))
    (Z3 : Hid (oZ (shf · (k : Int)) (some o) = z3)) (E3 : Hid (oE (shf · (k : Int)) (some o) = 0)) (B3 : Hid (z3.natAbs < BIG))
    (ZQ : Hid (dvQ (some va) (some z3) = zq)) (ZR : Hid (dvR (some va) (some z3) = zr)) (ER : Hid (dvE (some va) (some z3) = 0))
    (Z4 : Hid (oZ (shf · (-(k : Int))) (some va) = zq)) (E4 : Hid (oE (shf · (-(k : Int))) (some va) = 0)) :
    Calls Try.prog 15 #[.agg #[.bool neg, .slice A n c], .int .i64 s] w (fun e w' => e = .returned (.bool true) ∧ Below w.heap.size w w') := by
  go_enter Try.func15, Try.ntmps15
  go_wp2_with fail
  generalize hW : World.alloc w _ = V
  obtain ⟨hb, a⟩ := lone_box neg A n c xs w V h hW
  have HB := Lib.hid hb
  clear hW hb h
  generalize hr0 : w.heap.size = r0 at *
  have HR := Lib.hid hr0
  clear hr0
  have ka0 := a.bx.c0
  have ka1 := a.bx.c1
  have la := a.bx.lt
  go_upto_region 2 with fail
  clear ka0 ka1 la
  clear hs
  have ka0 := a.bx.c0
  have ka1 := a.bx.c1
  have la := a.bx.lt
  go_wp2_with fail
  clear ka0 ka1 la
  refine (rvalid_any _ _ _ _ _ xs _ a.sl (Nat.le_refl _)).mono ?_
  rintro e w1 ⟨rfl, hbn⟩
  replace a := a.on hbn
  replace HB := Lib.hid (show Below r0 w w1 from below_chain HB.out (by have := HR.out; have := HB.out.size; omega) hbn)
  clear hbn
  rw [hv]
  have ka0 := a.bx.c0
  have ka1 := a.bx.c1
  have la := a.bx.lt
  go_wp2_with fail
  clear ka0 ka1 la
  have C := shift_ov (neg := neg) a.sl (k : Int) (by omega) (by omega)
  rw [Oa.out, Z1.out, E1.out] at C
  refine C.mono ?_
  clear C
  rintro e w2 ⟨A2, n2, c2, xs2, rfl, hs2, hx2, hv2, hbn⟩
  replace a := a.on hbn
  replace HB := Lib.hid (show Below r0 w w2 from below_chain HB.out (by have := HR.out; have := HB.out.size; omega) hbn)
  clear hbn
  have F2 := Lib.hid (And.intro hx2 hv2)
  clear hx2 hv2
  go_wp2_with fail
  generalize hW : World.alloc w2 _ = V2
  have x : Ba V2 w2.heap.size (decide (z1 < 0)) A2 n2 c2 xs2 := by rw [← hW]; exact ⟨Bx.new _ _ _ _ _, hs2.on (below_new _ _)⟩
  replace a : Ba V2 (r0) (neg) A n c xs := by rw [← hW]; exact a.on (below_new _ _)
  replace HB := Lib.hid (show Below r0 w V2 by rw [← hW]; exact HB.out.alloc (by have := HR.out; have := HB.out.size; omega) _)
  clear hW hs2
  generalize w2.heap.size = r2 at *
  have C := shift_ov (neg := decide (z1 < 0)) x.sl (-(k : Int)) (by omega) (by omega)
  rw [ov_res x.sl.ok F2.out.1 F2.out.2 B1.out, Z2.out, E2.out] at C
  refine C.mono ?_
  clear C
  rintro e w3 ⟨A3, n3, c3, xs3, rfl, hs3, hx3, hv3, hbn⟩
  replace a := a.on hbn
  replace x := x.on hbn
  replace HB := Lib.hid (show Below r0 w w3 from below_chain HB.out (by have := HR.out; have := HB.out.size; omega) hbn)
  clear hbn
  have F3 := Lib.hid (And.intro hx3 hv3)
  clear hx3 hv3
  go_wp2_with fail
  generalize hW : World.alloc w3 _ = V3
  have y : Ba V3 w3.heap.size (decide (z2 < 0)) A3 n3 c3 xs3 := by rw [← hW]; exact ⟨Bx.new _ _ _ _ _, hs3.on (below_new _ _)⟩
  replace a : Ba V3 (r0) (neg) A n c xs := by rw [← hW]; exact a.on (below_new _ _)
  replace x : Ba V3 (r2) (decide (z1 < 0)) A2 n2 c2 xs2 := by rw [← hW]; exact x.on (below_new _ _)
  replace HB := Lib.hid (show Below r0 w V3 by rw [← hW]; exact HB.out.alloc (by have := HR.out; have := HB.out.size; omega) _)
  clear hW hs3
  generalize w3.heap.size = r3 at *
  refine (works_any _).mono ?_
  rintro e w4 ⟨rfl, hbn⟩
  replace a := a.on hbn
  replace x := x.on hbn
  replace y := y.on hbn
  replace HB := Lib.hid (show Below r0 w w4 from below_chain HB.out (by have := HR.out; have := HB.out.size; omega) hbn)
  clear hbn
  go_wp2_with fail
  have C := KO.out w4
  refine C.mono ?_
  clear C
  rintro e w5 ⟨A5, n5, c5, xs5, rfl, hs5, hx5, hv5, hbn⟩
  replace a := a.on hbn
  replace x := x.on hbn
  replace y := y.on hbn
  replace HB := Lib.hid (show Below r0 w w5 from below_chain HB.out (by have := HR.out; have := HB.out.size; omega) hbn)
  clear hbn
  have F5 := Lib.hid (And.intro hx5 hv5)
  clear hx5 hv5
  go_wp2_with fail
  have C := shift_ov (neg := decide (o < 0)) hs5 (k : Int) (by omega) (by omega)
  rw [ov_res hs5.ok F5.out.1 F5.out.2 BO.out, Z3.out, E3.out] at C
  refine C.mono ?_
  clear C
  rintro e w6 ⟨A6, n6, c6, xs6, rfl, hs6, hx6, hv6, hbn⟩
  replace a := a.on hbn
  replace x := x.on hbn
  replace y := y.on hbn
  replace HB := Lib.hid (show Below r0 w w6 from below_chain HB.out (by have := HR.out; have := HB.out.size; omega) hbn)
  clear hbn
  have F6 := Lib.hid (And.intro hx6 hv6)
  clear hx6 hv6
  clear hs5
  have ka0 := a.bx.c0
  have ka1 := a.bx.c1
  have la := a.bx.lt
  go_wp2_with fail
  clear ka0 ka1 la
  generalize hW : World.alloc w6 _ = V6
  have p : Ba V6 w6.heap.size (decide (z3 < 0)) A6 n6 c6 xs6 := by rw [← hW]; exact ⟨Bx.new _ _ _ _ _, hs6.on (below_new _ _)⟩
  replace a : Ba V6 (r0) (neg) A n c xs := by rw [← hW]; exact a.on (below_new _ _)
  replace x : Ba V6 (r2) (decide (z1 < 0)) A2 n2 c2 xs2 := by rw [← hW]; exact x.on (below_new _ _)
  replace y : Ba V6 (r3) (decide (z2 < 0)) A3 n3 c3 xs3 := by rw [← hW]; exact y.on (below_new _ _)
  replace HB := Lib.hid (show Below r0 w V6 by rw [← hW]; exact HB.out.alloc (by have := HR.out; have := HB.out.size; omega) _)
  clear hW hs6
  generalize w6.heap.size = r6 at *
  have C := divMod_ov (neg := neg) (neg' := decide (z3 < 0)) a.sl p.sl
  rw [Oa.out, ov_res p.sl.ok F6.out.1 F6.out.2 B3.out, ZQ.out, ZR.out, ER.out] at C
  refine C.mono ?_
  clear C
  rintro e w7 ⟨A7, n7, c7, xs7, A7b, n7b, c7b, xs7b, rfl, hs7, hx7, hv7, hs7b, hx7b, hv7b, hbn⟩
  replace a := a.on hbn
  replace x := x.on hbn
  replace y := y.on hbn
  replace p := p.on hbn
  replace HB := Lib.hid (show Below r0 w w7 from below_chain HB.out (by have := HR.out; have := HB.out.size; omega) hbn)
  clear hbn
  have F7 := Lib.hid (And.intro hx7 hv7)
  have F7b := Lib.hid (And.intro hx7b hv7b)
  clear hx7 hv7 hx7b hv7b
  have ka0 := a.bx.c0
  have ka1 := a.bx.c1
  have la := a.bx.lt
  go_wp2_with fail
  clear ka0 ka1 la
  generalize hW : World.alloc (World.alloc w7 _) _ = V7
  obtain ⟨hb2, q, r⟩ := two_boxes (decide (zq < 0)) (decide (zr < 0)) A7 A7b n7 c7 n7b c7b xs7 xs7b w7 V7 hs7 hs7b hW
  replace a := a.on hb2
  replace x := x.on hb2
  replace y := y.on hb2
  replace p := p.on hb2
  replace HB := Lib.hid (show Below r0 w V7 from below_chain HB.out (by have := HR.out; have := HB.out.size; omega) hb2)
  clear hW hs7 hs7b hb2
  generalize w7.heap.size = r7 at *
  have C := shift_ov (neg := neg) a.sl (-(k : Int)) (by omega) (by omega)
  rw [Oa.out, Z4.out, E4.out] at C
  refine C.mono ?_
  clear C
  rintro e w8 ⟨A8, n8, c8, xs8, rfl, hs8, hx8, hv8, hbn⟩
  replace a := a.on hbn
  replace x := x.on hbn
  replace y := y.on hbn
  replace p := p.on hbn
  replace q := q.on hbn
  replace r := r.on hbn
  replace HB := Lib.hid (show Below r0 w w8 from below_chain HB.out (by have := HR.out; have := HB.out.size; omega) hbn)
  clear hbn
  have F8 := Lib.hid (And.intro hx8 hv8)
  clear hx8 hv8
  have kq0 := q.bx.c0
  have kq1 := q.bx.c1
  have lq := q.bx.lt
  go_wp2_with fail
  clear kq0 kq1 lq
  generalize hW : World.alloc w8 _ = V8
  have z : Ba V8 w8.heap.size (decide (zq < 0)) A8 n8 c8 xs8 := by rw [← hW]; exact ⟨Bx.new _ _ _ _ _, hs8.on (below_new _ _)⟩
  replace a : Ba V8 (r0) (neg) A n c xs := by rw [← hW]; exact a.on (below_new _ _)
  replace x : Ba V8 (r2) (decide (z1 < 0)) A2 n2 c2 xs2 := by rw [← hW]; exact x.on (below_new _ _)
  replace y : Ba V8 (r3) (decide (z2 < 0)) A3 n3 c3 xs3 := by rw [← hW]; exact y.on (below_new _ _)
  replace p : Ba V8 (r6) (decide (z3 < 0)) A6 n6 c6 xs6 := by rw [← hW]; exact p.on (below_new _ _)
  replace q : Ba V8 (r7) (decide (zq < 0)) A7 n7 c7 xs7 := by rw [← hW]; exact q.on (below_new _ _)
  replace r : Ba V8 (r7 + 1) (decide (zr < 0)) A7b n7b c7b xs7b := by rw [← hW]; exact r.on (below_new _ _)
  replace HB := Lib.hid (show Below r0 w V8 by rw [← hW]; exact HB.out.alloc (by have := HR.out; have := HB.out.size; omega) _)
  clear hW hs8
  generalize w8.heap.size = r8 at *
  refine (lsame_yes _ _ _ _ _ _ _ _ _ _ _ q.sl z.sl rfl (uniq q.sl.ok z.sl.ok F7.out.1 F8.out.1 (F7.out.2.trans F8.out.2.symm))).mono ?_
  rintro e w9 ⟨rfl, hbn⟩
  replace a := a.on hbn
  replace x := x.on hbn
  replace y := y.on hbn
  replace p := p.on hbn
  replace q := q.on hbn
  replace r := r.on hbn
  replace z := z.on hbn
  replace HB := Lib.hid (show Below r0 w w9 from below_chain HB.out (by have := HR.out; have := HB.out.size; omega) hbn)
  clear hbn
  go_wp2
  go_ret
  exact ⟨rfl, HR.out ▸ HB.out⟩


set_option maxRecDepth 20000 in
set_option maxHeartbeats 4000000 in
theorem halves_fit (neg : Bool) (A : Option Addr) (n c : Nat) (xs : List Nat) (w : World) (h : Sl w w.heap.size A n c xs) (s : Int) (k : Nat) (hs : bits .and .i64 s 4095 = (k : Int)) (hk : k ≤ 4095) (va z1 z2 o z3 zq zr : Int)
    (Oa : Hid (ov neg xs = some va)) (hv : vld neg xs = true)
    (Z1 : Hid (oZ (shf · (k : Int)) (some va) = z1)) (E1 : Hid (oE (shf · (k : Int)) (some va) = 0)) (B1 : Hid (z1.natAbs < BIG))
    (Z2 : Hid (oZ (shf · (-(k : Int))) (some z1) = z2)) (E2 : Hid (oE (shf · (-(k : Int))) (some z1) = 0))
    (KO : Hid (∀ w : World, Calls Try.prog 18 #[.int .i64 1] w (RetI o w))) (BO : Hid (o.natAbs < BIG))
    (Z3 : Hid (oZ (shf · (k : Int)) (some o) = z3)) (E3 : Hid (oE (shf · (k : Int)) (some o) = 0)) (B3 : Hid (z3.natAbs < BIG))
    (ZQ : Hid (dvQ (some va) (some z3) = zq)) (ZR : Hid (dvR (some va) (some z3) = zr)) (ER : Hid (dvE (some va) (some z3) = 0))
    (Z4 : Hid (oZ (shf · (-(k : Int))) (some va) = zq)) (E4 : Hid (oE (shf · (-(k : Int))) (some va) = 0)) (Q : Hid (z2 = va)) :
    Calls Try.prog 15 #[.agg #[.bool neg, .slice A n c], .int .i64 s] w (fun e w' => e = .returned (.bool true) ∧ Below w.heap.size w w') := by
  go_enter Try.func15, Try.ntmps15
  go_wp2_with fail
  generalize hW : World.alloc w _ = V
  obtain ⟨hb, a⟩ := lone_box neg A n c xs w V h hW
  have HB := Lib.hid hb
  clear hW hb h
  generalize hr0 : w.heap.size = r0 at *
  have HR := Lib.hid hr0
  clear hr0
  have ka0 := a.bx.c0
  have ka1 := a.bx.c1
  have la := a.bx.lt
  go_upto_region 2 with fail
  clear ka0 ka1 la
  clear hs
  have ka0 := a.bx.c0
  have ka1 := a.bx.c1
  have la := a.bx.lt
  go_wp2_with fail
  clear ka0 ka1 la
  refine (rvalid_any _ _ _ _ _ xs _ a.sl (Nat.le_refl _)).mono ?_
  rintro e w1 ⟨rfl, hbn⟩
  replace a := a.on hbn
  replace HB := Lib.hid (show Below r0 w w1 from below_chain HB.out (by have := HR.out; have := HB.out.size; omega) hbn)
  clear hbn
  rw [hv]
  have ka0 := a.bx.c0
  have ka1 := a.bx.c1
  have la := a.bx.lt
  go_wp2_with fail
  clear ka0 ka1 la
  have C := shift_ov (neg := neg) a.sl (k : Int) (by omega) (by omega)
  rw [Oa.out, Z1.out, E1.out] at C
  refine C.mono ?_
  clear C
  rintro e w2 ⟨A2, n2, c2, xs2, rfl, hs2, hx2, hv2, hbn⟩
  replace a := a.on hbn
  replace HB := Lib.hid (show Below r0 w w2 from below_chain HB.out (by have := HR.out; have := HB.out.size; omega) hbn)
  clear hbn
  have F2 := Lib.hid (And.intro hx2 hv2)
  clear hx2 hv2
  go_wp2_with fail
  generalize hW : World.alloc w2 _ = V2
  have x : Ba V2 w2.heap.size (decide (z1 < 0)) A2 n2 c2 xs2 := by rw [← hW]; exact ⟨Bx.new _ _ _ _ _, hs2.on (below_new _ _)⟩
  replace a : Ba V2 (r0) (neg) A n c xs := by rw [← hW]; exact a.on (below_new _ _)
  replace HB := Lib.hid (show Below r0 w V2 by rw [← hW]; exact HB.out.alloc (by have := HR.out; have := HB.out.size; omega) _)
  clear hW hs2
  generalize w2.heap.size = r2 at *
  have C := shift_ov (neg := decide (z1 < 0)) x.sl (-(k : Int)) (by omega) (by omega)
  rw [ov_res x.sl.ok F2.out.1 F2.out.2 B1.out, Z2.out, E2.out] at C
  refine C.mono ?_
  clear C
  rintro e w3 ⟨A3, n3, c3, xs3, rfl, hs3, hx3, hv3, hbn⟩
  replace a := a.on hbn
  replace x := x.on hbn
  replace HB := Lib.hid (show Below r0 w w3 from below_chain HB.out (by have := HR.out; have := HB.out.size; omega) hbn)
  clear hbn
  have F3 := Lib.hid (And.intro hx3 hv3)
  clear hx3 hv3
  go_wp2_with fail
  generalize hW : World.alloc w3 _ = V3
  have y : Ba V3 w3.heap.size (decide (z2 < 0)) A3 n3 c3 xs3 := by rw [← hW]; exact ⟨Bx.new _ _ _ _ _, hs3.on (below_new _ _)⟩
  replace a : Ba V3 (r0) (neg) A n c xs := by rw [← hW]; exact a.on (below_new _ _)
  replace x : Ba V3 (r2) (decide (z1 < 0)) A2 n2 c2 xs2 := by rw [← hW]; exact x.on (below_new _ _)
  replace HB := Lib.hid (show Below r0 w V3 by rw [← hW]; exact HB.out.alloc (by have := HR.out; have := HB.out.size; omega) _)
  clear hW hs3
  generalize w3.heap.size = r3 at *
  refine (works_any _).mono ?_
  rintro e w4 ⟨rfl, hbn⟩
  replace a := a.on hbn
  replace x := x.on hbn
  replace y := y.on hbn
  replace HB := Lib.hid (show Below r0 w w4 from below_chain HB.out (by have := HR.out; have := HB.out.size; omega) hbn)
  clear hbn
  have ky0 := y.bx.c0
  have ky1 := y.bx.c1
  have ka0 := a.bx.c0
  have ka1 := a.bx.c1
  have ly := y.bx.lt
  have la := a.bx.lt
  go_wp2_with fail
  clear ky0 ky1 ly ka0 ka1 la
  refine (lsame_yes _ _ _ _ _ _ _ _ _ _ _ y.sl a.sl (by rw [Q.out]; exact ov_sign Oa.out) (uniq y.sl.ok a.sl.ok F3.out.1 (ov_parts Oa.out).1 (by rw [F3.out.2, Q.out, (ov_parts Oa.out).2.1]))).mono ?_
  rintro e w5 ⟨rfl, hbn⟩
  replace a := a.on hbn
  replace x := x.on hbn
  replace y := y.on hbn
  replace HB := Lib.hid (show Below r0 w w5 from below_chain HB.out (by have := HR.out; have := HB.out.size; omega) hbn)
  clear hbn
  go_wp2_with fail
  have C := KO.out w5
  refine C.mono ?_
  clear C
  rintro e w6 ⟨A6, n6, c6, xs6, rfl, hs6, hx6, hv6, hbn⟩
  replace a := a.on hbn
  replace x := x.on hbn
  replace y := y.on hbn
  replace HB := Lib.hid (show Below r0 w w6 from below_chain HB.out (by have := HR.out; have := HB.out.size; omega) hbn)
  clear hbn
  have F6 := Lib.hid (And.intro hx6 hv6)
  clear hx6 hv6
  go_wp2_with fail
  have C := shift_ov (neg := decide (o < 0)) hs6 (k : Int) (by omega) (by omega)
  rw [ov_res hs6.ok F6.out.1 F6.out.2 BO.out, Z3.out, E3.out] at C
  refine C.mono ?_
  clear C
  rintro e w7 ⟨A7, n7, c7, xs7, rfl, hs7, hx7, hv7, hbn⟩
  replace a := a.on hbn
  replace x := x.on hbn
  replace y := y.on hbn
  replace HB := Lib.hid (show Below r0 w w7 from below_chain HB.out (by have := HR.out; have := HB.out.size; omega) hbn)
  clear hbn
  have F7 := Lib.hid (And.intro hx7 hv7)
  clear hx7 hv7
  clear hs6
  have ka0 := a.bx.c0
  have ka1 := a.bx.c1
  have la := a.bx.lt
  go_wp2_with fail
  clear ka0 ka1 la
  generalize hW : World.alloc w7 _ = V7
  have p : Ba V7 w7.heap.size (decide (z3 < 0)) A7 n7 c7 xs7 := by rw [← hW]; exact ⟨Bx.new _ _ _ _ _, hs7.on (below_new _ _)⟩
  replace a : Ba V7 (r0) (neg) A n c xs := by rw [← hW]; exact a.on (below_new _ _)
  replace x : Ba V7 (r2) (decide (z1 < 0)) A2 n2 c2 xs2 := by rw [← hW]; exact x.on (below_new _ _)
  replace y : Ba V7 (r3) (decide (z2 < 0)) A3 n3 c3 xs3 := by rw [← hW]; exact y.on (below_new _ _)
  replace HB := Lib.hid (show Below r0 w V7 by rw [← hW]; exact HB.out.alloc (by have := HR.out; have := HB.out.size; omega) _)
  clear hW hs7
  generalize w7.heap.size = r7 at *
  have C := divMod_ov (neg := neg) (neg' := decide (z3 < 0)) a.sl p.sl
  rw [Oa.out, ov_res p.sl.ok F7.out.1 F7.out.2 B3.out, ZQ.out, ZR.out, ER.out] at C
  refine C.mono ?_
  clear C
  rintro e w8 ⟨A8, n8, c8, xs8, A8b, n8b, c8b, xs8b, rfl, hs8, hx8, hv8, hs8b, hx8b, hv8b, hbn⟩
  replace a := a.on hbn
  replace x := x.on hbn
  replace y := y.on hbn
  replace p := p.on hbn
  replace HB := Lib.hid (show Below r0 w w8 from below_chain HB.out (by have := HR.out; have := HB.out.size; omega) hbn)
  clear hbn
  have F8 := Lib.hid (And.intro hx8 hv8)
  have F8b := Lib.hid (And.intro hx8b hv8b)
  clear hx8 hv8 hx8b hv8b
  have ka0 := a.bx.c0
  have ka1 := a.bx.c1
  have la := a.bx.lt
  go_wp2_with fail
  clear ka0 ka1 la
  generalize hW : World.alloc (World.alloc w8 _) _ = V8
  obtain ⟨hb2, q, r⟩ := two_boxes (decide (zq < 0)) (decide (zr < 0)) A8 A8b n8 c8 n8b c8b xs8 xs8b w8 V8 hs8 hs8b hW
  replace a := a.on hb2
  replace x := x.on hb2
  replace y := y.on hb2
  replace p := p.on hb2
  replace HB := Lib.hid (show Below r0 w V8 from below_chain HB.out (by have := HR.out; have := HB.out.size; omega) hb2)
  clear hW hs8 hs8b hb2
  generalize w8.heap.size = r8 at *
  have C := shift_ov (neg := neg) a.sl (-(k : Int)) (by omega) (by omega)
  rw [Oa.out, Z4.out, E4.out] at C
  refine C.mono ?_
  clear C
  rintro e w9 ⟨A9, n9, c9, xs9, rfl, hs9, hx9, hv9, hbn⟩
  replace a := a.on hbn
  replace x := x.on hbn
  replace y := y.on hbn
  replace p := p.on hbn
  replace q := q.on hbn
  replace r := r.on hbn
  replace HB := Lib.hid (show Below r0 w w9 from below_chain HB.out (by have := HR.out; have := HB.out.size; omega) hbn)
  clear hbn
  have F9 := Lib.hid (And.intro hx9 hv9)
  clear hx9 hv9
  have kq0 := q.bx.c0
  have kq1 := q.bx.c1
  have lq := q.bx.lt
  go_wp2_with fail
  clear kq0 kq1 lq
  generalize hW : World.alloc w9 _ = V9
  have z : Ba V9 w9.heap.size (decide (zq < 0)) A9 n9 c9 xs9 := by rw [← hW]; exact ⟨Bx.new _ _ _ _ _, hs9.on (below_new _ _)⟩
  replace a : Ba V9 (r0) (neg) A n c xs := by rw [← hW]; exact a.on (below_new _ _)
  replace x : Ba V9 (r2) (decide (z1 < 0)) A2 n2 c2 xs2 := by rw [← hW]; exact x.on (below_new _ _)
  replace y : Ba V9 (r3) (decide (z2 < 0)) A3 n3 c3 xs3 := by rw [← hW]; exact y.on (below_new _ _)
  replace p : Ba V9 (r7) (decide (z3 < 0)) A7 n7 c7 xs7 := by rw [← hW]; exact p.on (below_new _ _)
  replace q : Ba V9 (r8) (decide (zq < 0)) A8 n8 c8 xs8 := by rw [← hW]; exact q.on (below_new _ _)
  replace r : Ba V9 (r8 + 1) (decide (zr < 0)) A8b n8b c8b xs8b := by rw [← hW]; exact r.on (below_new _ _)
  replace HB := Lib.hid (show Below r0 w V9 by rw [← hW]; exact HB.out.alloc (by have := HR.out; have := HB.out.size; omega) _)
  clear hW hs9
  generalize w9.heap.size = r9 at *
  refine (lsame_yes _ _ _ _ _ _ _ _ _ _ _ q.sl z.sl rfl (uniq q.sl.ok z.sl.ok F8.out.1 F9.out.1 (F8.out.2.trans F9.out.2.symm))).mono ?_
  rintro e w10 ⟨rfl, hbn⟩
  replace a := a.on hbn
  replace x := x.on hbn
  replace y := y.on hbn
  replace p := p.on hbn
  replace q := q.on hbn
  replace r := r.on hbn
  replace z := z.on hbn
  replace HB := Lib.hid (show Below r0 w w10 from below_chain HB.out (by have := HR.out; have := HB.out.size; omega) hbn)
  clear hbn
  go_wp2
  go_ret
  exact ⟨rfl, HR.out ▸ HB.out⟩


end Go.Proofs.Ytalgcppogjpilaa
