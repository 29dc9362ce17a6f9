/-
  The walks of IntegerReads.
-/
import Derived.Test.YtalgcppogjpilaaTextQ
import Derived.Test.YtalgcppogjpilaaLawSums
namespace Go.Proofs.Ytalgcppogjpilaa
open Go.RowKit

theorem box_one (neg : Bool) (A : Option Addr) (n c : Nat) (xs : List Nat) (w W : World) (h : Sl w w.heap.size A n c xs) (hW : w.alloc (.cells #[.bool neg, .slice A n c] 24) = W) :
    Below w.heap.size w W ∧ Ba W w.heap.size neg A n c xs := by
  subst hW
  exact ⟨below_new _ _, Bx.new _ _ _ _ _, h.on (below_new _ _)⟩
theorem ov_pts {neg : Bool} {xs : List Nat} {a : Int} (h : ov neg xs = some a) : Nz xs ∧ val xs = a.natAbs := by
  rcases hv : vld neg xs with _ | _
  · rw [ov_none hv] at h; cases h
  · rw [ov_some hv] at h
    injection h with h
    exact ⟨(vld_true hv).2.1, by rw [← h, sg_abs]⟩
theorem ov_sgn {neg : Bool} {xs : List Nat} {a : Int} (h : ov neg xs = some a) : decide (a < 0) = neg := by
  rcases hv : vld neg xs with _ | _
  · rw [ov_none hv] at h; cases h
  · rw [ov_some hv] at h
    injection h with h
    rw [← h]; exact sg_sign hv

set_option maxRecDepth 20000 in
set_option maxHeartbeats 4000000 in
theorem reads_bad_no (neg : Bool) (A : Option Addr) (n c : Nat) (xs : List Nat) (w : World) (h : Sl w w.heap.size A n c xs) (s tB : ByteArray) (te z f z2 g : Int) (hv : vld neg xs = false)
    (C1 : Hid (∀ w : World, Sl w w.heap.size A n c xs → Calls Try.prog 44 #[.agg #[.bool neg, .slice A n c]] w fun e w' => e = .returned (.tuple #[.string tB, .int .i64 te]) ∧ Below w.heap.size w w'))
    (C2 : Hid (∀ w : World, Calls Try.prog 46 #[.string tB] w (RetIE z f w))) (C3 : Hid (∀ w : World, Calls Try.prog 46 #[.string s] w (RetIE z2 g w)))
    (g0 : (g != 0) = true) :
    Calls Try.prog 16 #[.agg #[.bool neg, .slice A n c], .string s] w (fun e w' => e = .returned (.bool true) ∧ Below w.heap.size w w') := by
  go_enter Try.func16, Try.ntmps16
  go_wp2_with fail
  generalize hW : World.alloc w _ = V
  obtain ⟨hb, a⟩ := box_one neg A n c xs w V h hW
  have HB := Lib.hid hb
  clear hW hb h
  generalize hr0 : w.heap.size = r0 at *
  have HR := Lib.hid hr0
  clear hr0
  have ka0 := a.bx.c0
  have ka1 := a.bx.c1
  have la := a.bx.lt
  go_wp2_with fail
  clear ka0 ka1 la
  refine (C1.out _ a.sl).mono ?_
  rintro e w1 ⟨rfl, hbn⟩
  replace a := a.on hbn
  replace HB := Lib.hid (show Below r0 w w1 from below_chain HB.out (by have := HR.out; have := HB.out.size; omega) hbn)
  clear hbn
  have ka0 := a.bx.c0
  have ka1 := a.bx.c1
  have la := a.bx.lt
  go_wp2_with fail
  clear ka0 ka1 la
  refine (C2.out _).mono ?_
  rintro e w2 ⟨A2, n2, c2, xs2, rfl, hs2, hx2, hv2, hbn⟩
  replace a := a.on hbn
  replace HB := Lib.hid (show Below r0 w w2 from below_chain HB.out (by have := HR.out; have := HB.out.size; omega) hbn)
  clear hbn
  have F2 := Lib.hid (And.intro hx2 hv2)
  clear hx2 hv2
  have ka0 := a.bx.c0
  have ka1 := a.bx.c1
  have la := a.bx.lt
  go_wp2_with fail
  clear ka0 ka1 la
  generalize hW : World.alloc w2 _ = V2
  have x : Ba V2 w2.heap.size (decide (z < 0)) A2 n2 c2 xs2 := by rw [← hW]; exact ⟨Bx.new _ _ _ _ _, hs2.on (below_new _ _)⟩
  replace a : Ba V2 (r0) (neg) A n c xs := by rw [← hW]; exact a.on (below_new _ _)
  replace HB := Lib.hid (show Below r0 w V2 by rw [← hW]; exact HB.out.alloc (by have := HR.out; have := HB.out.size; omega) _)
  clear hW hs2
  generalize w2.heap.size = r2 at *
  refine (works_any _).mono ?_
  rintro e w3 ⟨rfl, hbn⟩
  replace a := a.on hbn
  replace x := x.on hbn
  replace HB := Lib.hid (show Below r0 w w3 from below_chain HB.out (by have := HR.out; have := HB.out.size; omega) hbn)
  clear hbn
  have ka0 := a.bx.c0
  have ka1 := a.bx.c1
  have la := a.bx.lt
  go_wp2_with fail
  clear ka0 ka1 la
  refine (rvalid_any _ _ _ _ _ xs _ a.sl (Nat.le_refl _)).mono ?_
  rintro e w4 ⟨rfl, hbn⟩
  replace a := a.on hbn
  replace x := x.on hbn
  replace HB := Lib.hid (show Below r0 w w4 from below_chain HB.out (by have := HR.out; have := HB.out.size; omega) hbn)
  clear hbn
  rw [hv]
  go_wp2_with fail
  refine (C3.out _).mono ?_
  rintro e w5 ⟨A5, n5, c5, xs5, rfl, hs5, hx5, hv5, hbn⟩
  replace a := a.on hbn
  replace x := x.on hbn
  replace HB := Lib.hid (show Below r0 w w5 from below_chain HB.out (by have := HR.out; have := HB.out.size; omega) hbn)
  clear hbn
  have F5 := Lib.hid (And.intro hx5 hv5)
  clear hx5 hv5
  go_wp2
  go_ret
  exact ⟨rfl, HR.out ▸ HB.out.alloc (by have := HR.out; have := HB.out.size; omega) _⟩


set_option maxRecDepth 20000 in
set_option maxHeartbeats 4000000 in
theorem reads_bad_ok (neg : Bool) (A : Option Addr) (n c : Nat) (xs : List Nat) (w : World) (h : Sl w w.heap.size A n c xs) (s tB : ByteArray) (te z f z2 g : Int) (hv : vld neg xs = false)
    (C1 : Hid (∀ w : World, Sl w w.heap.size A n c xs → Calls Try.prog 44 #[.agg #[.bool neg, .slice A n c]] w fun e w' => e = .returned (.tuple #[.string tB, .int .i64 te]) ∧ Below w.heap.size w w'))
    (C2 : Hid (∀ w : World, Calls Try.prog 46 #[.string tB] w (RetIE z f w))) (C3 : Hid (∀ w : World, Calls Try.prog 46 #[.string s] w (RetIE z2 g w)))
    (g0 : g = 0) (C4 : Hid (∀ (w : World) (A : Option Addr) (n c : Nat) (ys : List Nat), Sl w w.heap.size A n c ys → Nz ys → val ys = z2.natAbs → Calls Try.prog 44 #[.agg #[.bool (decide (z2 < 0)), .slice A n c]] w fun e w' => e = .returned (.tuple #[.string s, .int .i64 0]) ∧ Below w.heap.size w w')) :
    Calls Try.prog 16 #[.agg #[.bool neg, .slice A n c], .string s] w (fun e w' => e = .returned (.bool true) ∧ Below w.heap.size w w') := by
  subst g0
  go_enter Try.func16, Try.ntmps16
  go_wp2_with fail
  generalize hW : World.alloc w _ = V
  obtain ⟨hb, a⟩ := box_one neg A n c xs w V h hW
  have HB := Lib.hid hb
  clear hW hb h
  generalize hr0 : w.heap.size = r0 at *
  have HR := Lib.hid hr0
  clear hr0
  have ka0 := a.bx.c0
  have ka1 := a.bx.c1
  have la := a.bx.lt
  go_wp2_with fail
  clear ka0 ka1 la
  refine (C1.out _ a.sl).mono ?_
  rintro e w1 ⟨rfl, hbn⟩
  replace a := a.on hbn
  replace HB := Lib.hid (show Below r0 w w1 from below_chain HB.out (by have := HR.out; have := HB.out.size; omega) hbn)
  clear hbn
  have ka0 := a.bx.c0
  have ka1 := a.bx.c1
  have la := a.bx.lt
  go_wp2_with fail
  clear ka0 ka1 la
  refine (C2.out _).mono ?_
  rintro e w2 ⟨A2, n2, c2, xs2, rfl, hs2, hx2, hv2, hbn⟩
  replace a := a.on hbn
  replace HB := Lib.hid (show Below r0 w w2 from below_chain HB.out (by have := HR.out; have := HB.out.size; omega) hbn)
  clear hbn
  have F2 := Lib.hid (And.intro hx2 hv2)
  clear hx2 hv2
  have ka0 := a.bx.c0
  have ka1 := a.bx.c1
  have la := a.bx.lt
  go_wp2_with fail
  clear ka0 ka1 la
  generalize hW : World.alloc w2 _ = V2
  have x : Ba V2 w2.heap.size (decide (z < 0)) A2 n2 c2 xs2 := by rw [← hW]; exact ⟨Bx.new _ _ _ _ _, hs2.on (below_new _ _)⟩
  replace a : Ba V2 (r0) (neg) A n c xs := by rw [← hW]; exact a.on (below_new _ _)
  replace HB := Lib.hid (show Below r0 w V2 by rw [← hW]; exact HB.out.alloc (by have := HR.out; have := HB.out.size; omega) _)
  clear hW hs2
  generalize w2.heap.size = r2 at *
  refine (works_any _).mono ?_
  rintro e w3 ⟨rfl, hbn⟩
  replace a := a.on hbn
  replace x := x.on hbn
  replace HB := Lib.hid (show Below r0 w w3 from below_chain HB.out (by have := HR.out; have := HB.out.size; omega) hbn)
  clear hbn
  have ka0 := a.bx.c0
  have ka1 := a.bx.c1
  have la := a.bx.lt
  go_wp2_with fail
  clear ka0 ka1 la
  refine (rvalid_any _ _ _ _ _ xs _ a.sl (Nat.le_refl _)).mono ?_
  rintro e w4 ⟨rfl, hbn⟩
  replace a := a.on hbn
  replace x := x.on hbn
  replace HB := Lib.hid (show Below r0 w w4 from below_chain HB.out (by have := HR.out; have := HB.out.size; omega) hbn)
  clear hbn
  rw [hv]
  go_wp2_with fail
  refine (C3.out _).mono ?_
  rintro e w5 ⟨A5, n5, c5, xs5, rfl, hs5, hx5, hv5, hbn⟩
  replace a := a.on hbn
  replace x := x.on hbn
  replace HB := Lib.hid (show Below r0 w w5 from below_chain HB.out (by have := HR.out; have := HB.out.size; omega) hbn)
  clear hbn
  have F5 := Lib.hid (And.intro hx5 hv5)
  clear hx5 hv5
  go_wp2_with fail
  generalize hW : World.alloc w5 _ = V5
  have y : Ba V5 w5.heap.size (decide (z2 < 0)) A5 n5 c5 xs5 := by rw [← hW]; exact ⟨Bx.new _ _ _ _ _, hs5.on (below_new _ _)⟩
  replace a : Ba V5 (r0) (neg) A n c xs := by rw [← hW]; exact a.on (below_new _ _)
  replace x : Ba V5 (r2) (decide (z < 0)) A2 n2 c2 xs2 := by rw [← hW]; exact x.on (below_new _ _)
  replace HB := Lib.hid (show Below r0 w V5 by rw [← hW]; exact HB.out.alloc (by have := HR.out; have := HB.out.size; omega) _)
  clear hW hs5
  generalize w5.heap.size = r5 at *
  refine (C4.out _ _ _ _ _ y.sl F5.out.1 F5.out.2).mono ?_
  rintro e w6 ⟨rfl, hbn⟩
  replace a := a.on hbn
  replace x := x.on hbn
  replace y := y.on hbn
  replace HB := Lib.hid (show Below r0 w w6 from below_chain HB.out (by have := HR.out; have := HB.out.size; omega) hbn)
  clear hbn
  go_wp2
  go_ret
  exact ⟨rfl, HR.out ▸ HB.out⟩


set_option maxRecDepth 20000 in
set_option maxHeartbeats 4000000 in
theorem reads_good_no (neg : Bool) (A : Option Addr) (n c : Nat) (xs : List Nat) (w : World) (h : Sl w w.heap.size A n c xs) (s tB : ByteArray) (te z f z2 g : Int) (hv : vld neg xs = true)
    (C1 : Hid (∀ w : World, Sl w w.heap.size A n c xs → Calls Try.prog 44 #[.agg #[.bool neg, .slice A n c]] w fun e w' => e = .returned (.tuple #[.string tB, .int .i64 te]) ∧ Below w.heap.size w w'))
    (C2 : Hid (∀ w : World, Calls Try.prog 46 #[.string tB] w (RetIE z f w))) (C3 : Hid (∀ w : World, Calls Try.prog 46 #[.string s] w (RetIE z2 g w)))
    (te0 : te = 0) (f0 : f = 0) (Oa : Hid (ov neg xs = some z))
    (g0 : (g != 0) = true) :
    Calls Try.prog 16 #[.agg #[.bool neg, .slice A n c], .string s] w (fun e w' => e = .returned (.bool true) ∧ Below w.heap.size w w') := by
  subst te0
  subst f0
  go_enter Try.func16, Try.ntmps16
  go_wp2_with fail
  generalize hW : World.alloc w _ = V
  obtain ⟨hb, a⟩ := box_one neg A n c xs w V h hW
  have HB := Lib.hid hb
  clear hW hb h
  generalize hr0 : w.heap.size = r0 at *
  have HR := Lib.hid hr0
  clear hr0
  have ka0 := a.bx.c0
  have ka1 := a.bx.c1
  have la := a.bx.lt
  go_wp2_with fail
  clear ka0 ka1 la
  refine (C1.out _ a.sl).mono ?_
  rintro e w1 ⟨rfl, hbn⟩
  replace a := a.on hbn
  replace HB := Lib.hid (show Below r0 w w1 from below_chain HB.out (by have := HR.out; have := HB.out.size; omega) hbn)
  clear hbn
  have ka0 := a.bx.c0
  have ka1 := a.bx.c1
  have la := a.bx.lt
  go_wp2_with fail
  clear ka0 ka1 la
  refine (C2.out _).mono ?_
  rintro e w2 ⟨A2, n2, c2, xs2, rfl, hs2, hx2, hv2, hbn⟩
  replace a := a.on hbn
  replace HB := Lib.hid (show Below r0 w w2 from below_chain HB.out (by have := HR.out; have := HB.out.size; omega) hbn)
  clear hbn
  have F2 := Lib.hid (And.intro hx2 hv2)
  clear hx2 hv2
  have ka0 := a.bx.c0
  have ka1 := a.bx.c1
  have la := a.bx.lt
  go_wp2_with fail
  clear ka0 ka1 la
  generalize hW : World.alloc w2 _ = V2
  have x : Ba V2 w2.heap.size (decide (z < 0)) A2 n2 c2 xs2 := by rw [← hW]; exact ⟨Bx.new _ _ _ _ _, hs2.on (below_new _ _)⟩
  replace a : Ba V2 (r0) (neg) A n c xs := by rw [← hW]; exact a.on (below_new _ _)
  replace HB := Lib.hid (show Below r0 w V2 by rw [← hW]; exact HB.out.alloc (by have := HR.out; have := HB.out.size; omega) _)
  clear hW hs2
  generalize w2.heap.size = r2 at *
  refine (works_any _).mono ?_
  rintro e w3 ⟨rfl, hbn⟩
  replace a := a.on hbn
  replace x := x.on hbn
  replace HB := Lib.hid (show Below r0 w w3 from below_chain HB.out (by have := HR.out; have := HB.out.size; omega) hbn)
  clear hbn
  have ka0 := a.bx.c0
  have ka1 := a.bx.c1
  have la := a.bx.lt
  go_wp2_with fail
  clear ka0 ka1 la
  refine (rvalid_any _ _ _ _ _ xs _ a.sl (Nat.le_refl _)).mono ?_
  rintro e w4 ⟨rfl, hbn⟩
  replace a := a.on hbn
  replace x := x.on hbn
  replace HB := Lib.hid (show Below r0 w w4 from below_chain HB.out (by have := HR.out; have := HB.out.size; omega) hbn)
  clear hbn
  rw [hv]
  have kx0 := x.bx.c0
  have kx1 := x.bx.c1
  have ka0 := a.bx.c0
  have ka1 := a.bx.c1
  have lx := x.bx.lt
  have la := a.bx.lt
  go_wp2_with fail
  clear kx0 kx1 lx ka0 ka1 la
  refine (lsame_yes _ _ _ _ _ _ _ _ _ _ _ x.sl a.sl (ov_sgn Oa.out) (uniq x.sl.ok a.sl.ok F2.out.1 (ov_pts Oa.out).1 (by rw [F2.out.2, (ov_pts Oa.out).2]))).mono ?_
  rintro e w5 ⟨rfl, hbn⟩
  replace a := a.on hbn
  replace x := x.on hbn
  replace HB := Lib.hid (show Below r0 w w5 from below_chain HB.out (by have := HR.out; have := HB.out.size; omega) hbn)
  clear hbn
  go_wp2_with fail
  refine (C3.out _).mono ?_
  rintro e w6 ⟨A6, n6, c6, xs6, rfl, hs6, hx6, hv6, hbn⟩
  replace a := a.on hbn
  replace x := x.on hbn
  replace HB := Lib.hid (show Below r0 w w6 from below_chain HB.out (by have := HR.out; have := HB.out.size; omega) hbn)
  clear hbn
  have F6 := Lib.hid (And.intro hx6 hv6)
  clear hx6 hv6
  go_wp2
  go_ret
  exact ⟨rfl, HR.out ▸ HB.out.alloc (by have := HR.out; have := HB.out.size; omega) _⟩


set_option maxRecDepth 20000 in
set_option maxHeartbeats 4000000 in
theorem reads_good_ok (neg : Bool) (A : Option Addr) (n c : Nat) (xs : List Nat) (w : World) (h : Sl w w.heap.size A n c xs) (s tB : ByteArray) (te z f z2 g : Int) (hv : vld neg xs = true)
    (C1 : Hid (∀ w : World, Sl w w.heap.size A n c xs → Calls Try.prog 44 #[.agg #[.bool neg, .slice A n c]] w fun e w' => e = .returned (.tuple #[.string tB, .int .i64 te]) ∧ Below w.heap.size w w'))
    (C2 : Hid (∀ w : World, Calls Try.prog 46 #[.string tB] w (RetIE z f w))) (C3 : Hid (∀ w : World, Calls Try.prog 46 #[.string s] w (RetIE z2 g w)))
    (te0 : te = 0) (f0 : f = 0) (Oa : Hid (ov neg xs = some z))
    (g0 : g = 0) (C4 : Hid (∀ (w : World) (A : Option Addr) (n c : Nat) (ys : List Nat), Sl w w.heap.size A n c ys → Nz ys → val ys = z2.natAbs → Calls Try.prog 44 #[.agg #[.bool (decide (z2 < 0)), .slice A n c]] w fun e w' => e = .returned (.tuple #[.string s, .int .i64 0]) ∧ Below w.heap.size w w')) :
    Calls Try.prog 16 #[.agg #[.bool neg, .slice A n c], .string s] w (fun e w' => e = .returned (.bool true) ∧ Below w.heap.size w w') := by
  subst te0
  subst f0
  subst g0
  go_enter Try.func16, Try.ntmps16
  go_wp2_with fail
  generalize hW : World.alloc w _ = V
  obtain ⟨hb, a⟩ := box_one neg A n c xs w V h hW
  have HB := Lib.hid hb
  clear hW hb h
  generalize hr0 : w.heap.size = r0 at *
  have HR := Lib.hid hr0
  clear hr0
  have ka0 := a.bx.c0
  have ka1 := a.bx.c1
  have la := a.bx.lt
  go_wp2_with fail
  clear ka0 ka1 la
  refine (C1.out _ a.sl).mono ?_
  rintro e w1 ⟨rfl, hbn⟩
  replace a := a.on hbn
  replace HB := Lib.hid (show Below r0 w w1 from below_chain HB.out (by have := HR.out; have := HB.out.size; omega) hbn)
  clear hbn
  have ka0 := a.bx.c0
  have ka1 := a.bx.c1
  have la := a.bx.lt
  go_wp2_with fail
  clear ka0 ka1 la
  refine (C2.out _).mono ?_
  rintro e w2 ⟨A2, n2, c2, xs2, rfl, hs2, hx2, hv2, hbn⟩
  replace a := a.on hbn
  replace HB := Lib.hid (show Below r0 w w2 from below_chain HB.out (by have := HR.out; have := HB.out.size; omega) hbn)
  clear hbn
  have F2 := Lib.hid (And.intro hx2 hv2)
  clear hx2 hv2
  have ka0 := a.bx.c0
  have ka1 := a.bx.c1
  have la := a.bx.lt
  go_wp2_with fail
  clear ka0 ka1 la
  generalize hW : World.alloc w2 _ = V2
  have x : Ba V2 w2.heap.size (decide (z < 0)) A2 n2 c2 xs2 := by rw [← hW]; exact ⟨Bx.new _ _ _ _ _, hs2.on (below_new _ _)⟩
  replace a : Ba V2 (r0) (neg) A n c xs := by rw [← hW]; exact a.on (below_new _ _)
  replace HB := Lib.hid (show Below r0 w V2 by rw [← hW]; exact HB.out.alloc (by have := HR.out; have := HB.out.size; omega) _)
  clear hW hs2
  generalize w2.heap.size = r2 at *
  refine (works_any _).mono ?_
  rintro e w3 ⟨rfl, hbn⟩
  replace a := a.on hbn
  replace x := x.on hbn
  replace HB := Lib.hid (show Below r0 w w3 from below_chain HB.out (by have := HR.out; have := HB.out.size; omega) hbn)
  clear hbn
  have ka0 := a.bx.c0
  have ka1 := a.bx.c1
  have la := a.bx.lt
  go_wp2_with fail
  clear ka0 ka1 la
  refine (rvalid_any _ _ _ _ _ xs _ a.sl (Nat.le_refl _)).mono ?_
  rintro e w4 ⟨rfl, hbn⟩
  replace a := a.on hbn
  replace x := x.on hbn
  replace HB := Lib.hid (show Below r0 w w4 from below_chain HB.out (by have := HR.out; have := HB.out.size; omega) hbn)
  clear hbn
  rw [hv]
  have kx0 := x.bx.c0
  have kx1 := x.bx.c1
  have ka0 := a.bx.c0
  have ka1 := a.bx.c1
  have lx := x.bx.lt
  have la := a.bx.lt
  go_wp2_with fail
  clear kx0 kx1 lx ka0 ka1 la
  refine (lsame_yes _ _ _ _ _ _ _ _ _ _ _ x.sl a.sl (ov_sgn Oa.out) (uniq x.sl.ok a.sl.ok F2.out.1 (ov_pts Oa.out).1 (by rw [F2.out.2, (ov_pts Oa.out).2]))).mono ?_
  rintro e w5 ⟨rfl, hbn⟩
  replace a := a.on hbn
  replace x := x.on hbn
  replace HB := Lib.hid (show Below r0 w w5 from below_chain HB.out (by have := HR.out; have := HB.out.size; omega) hbn)
  clear hbn
  go_wp2_with fail
  refine (C3.out _).mono ?_
  rintro e w6 ⟨A6, n6, c6, xs6, rfl, hs6, hx6, hv6, hbn⟩
  replace a := a.on hbn
  replace x := x.on hbn
  replace HB := Lib.hid (show Below r0 w w6 from below_chain HB.out (by have := HR.out; have := HB.out.size; omega) hbn)
  clear hbn
  have F6 := Lib.hid (And.intro hx6 hv6)
  clear hx6 hv6
  go_wp2_with fail
  generalize hW : World.alloc w6 _ = V6
  have y : Ba V6 w6.heap.size (decide (z2 < 0)) A6 n6 c6 xs6 := by rw [← hW]; exact ⟨Bx.new _ _ _ _ _, hs6.on (below_new _ _)⟩
  replace a : Ba V6 (r0) (neg) A n c xs := by rw [← hW]; exact a.on (below_new _ _)
  replace x : Ba V6 (r2) (decide (z < 0)) A2 n2 c2 xs2 := by rw [← hW]; exact x.on (below_new _ _)
  replace HB := Lib.hid (show Below r0 w V6 by rw [← hW]; exact HB.out.alloc (by have := HR.out; have := HB.out.size; omega) _)
  clear hW hs6
  generalize w6.heap.size = r6 at *
  refine (C4.out _ _ _ _ _ y.sl F6.out.1 F6.out.2).mono ?_
  rintro e w7 ⟨rfl, hbn⟩
  replace a := a.on hbn
  replace x := x.on hbn
  replace y := y.on hbn
  replace HB := Lib.hid (show Below r0 w w7 from below_chain HB.out (by have := HR.out; have := HB.out.size; omega) hbn)
  clear hbn
  go_wp2
  go_ret
  exact ⟨rfl, HR.out ▸ HB.out⟩


theorem integerReads_any (neg : Bool) (A : Option Addr) (n c : Nat) (xs : List Nat) (s : ByteArray) (w : World) (h : Sl w w.heap.size A n c xs) (hs : s.size ≤ 140737488351232) :
    Calls Try.prog 16 #[.agg #[.bool neg, .slice A n c], .string s] w fun e w' => e = .returned (.bool true) ∧ Below w.heap.size w w' := by
  have C3 : ∀ w : World, Calls Try.prog 46 #[.string s] w (RetIE (prZ s.data.toList) (prE s.data.toList) w) := fun w => parse_ov s w hs
  have C4 : ∀ z2, prs s.data.toList = some z2 → z2.natAbs < BIG → ∀ (w : World) (A : Option Addr) (n c : Nat) (ys : List Nat), Sl w w.heap.size A n c ys → Nz ys → val ys = z2.natAbs → Calls Try.prog 44 #[.agg #[.bool (decide (z2 < 0)), .slice A n c]] w fun e w' => e = .returned (.tuple #[.string s, .int .i64 0]) ∧ Below w.heap.size w w' := by
    intro z2 hp hb w A n c ys hs ny hv
    have := text_ov (neg := decide (z2 < 0)) hs
    rw [ov_res hs.ok ny hv hb] at this
    have e : (⟨(txB (some z2)).toArray⟩ : ByteArray) = s := by
      show (⟨(decT z2).toArray⟩ : ByteArray) = s
      rw [decT_prs hp]
    rw [e] at this
    exact this
  have D3 : (prE s.data.toList != 0) = true ∨ ∃ z2, prs s.data.toList = some z2 ∧ z2.natAbs < BIG ∧ prZ s.data.toList = z2 ∧ prE s.data.toList = 0 := by
    unfold prZ prE
    rcases prs s.data.toList with _ | z2
    · left; rfl
    · by_cases hb : z2.natAbs < BIG
      · right; exact ⟨z2, rfl, hb, (fit_yes hb).1, (fit_yes hb).2⟩
      · left
        show (fitE z2 != 0) = true
        rw [(fit_no hb).2]; rfl
  rcases hv : vld neg xs with _ | _
  · have C1 : ∀ w : World, Sl w w.heap.size A n c xs → Calls Try.prog 44 #[.agg #[.bool neg, .slice A n c]] w fun e w' => e = .returned (.tuple #[.string ⟨#[]⟩, .int .i64 1]) ∧ Below w.heap.size w w' := fun w h => text_bad neg A n c xs w h hv
    have C2 : ∀ w : World, Calls Try.prog 46 #[.string ⟨#[]⟩] w (RetIE 0 3 w) := fun w => parse_ov ⟨#[]⟩ w (by decide)
    rcases D3 with d | ⟨z2, hp, hb, e1, e2⟩
    · exact reads_bad_no neg A n c xs w h s _ _ _ _ _ _ hv C1 C2 C3 d
    · rw [e1, e2] at C3
      exact reads_bad_ok neg A n c xs w h s _ _ _ _ _ _ hv C1 C2 C3 rfl (C4 z2 hp hb)
  · have oa := ov_some hv
    generalize hz : sg neg (val xs) = z at oa
    have lz := ov_lt h.ok oa
    have C1 : ∀ w : World, Sl w w.heap.size A n c xs → Calls Try.prog 44 #[.agg #[.bool neg, .slice A n c]] w fun e w' => e = .returned (.tuple #[.string ⟨(decT z).toArray⟩, .int .i64 0]) ∧ Below w.heap.size w w' := fun w h => by
      have := text_ov (neg := neg) h
      rw [oa] at this
      exact this
    have C2 : ∀ w : World, Calls Try.prog 46 #[.string ⟨(decT z).toArray⟩] w (RetIE z 0 w) := fun w => by
      have hl : (decT z).length ≤ 2000 := by
        unfold decT
        split
        · simp
        · have a : (dec z.natAbs).length ≤ 10 * 128 := dec_len (Nat.lt_of_lt_of_le lz (dec_ten 128))
          rw [List.length_append]
          split <;> simp <;> omega
      have := parse_ov ⟨(decT z).toArray⟩ w (by
        show (decT z).toArray.size ≤ _
        rw [List.size_toArray]; omega)
      have e : (⟨(decT z).toArray⟩ : ByteArray).data.toList = decT z := rfl
      rw [e] at this
      unfold prZ prE at this
      rw [prs_decT] at this
      have f := fit_yes lz
      simp only [f.1, f.2] at this
      exact this
    rcases D3 with d | ⟨z2, hp, hb, e1, e2⟩
    · exact reads_good_no neg A n c xs w h s _ _ _ _ _ _ hv C1 C2 C3 rfl rfl oa d
    · rw [e1, e2] at C3
      exact reads_good_ok neg A n c xs w h s _ _ _ _ _ _ hv C1 C2 C3 rfl rfl oa rfl (C4 z2 hp hb)

end Go.Proofs.Ytalgcppogjpilaa
