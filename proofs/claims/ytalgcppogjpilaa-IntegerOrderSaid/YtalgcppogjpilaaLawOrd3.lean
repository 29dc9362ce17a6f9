/-
  IntegerOrder returns true, for three valid integers in given orders (part 3).
-/
import Derived.Test.YtalgcppogjpilaaLawOrder
namespace Go.Proofs.Ytalgcppogjpilaa
open Go.RowKit

set_option maxRecDepth 20000 in
set_option maxHeartbeats 20000000 in
theorem order_walk7 (neg neg' neg'' : Bool) (A A' A'' : Option Addr) (n c n' c' n'' c'' : Nat) (xs ys zs : List Nat) (w : World) (h : Sl w w.heap.size A n c xs) (h' : Sl w w.heap.size A' n' c' ys) (h'' : Sl w w.heap.size A'' n'' c'' zs) (hv : vld neg xs = true) (hv' : vld neg' ys = true) (hv'' : vld neg'' zs = true) (s t vd vp vq o e f g : Int)
    (K1 : Hid (∀ w : World, Sl w w.heap.size A n c xs → Sl w w.heap.size A' n' c' ys → Calls Try.prog 35 #[.agg #[.bool neg, .slice A n c], .agg #[.bool neg', .slice A' n' c']] w (RetC 1 0 w)))
    (K2 : Hid (∀ w : World, Sl w w.heap.size A' n' c' ys → Sl w w.heap.size A'' n'' c'' zs → Calls Try.prog 35 #[.agg #[.bool neg', .slice A' n' c'], .agg #[.bool neg'', .slice A'' n'' c'']] w (RetC (-1) 0 w)))
    (K3 : Hid (∀ w : World, Sl w w.heap.size A n c xs → Sl w w.heap.size A'' n'' c'' zs → Calls Try.prog 35 #[.agg #[.bool neg, .slice A n c], .agg #[.bool neg'', .slice A'' n'' c'']] w (RetC (-1) 0 w)))
    (K4 : Hid (∀ w : World, Sl w w.heap.size A' n' c' ys → Sl w w.heap.size A n c xs → Calls Try.prog 35 #[.agg #[.bool neg', .slice A' n' c'], .agg #[.bool neg, .slice A n c]] w (RetC (-1) 0 w)))
    (K5 : Hid (∀ w : World, Sl w w.heap.size A n c xs → Sl w w.heap.size A' n' c' ys → Calls Try.prog 27 #[.agg #[.bool neg, .slice A n c], .agg #[.bool neg', .slice A' n' c']] w (RetIE vd e w)))
    (K6 : Hid (∀ w : World, Calls Try.prog 18 #[.int .i64 0] w (RetI o w)))
    (K7 : Hid (∀ w : World, Sl w w.heap.size A n c xs → Sl w w.heap.size A'' n'' c'' zs → Calls Try.prog 25 #[.agg #[.bool neg, .slice A n c], .agg #[.bool neg'', .slice A'' n'' c'']] w (RetIE vp f w)))
    (K8 : Hid (∀ w : World, Sl w w.heap.size A' n' c' ys → Sl w w.heap.size A'' n'' c'' zs → Calls Try.prog 25 #[.agg #[.bool neg', .slice A' n' c'], .agg #[.bool neg'', .slice A'' n'' c'']] w (RetIE vq g w)))
    (K9 : Hid (∀ w : World, Sl w w.heap.size A n c xs → Sl w w.heap.size A' n' c' ys → Calls Try.prog 23 #[.agg #[.bool neg, .slice A n c], .agg #[.bool neg', .slice A' n' c']] w fun e w' => e = .returned (.bool false) ∧ Below w.heap.size w w'))
    (Bd_ : Hid (vd.natAbs < BIG))
    (Bo : Hid (o.natAbs < BIG))
    (Bp : Hid (vp.natAbs < BIG))
    (Bq : Hid (vq.natAbs < BIG))
    (Hs : Hid (Int.sign (vd - o) = s))
    (Ht : Hid (Int.sign (vp - vq) = t))
    (He : Hid ((e = 0 ∧ s = 1) ∨ e = 2))
    (Hf : Hid ((f = 0 ∧ g = 0 ∧ t = 1) ∨ (f = 0 ∧ g = 2) ∨ f = 2))
    : Calls Try.prog 17 #[.agg #[.bool neg, .slice A n c], .agg #[.bool neg', .slice A' n' c'], .agg #[.bool neg'', .slice A'' n'' c'']] w fun e w' => e = .returned (.bool true) ∧ Below w.heap.size w w' := by
  go_enter Try.func17, Try.ntmps17
  go_wp2_with fail
  generalize hW : World.alloc (World.alloc (World.alloc w _) _) _ = V0
  obtain ⟨hb, ha, hc, hd⟩ := three_boxes neg neg' neg'' A A' A'' n c n' c' n'' c'' xs ys zs w V0 h h' h'' hW
  have HB := Lib.hid hb
  clear hW hb h h' h''
  generalize hr : w.heap.size = r0 at *
  have HR := Lib.hid hr
  clear hr
  refine (rvalid_any _ _ _ _ _ xs _ ha.sl (Nat.le_refl _)).mono ?_
  rintro e w1 ⟨rfl, hbn⟩
  have ga := ha.on hbn
  have gc := hc.on hbn
  have gd := hd.on hbn
  have HB' := Lib.hid (show Below r0 w w1 from below_chain HB.out (by have := HR.out; have := HB.out.size; omega) hbn)
  clear ha hc hd HB
  have HB := HB'
  clear HB' hbn
  rw [hv]
  have k0 := ga.bx.c0
  have k1 := ga.bx.c1
  have k2 := gc.bx.c0
  have k3 := gc.bx.c1
  have k4 := gd.bx.c0
  have k5 := gd.bx.c1
  go_wp2_with fail
  clear k0 k1 k2 k3 k4 k5
  refine (rvalid_any _ _ _ _ _ ys _ gc.sl (Nat.le_refl _)).mono ?_
  rintro e w2 ⟨rfl, hbn⟩
  have ha := ga.on hbn
  have hc := gc.on hbn
  have hd := gd.on hbn
  have HB' := Lib.hid (show Below r0 w w2 from below_chain HB.out (by have := HR.out; have := HB.out.size; omega) hbn)
  clear ga gc gd HB
  have HB := HB'
  clear HB' hbn
  rw [hv']
  have k0 := ha.bx.c0
  have k1 := ha.bx.c1
  have k2 := hc.bx.c0
  have k3 := hc.bx.c1
  have k4 := hd.bx.c0
  have k5 := hd.bx.c1
  go_wp2_with fail
  clear k0 k1 k2 k3 k4 k5
  refine (rvalid_any _ _ _ _ _ zs _ hd.sl (Nat.le_refl _)).mono ?_
  rintro e w3 ⟨rfl, hbn⟩
  have ga := ha.on hbn
  have gc := hc.on hbn
  have gd := hd.on hbn
  have HB' := Lib.hid (show Below r0 w w3 from below_chain HB.out (by have := HR.out; have := HB.out.size; omega) hbn)
  clear ha hc hd HB
  have HB := HB'
  clear HB' hbn
  rw [hv'']
  have k0 := ga.bx.c0
  have k1 := ga.bx.c1
  have k2 := gc.bx.c0
  have k3 := gc.bx.c1
  have k4 := gd.bx.c0
  have k5 := gd.bx.c1
  go_wp2_with fail
  clear k0 k1 k2 k3 k4 k5
  clear hv hv' hv''
  refine (K1.out _ ga.sl gc.sl).mono ?_
  rintro e w4 ⟨rfl, hbn⟩
  have ha := ga.on hbn
  have hc := gc.on hbn
  have hd := gd.on hbn
  have HB' := Lib.hid (show Below r0 w w4 from below_chain HB.out (by have := HR.out; have := HB.out.size; omega) hbn)
  clear ga gc gd HB
  have HB := HB'
  clear HB' hbn
  have k0 := ha.bx.c0
  have k1 := ha.bx.c1
  have k2 := hc.bx.c0
  have k3 := hc.bx.c1
  have k4 := hd.bx.c0
  have k5 := hd.bx.c1
  go_wp2_with fail
  clear k0 k1 k2 k3 k4 k5
  refine (K2.out _ hc.sl hd.sl).mono ?_
  rintro e w5 ⟨rfl, hbn⟩
  have ga := ha.on hbn
  have gc := hc.on hbn
  have gd := hd.on hbn
  have HB' := Lib.hid (show Below r0 w w5 from below_chain HB.out (by have := HR.out; have := HB.out.size; omega) hbn)
  clear ha hc hd HB
  have HB := HB'
  clear HB' hbn
  have k0 := ga.bx.c0
  have k1 := ga.bx.c1
  have k2 := gc.bx.c0
  have k3 := gc.bx.c1
  have k4 := gd.bx.c0
  have k5 := gd.bx.c1
  go_wp2_with fail
  clear k0 k1 k2 k3 k4 k5
  refine (K3.out _ ga.sl gd.sl).mono ?_
  rintro e w6 ⟨rfl, hbn⟩
  have ha := ga.on hbn
  have hc := gc.on hbn
  have hd := gd.on hbn
  have HB' := Lib.hid (show Below r0 w w6 from below_chain HB.out (by have := HR.out; have := HB.out.size; omega) hbn)
  clear ga gc gd HB
  have HB := HB'
  clear HB' hbn
  have k0 := ha.bx.c0
  have k1 := ha.bx.c1
  have k2 := hc.bx.c0
  have k3 := hc.bx.c1
  have k4 := hd.bx.c0
  have k5 := hd.bx.c1
  go_wp2_with fail
  clear k0 k1 k2 k3 k4 k5
  refine (K4.out _ hc.sl ha.sl).mono ?_
  rintro e w7 ⟨rfl, hbn⟩
  have ga := ha.on hbn
  have gc := hc.on hbn
  have gd := hd.on hbn
  have HB' := Lib.hid (show Below r0 w w7 from below_chain HB.out (by have := HR.out; have := HB.out.size; omega) hbn)
  clear ha hc hd HB
  have HB := HB'
  clear HB' hbn
  have k0 := ga.bx.c0
  have k1 := ga.bx.c1
  have k2 := gc.bx.c0
  have k3 := gc.bx.c1
  have k4 := gd.bx.c0
  have k5 := gd.bx.c1
  go_wp2_with fail
  clear k0 k1 k2 k3 k4 k5
  refine (K5.out _ ga.sl gc.sl).mono ?_
  rintro e w8 ⟨A1, n1, c1, xs1, rfl, hs1, hx1, hv1, hbn⟩
  have ha := ga.on hbn
  have hc := gc.on hbn
  have hd := gd.on hbn
  have HB' := Lib.hid (show Below r0 w w8 from below_chain HB.out (by have := HR.out; have := HB.out.size; omega) hbn)
  have Hv1 := Lib.hid hv1
  clear hv1
  clear ga gc gd HB
  have HB := HB'
  clear HB' hbn
  go_wp2_with fail
  generalize hW : World.alloc w8 _ = V1
  have x1 : Bd V1 w8.heap.size (decide (vd < 0)) A1 n1 c1 xs1 vd.natAbs := by rw [← hW]; exact Bd.new hs1 hx1 Hv1.out
  have ja : Ba V1 r0 neg A n c xs := by rw [← hW]; exact ha.on (below_new _ _)
  have jc : Ba V1 (r0 + 1) neg' A' n' c' ys := by rw [← hW]; exact hc.on (below_new _ _)
  have jd : Ba V1 (r0 + 1 + 1) neg'' A'' n'' c'' zs := by rw [← hW]; exact hd.on (below_new _ _)
  have HB1 := Lib.hid (show Below r0 w V1 by rw [← hW]; exact HB.out.alloc (by have := HR.out; have := HB.out.size; omega) _)
  clear hW hs1 hx1 Hv1 ha hc hd HB
  generalize w8.heap.size = r1 at *
  have a := ja.drew
  have b := jc.drew
  have d := jd.drew
  have x1 := x1.drew
  have B : Below r0 w V1.drew := HB1.out.drew
  clear ja jc jd HB1
  have p1 := x1.bx.c0
  have q1 := x1.bx.c1
  go_region_held3 (fun w' => w'.cell? ⟨r1, 0, none⟩ = some (.bool (decide (vd < 0))) ∧ w'.cell? ⟨r1, 1, none⟩ = some (.slice A1 n1 c1))
    (first | exact ⟨p1, q1⟩ | go_keep)
    (first
      | (go_at_call 18
         refine (K6.out _).mono ?_
         rintro e w9 ⟨AO, nO, cO, xsO, rfl, hsO, hxO, hvO, hbn⟩
         have HvO := Lib.hid hvO
         have a := a.on hbn
         have b := b.on hbn
         have d := d.on hbn
         have x1 := x1.on hbn
         have B := below_chain B (by have := HR.out; have := B.size; omega) hbn
         have p1 := x1.bx.c0
         have q1 := x1.bx.c1
         clear hbn hvO)
      | (go_at_call 35
         refine (cmp_res x1.sl hsO x1.nz hxO x1.mag HvO.out Bd_.out Bo.out Hs.out).mono ?_
         rintro e w10 ⟨rfl, hbn⟩
         have a := a.on hbn
         have b := b.on hbn
         have d := d.on hbn
         have x1 := x1.on hbn
         have B := below_chain B (by have := HR.out; have := B.size; omega) hbn
         have p1 := x1.bx.c0
         have q1 := x1.bx.c1
         have k0 := a.bx.c0
         have k1 := a.bx.c1
         have k2 := b.bx.c0
         have k3 := b.bx.c1
         have k4 := d.bx.c0
         have k5 := d.bx.c1
         clear hbn))
  go_wp2_with fail
  clear k0 k1 k2 k3 k4 k5 p1 q1
  refine (K7.out _ a.sl d.sl).mono ?_
  rintro e w11 ⟨A2, n2, c2, xs2, rfl, hs2, hx2, hv2, hbn⟩
  have Hv2 := Lib.hid hv2
  have ga := a.on hbn
  have gc := b.on hbn
  have gd := d.on hbn
  have HG := Lib.hid (show Below r0 w w11 from below_chain B (by have := HR.out; have := B.size; omega) hbn)
  clear hv2 hbn a b d B x1
  have k0 := ga.bx.c0
  have k1 := ga.bx.c1
  have k2 := gc.bx.c0
  have k3 := gc.bx.c1
  have k4 := gd.bx.c0
  have k5 := gd.bx.c1
  have m0 := (gc.bx.alloc (.cells #[.bool (decide (vp < 0)), .slice A2 n2 c2] 24)).c0
  have m1 := (gc.bx.alloc (.cells #[.bool (decide (vp < 0)), .slice A2 n2 c2] 24)).c1
  have m2 := (gd.bx.alloc (.cells #[.bool (decide (vp < 0)), .slice A2 n2 c2] 24)).c0
  have m3 := (gd.bx.alloc (.cells #[.bool (decide (vp < 0)), .slice A2 n2 c2] 24)).c1
  go_wp2_with fail
  clear m0 m1 m2 m3
  clear k0 k1 k2 k3 k4 k5
  generalize hW : World.alloc w11 _ = V2
  have x2 : Bd V2 w11.heap.size (decide (vp < 0)) A2 n2 c2 xs2 vp.natAbs := by rw [← hW]; exact Bd.new hs2 hx2 Hv2.out
  have ha : Ba V2 r0 neg A n c xs := by rw [← hW]; exact ga.on (below_new _ _)
  have hc : Ba V2 (r0 + 1) neg' A' n' c' ys := by rw [← hW]; exact gc.on (below_new _ _)
  have hd : Ba V2 (r0 + 1 + 1) neg'' A'' n'' c'' zs := by rw [← hW]; exact gd.on (below_new _ _)
  have HB := Lib.hid (show Below r0 w V2 by rw [← hW]; exact HG.out.alloc (by have := HR.out; have := HG.out.size; omega) _)
  clear hW hs2 hx2 Hv2 ga gc gd HG
  generalize w11.heap.size = r2 at *
  refine (K8.out _ hc.sl hd.sl).mono ?_
  rintro e w12 ⟨A3, n3, c3, xs3, rfl, hs3, hx3, hv3, hbn⟩
  have Hv3 := Lib.hid hv3
  have ga := ha.on hbn
  have gc := hc.on hbn
  have gd := hd.on hbn
  have y2 := x2.on hbn
  have HG := Lib.hid (show Below r0 w w12 from below_chain HB.out (by have := HR.out; have := HB.out.size; omega) hbn)
  clear hv3 hbn ha hc hd HB x2
  have m0 := (y2.bx.alloc (.cells #[.bool (decide (vq < 0)), .slice A3 n3 c3] 24)).c0
  have m1 := (y2.bx.alloc (.cells #[.bool (decide (vq < 0)), .slice A3 n3 c3] 24)).c1
  go_wp2_with fail
  clear m0 m1
  generalize hW : World.alloc w12 _ = V3
  have x3 : Bd V3 w12.heap.size (decide (vq < 0)) A3 n3 c3 xs3 vq.natAbs := by rw [← hW]; exact Bd.new hs3 hx3 Hv3.out
  have x2 : Bd V3 r2 (decide (vp < 0)) A2 n2 c2 xs2 vp.natAbs := by rw [← hW]; exact y2.on (below_new _ _)
  have ha : Ba V3 r0 neg A n c xs := by rw [← hW]; exact ga.on (below_new _ _)
  have hc : Ba V3 (r0 + 1) neg' A' n' c' ys := by rw [← hW]; exact gc.on (below_new _ _)
  have hd : Ba V3 (r0 + 1 + 1) neg'' A'' n'' c'' zs := by rw [← hW]; exact gd.on (below_new _ _)
  have HB := Lib.hid (show Below r0 w V3 by rw [← hW]; exact HG.out.alloc (by have := HR.out; have := HG.out.size; omega) _)
  clear hW hs3 hx3 Hv3 ga gc gd HG y2
  generalize w12.heap.size = r3 at *
  refine (cmp_res x2.sl x3.sl x2.nz x3.nz x2.mag x3.mag Bp.out Bq.out Ht.out).mono ?_
  rintro e w13 ⟨rfl, hbn⟩
  have ga := ha.on hbn
  have gc := hc.on hbn
  have HG := Lib.hid (show Below r0 w w13 from below_chain HB.out (by have := HR.out; have := HB.out.size; omega) hbn)
  clear hbn ha hc hd HB x2 x3
  go_wp2_with fail
  refine (works_any _).mono ?_
  rintro e w14 ⟨rfl, hbn⟩
  have ha := ga.on hbn
  have hc := gc.on hbn
  have HB := Lib.hid (show Below r0 w w14 from below_chain HG.out (by have := HR.out; have := HG.out.size; omega) hbn)
  clear hbn ga gc HG
  have k0 := ha.bx.c0
  have k1 := ha.bx.c1
  have k2 := hc.bx.c0
  have k3 := hc.bx.c1
  have K9' := K9.out w14 ha.sl hc.sl
  have K9 := Lib.hid K9'
  clear K9' K1 K2 K3 K4 K5 K6 K7 K8 Bd_ Bo Bp Bq Hs Ht
  rcases He.out with ⟨rfl, rfl⟩ | rfl
  all_goals
    clear He
    rcases Hf.out with ⟨rfl, rfl, rfl⟩ | ⟨rfl, rfl⟩ | rfl
    all_goals
      clear Hf
      go_wp2_with fail
      refine K9.out.mono ?_
      rintro e w15 ⟨rfl, hbn⟩
      go_wp2
      go_ret
      exact ⟨rfl, HR.out ▸ below_chain HB.out (by have := HR.out; have := HB.out.size; omega) hbn⟩

set_option maxRecDepth 20000 in
set_option maxHeartbeats 20000000 in
theorem order_walk8 (neg neg' neg'' : Bool) (A A' A'' : Option Addr) (n c n' c' n'' c'' : Nat) (xs ys zs : List Nat) (w : World) (h : Sl w w.heap.size A n c xs) (h' : Sl w w.heap.size A' n' c' ys) (h'' : Sl w w.heap.size A'' n'' c'' zs) (hv : vld neg xs = true) (hv' : vld neg' ys = true) (hv'' : vld neg'' zs = true) (s t vd vp vq o e f g : Int)
    (K1 : Hid (∀ w : World, Sl w w.heap.size A n c xs → Sl w w.heap.size A' n' c' ys → Calls Try.prog 35 #[.agg #[.bool neg, .slice A n c], .agg #[.bool neg', .slice A' n' c']] w (RetC 1 0 w)))
    (K2 : Hid (∀ w : World, Sl w w.heap.size A' n' c' ys → Sl w w.heap.size A'' n'' c'' zs → Calls Try.prog 35 #[.agg #[.bool neg', .slice A' n' c'], .agg #[.bool neg'', .slice A'' n'' c'']] w (RetC (-1) 0 w)))
    (K3 : Hid (∀ w : World, Sl w w.heap.size A n c xs → Sl w w.heap.size A'' n'' c'' zs → Calls Try.prog 35 #[.agg #[.bool neg, .slice A n c], .agg #[.bool neg'', .slice A'' n'' c'']] w (RetC 0 0 w)))
    (K4 : Hid (∀ w : World, Sl w w.heap.size A' n' c' ys → Sl w w.heap.size A n c xs → Calls Try.prog 35 #[.agg #[.bool neg', .slice A' n' c'], .agg #[.bool neg, .slice A n c]] w (RetC (-1) 0 w)))
    (K5 : Hid (∀ w : World, Sl w w.heap.size A n c xs → Sl w w.heap.size A' n' c' ys → Calls Try.prog 27 #[.agg #[.bool neg, .slice A n c], .agg #[.bool neg', .slice A' n' c']] w (RetIE vd e w)))
    (K6 : Hid (∀ w : World, Calls Try.prog 18 #[.int .i64 0] w (RetI o w)))
    (K7 : Hid (∀ w : World, Sl w w.heap.size A n c xs → Sl w w.heap.size A'' n'' c'' zs → Calls Try.prog 25 #[.agg #[.bool neg, .slice A n c], .agg #[.bool neg'', .slice A'' n'' c'']] w (RetIE vp f w)))
    (K8 : Hid (∀ w : World, Sl w w.heap.size A' n' c' ys → Sl w w.heap.size A'' n'' c'' zs → Calls Try.prog 25 #[.agg #[.bool neg', .slice A' n' c'], .agg #[.bool neg'', .slice A'' n'' c'']] w (RetIE vq g w)))
    (K9 : Hid (∀ w : World, Sl w w.heap.size A n c xs → Sl w w.heap.size A' n' c' ys → Calls Try.prog 23 #[.agg #[.bool neg, .slice A n c], .agg #[.bool neg', .slice A' n' c']] w fun e w' => e = .returned (.bool false) ∧ Below w.heap.size w w'))
    (Bd_ : Hid (vd.natAbs < BIG))
    (Bo : Hid (o.natAbs < BIG))
    (Bp : Hid (vp.natAbs < BIG))
    (Bq : Hid (vq.natAbs < BIG))
    (Hs : Hid (Int.sign (vd - o) = s))
    (Ht : Hid (Int.sign (vp - vq) = t))
    (He : Hid ((e = 0 ∧ s = 1) ∨ e = 2))
    (Hf : Hid ((f = 0 ∧ g = 0 ∧ t = 1) ∨ (f = 0 ∧ g = 2) ∨ f = 2))
    : Calls Try.prog 17 #[.agg #[.bool neg, .slice A n c], .agg #[.bool neg', .slice A' n' c'], .agg #[.bool neg'', .slice A'' n'' c'']] w fun e w' => e = .returned (.bool true) ∧ Below w.heap.size w w' := by
  go_enter Try.func17, Try.ntmps17
  go_wp2_with fail
  generalize hW : World.alloc (World.alloc (World.alloc w _) _) _ = V0
  obtain ⟨hb, ha, hc, hd⟩ := three_boxes neg neg' neg'' A A' A'' n c n' c' n'' c'' xs ys zs w V0 h h' h'' hW
  have HB := Lib.hid hb
  clear hW hb h h' h''
  generalize hr : w.heap.size = r0 at *
  have HR := Lib.hid hr
  clear hr
  refine (rvalid_any _ _ _ _ _ xs _ ha.sl (Nat.le_refl _)).mono ?_
  rintro e w1 ⟨rfl, hbn⟩
  have ga := ha.on hbn
  have gc := hc.on hbn
  have gd := hd.on hbn
  have HB' := Lib.hid (show Below r0 w w1 from below_chain HB.out (by have := HR.out; have := HB.out.size; omega) hbn)
  clear ha hc hd HB
  have HB := HB'
  clear HB' hbn
  rw [hv]
  have k0 := ga.bx.c0
  have k1 := ga.bx.c1
  have k2 := gc.bx.c0
  have k3 := gc.bx.c1
  have k4 := gd.bx.c0
  have k5 := gd.bx.c1
  go_wp2_with fail
  clear k0 k1 k2 k3 k4 k5
  refine (rvalid_any _ _ _ _ _ ys _ gc.sl (Nat.le_refl _)).mono ?_
  rintro e w2 ⟨rfl, hbn⟩
  have ha := ga.on hbn
  have hc := gc.on hbn
  have hd := gd.on hbn
  have HB' := Lib.hid (show Below r0 w w2 from below_chain HB.out (by have := HR.out; have := HB.out.size; omega) hbn)
  clear ga gc gd HB
  have HB := HB'
  clear HB' hbn
  rw [hv']
  have k0 := ha.bx.c0
  have k1 := ha.bx.c1
  have k2 := hc.bx.c0
  have k3 := hc.bx.c1
  have k4 := hd.bx.c0
  have k5 := hd.bx.c1
  go_wp2_with fail
  clear k0 k1 k2 k3 k4 k5
  refine (rvalid_any _ _ _ _ _ zs _ hd.sl (Nat.le_refl _)).mono ?_
  rintro e w3 ⟨rfl, hbn⟩
  have ga := ha.on hbn
  have gc := hc.on hbn
  have gd := hd.on hbn
  have HB' := Lib.hid (show Below r0 w w3 from below_chain HB.out (by have := HR.out; have := HB.out.size; omega) hbn)
  clear ha hc hd HB
  have HB := HB'
  clear HB' hbn
  rw [hv'']
  have k0 := ga.bx.c0
  have k1 := ga.bx.c1
  have k2 := gc.bx.c0
  have k3 := gc.bx.c1
  have k4 := gd.bx.c0
  have k5 := gd.bx.c1
  go_wp2_with fail
  clear k0 k1 k2 k3 k4 k5
  clear hv hv' hv''
  refine (K1.out _ ga.sl gc.sl).mono ?_
  rintro e w4 ⟨rfl, hbn⟩
  have ha := ga.on hbn
  have hc := gc.on hbn
  have hd := gd.on hbn
  have HB' := Lib.hid (show Below r0 w w4 from below_chain HB.out (by have := HR.out; have := HB.out.size; omega) hbn)
  clear ga gc gd HB
  have HB := HB'
  clear HB' hbn
  have k0 := ha.bx.c0
  have k1 := ha.bx.c1
  have k2 := hc.bx.c0
  have k3 := hc.bx.c1
  have k4 := hd.bx.c0
  have k5 := hd.bx.c1
  go_wp2_with fail
  clear k0 k1 k2 k3 k4 k5
  refine (K2.out _ hc.sl hd.sl).mono ?_
  rintro e w5 ⟨rfl, hbn⟩
  have ga := ha.on hbn
  have gc := hc.on hbn
  have gd := hd.on hbn
  have HB' := Lib.hid (show Below r0 w w5 from below_chain HB.out (by have := HR.out; have := HB.out.size; omega) hbn)
  clear ha hc hd HB
  have HB := HB'
  clear HB' hbn
  have k0 := ga.bx.c0
  have k1 := ga.bx.c1
  have k2 := gc.bx.c0
  have k3 := gc.bx.c1
  have k4 := gd.bx.c0
  have k5 := gd.bx.c1
  go_wp2_with fail
  clear k0 k1 k2 k3 k4 k5
  refine (K3.out _ ga.sl gd.sl).mono ?_
  rintro e w6 ⟨rfl, hbn⟩
  have ha := ga.on hbn
  have hc := gc.on hbn
  have hd := gd.on hbn
  have HB' := Lib.hid (show Below r0 w w6 from below_chain HB.out (by have := HR.out; have := HB.out.size; omega) hbn)
  clear ga gc gd HB
  have HB := HB'
  clear HB' hbn
  have k0 := ha.bx.c0
  have k1 := ha.bx.c1
  have k2 := hc.bx.c0
  have k3 := hc.bx.c1
  have k4 := hd.bx.c0
  have k5 := hd.bx.c1
  go_wp2_with fail
  clear k0 k1 k2 k3 k4 k5
  refine (K4.out _ hc.sl ha.sl).mono ?_
  rintro e w7 ⟨rfl, hbn⟩
  have ga := ha.on hbn
  have gc := hc.on hbn
  have gd := hd.on hbn
  have HB' := Lib.hid (show Below r0 w w7 from below_chain HB.out (by have := HR.out; have := HB.out.size; omega) hbn)
  clear ha hc hd HB
  have HB := HB'
  clear HB' hbn
  have k0 := ga.bx.c0
  have k1 := ga.bx.c1
  have k2 := gc.bx.c0
  have k3 := gc.bx.c1
  have k4 := gd.bx.c0
  have k5 := gd.bx.c1
  go_wp2_with fail
  clear k0 k1 k2 k3 k4 k5
  refine (K5.out _ ga.sl gc.sl).mono ?_
  rintro e w8 ⟨A1, n1, c1, xs1, rfl, hs1, hx1, hv1, hbn⟩
  have ha := ga.on hbn
  have hc := gc.on hbn
  have hd := gd.on hbn
  have HB' := Lib.hid (show Below r0 w w8 from below_chain HB.out (by have := HR.out; have := HB.out.size; omega) hbn)
  have Hv1 := Lib.hid hv1
  clear hv1
  clear ga gc gd HB
  have HB := HB'
  clear HB' hbn
  go_wp2_with fail
  generalize hW : World.alloc w8 _ = V1
  have x1 : Bd V1 w8.heap.size (decide (vd < 0)) A1 n1 c1 xs1 vd.natAbs := by rw [← hW]; exact Bd.new hs1 hx1 Hv1.out
  have ja : Ba V1 r0 neg A n c xs := by rw [← hW]; exact ha.on (below_new _ _)
  have jc : Ba V1 (r0 + 1) neg' A' n' c' ys := by rw [← hW]; exact hc.on (below_new _ _)
  have jd : Ba V1 (r0 + 1 + 1) neg'' A'' n'' c'' zs := by rw [← hW]; exact hd.on (below_new _ _)
  have HB1 := Lib.hid (show Below r0 w V1 by rw [← hW]; exact HB.out.alloc (by have := HR.out; have := HB.out.size; omega) _)
  clear hW hs1 hx1 Hv1 ha hc hd HB
  generalize w8.heap.size = r1 at *
  have a := ja.drew
  have b := jc.drew
  have d := jd.drew
  have x1 := x1.drew
  have B : Below r0 w V1.drew := HB1.out.drew
  clear ja jc jd HB1
  have p1 := x1.bx.c0
  have q1 := x1.bx.c1
  go_region_held3 (fun w' => w'.cell? ⟨r1, 0, none⟩ = some (.bool (decide (vd < 0))) ∧ w'.cell? ⟨r1, 1, none⟩ = some (.slice A1 n1 c1))
    (first | exact ⟨p1, q1⟩ | go_keep)
    (first
      | (go_at_call 18
         refine (K6.out _).mono ?_
         rintro e w9 ⟨AO, nO, cO, xsO, rfl, hsO, hxO, hvO, hbn⟩
         have HvO := Lib.hid hvO
         have a := a.on hbn
         have b := b.on hbn
         have d := d.on hbn
         have x1 := x1.on hbn
         have B := below_chain B (by have := HR.out; have := B.size; omega) hbn
         have p1 := x1.bx.c0
         have q1 := x1.bx.c1
         clear hbn hvO)
      | (go_at_call 35
         refine (cmp_res x1.sl hsO x1.nz hxO x1.mag HvO.out Bd_.out Bo.out Hs.out).mono ?_
         rintro e w10 ⟨rfl, hbn⟩
         have a := a.on hbn
         have b := b.on hbn
         have d := d.on hbn
         have x1 := x1.on hbn
         have B := below_chain B (by have := HR.out; have := B.size; omega) hbn
         have p1 := x1.bx.c0
         have q1 := x1.bx.c1
         have k0 := a.bx.c0
         have k1 := a.bx.c1
         have k2 := b.bx.c0
         have k3 := b.bx.c1
         have k4 := d.bx.c0
         have k5 := d.bx.c1
         clear hbn))
  go_wp2_with fail
  clear k0 k1 k2 k3 k4 k5 p1 q1
  refine (K7.out _ a.sl d.sl).mono ?_
  rintro e w11 ⟨A2, n2, c2, xs2, rfl, hs2, hx2, hv2, hbn⟩
  have Hv2 := Lib.hid hv2
  have ga := a.on hbn
  have gc := b.on hbn
  have gd := d.on hbn
  have HG := Lib.hid (show Below r0 w w11 from below_chain B (by have := HR.out; have := B.size; omega) hbn)
  clear hv2 hbn a b d B x1
  have k0 := ga.bx.c0
  have k1 := ga.bx.c1
  have k2 := gc.bx.c0
  have k3 := gc.bx.c1
  have k4 := gd.bx.c0
  have k5 := gd.bx.c1
  have m0 := (gc.bx.alloc (.cells #[.bool (decide (vp < 0)), .slice A2 n2 c2] 24)).c0
  have m1 := (gc.bx.alloc (.cells #[.bool (decide (vp < 0)), .slice A2 n2 c2] 24)).c1
  have m2 := (gd.bx.alloc (.cells #[.bool (decide (vp < 0)), .slice A2 n2 c2] 24)).c0
  have m3 := (gd.bx.alloc (.cells #[.bool (decide (vp < 0)), .slice A2 n2 c2] 24)).c1
  go_wp2_with fail
  clear m0 m1 m2 m3
  clear k0 k1 k2 k3 k4 k5
  generalize hW : World.alloc w11 _ = V2
  have x2 : Bd V2 w11.heap.size (decide (vp < 0)) A2 n2 c2 xs2 vp.natAbs := by rw [← hW]; exact Bd.new hs2 hx2 Hv2.out
  have ha : Ba V2 r0 neg A n c xs := by rw [← hW]; exact ga.on (below_new _ _)
  have hc : Ba V2 (r0 + 1) neg' A' n' c' ys := by rw [← hW]; exact gc.on (below_new _ _)
  have hd : Ba V2 (r0 + 1 + 1) neg'' A'' n'' c'' zs := by rw [← hW]; exact gd.on (below_new _ _)
  have HB := Lib.hid (show Below r0 w V2 by rw [← hW]; exact HG.out.alloc (by have := HR.out; have := HG.out.size; omega) _)
  clear hW hs2 hx2 Hv2 ga gc gd HG
  generalize w11.heap.size = r2 at *
  refine (K8.out _ hc.sl hd.sl).mono ?_
  rintro e w12 ⟨A3, n3, c3, xs3, rfl, hs3, hx3, hv3, hbn⟩
  have Hv3 := Lib.hid hv3
  have ga := ha.on hbn
  have gc := hc.on hbn
  have gd := hd.on hbn
  have y2 := x2.on hbn
  have HG := Lib.hid (show Below r0 w w12 from below_chain HB.out (by have := HR.out; have := HB.out.size; omega) hbn)
  clear hv3 hbn ha hc hd HB x2
  have m0 := (y2.bx.alloc (.cells #[.bool (decide (vq < 0)), .slice A3 n3 c3] 24)).c0
  have m1 := (y2.bx.alloc (.cells #[.bool (decide (vq < 0)), .slice A3 n3 c3] 24)).c1
  go_wp2_with fail
  clear m0 m1
  generalize hW : World.alloc w12 _ = V3
  have x3 : Bd V3 w12.heap.size (decide (vq < 0)) A3 n3 c3 xs3 vq.natAbs := by rw [← hW]; exact Bd.new hs3 hx3 Hv3.out
  have x2 : Bd V3 r2 (decide (vp < 0)) A2 n2 c2 xs2 vp.natAbs := by rw [← hW]; exact y2.on (below_new _ _)
  have ha : Ba V3 r0 neg A n c xs := by rw [← hW]; exact ga.on (below_new _ _)
  have hc : Ba V3 (r0 + 1) neg' A' n' c' ys := by rw [← hW]; exact gc.on (below_new _ _)
  have hd : Ba V3 (r0 + 1 + 1) neg'' A'' n'' c'' zs := by rw [← hW]; exact gd.on (below_new _ _)
  have HB := Lib.hid (show Below r0 w V3 by rw [← hW]; exact HG.out.alloc (by have := HR.out; have := HG.out.size; omega) _)
  clear hW hs3 hx3 Hv3 ga gc gd HG y2
  generalize w12.heap.size = r3 at *
  refine (cmp_res x2.sl x3.sl x2.nz x3.nz x2.mag x3.mag Bp.out Bq.out Ht.out).mono ?_
  rintro e w13 ⟨rfl, hbn⟩
  have ga := ha.on hbn
  have gc := hc.on hbn
  have HG := Lib.hid (show Below r0 w w13 from below_chain HB.out (by have := HR.out; have := HB.out.size; omega) hbn)
  clear hbn ha hc hd HB x2 x3
  go_wp2_with fail
  refine (works_any _).mono ?_
  rintro e w14 ⟨rfl, hbn⟩
  have ha := ga.on hbn
  have hc := gc.on hbn
  have HB := Lib.hid (show Below r0 w w14 from below_chain HG.out (by have := HR.out; have := HG.out.size; omega) hbn)
  clear hbn ga gc HG
  have k0 := ha.bx.c0
  have k1 := ha.bx.c1
  have k2 := hc.bx.c0
  have k3 := hc.bx.c1
  have K9' := K9.out w14 ha.sl hc.sl
  have K9 := Lib.hid K9'
  clear K9' K1 K2 K3 K4 K5 K6 K7 K8 Bd_ Bo Bp Bq Hs Ht
  rcases He.out with ⟨rfl, rfl⟩ | rfl
  all_goals
    clear He
    rcases Hf.out with ⟨rfl, rfl, rfl⟩ | ⟨rfl, rfl⟩ | rfl
    all_goals
      clear Hf
      go_wp2_with fail
      refine K9.out.mono ?_
      rintro e w15 ⟨rfl, hbn⟩
      go_wp2
      go_ret
      exact ⟨rfl, HR.out ▸ below_chain HB.out (by have := HR.out; have := HB.out.size; omega) hbn⟩

set_option maxRecDepth 20000 in
set_option maxHeartbeats 20000000 in
theorem order_walk9 (neg neg' neg'' : Bool) (A A' A'' : Option Addr) (n c n' c' n'' c'' : Nat) (xs ys zs : List Nat) (w : World) (h : Sl w w.heap.size A n c xs) (h' : Sl w w.heap.size A' n' c' ys) (h'' : Sl w w.heap.size A'' n'' c'' zs) (hv : vld neg xs = true) (hv' : vld neg' ys = true) (hv'' : vld neg'' zs = true) (s t vd vp vq o e f g : Int)
    (K1 : Hid (∀ w : World, Sl w w.heap.size A n c xs → Sl w w.heap.size A' n' c' ys → Calls Try.prog 35 #[.agg #[.bool neg, .slice A n c], .agg #[.bool neg', .slice A' n' c']] w (RetC 1 0 w)))
    (K2 : Hid (∀ w : World, Sl w w.heap.size A' n' c' ys → Sl w w.heap.size A'' n'' c'' zs → Calls Try.prog 35 #[.agg #[.bool neg', .slice A' n' c'], .agg #[.bool neg'', .slice A'' n'' c'']] w (RetC (-1) 0 w)))
    (K3 : Hid (∀ w : World, Sl w w.heap.size A n c xs → Sl w w.heap.size A'' n'' c'' zs → Calls Try.prog 35 #[.agg #[.bool neg, .slice A n c], .agg #[.bool neg'', .slice A'' n'' c'']] w (RetC 1 0 w)))
    (K4 : Hid (∀ w : World, Sl w w.heap.size A' n' c' ys → Sl w w.heap.size A n c xs → Calls Try.prog 35 #[.agg #[.bool neg', .slice A' n' c'], .agg #[.bool neg, .slice A n c]] w (RetC (-1) 0 w)))
    (K5 : Hid (∀ w : World, Sl w w.heap.size A n c xs → Sl w w.heap.size A' n' c' ys → Calls Try.prog 27 #[.agg #[.bool neg, .slice A n c], .agg #[.bool neg', .slice A' n' c']] w (RetIE vd e w)))
    (K6 : Hid (∀ w : World, Calls Try.prog 18 #[.int .i64 0] w (RetI o w)))
    (K7 : Hid (∀ w : World, Sl w w.heap.size A n c xs → Sl w w.heap.size A'' n'' c'' zs → Calls Try.prog 25 #[.agg #[.bool neg, .slice A n c], .agg #[.bool neg'', .slice A'' n'' c'']] w (RetIE vp f w)))
    (K8 : Hid (∀ w : World, Sl w w.heap.size A' n' c' ys → Sl w w.heap.size A'' n'' c'' zs → Calls Try.prog 25 #[.agg #[.bool neg', .slice A' n' c'], .agg #[.bool neg'', .slice A'' n'' c'']] w (RetIE vq g w)))
    (K9 : Hid (∀ w : World, Sl w w.heap.size A n c xs → Sl w w.heap.size A' n' c' ys → Calls Try.prog 23 #[.agg #[.bool neg, .slice A n c], .agg #[.bool neg', .slice A' n' c']] w fun e w' => e = .returned (.bool false) ∧ Below w.heap.size w w'))
    (Bd_ : Hid (vd.natAbs < BIG))
    (Bo : Hid (o.natAbs < BIG))
    (Bp : Hid (vp.natAbs < BIG))
    (Bq : Hid (vq.natAbs < BIG))
    (Hs : Hid (Int.sign (vd - o) = s))
    (Ht : Hid (Int.sign (vp - vq) = t))
    (He : Hid ((e = 0 ∧ s = 1) ∨ e = 2))
    (Hf : Hid ((f = 0 ∧ g = 0 ∧ t = 1) ∨ (f = 0 ∧ g = 2) ∨ f = 2))
    : Calls Try.prog 17 #[.agg #[.bool neg, .slice A n c], .agg #[.bool neg', .slice A' n' c'], .agg #[.bool neg'', .slice A'' n'' c'']] w fun e w' => e = .returned (.bool true) ∧ Below w.heap.size w w' := by
  go_enter Try.func17, Try.ntmps17
  go_wp2_with fail
  generalize hW : World.alloc (World.alloc (World.alloc w _) _) _ = V0
  obtain ⟨hb, ha, hc, hd⟩ := three_boxes neg neg' neg'' A A' A'' n c n' c' n'' c'' xs ys zs w V0 h h' h'' hW
  have HB := Lib.hid hb
  clear hW hb h h' h''
  generalize hr : w.heap.size = r0 at *
  have HR := Lib.hid hr
  clear hr
  refine (rvalid_any _ _ _ _ _ xs _ ha.sl (Nat.le_refl _)).mono ?_
  rintro e w1 ⟨rfl, hbn⟩
  have ga := ha.on hbn
  have gc := hc.on hbn
  have gd := hd.on hbn
  have HB' := Lib.hid (show Below r0 w w1 from below_chain HB.out (by have := HR.out; have := HB.out.size; omega) hbn)
  clear ha hc hd HB
  have HB := HB'
  clear HB' hbn
  rw [hv]
  have k0 := ga.bx.c0
  have k1 := ga.bx.c1
  have k2 := gc.bx.c0
  have k3 := gc.bx.c1
  have k4 := gd.bx.c0
  have k5 := gd.bx.c1
  go_wp2_with fail
  clear k0 k1 k2 k3 k4 k5
  refine (rvalid_any _ _ _ _ _ ys _ gc.sl (Nat.le_refl _)).mono ?_
  rintro e w2 ⟨rfl, hbn⟩
  have ha := ga.on hbn
  have hc := gc.on hbn
  have hd := gd.on hbn
  have HB' := Lib.hid (show Below r0 w w2 from below_chain HB.out (by have := HR.out; have := HB.out.size; omega) hbn)
  clear ga gc gd HB
  have HB := HB'
  clear HB' hbn
  rw [hv']
  have k0 := ha.bx.c0
  have k1 := ha.bx.c1
  have k2 := hc.bx.c0
  have k3 := hc.bx.c1
  have k4 := hd.bx.c0
  have k5 := hd.bx.c1
  go_wp2_with fail
  clear k0 k1 k2 k3 k4 k5
  refine (rvalid_any _ _ _ _ _ zs _ hd.sl (Nat.le_refl _)).mono ?_
  rintro e w3 ⟨rfl, hbn⟩
  have ga := ha.on hbn
  have gc := hc.on hbn
  have gd := hd.on hbn
  have HB' := Lib.hid (show Below r0 w w3 from below_chain HB.out (by have := HR.out; have := HB.out.size; omega) hbn)
  clear ha hc hd HB
  have HB := HB'
  clear HB' hbn
  rw [hv'']
  have k0 := ga.bx.c0
  have k1 := ga.bx.c1
  have k2 := gc.bx.c0
  have k3 := gc.bx.c1
  have k4 := gd.bx.c0
  have k5 := gd.bx.c1
  go_wp2_with fail
  clear k0 k1 k2 k3 k4 k5
  clear hv hv' hv''
  refine (K1.out _ ga.sl gc.sl).mono ?_
  rintro e w4 ⟨rfl, hbn⟩
  have ha := ga.on hbn
  have hc := gc.on hbn
  have hd := gd.on hbn
  have HB' := Lib.hid (show Below r0 w w4 from below_chain HB.out (by have := HR.out; have := HB.out.size; omega) hbn)
  clear ga gc gd HB
  have HB := HB'
  clear HB' hbn
  have k0 := ha.bx.c0
  have k1 := ha.bx.c1
  have k2 := hc.bx.c0
  have k3 := hc.bx.c1
  have k4 := hd.bx.c0
  have k5 := hd.bx.c1
  go_wp2_with fail
  clear k0 k1 k2 k3 k4 k5
  refine (K2.out _ hc.sl hd.sl).mono ?_
  rintro e w5 ⟨rfl, hbn⟩
  have ga := ha.on hbn
  have gc := hc.on hbn
  have gd := hd.on hbn
  have HB' := Lib.hid (show Below r0 w w5 from below_chain HB.out (by have := HR.out; have := HB.out.size; omega) hbn)
  clear ha hc hd HB
  have HB := HB'
  clear HB' hbn
  have k0 := ga.bx.c0
  have k1 := ga.bx.c1
  have k2 := gc.bx.c0
  have k3 := gc.bx.c1
  have k4 := gd.bx.c0
  have k5 := gd.bx.c1
  go_wp2_with fail
  clear k0 k1 k2 k3 k4 k5
  refine (K3.out _ ga.sl gd.sl).mono ?_
  rintro e w6 ⟨rfl, hbn⟩
  have ha := ga.on hbn
  have hc := gc.on hbn
  have hd := gd.on hbn
  have HB' := Lib.hid (show Below r0 w w6 from below_chain HB.out (by have := HR.out; have := HB.out.size; omega) hbn)
  clear ga gc gd HB
  have HB := HB'
  clear HB' hbn
  have k0 := ha.bx.c0
  have k1 := ha.bx.c1
  have k2 := hc.bx.c0
  have k3 := hc.bx.c1
  have k4 := hd.bx.c0
  have k5 := hd.bx.c1
  go_wp2_with fail
  clear k0 k1 k2 k3 k4 k5
  refine (K4.out _ hc.sl ha.sl).mono ?_
  rintro e w7 ⟨rfl, hbn⟩
  have ga := ha.on hbn
  have gc := hc.on hbn
  have gd := hd.on hbn
  have HB' := Lib.hid (show Below r0 w w7 from below_chain HB.out (by have := HR.out; have := HB.out.size; omega) hbn)
  clear ha hc hd HB
  have HB := HB'
  clear HB' hbn
  have k0 := ga.bx.c0
  have k1 := ga.bx.c1
  have k2 := gc.bx.c0
  have k3 := gc.bx.c1
  have k4 := gd.bx.c0
  have k5 := gd.bx.c1
  go_wp2_with fail
  clear k0 k1 k2 k3 k4 k5
  refine (K5.out _ ga.sl gc.sl).mono ?_
  rintro e w8 ⟨A1, n1, c1, xs1, rfl, hs1, hx1, hv1, hbn⟩
  have ha := ga.on hbn
  have hc := gc.on hbn
  have hd := gd.on hbn
  have HB' := Lib.hid (show Below r0 w w8 from below_chain HB.out (by have := HR.out; have := HB.out.size; omega) hbn)
  have Hv1 := Lib.hid hv1
  clear hv1
  clear ga gc gd HB
  have HB := HB'
  clear HB' hbn
  go_wp2_with fail
  generalize hW : World.alloc w8 _ = V1
  have x1 : Bd V1 w8.heap.size (decide (vd < 0)) A1 n1 c1 xs1 vd.natAbs := by rw [← hW]; exact Bd.new hs1 hx1 Hv1.out
  have ja : Ba V1 r0 neg A n c xs := by rw [← hW]; exact ha.on (below_new _ _)
  have jc : Ba V1 (r0 + 1) neg' A' n' c' ys := by rw [← hW]; exact hc.on (below_new _ _)
  have jd : Ba V1 (r0 + 1 + 1) neg'' A'' n'' c'' zs := by rw [← hW]; exact hd.on (below_new _ _)
  have HB1 := Lib.hid (show Below r0 w V1 by rw [← hW]; exact HB.out.alloc (by have := HR.out; have := HB.out.size; omega) _)
  clear hW hs1 hx1 Hv1 ha hc hd HB
  generalize w8.heap.size = r1 at *
  have a := ja.drew
  have b := jc.drew
  have d := jd.drew
  have x1 := x1.drew
  have B : Below r0 w V1.drew := HB1.out.drew
  clear ja jc jd HB1
  have p1 := x1.bx.c0
  have q1 := x1.bx.c1
  go_region_held3 (fun w' => w'.cell? ⟨r1, 0, none⟩ = some (.bool (decide (vd < 0))) ∧ w'.cell? ⟨r1, 1, none⟩ = some (.slice A1 n1 c1))
    (first | exact ⟨p1, q1⟩ | go_keep)
    (first
      | (go_at_call 18
         refine (K6.out _).mono ?_
         rintro e w9 ⟨AO, nO, cO, xsO, rfl, hsO, hxO, hvO, hbn⟩
         have HvO := Lib.hid hvO
         have a := a.on hbn
         have b := b.on hbn
         have d := d.on hbn
         have x1 := x1.on hbn
         have B := below_chain B (by have := HR.out; have := B.size; omega) hbn
         have p1 := x1.bx.c0
         have q1 := x1.bx.c1
         clear hbn hvO)
      | (go_at_call 35
         refine (cmp_res x1.sl hsO x1.nz hxO x1.mag HvO.out Bd_.out Bo.out Hs.out).mono ?_
         rintro e w10 ⟨rfl, hbn⟩
         have a := a.on hbn
         have b := b.on hbn
         have d := d.on hbn
         have x1 := x1.on hbn
         have B := below_chain B (by have := HR.out; have := B.size; omega) hbn
         have p1 := x1.bx.c0
         have q1 := x1.bx.c1
         have k0 := a.bx.c0
         have k1 := a.bx.c1
         have k2 := b.bx.c0
         have k3 := b.bx.c1
         have k4 := d.bx.c0
         have k5 := d.bx.c1
         clear hbn))
  go_wp2_with fail
  clear k0 k1 k2 k3 k4 k5 p1 q1
  refine (K7.out _ a.sl d.sl).mono ?_
  rintro e w11 ⟨A2, n2, c2, xs2, rfl, hs2, hx2, hv2, hbn⟩
  have Hv2 := Lib.hid hv2
  have ga := a.on hbn
  have gc := b.on hbn
  have gd := d.on hbn
  have HG := Lib.hid (show Below r0 w w11 from below_chain B (by have := HR.out; have := B.size; omega) hbn)
  clear hv2 hbn a b d B x1
  have k0 := ga.bx.c0
  have k1 := ga.bx.c1
  have k2 := gc.bx.c0
  have k3 := gc.bx.c1
  have k4 := gd.bx.c0
  have k5 := gd.bx.c1
  have m0 := (gc.bx.alloc (.cells #[.bool (decide (vp < 0)), .slice A2 n2 c2] 24)).c0
  have m1 := (gc.bx.alloc (.cells #[.bool (decide (vp < 0)), .slice A2 n2 c2] 24)).c1
  have m2 := (gd.bx.alloc (.cells #[.bool (decide (vp < 0)), .slice A2 n2 c2] 24)).c0
  have m3 := (gd.bx.alloc (.cells #[.bool (decide (vp < 0)), .slice A2 n2 c2] 24)).c1
  go_wp2_with fail
  clear m0 m1 m2 m3
  clear k0 k1 k2 k3 k4 k5
  generalize hW : World.alloc w11 _ = V2
  have x2 : Bd V2 w11.heap.size (decide (vp < 0)) A2 n2 c2 xs2 vp.natAbs := by rw [← hW]; exact Bd.new hs2 hx2 Hv2.out
  have ha : Ba V2 r0 neg A n c xs := by rw [← hW]; exact ga.on (below_new _ _)
  have hc : Ba V2 (r0 + 1) neg' A' n' c' ys := by rw [← hW]; exact gc.on (below_new _ _)
  have hd : Ba V2 (r0 + 1 + 1) neg'' A'' n'' c'' zs := by rw [← hW]; exact gd.on (below_new _ _)
  have HB := Lib.hid (show Below r0 w V2 by rw [← hW]; exact HG.out.alloc (by have := HR.out; have := HG.out.size; omega) _)
  clear hW hs2 hx2 Hv2 ga gc gd HG
  generalize w11.heap.size = r2 at *
  refine (K8.out _ hc.sl hd.sl).mono ?_
  rintro e w12 ⟨A3, n3, c3, xs3, rfl, hs3, hx3, hv3, hbn⟩
  have Hv3 := Lib.hid hv3
  have ga := ha.on hbn
  have gc := hc.on hbn
  have gd := hd.on hbn
  have y2 := x2.on hbn
  have HG := Lib.hid (show Below r0 w w12 from below_chain HB.out (by have := HR.out; have := HB.out.size; omega) hbn)
  clear hv3 hbn ha hc hd HB x2
  have m0 := (y2.bx.alloc (.cells #[.bool (decide (vq < 0)), .slice A3 n3 c3] 24)).c0
  have m1 := (y2.bx.alloc (.cells #[.bool (decide (vq < 0)), .slice A3 n3 c3] 24)).c1
  go_wp2_with fail
  clear m0 m1
  generalize hW : World.alloc w12 _ = V3
  have x3 : Bd V3 w12.heap.size (decide (vq < 0)) A3 n3 c3 xs3 vq.natAbs := by rw [← hW]; exact Bd.new hs3 hx3 Hv3.out
  have x2 : Bd V3 r2 (decide (vp < 0)) A2 n2 c2 xs2 vp.natAbs := by rw [← hW]; exact y2.on (below_new _ _)
  have ha : Ba V3 r0 neg A n c xs := by rw [← hW]; exact ga.on (below_new _ _)
  have hc : Ba V3 (r0 + 1) neg' A' n' c' ys := by rw [← hW]; exact gc.on (below_new _ _)
  have hd : Ba V3 (r0 + 1 + 1) neg'' A'' n'' c'' zs := by rw [← hW]; exact gd.on (below_new _ _)
  have HB := Lib.hid (show Below r0 w V3 by rw [← hW]; exact HG.out.alloc (by have := HR.out; have := HG.out.size; omega) _)
  clear hW hs3 hx3 Hv3 ga gc gd HG y2
  generalize w12.heap.size = r3 at *
  refine (cmp_res x2.sl x3.sl x2.nz x3.nz x2.mag x3.mag Bp.out Bq.out Ht.out).mono ?_
  rintro e w13 ⟨rfl, hbn⟩
  have ga := ha.on hbn
  have gc := hc.on hbn
  have HG := Lib.hid (show Below r0 w w13 from below_chain HB.out (by have := HR.out; have := HB.out.size; omega) hbn)
  clear hbn ha hc hd HB x2 x3
  go_wp2_with fail
  refine (works_any _).mono ?_
  rintro e w14 ⟨rfl, hbn⟩
  have ha := ga.on hbn
  have hc := gc.on hbn
  have HB := Lib.hid (show Below r0 w w14 from below_chain HG.out (by have := HR.out; have := HG.out.size; omega) hbn)
  clear hbn ga gc HG
  have k0 := ha.bx.c0
  have k1 := ha.bx.c1
  have k2 := hc.bx.c0
  have k3 := hc.bx.c1
  have K9' := K9.out w14 ha.sl hc.sl
  have K9 := Lib.hid K9'
  clear K9' K1 K2 K3 K4 K5 K6 K7 K8 Bd_ Bo Bp Bq Hs Ht
  rcases He.out with ⟨rfl, rfl⟩ | rfl
  all_goals
    clear He
    rcases Hf.out with ⟨rfl, rfl, rfl⟩ | ⟨rfl, rfl⟩ | rfl
    all_goals
      clear Hf
      go_wp2_with fail
      refine K9.out.mono ?_
      rintro e w15 ⟨rfl, hbn⟩
      go_wp2
      go_ret
      exact ⟨rfl, HR.out ▸ below_chain HB.out (by have := HR.out; have := HB.out.size; omega) hbn⟩

end Go.Proofs.Ytalgcppogjpilaa
