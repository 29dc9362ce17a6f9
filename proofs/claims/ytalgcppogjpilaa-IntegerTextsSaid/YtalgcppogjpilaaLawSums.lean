/-
  IntegerSums returns true, for any two integers, valid or not.
-/
import Derived.Test.YtalgcppogjpilaaRefSubs
import Derived.Test.YtalgcppogjpilaaLawValid
namespace Go.Proofs.Ytalgcppogjpilaa
open Go.RowKit

theorem two_boxes (neg neg' : Bool) (A A' : Option Addr) (n c n' c' : Nat) (xs ys : List Nat) (w W : World) (h : Sl w w.heap.size A n c xs) (h' : Sl w w.heap.size A' n' c' ys)
    (hW : (w.alloc (.cells #[.bool neg, .slice A n c] 24)).alloc (.cells #[.bool neg', .slice A' n' c'] 24) = W) :
    Below w.heap.size w W ∧ Ba W w.heap.size neg A n c xs ∧ Ba W (w.heap.size + 1) neg' A' n' c' ys := by
  subst hW
  have hb := ((Below.refl w.heap.size w).alloc (Nat.le_refl _) (.cells #[.bool neg, .slice A n c] 24)).alloc (by simp) (.cells #[.bool neg', .slice A' n' c'] 24)
  refine ⟨hb, ⟨(Bx.new w _ _ _ _).alloc _, h.on hb⟩, ⟨?_, h'.on hb⟩⟩
  have := Bx.new (w.alloc (.cells #[.bool neg, .slice A n c] 24)) neg' A' n' c'
  simpa using this

/-- What a call answers for these two integers, in whatever world they lie. -/
def On2 (f : Nat) (neg neg' : Bool) (A A' : Option Addr) (n c n' c' : Nat) (xs ys : List Nat) (z e : Int) : Prop :=
  ∀ w : World, Sl w w.heap.size A n c xs → Sl w w.heap.size A' n' c' ys → Calls Try.prog f #[.agg #[.bool neg, .slice A n c], .agg #[.bool neg', .slice A' n' c']] w (RetIE z e w)

theorem sg_not (neg : Bool) (v : Nat) : sg (!neg) v = - sg neg v := by cases neg <;> simp [sg]

set_option maxHeartbeats 4000000 in
theorem integerSums_walk (neg neg' : Bool) (A A' : Option Addr) (n c n' c' : Nat) (xs ys : List Nat) (w : World) (h : Sl w w.heap.size A n c xs) (h' : Sl w w.heap.size A' n' c' ys) (zs es zd ed : Int)
    (C1 : On2 25 neg neg' A A' n c n' c' xs ys zs es) (C2 : On2 26 neg neg' A A' n c n' c' xs ys zs es) (C3 : On2 27 neg neg' A A' n c n' c' xs ys zd ed) (C4 : On2 28 neg neg' A A' n c n' c' xs ys zd ed) :
    Calls Try.prog 4 #[.agg #[.bool neg, .slice A n c], .agg #[.bool neg', .slice A' n' c']] w fun e w' => e = .returned (.bool true) ∧ Below w.heap.size w w' := by
  have D1 := Lib.hid C1
  have D2 := Lib.hid C2
  have D3 := Lib.hid C3
  have D4 := Lib.hid C4
  clear C1 C2 C3 C4
  have hee : (es == es) = true := by simp
  have hff : (ed == ed) = true := by simp
  go_enter Try.func4, Try.ntmps4
  go_wp2_with fail
  generalize hW : World.alloc (World.alloc w _) _ = V0
  obtain ⟨hb, ha, hc⟩ := two_boxes neg neg' A A' n c n' c' xs ys w V0 h h' hW
  have HB := Lib.hid hb
  clear hW hb h h'
  have k0 := ha.bx.c0
  have k1 := ha.bx.c1
  have k2 := hc.bx.c0
  have k3 := hc.bx.c1
  generalize hr0 : w.heap.size = r0 at *
  have HR := Lib.hid hr0
  clear hr0
  go_wp2_with fail
  refine (D1.out _ ha.sl hc.sl).mono ?_
  rintro e w1 ⟨A1, n1, c1, xs1, rfl, hs1, hx1, hv1, hb1⟩
  have Hv1 := Lib.hid hv1
  have ga := ha.on hb1
  have gc := hc.on hb1
  have HG := Lib.hid (show Below r0 w w1 from below_chain HB.out (by have := HB.out.size; have := ha.bx.lt; omega) hb1)
  clear hv1 ha hc HB hb1 k0 k1 k2 k3 
  have k0 := ga.bx.c0
  have k1 := ga.bx.c1
  have k2 := gc.bx.c0
  have k3 := gc.bx.c1
  have m0 := (ga.bx.alloc (.cells #[.bool (decide (zs < 0)), .slice A1 n1 c1] 24)).c0
  have m1 := (ga.bx.alloc (.cells #[.bool (decide (zs < 0)), .slice A1 n1 c1] 24)).c1
  have m2 := (gc.bx.alloc (.cells #[.bool (decide (zs < 0)), .slice A1 n1 c1] 24)).c0
  have m3 := (gc.bx.alloc (.cells #[.bool (decide (zs < 0)), .slice A1 n1 c1] 24)).c1
  go_wp2_with fail
  clear m0 m1 m2 m3
  generalize hW : World.alloc w1 _ = V1
  have d1 : Bd V1 w1.heap.size (decide (zs < 0)) A1 n1 c1 xs1 zs.natAbs := by rw [← hW]; exact Bd.new hs1 hx1 Hv1.out
  have ha : Ba V1 r0 neg A n c xs := by rw [← hW]; exact ga.on (below_new _ _)
  have hc : Ba V1 (r0 + 1) neg' A' n' c' ys := by rw [← hW]; exact gc.on (below_new _ _)
  have HB := Lib.hid (show Below r0 w V1 by rw [← hW]; exact HG.out.alloc (by have := ga.bx.lt; omega) _)
  clear hW hs1 hx1 Hv1 ga gc HG k0 k1 k2 k3 
  generalize w1.heap.size = r1 at *
  have k0 := ha.bx.c0
  have k1 := ha.bx.c1
  have k2 := hc.bx.c0
  have k3 := hc.bx.c1
  refine (D2.out _ ha.sl hc.sl).mono ?_
  rintro e w2 ⟨A2, n2, c2, xs2, rfl, hs2, hx2, hv2, hb2⟩
  have Hv2 := Lib.hid hv2
  have ga := ha.on hb2
  have gc := hc.on hb2
  have g1 := d1.on hb2
  have HG := Lib.hid (show Below r0 w w2 from below_chain HB.out (by have := HB.out.size; have := ha.bx.lt; omega) hb2)
  clear hv2 ha hc HB hb2 k0 k1 k2 k3 d1
  have k0 := ga.bx.c0
  have k1 := ga.bx.c1
  have k2 := gc.bx.c0
  have k3 := gc.bx.c1
  have m0 := (ga.bx.alloc (.cells #[.bool (decide (zs < 0)), .slice A2 n2 c2] 24)).c0
  have m1 := (ga.bx.alloc (.cells #[.bool (decide (zs < 0)), .slice A2 n2 c2] 24)).c1
  have m2 := (gc.bx.alloc (.cells #[.bool (decide (zs < 0)), .slice A2 n2 c2] 24)).c0
  have m3 := (gc.bx.alloc (.cells #[.bool (decide (zs < 0)), .slice A2 n2 c2] 24)).c1
  go_wp2_with fail
  clear m0 m1 m2 m3
  generalize hW : World.alloc w2 _ = V2
  have d2 : Bd V2 w2.heap.size (decide (zs < 0)) A2 n2 c2 xs2 zs.natAbs := by rw [← hW]; exact Bd.new hs2 hx2 Hv2.out
  have ha : Ba V2 r0 neg A n c xs := by rw [← hW]; exact ga.on (below_new _ _)
  have hc : Ba V2 (r0 + 1) neg' A' n' c' ys := by rw [← hW]; exact gc.on (below_new _ _)
  have d1 : Bd V2 r1 (decide (zs < 0)) A1 n1 c1 xs1 zs.natAbs := by rw [← hW]; exact g1.on (below_new _ _)
  have HB := Lib.hid (show Below r0 w V2 by rw [← hW]; exact HG.out.alloc (by have := ga.bx.lt; omega) _)
  clear hW hs2 hx2 Hv2 ga gc HG k0 k1 k2 k3 g1
  generalize w2.heap.size = r2 at *
  have k0 := ha.bx.c0
  have k1 := ha.bx.c1
  have k2 := hc.bx.c0
  have k3 := hc.bx.c1
  refine (D3.out _ ha.sl hc.sl).mono ?_
  rintro e w3 ⟨A3, n3, c3, xs3, rfl, hs3, hx3, hv3, hb3⟩
  have Hv3 := Lib.hid hv3
  have ga := ha.on hb3
  have gc := hc.on hb3
  have g1 := d1.on hb3
  have g2 := d2.on hb3
  have HG := Lib.hid (show Below r0 w w3 from below_chain HB.out (by have := HB.out.size; have := ha.bx.lt; omega) hb3)
  clear hv3 ha hc HB hb3 k0 k1 k2 k3 d1 d2
  have k0 := ga.bx.c0
  have k1 := ga.bx.c1
  have k2 := gc.bx.c0
  have k3 := gc.bx.c1
  have m0 := (ga.bx.alloc (.cells #[.bool (decide (zd < 0)), .slice A3 n3 c3] 24)).c0
  have m1 := (ga.bx.alloc (.cells #[.bool (decide (zd < 0)), .slice A3 n3 c3] 24)).c1
  have m2 := (gc.bx.alloc (.cells #[.bool (decide (zd < 0)), .slice A3 n3 c3] 24)).c0
  have m3 := (gc.bx.alloc (.cells #[.bool (decide (zd < 0)), .slice A3 n3 c3] 24)).c1
  go_wp2_with fail
  clear m0 m1 m2 m3
  generalize hW : World.alloc w3 _ = V3
  have d3 : Bd V3 w3.heap.size (decide (zd < 0)) A3 n3 c3 xs3 zd.natAbs := by rw [← hW]; exact Bd.new hs3 hx3 Hv3.out
  have ha : Ba V3 r0 neg A n c xs := by rw [← hW]; exact ga.on (below_new _ _)
  have hc : Ba V3 (r0 + 1) neg' A' n' c' ys := by rw [← hW]; exact gc.on (below_new _ _)
  have d1 : Bd V3 r1 (decide (zs < 0)) A1 n1 c1 xs1 zs.natAbs := by rw [← hW]; exact g1.on (below_new _ _)
  have d2 : Bd V3 r2 (decide (zs < 0)) A2 n2 c2 xs2 zs.natAbs := by rw [← hW]; exact g2.on (below_new _ _)
  have HB := Lib.hid (show Below r0 w V3 by rw [← hW]; exact HG.out.alloc (by have := ga.bx.lt; omega) _)
  clear hW hs3 hx3 Hv3 ga gc HG k0 k1 k2 k3 g1 g2
  generalize w3.heap.size = r3 at *
  have k0 := ha.bx.c0
  have k1 := ha.bx.c1
  have k2 := hc.bx.c0
  have k3 := hc.bx.c1
  refine (D4.out _ ha.sl hc.sl).mono ?_
  rintro e w4 ⟨A4, n4, c4, xs4, rfl, hs4, hx4, hv4, hb4⟩
  have Hv4 := Lib.hid hv4
  have ga := ha.on hb4
  have gc := hc.on hb4
  have g1 := d1.on hb4
  have g2 := d2.on hb4
  have g3 := d3.on hb4
  have HG := Lib.hid (show Below r0 w w4 from below_chain HB.out (by have := HB.out.size; have := ha.bx.lt; omega) hb4)
  clear hv4 ha hc HB hb4 k0 k1 k2 k3 d1 d2 d3
  have k0 := ga.bx.c0
  have k1 := ga.bx.c1
  have k2 := gc.bx.c0
  have k3 := gc.bx.c1
  have m0 := (ga.bx.alloc (.cells #[.bool (decide (zd < 0)), .slice A4 n4 c4] 24)).c0
  have m1 := (ga.bx.alloc (.cells #[.bool (decide (zd < 0)), .slice A4 n4 c4] 24)).c1
  have m2 := (gc.bx.alloc (.cells #[.bool (decide (zd < 0)), .slice A4 n4 c4] 24)).c0
  have m3 := (gc.bx.alloc (.cells #[.bool (decide (zd < 0)), .slice A4 n4 c4] 24)).c1
  go_wp2_with fail
  clear m0 m1 m2 m3
  generalize hW : World.alloc w4 _ = V4
  have d4 : Bd V4 w4.heap.size (decide (zd < 0)) A4 n4 c4 xs4 zd.natAbs := by rw [← hW]; exact Bd.new hs4 hx4 Hv4.out
  have ha : Ba V4 r0 neg A n c xs := by rw [← hW]; exact ga.on (below_new _ _)
  have hc : Ba V4 (r0 + 1) neg' A' n' c' ys := by rw [← hW]; exact gc.on (below_new _ _)
  have d1 : Bd V4 r1 (decide (zs < 0)) A1 n1 c1 xs1 zs.natAbs := by rw [← hW]; exact g1.on (below_new _ _)
  have d2 : Bd V4 r2 (decide (zs < 0)) A2 n2 c2 xs2 zs.natAbs := by rw [← hW]; exact g2.on (below_new _ _)
  have d3 : Bd V4 r3 (decide (zd < 0)) A3 n3 c3 xs3 zd.natAbs := by rw [← hW]; exact g3.on (below_new _ _)
  have HB := Lib.hid (show Below r0 w V4 by rw [← hW]; exact HG.out.alloc (by have := ga.bx.lt; omega) _)
  clear hW hs4 hx4 Hv4 ga gc HG k0 k1 k2 k3 g1 g2 g3
  generalize w4.heap.size = r4 at *
  have k0 := ha.bx.c0
  have k1 := ha.bx.c1
  have k2 := hc.bx.c0
  have k3 := hc.bx.c1
  clear ha hc k0 k1 k2 k3
  refine (works_any _).mono ?_
  rintro e w5 ⟨rfl, hb5⟩
  have g1 := d1.on hb5
  have g2 := d2.on hb5
  have g3 := d3.on hb5
  have g4 := d4.on hb5
  have HG := Lib.hid (show Below r0 w w5 from below_chain HB.out (by have := HR.out; have := HB.out.size; omega) hb5)
  clear d1 d2 d3 d4 HB hb5
  have p1 := g1.bx.c0
  have q1 := g1.bx.c1
  have p2 := g2.bx.c0
  have q2 := g2.bx.c1
  go_wp2_with fail
  clear p1 q1 p2 q2
  refine (lsame_yes _ _ _ _ _ _ _ _ _ _ _ g1.sl g2.sl rfl (uniq g1.sl.ok g2.sl.ok g1.nz g2.nz (g1.mag.trans g2.mag.symm))).mono ?_
  rintro e w6 ⟨rfl, hb6⟩
  have d3 := g3.on hb6
  have d4 := g4.on hb6
  have HB := Lib.hid (show Below r0 w w6 from below_chain HG.out (by have := HR.out; have := HG.out.size; omega) hb6)
  clear g1 g2 g3 g4 HG hb6
  have p3 := d3.bx.c0
  have q3 := d3.bx.c1
  have p4 := d4.bx.c0
  have q4 := d4.bx.c1
  go_wp2_with fail
  clear p3 q3 p4 q4
  refine (lsame_yes _ _ _ _ _ _ _ _ _ _ _ d3.sl d4.sl rfl (uniq d3.sl.ok d4.sl.ok d3.nz d4.nz (d3.mag.trans d4.mag.symm))).mono ?_
  rintro e w7 ⟨rfl, hb7⟩
  have B : Below r0 w w7 := below_chain HB.out (by have := HR.out; have := HB.out.size; omega) hb7
  clear hb7 d3 d4 HB
  go_wp2
  go_ret
  exact ⟨rfl, HR.out ▸ B⟩

theorem integerSums_any (neg neg' : Bool) (A A' : Option Addr) (n c n' c' : Nat) (xs ys : List Nat) (w : World) (h : Sl w w.heap.size A n c xs) (h' : Sl w w.heap.size A' n' c' ys) :
    Calls Try.prog 4 #[.agg #[.bool neg, .slice A n c], .agg #[.bool neg', .slice A' n' c']] w fun e w' => e = .returned (.bool true) ∧ Below w.heap.size w w' :=
  integerSums_walk neg neg' A A' n c n' c' xs ys w h h' _ _ _ _
    (fun w h h' => add_any neg neg' A A' n c n' c' xs ys w h h') (fun w h h' => radd_any neg neg' A A' n c n' c' xs ys w h h')
    (fun w h h' => by have := sub_any neg neg' A A' n c n' c' xs ys w h h'; rwa [sg_not, ← Int.sub_eq_add_neg] at this) (fun w h h' => rsub_any neg neg' A A' n c n' c' xs ys w h h')

end Go.Proofs.Ytalgcppogjpilaa
