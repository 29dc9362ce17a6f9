/-
  IntegerOrder returns true, for any three integers, valid or not.
-/
import Derived.Test.YtalgcppogjpilaaSameNo
namespace Go.Proofs.Ytalgcppogjpilaa
open Go.RowKit

theorem three_boxes (neg neg' neg'' : Bool) (A A' A'' : Option Addr) (n c n' c' n'' c'' : Nat) (xs ys zs : List Nat) (w W : World) (h : Sl w w.heap.size A n c xs) (h' : Sl w w.heap.size A' n' c' ys) (h'' : Sl w w.heap.size A'' n'' c'' zs)
    (hW : ((w.alloc (.cells #[.bool neg, .slice A n c] 24)).alloc (.cells #[.bool neg', .slice A' n' c'] 24)).alloc (.cells #[.bool neg'', .slice A'' n'' c''] 24) = W) :
    Below w.heap.size w W ∧ Ba W w.heap.size neg A n c xs ∧ Ba W (w.heap.size + 1) neg' A' n' c' ys ∧ Ba W (w.heap.size + 1 + 1) neg'' A'' n'' c'' zs := by
  obtain ⟨hb, h1, h2⟩ := two_boxes neg neg' A A' n c n' c' xs ys w _ h h' rfl
  have hn := below_new ((w.alloc (.cells #[.bool neg, .slice A n c] 24)).alloc (.cells #[.bool neg', .slice A' n' c'] 24)) (.cells #[.bool neg'', .slice A'' n'' c''] 24)
  rw [hW] at hn
  refine ⟨below_chain hb hb.size hn, h1.on hn, h2.on hn, ⟨?_, (h''.on hb).on hn⟩⟩
  have := Bx.new ((w.alloc (.cells #[.bool neg, .slice A n c] 24)).alloc (.cells #[.bool neg', .slice A' n' c'] 24)) neg'' A'' n'' c''
  rw [hW] at this
  simpa using this

theorem cmp_nz {neg neg' : Bool} {A A' : Option Addr} {n c n' c' : Nat} {xs ys : List Nat} {w : World} (h : Sl w w.heap.size A n c xs) (h' : Sl w w.heap.size A' n' c' ys) (hv : vld neg xs = true) (hv' : vld neg' ys = true) (z : Int)
    (hz : Int.sign (sg neg (val xs) - sg neg' (val ys)) = z) :
    Calls Try.prog 35 #[.agg #[.bool neg, .slice A n c], .agg #[.bool neg', .slice A' n' c']] w (RetC z 0 w) := by
  have := cmp_any neg neg' A A' n c n' c' xs ys w h h'
  rw [hv, hv'] at this
  subst hz
  exact this

/-- A number that fits, and what it is. -/
theorem vld_fit {z : Int} {xs : List Nat} (hx : Ok xs) (nx : Nz xs) (e : val xs = z.natAbs) (hz : z.natAbs < BIG) : vld (decide (z < 0)) xs = true :=
  vld_of hx nx (by rw [e]; exact hz) (fun hd => by have := of_decide_eq_true hd; rw [e]; omega)

theorem cmp_res {z y u : Int} {A A' : Option Addr} {n c n' c' : Nat} {xs ys : List Nat} {w : World} (h : Sl w w.heap.size A n c xs) (h' : Sl w w.heap.size A' n' c' ys) (nx : Nz xs) (ny : Nz ys) (ex : val xs = z.natAbs) (ey : val ys = y.natAbs)
    (bz : z.natAbs < BIG) (bY : y.natAbs < BIG) (hu : Int.sign (z - y) = u) :
    Calls Try.prog 35 #[.agg #[.bool (decide (z < 0)), .slice A n c], .agg #[.bool (decide (y < 0)), .slice A' n' c']] w (RetC u 0 w) :=
  cmp_nz h h' (vld_fit h.ok nx ex bz) (vld_fit h'.ok ny ey bY) u (by rw [sg_dec ex, sg_dec ey]; exact hu)

set_option maxHeartbeats 2000000 in
theorem order_bad1 (neg neg' neg'' : Bool) (A A' A'' : Option Addr) (n c n' c' n'' c'' : Nat) (xs ys zs : List Nat) (w : World) (h : Sl w w.heap.size A n c xs) (h' : Sl w w.heap.size A' n' c' ys) (h'' : Sl w w.heap.size A'' n'' c'' zs) (hv : vld neg xs = false) :
    Calls Try.prog 17 #[.agg #[.bool neg, .slice A n c], .agg #[.bool neg', .slice A' n' c'], .agg #[.bool neg'', .slice A'' n'' c'']] w fun e w' => e = .returned (.bool true) ∧ Below w.heap.size w w' := by
  go_enter Try.func17, Try.ntmps17
  go_wp2_with fail
  generalize hW : World.alloc (World.alloc (World.alloc w _) _) _ = V0
  obtain ⟨hb, ha, hc, hd⟩ := three_boxes neg neg' neg'' A A' A'' n c n' c' n'' c'' xs ys zs w V0 h h' h'' hW
  have HB := Lib.hid hb
  clear hW hb h h' h''
  generalize hr : w.heap.size = r0 at *
  have HR := Lib.hid hr
  clear hr
  refine (rvalid_any _ _ _ _ _ xs _ ha.sl (Nat.le_refl _)).mono ?_
  rintro e w1 ⟨rfl, hbn⟩
  have ga := ha.on hbn
  have gc := hc.on hbn
  have gd := hd.on hbn
  have HB' := Lib.hid (show Below r0 w w1 from below_chain HB.out (by have := HR.out; have := HB.out.size; omega) hbn)
  clear ha hc hd HB
  have HB := HB'
  clear HB' hbn
  rw [hv]
  have k0 := ga.bx.c0
  have k1 := ga.bx.c1
  have k2 := gc.bx.c0
  have k3 := gc.bx.c1
  have k4 := gd.bx.c0
  have k5 := gd.bx.c1
  go_wp2_with fail
  clear k0 k1 k2 k3 k4 k5
  refine (works_any _).mono ?_
  rintro e w9 ⟨rfl, hbn⟩
  have ha := ga.on hbn
  have hc := gc.on hbn
  have hd := gd.on hbn
  have HB' := Lib.hid (show Below r0 w w9 from below_chain HB.out (by have := HR.out; have := HB.out.size; omega) hbn)
  clear ga gc gd HB
  have HB := HB'
  clear HB' hbn
  go_wp2
  go_ret
  exact ⟨rfl, HR.out ▸ HB.out⟩

set_option maxHeartbeats 2000000 in
theorem order_bad2 (neg neg' neg'' : Bool) (A A' A'' : Option Addr) (n c n' c' n'' c'' : Nat) (xs ys zs : List Nat) (w : World) (h : Sl w w.heap.size A n c xs) (h' : Sl w w.heap.size A' n' c' ys) (h'' : Sl w w.heap.size A'' n'' c'' zs) (hv : vld neg xs = true) (hv' : vld neg' ys = false) :
    Calls Try.prog 17 #[.agg #[.bool neg, .slice A n c], .agg #[.bool neg', .slice A' n' c'], .agg #[.bool neg'', .slice A'' n'' c'']] w fun e w' => e = .returned (.bool true) ∧ Below w.heap.size w w' := by
  go_enter Try.func17, Try.ntmps17
  go_wp2_with fail
  generalize hW : World.alloc (World.alloc (World.alloc w _) _) _ = V0
  obtain ⟨hb, ha, hc, hd⟩ := three_boxes neg neg' neg'' A A' A'' n c n' c' n'' c'' xs ys zs w V0 h h' h'' hW
  have HB := Lib.hid hb
  clear hW hb h h' h''
  generalize hr : w.heap.size = r0 at *
  have HR := Lib.hid hr
  clear hr
  refine (rvalid_any _ _ _ _ _ xs _ ha.sl (Nat.le_refl _)).mono ?_
  rintro e w1 ⟨rfl, hbn⟩
  have ga := ha.on hbn
  have gc := hc.on hbn
  have gd := hd.on hbn
  have HB' := Lib.hid (show Below r0 w w1 from below_chain HB.out (by have := HR.out; have := HB.out.size; omega) hbn)
  clear ha hc hd HB
  have HB := HB'
  clear HB' hbn
  rw [hv]
  have k0 := ga.bx.c0
  have k1 := ga.bx.c1
  have k2 := gc.bx.c0
  have k3 := gc.bx.c1
  have k4 := gd.bx.c0
  have k5 := gd.bx.c1
  go_wp2_with fail
  clear k0 k1 k2 k3 k4 k5
  refine (rvalid_any _ _ _ _ _ ys _ gc.sl (Nat.le_refl _)).mono ?_
  rintro e w2 ⟨rfl, hbn⟩
  have ha := ga.on hbn
  have hc := gc.on hbn
  have hd := gd.on hbn
  have HB' := Lib.hid (show Below r0 w w2 from below_chain HB.out (by have := HR.out; have := HB.out.size; omega) hbn)
  clear ga gc gd HB
  have HB := HB'
  clear HB' hbn
  rw [hv']
  have k0 := ha.bx.c0
  have k1 := ha.bx.c1
  have k2 := hc.bx.c0
  have k3 := hc.bx.c1
  have k4 := hd.bx.c0
  have k5 := hd.bx.c1
  go_wp2_with fail
  clear k0 k1 k2 k3 k4 k5
  refine (works_any _).mono ?_
  rintro e w9 ⟨rfl, hbn⟩
  have ga := ha.on hbn
  have gc := hc.on hbn
  have gd := hd.on hbn
  have HB' := Lib.hid (show Below r0 w w9 from below_chain HB.out (by have := HR.out; have := HB.out.size; omega) hbn)
  clear ha hc hd HB
  have HB := HB'
  clear HB' hbn
  go_wp2
  go_ret
  exact ⟨rfl, HR.out ▸ HB.out⟩

set_option maxHeartbeats 2000000 in
theorem order_bad3 (neg neg' neg'' : Bool) (A A' A'' : Option Addr) (n c n' c' n'' c'' : Nat) (xs ys zs : List Nat) (w : World) (h : Sl w w.heap.size A n c xs) (h' : Sl w w.heap.size A' n' c' ys) (h'' : Sl w w.heap.size A'' n'' c'' zs) (hv : vld neg xs = true) (hv' : vld neg' ys = true) (hv'' : vld neg'' zs = false) :
    Calls Try.prog 17 #[.agg #[.bool neg, .slice A n c], .agg #[.bool neg', .slice A' n' c'], .agg #[.bool neg'', .slice A'' n'' c'']] w fun e w' => e = .returned (.bool true) ∧ Below w.heap.size w w' := by
  go_enter Try.func17, Try.ntmps17
  go_wp2_with fail
  generalize hW : World.alloc (World.alloc (World.alloc w _) _) _ = V0
  obtain ⟨hb, ha, hc, hd⟩ := three_boxes neg neg' neg'' A A' A'' n c n' c' n'' c'' xs ys zs w V0 h h' h'' hW
  have HB := Lib.hid hb
  clear hW hb h h' h''
  generalize hr : w.heap.size = r0 at *
  have HR := Lib.hid hr
  clear hr
  refine (rvalid_any _ _ _ _ _ xs _ ha.sl (Nat.le_refl _)).mono ?_
  rintro e w1 ⟨rfl, hbn⟩
  have ga := ha.on hbn
  have gc := hc.on hbn
  have gd := hd.on hbn
  have HB' := Lib.hid (show Below r0 w w1 from below_chain HB.out (by have := HR.out; have := HB.out.size; omega) hbn)
  clear ha hc hd HB
  have HB := HB'
  clear HB' hbn
  rw [hv]
  have k0 := ga.bx.c0
  have k1 := ga.bx.c1
  have k2 := gc.bx.c0
  have k3 := gc.bx.c1
  have k4 := gd.bx.c0
  have k5 := gd.bx.c1
  go_wp2_with fail
  clear k0 k1 k2 k3 k4 k5
  refine (rvalid_any _ _ _ _ _ ys _ gc.sl (Nat.le_refl _)).mono ?_
  rintro e w2 ⟨rfl, hbn⟩
  have ha := ga.on hbn
  have hc := gc.on hbn
  have hd := gd.on hbn
  have HB' := Lib.hid (show Below r0 w w2 from below_chain HB.out (by have := HR.out; have := HB.out.size; omega) hbn)
  clear ga gc gd HB
  have HB := HB'
  clear HB' hbn
  rw [hv']
  have k0 := ha.bx.c0
  have k1 := ha.bx.c1
  have k2 := hc.bx.c0
  have k3 := hc.bx.c1
  have k4 := hd.bx.c0
  have k5 := hd.bx.c1
  go_wp2_with fail
  clear k0 k1 k2 k3 k4 k5
  refine (rvalid_any _ _ _ _ _ zs _ hd.sl (Nat.le_refl _)).mono ?_
  rintro e w3 ⟨rfl, hbn⟩
  have ga := ha.on hbn
  have gc := hc.on hbn
  have gd := hd.on hbn
  have HB' := Lib.hid (show Below r0 w w3 from below_chain HB.out (by have := HR.out; have := HB.out.size; omega) hbn)
  clear ha hc hd HB
  have HB := HB'
  clear HB' hbn
  rw [hv'']
  have k0 := ga.bx.c0
  have k1 := ga.bx.c1
  have k2 := gc.bx.c0
  have k3 := gc.bx.c1
  have k4 := gd.bx.c0
  have k5 := gd.bx.c1
  go_wp2_with fail
  clear k0 k1 k2 k3 k4 k5
  refine (works_any _).mono ?_
  rintro e w9 ⟨rfl, hbn⟩
  have ha := ga.on hbn
  have hc := gc.on hbn
  have hd := gd.on hbn
  have HB' := Lib.hid (show Below r0 w w9 from below_chain HB.out (by have := HR.out; have := HB.out.size; omega) hbn)
  clear ga gc gd HB
  have HB := HB'
  clear HB' hbn
  go_wp2
  go_ret
  exact ⟨rfl, HR.out ▸ HB.out⟩


end Go.Proofs.Ytalgcppogjpilaa
