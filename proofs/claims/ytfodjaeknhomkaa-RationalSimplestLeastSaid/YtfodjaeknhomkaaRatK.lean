/-
  Stage 2: Sqrt of the rationals.
-/
import Derived.Test.YtfodjaeknhomkaaRatJ
namespace Go.Proofs.Ytfodjaeknhomkaa
open Go.RowKit
/-- The integer's Sqrt, for a number that is valid and not negative. -/
theorem isqrt_ov {neg : Bool} {A : Option Addr} {n c : Nat} {xs : List Nat} {w : World} {a : Int} (h : Sl w w.heap.size A n c xs) (ho : ov neg xs = some a) (ha : 0 ≤ a) (s : Nat) (h1 : s * s ≤ a.natAbs) (h2 : a.natAbs < (s + 1) * (s + 1)) :
    Calls Try.prog 32 #[.agg #[.bool neg, .slice A n c]] w (RetSq s (decide (s * s = a.natAbs)) 0 w) := by
  have hp := ov_parts ho
  have hs := ov_sign ho
  have hn : neg = false := by rw [← hs]; simp; omega
  subst hn
  have := sqrt_good A n c xs w h hp.2.2 s (s * s) a.natAbs (cmpv (s * s) a.natAbs) (decide (s * s = a.natAbs)) hp.2.1 h1 h2 rfl rfl (by
    rcases Nat.lt_trichotomy (s * s) a.natAbs with l | l | l
    · rw [cmpv_lt l]; simp; omega
    · rw [l, cmpv_eq]; simp
    · omega)
  exact this
theorem sqrt_boxes (q : RVal) (w W : World) (h : q.In w) (hW : ((w.alloc (.cells #[.bool q.g, .slice q.A q.n q.c, .bool q.gd, .slice q.Ad q.nd q.cd] 28)).alloc (.cells #[.bool false, .slice none 0 0, .bool false, .slice none 0 0] 28)).alloc (.cells #[.bool q.g, .slice q.A q.n q.c, .bool q.gd, .slice q.Ad q.nd q.cd] 28) = W) :
    Below w.heap.size w W ∧ Rb W w.heap.size q ∧ Rb W (w.heap.size + 1) RVal.nil ∧ Blk W (w.heap.size + 1 + 1) 28 #[.bool q.g, .slice q.A q.n q.c, .bool q.gd, .slice q.Ad q.nd q.cd] := by
  obtain ⟨b2, h1, h2⟩ := two_rats q RVal.nil w _ h (RVal.nil_in w) rfl
  have h3 := Blk.new ((w.alloc (.cells #[.bool q.g, .slice q.A q.n q.c, .bool q.gd, .slice q.Ad q.nd q.cd] 28)).alloc (.cells #[.bool false, .slice none 0 0, .bool false, .slice none 0 0] 28)) 28 #[.bool q.g, .slice q.A q.n q.c, .bool q.gd, .slice q.Ad q.nd q.cd]
  have b3 := below_new ((w.alloc (.cells #[.bool q.g, .slice q.A q.n q.c, .bool q.gd, .slice q.Ad q.nd q.cd] 28)).alloc (.cells #[.bool false, .slice none 0 0, .bool false, .slice none 0 0] 28)) (.cells #[.bool q.g, .slice q.A q.n q.c, .bool q.gd, .slice q.Ad q.nd q.cd] 28)
  rw [hW] at h3 b3
  exact ⟨below_chain b2 b2.size b3, h1.on b3, h2.on b3, by simpa using h3⟩
/-- What Sqrt hands back. -/
def RetRB (z zd : Int) (b : Bool) (er : Int) (w : World) (e : Ending) (w' : World) : Prop := ∃ q : RVal, e = .returned (.tuple #[.agg #[.bool q.g, .slice q.A q.n q.c, .bool q.gd, .slice q.Ad q.nd q.cd], .bool b, .int .i64 er]) ∧ q.In w' ∧ q.o = some z ∧ q.od = some zd ∧ Below w.heap.size w w'
theorem RetRB.of {z zd er : Int} {b : Bool} {w U : World} {r : Nat} {q : RVal} (h : Rb U r q) (hz : q.o = some z) (hd : q.od = some zd) (hb : Below w.heap.size w U) : RetRB z zd b er w (.returned (.tuple #[.agg #[.bool q.g, .slice q.A q.n q.c, .bool q.gd, .slice q.Ad q.nd q.cd], .bool b, .int .i64 er])) U := ⟨q, rfl, h.sl, hz, hd, hb⟩
set_option maxHeartbeats 1000000 in
theorem rsq_bad (q : RVal) (w : World) (h : q.In w) (hv : (rv q.o q.od).isSome = false) :
    Calls Try.prog 12 #[.agg #[.bool q.g, .slice q.A q.n q.c, .bool q.gd, .slice q.Ad q.nd q.cd]] w (RetRB 0 0 false 1 w) := by
  have HE := Lib.hid hv
  clear hv
  have HS := Lib.hid h
  clear h
  go_enter Try.func12, Try.ntmps12
  go_wp2_with fail
  generalize hW : World.alloc (World.alloc (World.alloc w _) _) _ = V
  obtain ⟨hb, ra, rx, ar⟩ := sqrt_boxes q w V HS.out hW
  have HB := Lib.hid hb
  clear hW hb
  generalize hr : w.heap.size = r at *
  have HRr := Lib.hid hr
  clear hr
  have C := allValid_one q (r + 1 + 1) false V ra.sl ar HE.out
  refine C.mono ?_
  clear C ar
  rintro e w1 ⟨rfl, hb1⟩
  have B1 := Lib.hid (below_chain HB.out (by have := HB.out.size; have := HRr.out; omega) hb1)
  have RA := Lib.hid (ra.on hb1)
  have RX := Lib.hid (rx.on hb1)
  clear hb1 ra rx
  have f0 := RX.out.f 0
  have f1 := RX.out.f 1
  have f2 := RX.out.f 2
  have f3 := RX.out.f 3
  have q0 := RX.out.c0
  have q1 := RX.out.c1
  have q2 := RX.out.c2
  have q3 := RX.out.c3
  simp only [RVal.nil] at q0 q1 q2 q3
  go_wp2
  generalize hU : World.setCell (World.setCell (World.setCell (World.setCell w1 _ _) _ _) _ _) _ _ = U
  have RU' := (Rb.put RX.out (RVal.nil_in w1))
  have RU : Rb U (r + 1) RVal.nil := by rw [← hU]; exact RU'
  have HU : Below w.heap.size w U := by rw [← hU, HRr.out]; exact (below_put4 B1.out (show r ≤ r + 1 by omega) _ _ _ _)
  have j0 := RU.c0
  have j1 := RU.c1
  have j2 := RU.c2
  have j3 := RU.c3
  refine bodyPost_ret (v := .tuple #[.agg #[.bool RVal.nil.g, .slice RVal.nil.A RVal.nil.n RVal.nil.c, .bool RVal.nil.gd, .slice RVal.nil.Ad RVal.nil.nd RVal.nil.cd], .bool false, .int .i64 1]) (by simp [results, Try.results12, go_sem, j0, j1, j2, j3]) rfl ?_
  exact RetRB.of RU rfl rfl HU
set_option maxHeartbeats 1000000 in
theorem rsq_neg (q : RVal) (w : World) (h : q.In w) (x : Rat) (hx : rv q.o q.od = some x) (hn : x.num < 0) :
    Calls Try.prog 12 #[.agg #[.bool q.g, .slice q.A q.n q.c, .bool q.gd, .slice q.Ad q.nd q.cd]] w (RetRB 0 0 false 5 w) := by
  have HE := Lib.hid (isSome_of hx)
  have hg : q.g = true := by
    have := ov_sign (rv_some hx).1
    rw [← this]; simpa using hn
  have HGq := Lib.hid hg
  clear hx hn hg
  have HS := Lib.hid h
  clear h
  go_enter Try.func12, Try.ntmps12
  go_wp2_with fail
  generalize hW : World.alloc (World.alloc (World.alloc w _) _) _ = V
  obtain ⟨hb, ra, rx, ar⟩ := sqrt_boxes q w V HS.out hW
  have HB := Lib.hid hb
  clear hW hb
  generalize hr : w.heap.size = r at *
  have HRr := Lib.hid hr
  clear hr
  have C := allValid_one q (r + 1 + 1) true V ra.sl ar HE.out
  refine C.mono ?_
  clear C ar
  rintro e w1 ⟨rfl, hb1⟩
  have B1 := Lib.hid (below_chain HB.out (by have := HB.out.size; have := HRr.out; omega) hb1)
  have RA := Lib.hid (ra.on hb1)
  have RX := Lib.hid (rx.on hb1)
  clear hb1 ra rx
  have k0 := RA.out.c0
  rw [HGq.out] at k0
  have f0 := RX.out.f 0
  have f1 := RX.out.f 1
  have f2 := RX.out.f 2
  have f3 := RX.out.f 3
  have q0 := RX.out.c0
  have q1 := RX.out.c1
  have q2 := RX.out.c2
  have q3 := RX.out.c3
  simp only [RVal.nil] at q0 q1 q2 q3
  go_wp2
  generalize hU : World.setCell (World.setCell (World.setCell (World.setCell w1 _ _) _ _) _ _) _ _ = U
  have RU' := (Rb.put RX.out (RVal.nil_in w1))
  have RU : Rb U (r + 1) RVal.nil := by rw [← hU]; exact RU'
  have HU : Below w.heap.size w U := by rw [← hU, HRr.out]; exact (below_put4 B1.out (show r ≤ r + 1 by omega) _ _ _ _)
  have j0 := RU.c0
  have j1 := RU.c1
  have j2 := RU.c2
  have j3 := RU.c3
  refine bodyPost_ret (v := .tuple #[.agg #[.bool RVal.nil.g, .slice RVal.nil.A RVal.nil.n RVal.nil.c, .bool RVal.nil.gd, .slice RVal.nil.Ad RVal.nil.nd RVal.nil.cd], .bool false, .int .i64 5]) (by simp [results, Try.results12, go_sem, j0, j1, j2, j3]) rfl ?_
  exact RetRB.of RU rfl rfl HU
set_option maxHeartbeats 1000000 in
theorem rsq_no1 (q : RVal) (w : World) (h : q.In w) (x : Rat) (s : Nat) (hx : rv q.o q.od = some x) (hn : 0 ≤ x.num) (h1 : s * s ≤ x.num.natAbs) (h2 : x.num.natAbs < (s + 1) * (s + 1)) (hb : s * s ≠ x.num.natAbs) :
    Calls Try.prog 12 #[.agg #[.bool q.g, .slice q.A q.n q.c, .bool q.gd, .slice q.Ad q.nd q.cd]] w (RetRB 0 0 false 0 w) := by
  have HE := Lib.hid (isSome_of hx)
  have HO := Lib.hid (rv_some hx)
  have hg : q.g = false := by
    have := ov_sign (rv_some hx).1
    rw [← this]; simpa using hn
  have HGq := Lib.hid hg
  clear hg
  have HQ1 := Lib.hid (And.intro hn (And.intro h1 h2))
  have B1v := Lib.hid (show decide (s * s = x.num.natAbs) = false from decide_eq_false hb)
  clear hx hn h1 h2 hb
  have HS := Lib.hid h
  clear h
  go_enter Try.func12, Try.ntmps12
  go_wp2_with fail
  generalize hW : World.alloc (World.alloc (World.alloc w _) _) _ = V
  obtain ⟨hb, ra, rx, ar⟩ := sqrt_boxes q w V HS.out hW
  have HB := Lib.hid hb
  clear hW hb
  generalize hr : w.heap.size = r at *
  have HRr := Lib.hid hr
  clear hr
  have C := allValid_one q (r + 1 + 1) true V ra.sl ar HE.out
  refine C.mono ?_
  clear C ar
  rintro e w1 ⟨rfl, hb1⟩
  have B1 := Lib.hid (below_chain HB.out (by have := HB.out.size; have := HRr.out; omega) hb1)
  have RA := Lib.hid (ra.on hb1)
  have RX := Lib.hid (rx.on hb1)
  clear hb1 ra rx
  have k0 := RA.out.c0
  have k1 := RA.out.c1
  rw [HGq.out] at k0
  go_wp2_with fail
  have C := isqrt_ov (neg := q.g) RA.out.sl.1 HO.out.1 HQ1.out.1 s HQ1.out.2.1 HQ1.out.2.2
  rw [HGq.out, B1v.out] at C
  refine C.mono ?_
  clear C k0 k1
  rintro e w2 ⟨A2, n2, c2, xs2, rfl, hs2, hx2, hv2, hb2⟩
  have B2 := Lib.hid (below_chain B1.out (by have := B1.out.size; have := HRr.out; omega) hb2)
  have RA2 := Lib.hid (RA.out.on hb2)
  have RX2 := Lib.hid (RX.out.on hb2)
  have G2 := Lib.hid (And.intro hs2 (And.intro hx2 hv2))
  clear hb2 hs2 hx2 hv2 RA RX B1
  have f0 := RX2.out.f 0
  have f1 := RX2.out.f 1
  have f2 := RX2.out.f 2
  have f3 := RX2.out.f 3
  have q0 := RX2.out.c0
  have q1 := RX2.out.c1
  have q2 := RX2.out.c2
  have q3 := RX2.out.c3
  simp only [RVal.nil] at q0 q1 q2 q3
  have ylt := RX2.out.lt
  have yl2 := Nat.lt_of_succ_lt RX2.out.lt
  go_wp2
  generalize hU : World.alloc (World.setCell (World.setCell (World.setCell (World.setCell w2 _ _) _ _) _ _) _ _) _ = U
  have RU' := (Rb.alloc (Rb.put RX2.out (RVal.nil_in w2)) (.cells #[.bool (decide ((s : Int) < 0)), .slice A2 n2 c2] 26))
  have RU : Rb U (r + 1) RVal.nil := by rw [← hU]; exact RU'
  have HU : Below w.heap.size w U := by rw [← hU, HRr.out]; exact (below_chain (below_put4 B2.out (show r ≤ r + 1 by omega) _ _ _ _) (Nat.le_trans (HRr.out ▸ B2.out.size) (by simp [put4_size]; try omega)) (below_new _ (.cells #[.bool (decide ((s : Int) < 0)), .slice A2 n2 c2] 26)))
  have j0 := RU.c0
  have j1 := RU.c1
  have j2 := RU.c2
  have j3 := RU.c3
  refine bodyPost_ret (v := .tuple #[.agg #[.bool RVal.nil.g, .slice RVal.nil.A RVal.nil.n RVal.nil.c, .bool RVal.nil.gd, .slice RVal.nil.Ad RVal.nil.nd RVal.nil.cd], .bool false, .int .i64 0]) (by simp [results, Try.results12, go_sem, j0, j1, j2, j3]) rfl ?_
  exact RetRB.of RU rfl rfl HU
set_option maxHeartbeats 1000000 in
theorem rsq_no2 (q : RVal) (w : World) (h : q.In w) (x : Rat) (s t : Nat) (hx : rv q.o q.od = some x) (hn : 0 ≤ x.num) (h1 : s * s ≤ x.num.natAbs) (h2 : x.num.natAbs < (s + 1) * (s + 1)) (t1 : t * t ≤ x.den) (t2 : x.den < (t + 1) * (t + 1)) (hb : s * s = x.num.natAbs) (hc : t * t ≠ x.den) :
    Calls Try.prog 12 #[.agg #[.bool q.g, .slice q.A q.n q.c, .bool q.gd, .slice q.Ad q.nd q.cd]] w (RetRB 0 0 false 0 w) := by
  have HE := Lib.hid (isSome_of hx)
  have HO := Lib.hid (rv_some hx)
  have hg : q.g = false := by
    have := ov_sign (rv_some hx).1
    rw [← this]; simpa using hn
  have HGq := Lib.hid hg
  clear hg
  have HQ1 := Lib.hid (And.intro hn (And.intro h1 h2))
  have HQ2 := Lib.hid (show 0 ≤ (x.den : Int) ∧ t * t ≤ (x.den : Int).natAbs ∧ (x.den : Int).natAbs < (t + 1) * (t + 1) from ⟨by omega, by rw [Int.natAbs_natCast]; exact t1, by rw [Int.natAbs_natCast]; exact t2⟩)
  have B1v := Lib.hid (show decide (s * s = x.num.natAbs) = true from decide_eq_true hb)
  have B2v := Lib.hid (show decide (t * t = (x.den : Int).natAbs) = false by rw [Int.natAbs_natCast]; exact decide_eq_false hc)
  clear hx hn h1 h2 t1 t2 hb hc
  have HS := Lib.hid h
  clear h
  go_enter Try.func12, Try.ntmps12
  go_wp2_with fail
  generalize hW : World.alloc (World.alloc (World.alloc w _) _) _ = V
  obtain ⟨hb, ra, rx, ar⟩ := sqrt_boxes q w V HS.out hW
  have HB := Lib.hid hb
  clear hW hb
  generalize hr : w.heap.size = r at *
  have HRr := Lib.hid hr
  clear hr
  have C := allValid_one q (r + 1 + 1) true V ra.sl ar HE.out
  refine C.mono ?_
  clear C ar
  rintro e w1 ⟨rfl, hb1⟩
  have B1 := Lib.hid (below_chain HB.out (by have := HB.out.size; have := HRr.out; omega) hb1)
  have RA := Lib.hid (ra.on hb1)
  have RX := Lib.hid (rx.on hb1)
  clear hb1 ra rx
  have k0 := RA.out.c0
  have k1 := RA.out.c1
  rw [HGq.out] at k0
  go_wp2_with fail
  have C := isqrt_ov (neg := q.g) RA.out.sl.1 HO.out.1 HQ1.out.1 s HQ1.out.2.1 HQ1.out.2.2
  rw [HGq.out, B1v.out] at C
  refine C.mono ?_
  clear C k0 k1
  rintro e w2 ⟨A2, n2, c2, xs2, rfl, hs2, hx2, hv2, hb2⟩
  have B2 := Lib.hid (below_chain B1.out (by have := B1.out.size; have := HRr.out; omega) hb2)
  have RA2 := Lib.hid (RA.out.on hb2)
  have RX2 := Lib.hid (RX.out.on hb2)
  have G2 := Lib.hid (And.intro hs2 (And.intro hx2 hv2))
  clear hb2 hs2 hx2 hv2 RA RX B1
  have k2 := RA2.out.c2
  have k3 := RA2.out.c3
  have klt := RA2.out.lt
  go_wp2_with fail
  generalize hW : World.alloc w2 _ = V2
  have hn2 := below_new w2 (.cells #[.bool (decide ((s : Int) < 0)), .slice A2 n2 c2] 26)
  have hbx := Bx.new w2 (decide ((s : Int) < 0)) A2 n2 c2
  rw [hW] at hn2 hbx
  have B3 := Lib.hid (below_chain B2.out (by have := B2.out.size; have := HRr.out; omega) hn2)
  have RX3 := Lib.hid (RX2.out.on hn2)
  have BX3 : Hid (Ba V2 w2.heap.size (decide ((s : Int) < 0)) A2 n2 c2 xs2) := Lib.hid ⟨hbx, G2.out.1.on hn2⟩
  have C := isqrt_ov (neg := q.gd) (RA2.out.sl.2.on hn2) HO.out.2 HQ2.out.1 t HQ2.out.2.1 HQ2.out.2.2
  rw [B2v.out] at C
  refine C.mono ?_
  clear C hn2 hW k2 k3 klt hbx
  rintro e w4 ⟨A4, n4, c4, xs4, rfl, hs4, hx4, hv4, hb4⟩
  have B4 := Lib.hid (below_chain B3.out (by have := B3.out.size; have := HRr.out; omega) hb4)
  have RX4 := Lib.hid (RX3.out.on hb4)
  have BX4 := Lib.hid (BX3.out.on hb4)
  have G4 := Lib.hid (And.intro hs4 (And.intro hx4 hv4))
  have os : r + 1 ≠ w2.heap.size := by have := RX2.out.lt; omega
  have os' := os.symm
  clear hb4 hs4 hx4 hv4 B3 RX3 BX3
  have f0 := RX4.out.f 0
  have f1 := RX4.out.f 1
  have f2 := RX4.out.f 2
  have f3 := RX4.out.f 3
  have q0 := RX4.out.c0
  have q1 := RX4.out.c1
  have q2 := RX4.out.c2
  have q3 := RX4.out.c3
  simp only [RVal.nil] at q0 q1 q2 q3
  have ylt := RX4.out.lt
  have yl2 := Nat.lt_of_succ_lt RX4.out.lt
  go_wp2
  generalize hU : World.alloc (World.setCell (World.setCell (World.setCell (World.setCell w4 _ _) _ _) _ _) _ _) _ = U
  have RU' := (Rb.alloc (Rb.put RX4.out (RVal.nil_in w4)) (.cells #[.bool (decide ((t : Int) < 0)), .slice A4 n4 c4] 26))
  have RU : Rb U (r + 1) RVal.nil := by rw [← hU]; exact RU'
  have HU : Below w.heap.size w U := by rw [← hU, HRr.out]; exact (below_chain (below_put4 B4.out (show r ≤ r + 1 by omega) _ _ _ _) (Nat.le_trans (HRr.out ▸ B4.out.size) (by simp [put4_size]; try omega)) (below_new _ (.cells #[.bool (decide ((t : Int) < 0)), .slice A4 n4 c4] 26)))
  have j0 := RU.c0
  have j1 := RU.c1
  have j2 := RU.c2
  have j3 := RU.c3
  refine bodyPost_ret (v := .tuple #[.agg #[.bool RVal.nil.g, .slice RVal.nil.A RVal.nil.n RVal.nil.c, .bool RVal.nil.gd, .slice RVal.nil.Ad RVal.nil.nd RVal.nil.cd], .bool false, .int .i64 0]) (by simp [results, Try.results12, go_sem, j0, j1, j2, j3]) rfl ?_
  exact RetRB.of RU rfl rfl HU
set_option maxHeartbeats 1000000 in
theorem rsq_yes (q : RVal) (w : World) (h : q.In w) (x : Rat) (s t : Nat) (hx : rv q.o q.od = some x) (hn : 0 ≤ x.num) (h1 : s * s ≤ x.num.natAbs) (h2 : x.num.natAbs < (s + 1) * (s + 1)) (t1 : t * t ≤ x.den) (t2 : x.den < (t + 1) * (t + 1)) (hb : s * s = x.num.natAbs) (hc : t * t = x.den) :
    Calls Try.prog 12 #[.agg #[.bool q.g, .slice q.A q.n q.c, .bool q.gd, .slice q.Ad q.nd q.cd]] w (RetRB s t true 0 w) := by
  have HE := Lib.hid (isSome_of hx)
  have HO := Lib.hid (rv_some hx)
  have hg : q.g = false := by
    have := ov_sign (rv_some hx).1
    rw [← this]; simpa using hn
  have HGq := Lib.hid hg
  clear hg
  have HQ1 := Lib.hid (And.intro hn (And.intro h1 h2))
  have HQ2 := Lib.hid (show 0 ≤ (x.den : Int) ∧ t * t ≤ (x.den : Int).natAbs ∧ (x.den : Int).natAbs < (t + 1) * (t + 1) from ⟨by omega, by rw [Int.natAbs_natCast]; exact t1, by rw [Int.natAbs_natCast]; exact t2⟩)
  have B1v := Lib.hid (show decide (s * s = x.num.natAbs) = true from decide_eq_true hb)
  have B2v := Lib.hid (show decide (t * t = (x.den : Int).natAbs) = true by rw [Int.natAbs_natCast]; exact decide_eq_true hc)
  have HBg := Lib.hid (show s < BIG ∧ t < BIG by
    have l1 := ov_lt h.1.ok (rv_some hx).1
    have l2 := ov_lt h.2.ok (rv_some hx).2
    rw [Int.natAbs_natCast] at l2
    have e1 : s ≤ s * s := Nat.le_mul_self s
    have e2 : t ≤ t * t := Nat.le_mul_self t
    omega)
  clear hx hn h1 h2 t1 t2 hb hc
  have HS := Lib.hid h
  clear h
  go_enter Try.func12, Try.ntmps12
  go_wp2_with fail
  generalize hW : World.alloc (World.alloc (World.alloc w _) _) _ = V
  obtain ⟨hb, ra, rx, ar⟩ := sqrt_boxes q w V HS.out hW
  have HB := Lib.hid hb
  clear hW hb
  generalize hr : w.heap.size = r at *
  have HRr := Lib.hid hr
  clear hr
  have C := allValid_one q (r + 1 + 1) true V ra.sl ar HE.out
  refine C.mono ?_
  clear C ar
  rintro e w1 ⟨rfl, hb1⟩
  have B1 := Lib.hid (below_chain HB.out (by have := HB.out.size; have := HRr.out; omega) hb1)
  have RA := Lib.hid (ra.on hb1)
  have RX := Lib.hid (rx.on hb1)
  clear hb1 ra rx
  have k0 := RA.out.c0
  have k1 := RA.out.c1
  rw [HGq.out] at k0
  go_wp2_with fail
  have C := isqrt_ov (neg := q.g) RA.out.sl.1 HO.out.1 HQ1.out.1 s HQ1.out.2.1 HQ1.out.2.2
  rw [HGq.out, B1v.out] at C
  refine C.mono ?_
  clear C k0 k1
  rintro e w2 ⟨A2, n2, c2, xs2, rfl, hs2, hx2, hv2, hb2⟩
  have B2 := Lib.hid (below_chain B1.out (by have := B1.out.size; have := HRr.out; omega) hb2)
  have RA2 := Lib.hid (RA.out.on hb2)
  have RX2 := Lib.hid (RX.out.on hb2)
  have G2 := Lib.hid (And.intro hs2 (And.intro hx2 hv2))
  clear hb2 hs2 hx2 hv2 RA RX B1
  have k2 := RA2.out.c2
  have k3 := RA2.out.c3
  have klt := RA2.out.lt
  go_wp2_with fail
  generalize hW : World.alloc w2 _ = V2
  have hn2 := below_new w2 (.cells #[.bool (decide ((s : Int) < 0)), .slice A2 n2 c2] 26)
  have hbx := Bx.new w2 (decide ((s : Int) < 0)) A2 n2 c2
  rw [hW] at hn2 hbx
  have B3 := Lib.hid (below_chain B2.out (by have := B2.out.size; have := HRr.out; omega) hn2)
  have RX3 := Lib.hid (RX2.out.on hn2)
  have BX3 : Hid (Ba V2 w2.heap.size (decide ((s : Int) < 0)) A2 n2 c2 xs2) := Lib.hid ⟨hbx, G2.out.1.on hn2⟩
  have C := isqrt_ov (neg := q.gd) (RA2.out.sl.2.on hn2) HO.out.2 HQ2.out.1 t HQ2.out.2.1 HQ2.out.2.2
  rw [B2v.out] at C
  refine C.mono ?_
  clear C hn2 hW k2 k3 klt hbx
  rintro e w4 ⟨A4, n4, c4, xs4, rfl, hs4, hx4, hv4, hb4⟩
  have B4 := Lib.hid (below_chain B3.out (by have := B3.out.size; have := HRr.out; omega) hb4)
  have RX4 := Lib.hid (RX3.out.on hb4)
  have BX4 := Lib.hid (BX3.out.on hb4)
  have G4 := Lib.hid (And.intro hs4 (And.intro hx4 hv4))
  have os : r + 1 ≠ w2.heap.size := by have := RX2.out.lt; omega
  have os' := os.symm
  clear hb4 hs4 hx4 hv4 B3 RX3 BX3
  have kb0 := BX4.out.bx.c0
  have kb1 := BX4.out.bx.c1
  have kbl := BX4.out.bx.lt
  have f0 := RX4.out.f 0
  have f1 := RX4.out.f 1
  have f2 := RX4.out.f 2
  have f3 := RX4.out.f 3
  have q0 := RX4.out.c0
  have q1 := RX4.out.c1
  have q2 := RX4.out.c2
  have q3 := RX4.out.c3
  simp only [RVal.nil] at q0 q1 q2 q3
  have ylt := RX4.out.lt
  have yl2 := Nat.lt_of_succ_lt RX4.out.lt
  go_wp2
  obtain ⟨q9, hq9⟩ : ∃ q9 : RVal, q9 = (⟨decide ((s : Int) < 0), A2, n2, c2, xs2, decide ((t : Int) < 0), A4, n4, c4, xs4⟩ : RVal) := ⟨_, rfl⟩
  have HQ9 : Hid (q9.In w4 ∧ q9.o = some (s : Int) ∧ q9.od = some (t : Int)) := by
    subst hq9
    exact Lib.hid ⟨⟨BX4.out.sl, G4.out.1⟩, ov_res BX4.out.sl.ok G2.out.2.1 G2.out.2.2 (by rw [Int.natAbs_natCast]; exact HBg.out.1), ov_res G4.out.1.ok G4.out.2.1 G4.out.2.2 (by rw [Int.natAbs_natCast]; exact HBg.out.2)⟩
  have HG9 : Hid (q9.g = decide ((s : Int) < 0) ∧ q9.A = A2 ∧ q9.n = n2 ∧ q9.c = c2 ∧ q9.gd = decide ((t : Int) < 0) ∧ q9.Ad = A4 ∧ q9.nd = n4 ∧ q9.cd = c4) := by subst hq9; exact Lib.hid ⟨rfl, rfl, rfl, rfl, rfl, rfl, rfl, rfl⟩
  clear hq9
  obtain ⟨e1, e2, e3, e4, e5, e6, e7, e8⟩ := HG9.out
  rw [← e1, ← e2, ← e3, ← e4, ← e5, ← e6, ← e7, ← e8]
  generalize hU : World.alloc (World.setCell (World.setCell (World.setCell (World.setCell w4 _ _) _ _) _ _) _ _) _ = U
  have RU' := (Rb.alloc (Rb.put RX4.out HQ9.out.1) (.cells #[.bool q9.gd, .slice q9.Ad q9.nd q9.cd] 26))
  have RU : Rb U (r + 1) q9 := by rw [← hU]; exact RU'
  have HU : Below w.heap.size w U := by rw [← hU, HRr.out]; exact (below_chain (below_put4 B4.out (show r ≤ r + 1 by omega) _ _ _ _) (Nat.le_trans (HRr.out ▸ B4.out.size) (by simp [put4_size]; try omega)) (below_new _ (.cells #[.bool q9.gd, .slice q9.Ad q9.nd q9.cd] 26)))
  have j0 := RU.c0
  have j1 := RU.c1
  have j2 := RU.c2
  have j3 := RU.c3
  refine bodyPost_ret (v := .tuple #[.agg #[.bool q9.g, .slice q9.A q9.n q9.c, .bool q9.gd, .slice q9.Ad q9.nd q9.cd], .bool true, .int .i64 0]) (by simp [results, Try.results12, go_sem, j0, j1, j2, j3]) rfl ?_
  exact RetRB.of RU HQ9.out.2.1 HQ9.out.2.2 HU
end Go.Proofs.Ytfodjaeknhomkaa
