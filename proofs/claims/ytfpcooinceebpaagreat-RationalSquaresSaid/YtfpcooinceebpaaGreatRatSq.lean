/-
  Stage 2: RationalSquares, its walk.
-/
import Derived.Test.YtfpcooinceebpaaGreatRatSqA
namespace Go.Proofs.YtfpcooinceebpaaGreat
open Go.RowKit

theorem one_rat (a : RVal) (w W : World) (h : a.In w) (hW : w.alloc (.cells #[.bool a.g, .slice a.A a.n a.c, .bool a.gd, .slice a.Ad a.nd a.cd] 27) = W) : Below w.heap.size w W ∧ Rb W w.heap.size a := by
  have hn := below_new w (.cells #[.bool a.g, .slice a.A a.n a.c, .bool a.gd, .slice a.Ad a.nd a.cd] 27)
  have hx := Rb.new h
  rw [hW] at hn hx
  exact ⟨hn, hx⟩

set_option maxRecDepth 20000 in
set_option maxHeartbeats 4000000 in
theorem sq_no (a : RVal) (w : World) (h1 : a.In w) (hv : vok a a a 60 = false) :
    Calls Tryz.prog 11 #[.agg #[.bool a.g, .slice a.A a.n a.c, .bool a.gd, .slice a.Ad a.nd a.cd]] w fun e w' => e = .returned (.bool true) ∧ Below w.heap.size w w' := by
  have HV := Lib.hid hv
  have HS := Lib.hid h1
  clear h1 hv
  go_enter Tryz.func11, Tryz.ntmps11
  go_wp2_with fail
  generalize hW : World.alloc w _ = V
  obtain ⟨hb, ra⟩ := one_rat a w V HS.out hW
  have B_0 : Hid (Below w.heap.size w V) := Lib.hid (hb)
  have Xa_0 := Lib.hid ra
  clear hb ra hW
  generalize hr : w.heap.size = r at *
  have HRr := Lib.hid hr
  clear hr
  refine (sane V).mono ?_
  rintro e w1 ⟨rfl, hb⟩
  have B_1 := Lib.hid (below_chain B_0.out (by have := B_0.out.size; have := HRr.out; omega) hb)
  have Xa_1 : Hid (Rb w1 r a) := Lib.hid (Xa_0.out.on hb)
  clear hb B_0 Xa_0
  have ka0 := Xa_1.out.c0
  have ka1 := Xa_1.out.c1
  have ka2 := Xa_1.out.c2
  have ka3 := Xa_1.out.c3
  go_wp2_with fail
  have C := val_any a a a 60 w1 Xa_1.out.sl Xa_1.out.sl Xa_1.out.sl
  rw [HV.out] at C
  refine C.mono ?_
  clear C
  clear ka0 ka1 ka2 ka3
  rintro e w2 ⟨rfl, hb⟩
  have B_2 := Lib.hid (below_chain B_1.out (by have := B_1.out.size; have := HRr.out; omega) hb)
  have Xa_2 : Hid (Rb w2 r a) := Lib.hid (Xa_1.out.on hb)
  clear hb B_1 Xa_1
  go_wp2
  go_ret
  exact ⟨rfl, by rw [HRr.out]; exact B_2.out⟩

set_option maxRecDepth 20000 in
set_option maxHeartbeats 4000000 in
theorem sq_neg (a : RVal) (w : World) (h1 : a.In w) (x : Rat) (hx : rv a.o a.od = some x) (hB : Bd 1920 x) (hv : vok a a a 60 = true) (m : Rat) (hM : (x.num.natAbs : Int) = m.num ∧ x.den = m.den ∧ Bd 1920 m ∧ True) (sm su sx : Int) (hG : m.num.sign = sm ∧ decide (sm < 0) = false ∧ (m + x).num.sign = su ∧ su = 0 ∧ True ∧ x.num.sign = sx ∧ decide (sx < 0) = true) (hX : x.num < 0) :
    Calls Tryz.prog 11 #[.agg #[.bool a.g, .slice a.A a.n a.c, .bool a.gd, .slice a.Ad a.nd a.cd]] w fun e w' => e = .returned (.bool true) ∧ Below w.heap.size w w' := by
  have Va := Lib.hid hx
  have HB := Lib.hid hB
  have HV := Lib.hid hv
  have HM := Lib.hid hM
  have HG := Lib.hid hG
  have HX := Lib.hid hX
  have HS := Lib.hid h1
  clear h1 hx hB hv hM hG hX
  go_enter Tryz.func11, Tryz.ntmps11
  go_wp2_with fail
  generalize hW : World.alloc w _ = V
  obtain ⟨hb, ra⟩ := one_rat a w V HS.out hW
  have B_0 : Hid (Below w.heap.size w V) := Lib.hid (hb)
  have Xa_0 := Lib.hid ra
  clear hb ra hW
  generalize hr : w.heap.size = r at *
  have HRr := Lib.hid hr
  clear hr
  refine (sane V).mono ?_
  rintro e w1 ⟨rfl, hb⟩
  have B_1 := Lib.hid (below_chain B_0.out (by have := B_0.out.size; have := HRr.out; omega) hb)
  have Xa_1 : Hid (Rb w1 r a) := Lib.hid (Xa_0.out.on hb)
  clear hb B_0 Xa_0
  have ka0 := Xa_1.out.c0
  have ka1 := Xa_1.out.c1
  have ka2 := Xa_1.out.c2
  have ka3 := Xa_1.out.c3
  go_wp2_with fail
  have C := val_any a a a 60 w1 Xa_1.out.sl Xa_1.out.sl Xa_1.out.sl
  rw [HV.out] at C
  refine C.mono ?_
  clear C
  clear ka0 ka1 ka2 ka3
  rintro e w2 ⟨rfl, hb⟩
  have B_2 := Lib.hid (below_chain B_1.out (by have := B_1.out.size; have := HRr.out; omega) hb)
  have Xa_2 : Hid (Rb w2 r a) := Lib.hid (Xa_1.out.on hb)
  clear hb B_1 Xa_1
  have ka0 := Xa_2.out.c0
  have ka1 := Xa_2.out.c1
  have ka2 := Xa_2.out.c2
  have ka3 := Xa_2.out.c3
  go_wp2_with fail
  refine (mul_v Xa_2.out.sl Xa_2.out.sl Va.out Va.out HB.out HB.out (by decide)).mono ?_
  clear ka0 ka1 ka2 ka3
  rintro e w3 ⟨ts, rfl, hi, hv, hb⟩
  have B_3 := Lib.hid (below_chain B_2.out (by have := B_2.out.size; have := HRr.out; omega) hb)
  have Xa_3 : Hid (Rb w3 r a) := Lib.hid (Xa_2.out.on hb)
  have Is_3 : Hid (ts.In w3) := Lib.hid (hi)
  clear hb B_2 Xa_2 hi
  have Vs := Lib.hid hv
  clear hv
  go_wp2_with fail
  generalize hW : World.alloc w3 _ = V4
  have hn := below_new w3 (.cells #[.bool ts.g, .slice ts.A ts.n ts.c, .bool ts.gd, .slice ts.Ad ts.nd ts.cd] 27)
  have hx := Rb.new Is_3.out
  rw [hW] at hn hx
  have B_4 := Lib.hid (below_chain B_3.out (by have := B_3.out.size; have := HRr.out; omega) hn)
  have Xa_4 : Hid (Rb V4 r a) := Lib.hid (Xa_3.out.on hn)
  have Is_4 : Hid (ts.In V4) := Lib.hid (Is_3.out.on hn)
  have Xs_4 := Lib.hid hx
  clear hx hn hW B_3 Xa_3 Is_3 Is_4
  generalize w3.heap.size = b1 at *
  refine (sqrt_sq_v Xs_4.out.sl Vs.out m HM.out.1 HM.out.2.1).mono ?_
  rintro e w5 ⟨tr, rfl, hi, hv, hb⟩
  have B_5 := Lib.hid (below_chain B_4.out (by have := B_4.out.size; have := HRr.out; omega) hb)
  have Xa_5 : Hid (Rb w5 r a) := Lib.hid (Xa_4.out.on hb)
  have Xs_5 : Hid (Rb w5 b1 ts) := Lib.hid (Xs_4.out.on hb)
  have Ir_5 : Hid (tr.In w5) := Lib.hid (hi)
  clear hb B_4 Xa_4 Xs_4 hi
  have Vr := Lib.hid hv
  clear hv
  go_wp2_with fail
  generalize hW : World.alloc w5 _ = V6
  have hn := below_new w5 (.cells #[.bool tr.g, .slice tr.A tr.n tr.c, .bool tr.gd, .slice tr.Ad tr.nd tr.cd] 27)
  have hx := Rb.new Ir_5.out
  rw [hW] at hn hx
  have B_6 := Lib.hid (below_chain B_5.out (by have := B_5.out.size; have := HRr.out; omega) hn)
  have Xa_6 : Hid (Rb V6 r a) := Lib.hid (Xa_5.out.on hn)
  have Xs_6 : Hid (Rb V6 b1 ts) := Lib.hid (Xs_5.out.on hn)
  have Ir_6 : Hid (tr.In V6) := Lib.hid (Ir_5.out.on hn)
  have Xr_6 := Lib.hid hx
  clear hx hn hW B_5 Xa_5 Xs_5 Ir_5 Ir_6
  generalize w5.heap.size = b2 at *
  refine (sign_q Xr_6.out.sl Vr.out).mono ?_
  rintro e w7 ⟨rfl, hb⟩
  have B_7 := Lib.hid (below_chain B_6.out (by have := B_6.out.size; have := HRr.out; omega) hb)
  have Xa_7 : Hid (Rb w7 r a) := Lib.hid (Xa_6.out.on hb)
  have Xs_7 : Hid (Rb w7 b1 ts) := Lib.hid (Xs_6.out.on hb)
  have Xr_7 : Hid (Rb w7 b2 tr) := Lib.hid (Xr_6.out.on hb)
  clear hb B_6 Xa_6 Xs_6 Xr_6
  rw [show m.num.sign = sm from HG.out.1]
  have g1 : decide (sm < 0) = false := HG.out.2.1
  have kr0 := Xr_7.out.c0
  have kr1 := Xr_7.out.c1
  have kr2 := Xr_7.out.c2
  have kr3 := Xr_7.out.c3
  have ka0 := Xa_7.out.c0
  have ka1 := Xa_7.out.c1
  have ka2 := Xa_7.out.c2
  have ka3 := Xa_7.out.c3
  go_wp2_with fail
  clear g1
  refine (add_v Xr_7.out.sl Xa_7.out.sl Vr.out Va.out HM.out.2.2.1 HB.out (by decide)).mono ?_
  clear kr0 kr1 kr2 kr3 ka0 ka1 ka2 ka3
  rintro e w8 ⟨tu, rfl, hi, hv, hb⟩
  have B_8 := Lib.hid (below_chain B_7.out (by have := B_7.out.size; have := HRr.out; omega) hb)
  have Xa_8 : Hid (Rb w8 r a) := Lib.hid (Xa_7.out.on hb)
  have Xs_8 : Hid (Rb w8 b1 ts) := Lib.hid (Xs_7.out.on hb)
  have Xr_8 : Hid (Rb w8 b2 tr) := Lib.hid (Xr_7.out.on hb)
  have Iu_8 : Hid (tu.In w8) := Lib.hid (hi)
  clear hb B_7 Xa_7 Xs_7 Xr_7 hi
  have Vu := Lib.hid hv
  clear hv
  have kr0 := (Xr_8.out.on (below_new w8 (.cells #[.bool tu.g, .slice tu.A tu.n tu.c, .bool tu.gd, .slice tu.Ad tu.nd tu.cd] 27))).c0
  have kr1 := (Xr_8.out.on (below_new w8 (.cells #[.bool tu.g, .slice tu.A tu.n tu.c, .bool tu.gd, .slice tu.Ad tu.nd tu.cd] 27))).c1
  have kr2 := (Xr_8.out.on (below_new w8 (.cells #[.bool tu.g, .slice tu.A tu.n tu.c, .bool tu.gd, .slice tu.Ad tu.nd tu.cd] 27))).c2
  have kr3 := (Xr_8.out.on (below_new w8 (.cells #[.bool tu.g, .slice tu.A tu.n tu.c, .bool tu.gd, .slice tu.Ad tu.nd tu.cd] 27))).c3
  have ka0 := (Xa_8.out.on (below_new w8 (.cells #[.bool tu.g, .slice tu.A tu.n tu.c, .bool tu.gd, .slice tu.Ad tu.nd tu.cd] 27))).c0
  have ka1 := (Xa_8.out.on (below_new w8 (.cells #[.bool tu.g, .slice tu.A tu.n tu.c, .bool tu.gd, .slice tu.Ad tu.nd tu.cd] 27))).c1
  have ka2 := (Xa_8.out.on (below_new w8 (.cells #[.bool tu.g, .slice tu.A tu.n tu.c, .bool tu.gd, .slice tu.Ad tu.nd tu.cd] 27))).c2
  have ka3 := (Xa_8.out.on (below_new w8 (.cells #[.bool tu.g, .slice tu.A tu.n tu.c, .bool tu.gd, .slice tu.Ad tu.nd tu.cd] 27))).c3
  go_wp2_with fail
  generalize hW : World.alloc w8 _ = V9
  have hn := below_new w8 (.cells #[.bool tu.g, .slice tu.A tu.n tu.c, .bool tu.gd, .slice tu.Ad tu.nd tu.cd] 27)
  have hx := Rb.new Iu_8.out
  rw [hW] at hn hx
  have B_9 := Lib.hid (below_chain B_8.out (by have := B_8.out.size; have := HRr.out; omega) hn)
  have Xa_9 : Hid (Rb V9 r a) := Lib.hid (Xa_8.out.on hn)
  have Xs_9 : Hid (Rb V9 b1 ts) := Lib.hid (Xs_8.out.on hn)
  have Xr_9 : Hid (Rb V9 b2 tr) := Lib.hid (Xr_8.out.on hn)
  have Iu_9 : Hid (tu.In V9) := Lib.hid (Iu_8.out.on hn)
  have Xu_9 := Lib.hid hx
  clear hx hn hW B_8 Xa_8 Xs_8 Xr_8 Iu_8 Iu_9
  generalize w8.heap.size = b3 at *
  refine (sub_v Xr_9.out.sl Xa_9.out.sl Vr.out Va.out HM.out.2.2.1 HB.out (by decide)).mono ?_
  clear kr0 kr1 kr2 kr3 ka0 ka1 ka2 ka3
  rintro e w10 ⟨tv, rfl, hi, hv, hb⟩
  have B_10 := Lib.hid (below_chain B_9.out (by have := B_9.out.size; have := HRr.out; omega) hb)
  have Xa_10 : Hid (Rb w10 r a) := Lib.hid (Xa_9.out.on hb)
  have Xs_10 : Hid (Rb w10 b1 ts) := Lib.hid (Xs_9.out.on hb)
  have Xr_10 : Hid (Rb w10 b2 tr) := Lib.hid (Xr_9.out.on hb)
  have Xu_10 : Hid (Rb w10 b3 tu) := Lib.hid (Xu_9.out.on hb)
  have Iv_10 : Hid (tv.In w10) := Lib.hid (hi)
  clear hb B_9 Xa_9 Xs_9 Xr_9 Xu_9 hi
  have Vv := Lib.hid hv
  clear hv
  have ku0 := (Xu_10.out.on (below_new w10 (.cells #[.bool tv.g, .slice tv.A tv.n tv.c, .bool tv.gd, .slice tv.Ad tv.nd tv.cd] 27))).c0
  have ku1 := (Xu_10.out.on (below_new w10 (.cells #[.bool tv.g, .slice tv.A tv.n tv.c, .bool tv.gd, .slice tv.Ad tv.nd tv.cd] 27))).c1
  have ku2 := (Xu_10.out.on (below_new w10 (.cells #[.bool tv.g, .slice tv.A tv.n tv.c, .bool tv.gd, .slice tv.Ad tv.nd tv.cd] 27))).c2
  have ku3 := (Xu_10.out.on (below_new w10 (.cells #[.bool tv.g, .slice tv.A tv.n tv.c, .bool tv.gd, .slice tv.Ad tv.nd tv.cd] 27))).c3
  go_wp2_with fail
  generalize hW : World.alloc w10 _ = V11
  have hn := below_new w10 (.cells #[.bool tv.g, .slice tv.A tv.n tv.c, .bool tv.gd, .slice tv.Ad tv.nd tv.cd] 27)
  have hx := Rb.new Iv_10.out
  rw [hW] at hn hx
  have B_11 := Lib.hid (below_chain B_10.out (by have := B_10.out.size; have := HRr.out; omega) hn)
  have Xa_11 : Hid (Rb V11 r a) := Lib.hid (Xa_10.out.on hn)
  have Xs_11 : Hid (Rb V11 b1 ts) := Lib.hid (Xs_10.out.on hn)
  have Xr_11 : Hid (Rb V11 b2 tr) := Lib.hid (Xr_10.out.on hn)
  have Xu_11 : Hid (Rb V11 b3 tu) := Lib.hid (Xu_10.out.on hn)
  have Iv_11 : Hid (tv.In V11) := Lib.hid (Iv_10.out.on hn)
  have Xv_11 := Lib.hid hx
  clear hx hn hW B_10 Xa_10 Xs_10 Xr_10 Xu_10 Iv_10 Iv_11
  generalize w10.heap.size = b4 at *
  refine (sign_q Xu_11.out.sl Vu.out).mono ?_
  clear ku0 ku1 ku2 ku3
  rintro e w12 ⟨rfl, hb⟩
  have B_12 := Lib.hid (below_chain B_11.out (by have := B_11.out.size; have := HRr.out; omega) hb)
  have Xa_12 : Hid (Rb w12 r a) := Lib.hid (Xa_11.out.on hb)
  have Xs_12 : Hid (Rb w12 b1 ts) := Lib.hid (Xs_11.out.on hb)
  have Xr_12 : Hid (Rb w12 b2 tr) := Lib.hid (Xr_11.out.on hb)
  have Xu_12 : Hid (Rb w12 b3 tu) := Lib.hid (Xu_11.out.on hb)
  have Xv_12 : Hid (Rb w12 b4 tv) := Lib.hid (Xv_11.out.on hb)
  clear hb B_11 Xa_11 Xs_11 Xr_11 Xu_11 Xv_11
  rw [show (m + x).num.sign = su from HG.out.2.2.1]
  rw [show su = 0 from HG.out.2.2.2.1]
  have ka0 := Xa_12.out.c0
  have ka1 := Xa_12.out.c1
  have ka2 := Xa_12.out.c2
  have ka3 := Xa_12.out.c3
  go_wp2_with fail
  refine (rsq_neg a w12 Xa_12.out.sl x Va.out HX.out).mono ?_
  clear ka0 ka1 ka2 ka3
  rintro e w13 ⟨tt, rfl, hi, hv, hv2, hb⟩
  have B_13 := Lib.hid (below_chain B_12.out (by have := B_12.out.size; have := HRr.out; omega) hb)
  have Xa_13 : Hid (Rb w13 r a) := Lib.hid (Xa_12.out.on hb)
  have Xs_13 : Hid (Rb w13 b1 ts) := Lib.hid (Xs_12.out.on hb)
  have Xr_13 : Hid (Rb w13 b2 tr) := Lib.hid (Xr_12.out.on hb)
  have Xu_13 : Hid (Rb w13 b3 tu) := Lib.hid (Xu_12.out.on hb)
  have Xv_13 : Hid (Rb w13 b4 tv) := Lib.hid (Xv_12.out.on hb)
  have It_13 : Hid (tt.In w13) := Lib.hid (hi)
  clear hb B_12 Xa_12 Xs_12 Xr_12 Xu_12 Xv_12 hi
  have VN := Lib.hid (And.intro hv hv2)
  clear hv hv2
  have ka0 := (Xa_13.out.on (below_new w13 (.cells #[.bool tt.g, .slice tt.A tt.n tt.c, .bool tt.gd, .slice tt.Ad tt.nd tt.cd] 27))).c0
  have ka1 := (Xa_13.out.on (below_new w13 (.cells #[.bool tt.g, .slice tt.A tt.n tt.c, .bool tt.gd, .slice tt.Ad tt.nd tt.cd] 27))).c1
  have ka2 := (Xa_13.out.on (below_new w13 (.cells #[.bool tt.g, .slice tt.A tt.n tt.c, .bool tt.gd, .slice tt.Ad tt.nd tt.cd] 27))).c2
  have ka3 := (Xa_13.out.on (below_new w13 (.cells #[.bool tt.g, .slice tt.A tt.n tt.c, .bool tt.gd, .slice tt.Ad tt.nd tt.cd] 27))).c3
  go_wp2_with fail
  generalize hW : World.alloc w13 _ = V14
  have hn := below_new w13 (.cells #[.bool tt.g, .slice tt.A tt.n tt.c, .bool tt.gd, .slice tt.Ad tt.nd tt.cd] 27)
  have hx := Rb.new It_13.out
  rw [hW] at hn hx
  have B_14 := Lib.hid (below_chain B_13.out (by have := B_13.out.size; have := HRr.out; omega) hn)
  have Xa_14 : Hid (Rb V14 r a) := Lib.hid (Xa_13.out.on hn)
  have Xs_14 : Hid (Rb V14 b1 ts) := Lib.hid (Xs_13.out.on hn)
  have Xr_14 : Hid (Rb V14 b2 tr) := Lib.hid (Xr_13.out.on hn)
  have Xu_14 : Hid (Rb V14 b3 tu) := Lib.hid (Xu_13.out.on hn)
  have Xv_14 : Hid (Rb V14 b4 tv) := Lib.hid (Xv_13.out.on hn)
  have It_14 : Hid (tt.In V14) := Lib.hid (It_13.out.on hn)
  have Xt_14 := Lib.hid hx
  clear hx hn hW B_13 Xa_13 Xs_13 Xr_13 Xu_13 Xv_13 It_13 It_14
  generalize w13.heap.size = b5 at *
  refine (sign_q Xa_14.out.sl Va.out).mono ?_
  clear ka0 ka1 ka2 ka3
  rintro e w15 ⟨rfl, hb⟩
  have B_15 := Lib.hid (below_chain B_14.out (by have := B_14.out.size; have := HRr.out; omega) hb)
  have Xa_15 : Hid (Rb w15 r a) := Lib.hid (Xa_14.out.on hb)
  have Xs_15 : Hid (Rb w15 b1 ts) := Lib.hid (Xs_14.out.on hb)
  have Xr_15 : Hid (Rb w15 b2 tr) := Lib.hid (Xr_14.out.on hb)
  have Xu_15 : Hid (Rb w15 b3 tu) := Lib.hid (Xu_14.out.on hb)
  have Xv_15 : Hid (Rb w15 b4 tv) := Lib.hid (Xv_14.out.on hb)
  have Xt_15 : Hid (Rb w15 b5 tt) := Lib.hid (Xt_14.out.on hb)
  clear hb B_14 Xa_14 Xs_14 Xr_14 Xu_14 Xv_14 Xt_14
  rw [show x.num.sign = sx from HG.out.2.2.2.2.2.1]
  have g3 : decide (sx < 0) = true := HG.out.2.2.2.2.2.2
  go_wp2
  go_ret
  exact ⟨rfl, by rw [HRr.out]; exact B_15.out⟩

set_option maxRecDepth 20000 in
set_option maxHeartbeats 4000000 in
theorem sq_zno (a : RVal) (w : World) (h1 : a.In w) (x : Rat) (hx : rv a.o a.od = some x) (hB : Bd 1920 x) (hv : vok a a a 60 = true) (m : Rat) (hM : (x.num.natAbs : Int) = m.num ∧ x.den = m.den ∧ Bd 1920 m ∧ True) (sm su sx : Int) (hG : m.num.sign = sm ∧ decide (sm < 0) = false ∧ (m + x).num.sign = su ∧ su = 0 ∧ True ∧ x.num.sign = sx ∧ decide (sx < 0) = false) (hX : ∀ w, a.In w → Calls Tryz.prog 35 #[.agg #[.bool a.g, .slice a.A a.n a.c, .bool a.gd, .slice a.Ad a.nd a.cd]] w (RetRB 0 0 false 0 w)) :
    Calls Tryz.prog 11 #[.agg #[.bool a.g, .slice a.A a.n a.c, .bool a.gd, .slice a.Ad a.nd a.cd]] w fun e w' => e = .returned (.bool true) ∧ Below w.heap.size w w' := by
  have Va := Lib.hid hx
  have HB := Lib.hid hB
  have HV := Lib.hid hv
  have HM := Lib.hid hM
  have HG := Lib.hid hG
  have HX := Lib.hid hX
  have HS := Lib.hid h1
  clear h1 hx hB hv hM hG hX
  go_enter Tryz.func11, Tryz.ntmps11
  go_wp2_with fail
  generalize hW : World.alloc w _ = V
  obtain ⟨hb, ra⟩ := one_rat a w V HS.out hW
  have B_0 : Hid (Below w.heap.size w V) := Lib.hid (hb)
  have Xa_0 := Lib.hid ra
  clear hb ra hW
  generalize hr : w.heap.size = r at *
  have HRr := Lib.hid hr
  clear hr
  refine (sane V).mono ?_
  rintro e w1 ⟨rfl, hb⟩
  have B_1 := Lib.hid (below_chain B_0.out (by have := B_0.out.size; have := HRr.out; omega) hb)
  have Xa_1 : Hid (Rb w1 r a) := Lib.hid (Xa_0.out.on hb)
  clear hb B_0 Xa_0
  have ka0 := Xa_1.out.c0
  have ka1 := Xa_1.out.c1
  have ka2 := Xa_1.out.c2
  have ka3 := Xa_1.out.c3
  go_wp2_with fail
  have C := val_any a a a 60 w1 Xa_1.out.sl Xa_1.out.sl Xa_1.out.sl
  rw [HV.out] at C
  refine C.mono ?_
  clear C
  clear ka0 ka1 ka2 ka3
  rintro e w2 ⟨rfl, hb⟩
  have B_2 := Lib.hid (below_chain B_1.out (by have := B_1.out.size; have := HRr.out; omega) hb)
  have Xa_2 : Hid (Rb w2 r a) := Lib.hid (Xa_1.out.on hb)
  clear hb B_1 Xa_1
  have ka0 := Xa_2.out.c0
  have ka1 := Xa_2.out.c1
  have ka2 := Xa_2.out.c2
  have ka3 := Xa_2.out.c3
  go_wp2_with fail
  refine (mul_v Xa_2.out.sl Xa_2.out.sl Va.out Va.out HB.out HB.out (by decide)).mono ?_
  clear ka0 ka1 ka2 ka3
  rintro e w3 ⟨ts, rfl, hi, hv, hb⟩
  have B_3 := Lib.hid (below_chain B_2.out (by have := B_2.out.size; have := HRr.out; omega) hb)
  have Xa_3 : Hid (Rb w3 r a) := Lib.hid (Xa_2.out.on hb)
  have Is_3 : Hid (ts.In w3) := Lib.hid (hi)
  clear hb B_2 Xa_2 hi
  have Vs := Lib.hid hv
  clear hv
  go_wp2_with fail
  generalize hW : World.alloc w3 _ = V4
  have hn := below_new w3 (.cells #[.bool ts.g, .slice ts.A ts.n ts.c, .bool ts.gd, .slice ts.Ad ts.nd ts.cd] 27)
  have hx := Rb.new Is_3.out
  rw [hW] at hn hx
  have B_4 := Lib.hid (below_chain B_3.out (by have := B_3.out.size; have := HRr.out; omega) hn)
  have Xa_4 : Hid (Rb V4 r a) := Lib.hid (Xa_3.out.on hn)
  have Is_4 : Hid (ts.In V4) := Lib.hid (Is_3.out.on hn)
  have Xs_4 := Lib.hid hx
  clear hx hn hW B_3 Xa_3 Is_3 Is_4
  generalize w3.heap.size = b1 at *
  refine (sqrt_sq_v Xs_4.out.sl Vs.out m HM.out.1 HM.out.2.1).mono ?_
  rintro e w5 ⟨tr, rfl, hi, hv, hb⟩
  have B_5 := Lib.hid (below_chain B_4.out (by have := B_4.out.size; have := HRr.out; omega) hb)
  have Xa_5 : Hid (Rb w5 r a) := Lib.hid (Xa_4.out.on hb)
  have Xs_5 : Hid (Rb w5 b1 ts) := Lib.hid (Xs_4.out.on hb)
  have Ir_5 : Hid (tr.In w5) := Lib.hid (hi)
  clear hb B_4 Xa_4 Xs_4 hi
  have Vr := Lib.hid hv
  clear hv
  go_wp2_with fail
  generalize hW : World.alloc w5 _ = V6
  have hn := below_new w5 (.cells #[.bool tr.g, .slice tr.A tr.n tr.c, .bool tr.gd, .slice tr.Ad tr.nd tr.cd] 27)
  have hx := Rb.new Ir_5.out
  rw [hW] at hn hx
  have B_6 := Lib.hid (below_chain B_5.out (by have := B_5.out.size; have := HRr.out; omega) hn)
  have Xa_6 : Hid (Rb V6 r a) := Lib.hid (Xa_5.out.on hn)
  have Xs_6 : Hid (Rb V6 b1 ts) := Lib.hid (Xs_5.out.on hn)
  have Ir_6 : Hid (tr.In V6) := Lib.hid (Ir_5.out.on hn)
  have Xr_6 := Lib.hid hx
  clear hx hn hW B_5 Xa_5 Xs_5 Ir_5 Ir_6
  generalize w5.heap.size = b2 at *
  refine (sign_q Xr_6.out.sl Vr.out).mono ?_
  rintro e w7 ⟨rfl, hb⟩
  have B_7 := Lib.hid (below_chain B_6.out (by have := B_6.out.size; have := HRr.out; omega) hb)
  have Xa_7 : Hid (Rb w7 r a) := Lib.hid (Xa_6.out.on hb)
  have Xs_7 : Hid (Rb w7 b1 ts) := Lib.hid (Xs_6.out.on hb)
  have Xr_7 : Hid (Rb w7 b2 tr) := Lib.hid (Xr_6.out.on hb)
  clear hb B_6 Xa_6 Xs_6 Xr_6
  rw [show m.num.sign = sm from HG.out.1]
  have g1 : decide (sm < 0) = false := HG.out.2.1
  have kr0 := Xr_7.out.c0
  have kr1 := Xr_7.out.c1
  have kr2 := Xr_7.out.c2
  have kr3 := Xr_7.out.c3
  have ka0 := Xa_7.out.c0
  have ka1 := Xa_7.out.c1
  have ka2 := Xa_7.out.c2
  have ka3 := Xa_7.out.c3
  go_wp2_with fail
  clear g1
  refine (add_v Xr_7.out.sl Xa_7.out.sl Vr.out Va.out HM.out.2.2.1 HB.out (by decide)).mono ?_
  clear kr0 kr1 kr2 kr3 ka0 ka1 ka2 ka3
  rintro e w8 ⟨tu, rfl, hi, hv, hb⟩
  have B_8 := Lib.hid (below_chain B_7.out (by have := B_7.out.size; have := HRr.out; omega) hb)
  have Xa_8 : Hid (Rb w8 r a) := Lib.hid (Xa_7.out.on hb)
  have Xs_8 : Hid (Rb w8 b1 ts) := Lib.hid (Xs_7.out.on hb)
  have Xr_8 : Hid (Rb w8 b2 tr) := Lib.hid (Xr_7.out.on hb)
  have Iu_8 : Hid (tu.In w8) := Lib.hid (hi)
  clear hb B_7 Xa_7 Xs_7 Xr_7 hi
  have Vu := Lib.hid hv
  clear hv
  have kr0 := (Xr_8.out.on (below_new w8 (.cells #[.bool tu.g, .slice tu.A tu.n tu.c, .bool tu.gd, .slice tu.Ad tu.nd tu.cd] 27))).c0
  have kr1 := (Xr_8.out.on (below_new w8 (.cells #[.bool tu.g, .slice tu.A tu.n tu.c, .bool tu.gd, .slice tu.Ad tu.nd tu.cd] 27))).c1
  have kr2 := (Xr_8.out.on (below_new w8 (.cells #[.bool tu.g, .slice tu.A tu.n tu.c, .bool tu.gd, .slice tu.Ad tu.nd tu.cd] 27))).c2
  have kr3 := (Xr_8.out.on (below_new w8 (.cells #[.bool tu.g, .slice tu.A tu.n tu.c, .bool tu.gd, .slice tu.Ad tu.nd tu.cd] 27))).c3
  have ka0 := (Xa_8.out.on (below_new w8 (.cells #[.bool tu.g, .slice tu.A tu.n tu.c, .bool tu.gd, .slice tu.Ad tu.nd tu.cd] 27))).c0
  have ka1 := (Xa_8.out.on (below_new w8 (.cells #[.bool tu.g, .slice tu.A tu.n tu.c, .bool tu.gd, .slice tu.Ad tu.nd tu.cd] 27))).c1
  have ka2 := (Xa_8.out.on (below_new w8 (.cells #[.bool tu.g, .slice tu.A tu.n tu.c, .bool tu.gd, .slice tu.Ad tu.nd tu.cd] 27))).c2
  have ka3 := (Xa_8.out.on (below_new w8 (.cells #[.bool tu.g, .slice tu.A tu.n tu.c, .bool tu.gd, .slice tu.Ad tu.nd tu.cd] 27))).c3
  go_wp2_with fail
  generalize hW : World.alloc w8 _ = V9
  have hn := below_new w8 (.cells #[.bool tu.g, .slice tu.A tu.n tu.c, .bool tu.gd, .slice tu.Ad tu.nd tu.cd] 27)
  have hx := Rb.new Iu_8.out
  rw [hW] at hn hx
  have B_9 := Lib.hid (below_chain B_8.out (by have := B_8.out.size; have := HRr.out; omega) hn)
  have Xa_9 : Hid (Rb V9 r a) := Lib.hid (Xa_8.out.on hn)
  have Xs_9 : Hid (Rb V9 b1 ts) := Lib.hid (Xs_8.out.on hn)
  have Xr_9 : Hid (Rb V9 b2 tr) := Lib.hid (Xr_8.out.on hn)
  have Iu_9 : Hid (tu.In V9) := Lib.hid (Iu_8.out.on hn)
  have Xu_9 := Lib.hid hx
  clear hx hn hW B_8 Xa_8 Xs_8 Xr_8 Iu_8 Iu_9
  generalize w8.heap.size = b3 at *
  refine (sub_v Xr_9.out.sl Xa_9.out.sl Vr.out Va.out HM.out.2.2.1 HB.out (by decide)).mono ?_
  clear kr0 kr1 kr2 kr3 ka0 ka1 ka2 ka3
  rintro e w10 ⟨tv, rfl, hi, hv, hb⟩
  have B_10 := Lib.hid (below_chain B_9.out (by have := B_9.out.size; have := HRr.out; omega) hb)
  have Xa_10 : Hid (Rb w10 r a) := Lib.hid (Xa_9.out.on hb)
  have Xs_10 : Hid (Rb w10 b1 ts) := Lib.hid (Xs_9.out.on hb)
  have Xr_10 : Hid (Rb w10 b2 tr) := Lib.hid (Xr_9.out.on hb)
  have Xu_10 : Hid (Rb w10 b3 tu) := Lib.hid (Xu_9.out.on hb)
  have Iv_10 : Hid (tv.In w10) := Lib.hid (hi)
  clear hb B_9 Xa_9 Xs_9 Xr_9 Xu_9 hi
  have Vv := Lib.hid hv
  clear hv
  have ku0 := (Xu_10.out.on (below_new w10 (.cells #[.bool tv.g, .slice tv.A tv.n tv.c, .bool tv.gd, .slice tv.Ad tv.nd tv.cd] 27))).c0
  have ku1 := (Xu_10.out.on (below_new w10 (.cells #[.bool tv.g, .slice tv.A tv.n tv.c, .bool tv.gd, .slice tv.Ad tv.nd tv.cd] 27))).c1
  have ku2 := (Xu_10.out.on (below_new w10 (.cells #[.bool tv.g, .slice tv.A tv.n tv.c, .bool tv.gd, .slice tv.Ad tv.nd tv.cd] 27))).c2
  have ku3 := (Xu_10.out.on (below_new w10 (.cells #[.bool tv.g, .slice tv.A tv.n tv.c, .bool tv.gd, .slice tv.Ad tv.nd tv.cd] 27))).c3
  go_wp2_with fail
  generalize hW : World.alloc w10 _ = V11
  have hn := below_new w10 (.cells #[.bool tv.g, .slice tv.A tv.n tv.c, .bool tv.gd, .slice tv.Ad tv.nd tv.cd] 27)
  have hx := Rb.new Iv_10.out
  rw [hW] at hn hx
  have B_11 := Lib.hid (below_chain B_10.out (by have := B_10.out.size; have := HRr.out; omega) hn)
  have Xa_11 : Hid (Rb V11 r a) := Lib.hid (Xa_10.out.on hn)
  have Xs_11 : Hid (Rb V11 b1 ts) := Lib.hid (Xs_10.out.on hn)
  have Xr_11 : Hid (Rb V11 b2 tr) := Lib.hid (Xr_10.out.on hn)
  have Xu_11 : Hid (Rb V11 b3 tu) := Lib.hid (Xu_10.out.on hn)
  have Iv_11 : Hid (tv.In V11) := Lib.hid (Iv_10.out.on hn)
  have Xv_11 := Lib.hid hx
  clear hx hn hW B_10 Xa_10 Xs_10 Xr_10 Xu_10 Iv_10 Iv_11
  generalize w10.heap.size = b4 at *
  refine (sign_q Xu_11.out.sl Vu.out).mono ?_
  clear ku0 ku1 ku2 ku3
  rintro e w12 ⟨rfl, hb⟩
  have B_12 := Lib.hid (below_chain B_11.out (by have := B_11.out.size; have := HRr.out; omega) hb)
  have Xa_12 : Hid (Rb w12 r a) := Lib.hid (Xa_11.out.on hb)
  have Xs_12 : Hid (Rb w12 b1 ts) := Lib.hid (Xs_11.out.on hb)
  have Xr_12 : Hid (Rb w12 b2 tr) := Lib.hid (Xr_11.out.on hb)
  have Xu_12 : Hid (Rb w12 b3 tu) := Lib.hid (Xu_11.out.on hb)
  have Xv_12 : Hid (Rb w12 b4 tv) := Lib.hid (Xv_11.out.on hb)
  clear hb B_11 Xa_11 Xs_11 Xr_11 Xu_11 Xv_11
  rw [show (m + x).num.sign = su from HG.out.2.2.1]
  rw [show su = 0 from HG.out.2.2.2.1]
  have ka0 := Xa_12.out.c0
  have ka1 := Xa_12.out.c1
  have ka2 := Xa_12.out.c2
  have ka3 := Xa_12.out.c3
  go_wp2_with fail
  refine (HX.out w12 Xa_12.out.sl).mono ?_
  clear ka0 ka1 ka2 ka3
  rintro e w13 ⟨tt, rfl, hi, hv, hv2, hb⟩
  have B_13 := Lib.hid (below_chain B_12.out (by have := B_12.out.size; have := HRr.out; omega) hb)
  have Xa_13 : Hid (Rb w13 r a) := Lib.hid (Xa_12.out.on hb)
  have Xs_13 : Hid (Rb w13 b1 ts) := Lib.hid (Xs_12.out.on hb)
  have Xr_13 : Hid (Rb w13 b2 tr) := Lib.hid (Xr_12.out.on hb)
  have Xu_13 : Hid (Rb w13 b3 tu) := Lib.hid (Xu_12.out.on hb)
  have Xv_13 : Hid (Rb w13 b4 tv) := Lib.hid (Xv_12.out.on hb)
  have It_13 : Hid (tt.In w13) := Lib.hid (hi)
  clear hb B_12 Xa_12 Xs_12 Xr_12 Xu_12 Xv_12 hi
  have VN := Lib.hid (And.intro hv hv2)
  clear hv hv2
  have ka0 := (Xa_13.out.on (below_new w13 (.cells #[.bool tt.g, .slice tt.A tt.n tt.c, .bool tt.gd, .slice tt.Ad tt.nd tt.cd] 27))).c0
  have ka1 := (Xa_13.out.on (below_new w13 (.cells #[.bool tt.g, .slice tt.A tt.n tt.c, .bool tt.gd, .slice tt.Ad tt.nd tt.cd] 27))).c1
  have ka2 := (Xa_13.out.on (below_new w13 (.cells #[.bool tt.g, .slice tt.A tt.n tt.c, .bool tt.gd, .slice tt.Ad tt.nd tt.cd] 27))).c2
  have ka3 := (Xa_13.out.on (below_new w13 (.cells #[.bool tt.g, .slice tt.A tt.n tt.c, .bool tt.gd, .slice tt.Ad tt.nd tt.cd] 27))).c3
  go_wp2_with fail
  generalize hW : World.alloc w13 _ = V14
  have hn := below_new w13 (.cells #[.bool tt.g, .slice tt.A tt.n tt.c, .bool tt.gd, .slice tt.Ad tt.nd tt.cd] 27)
  have hx := Rb.new It_13.out
  rw [hW] at hn hx
  have B_14 := Lib.hid (below_chain B_13.out (by have := B_13.out.size; have := HRr.out; omega) hn)
  have Xa_14 : Hid (Rb V14 r a) := Lib.hid (Xa_13.out.on hn)
  have Xs_14 : Hid (Rb V14 b1 ts) := Lib.hid (Xs_13.out.on hn)
  have Xr_14 : Hid (Rb V14 b2 tr) := Lib.hid (Xr_13.out.on hn)
  have Xu_14 : Hid (Rb V14 b3 tu) := Lib.hid (Xu_13.out.on hn)
  have Xv_14 : Hid (Rb V14 b4 tv) := Lib.hid (Xv_13.out.on hn)
  have It_14 : Hid (tt.In V14) := Lib.hid (It_13.out.on hn)
  have Xt_14 := Lib.hid hx
  clear hx hn hW B_13 Xa_13 Xs_13 Xr_13 Xu_13 Xv_13 It_13 It_14
  generalize w13.heap.size = b5 at *
  refine (sign_q Xa_14.out.sl Va.out).mono ?_
  clear ka0 ka1 ka2 ka3
  rintro e w15 ⟨rfl, hb⟩
  have B_15 := Lib.hid (below_chain B_14.out (by have := B_14.out.size; have := HRr.out; omega) hb)
  have Xa_15 : Hid (Rb w15 r a) := Lib.hid (Xa_14.out.on hb)
  have Xs_15 : Hid (Rb w15 b1 ts) := Lib.hid (Xs_14.out.on hb)
  have Xr_15 : Hid (Rb w15 b2 tr) := Lib.hid (Xr_14.out.on hb)
  have Xu_15 : Hid (Rb w15 b3 tu) := Lib.hid (Xu_14.out.on hb)
  have Xv_15 : Hid (Rb w15 b4 tv) := Lib.hid (Xv_14.out.on hb)
  have Xt_15 : Hid (Rb w15 b5 tt) := Lib.hid (Xt_14.out.on hb)
  clear hb B_14 Xa_14 Xs_14 Xr_14 Xu_14 Xv_14 Xt_14
  rw [show x.num.sign = sx from HG.out.2.2.2.2.2.1]
  have g3 : decide (sx < 0) = false := HG.out.2.2.2.2.2.2
  have kt0 := Xt_15.out.c0
  have kt1 := Xt_15.out.c1
  have kt2 := Xt_15.out.c2
  have kt3 := Xt_15.out.c3
  go_wp2_with fail
  clear g3
  refine (mul_bad tt tt w15 Xt_15.out.sl Xt_15.out.sl (by rw [VN.out.1, VN.out.2]; rfl)).mono ?_
  clear kt0 kt1 kt2 kt3
  rintro e w16 ⟨tz, rfl, hi, hv, hv2, hb⟩
  have B_16 := Lib.hid (below_chain B_15.out (by have := B_15.out.size; have := HRr.out; omega) hb)
  have Xa_16 : Hid (Rb w16 r a) := Lib.hid (Xa_15.out.on hb)
  have Xs_16 : Hid (Rb w16 b1 ts) := Lib.hid (Xs_15.out.on hb)
  have Xr_16 : Hid (Rb w16 b2 tr) := Lib.hid (Xr_15.out.on hb)
  have Xu_16 : Hid (Rb w16 b3 tu) := Lib.hid (Xu_15.out.on hb)
  have Xv_16 : Hid (Rb w16 b4 tv) := Lib.hid (Xv_15.out.on hb)
  have Xt_16 : Hid (Rb w16 b5 tt) := Lib.hid (Xt_15.out.on hb)
  have Iz_16 : Hid (tz.In w16) := Lib.hid (hi)
  clear hb B_15 Xa_15 Xs_15 Xr_15 Xu_15 Xv_15 Xt_15 hi
  clear hv hv2
  go_wp2_with fail
  generalize hW : World.alloc w16 _ = V17
  have hn := below_new w16 (.cells #[.bool tz.g, .slice tz.A tz.n tz.c, .bool tz.gd, .slice tz.Ad tz.nd tz.cd] 27)
  have hx := Rb.new Iz_16.out
  rw [hW] at hn hx
  have B_17 := Lib.hid (below_chain B_16.out (by have := B_16.out.size; have := HRr.out; omega) hn)
  have Xa_17 : Hid (Rb V17 r a) := Lib.hid (Xa_16.out.on hn)
  have Xs_17 : Hid (Rb V17 b1 ts) := Lib.hid (Xs_16.out.on hn)
  have Xr_17 : Hid (Rb V17 b2 tr) := Lib.hid (Xr_16.out.on hn)
  have Xu_17 : Hid (Rb V17 b3 tu) := Lib.hid (Xu_16.out.on hn)
  have Xv_17 : Hid (Rb V17 b4 tv) := Lib.hid (Xv_16.out.on hn)
  have Xt_17 : Hid (Rb V17 b5 tt) := Lib.hid (Xt_16.out.on hn)
  have Iz_17 : Hid (tz.In V17) := Lib.hid (Iz_16.out.on hn)
  have Xz_17 := Lib.hid hx
  clear hx hn hW B_16 Xa_16 Xs_16 Xr_16 Xu_16 Xv_16 Xt_16 Iz_16 Iz_17
  generalize w16.heap.size = b6 at *
  go_wp2
  go_ret
  exact ⟨rfl, by rw [HRr.out]; exact B_17.out⟩

set_option maxRecDepth 20000 in
set_option maxHeartbeats 4000000 in
theorem sq_zyes (a : RVal) (w : World) (h1 : a.In w) (x : Rat) (hx : rv a.o a.od = some x) (hB : Bd 1920 x) (hv : vok a a a 60 = true) (m : Rat) (hM : (x.num.natAbs : Int) = m.num ∧ x.den = m.den ∧ Bd 1920 m ∧ True) (sm su sx : Int) (hG : m.num.sign = sm ∧ decide (sm < 0) = false ∧ (m + x).num.sign = su ∧ su = 0 ∧ True ∧ x.num.sign = sx ∧ decide (sx < 0) = false) (y : Rat) (hX : (∀ w, a.In w → Calls Tryz.prog 35 #[.agg #[.bool a.g, .slice a.A a.n a.c, .bool a.gd, .slice a.Ad a.nd a.cd]] w (RetVB y w)) ∧ Bd 1920 y ∧ y * y = x) :
    Calls Tryz.prog 11 #[.agg #[.bool a.g, .slice a.A a.n a.c, .bool a.gd, .slice a.Ad a.nd a.cd]] w fun e w' => e = .returned (.bool true) ∧ Below w.heap.size w w' := by
  have Va := Lib.hid hx
  have HB := Lib.hid hB
  have HV := Lib.hid hv
  have HM := Lib.hid hM
  have HG := Lib.hid hG
  have HX := Lib.hid hX
  have HS := Lib.hid h1
  clear h1 hx hB hv hM hG hX
  go_enter Tryz.func11, Tryz.ntmps11
  go_wp2_with fail
  generalize hW : World.alloc w _ = V
  obtain ⟨hb, ra⟩ := one_rat a w V HS.out hW
  have B_0 : Hid (Below w.heap.size w V) := Lib.hid (hb)
  have Xa_0 := Lib.hid ra
  clear hb ra hW
  generalize hr : w.heap.size = r at *
  have HRr := Lib.hid hr
  clear hr
  refine (sane V).mono ?_
  rintro e w1 ⟨rfl, hb⟩
  have B_1 := Lib.hid (below_chain B_0.out (by have := B_0.out.size; have := HRr.out; omega) hb)
  have Xa_1 : Hid (Rb w1 r a) := Lib.hid (Xa_0.out.on hb)
  clear hb B_0 Xa_0
  have ka0 := Xa_1.out.c0
  have ka1 := Xa_1.out.c1
  have ka2 := Xa_1.out.c2
  have ka3 := Xa_1.out.c3
  go_wp2_with fail
  have C := val_any a a a 60 w1 Xa_1.out.sl Xa_1.out.sl Xa_1.out.sl
  rw [HV.out] at C
  refine C.mono ?_
  clear C
  clear ka0 ka1 ka2 ka3
  rintro e w2 ⟨rfl, hb⟩
  have B_2 := Lib.hid (below_chain B_1.out (by have := B_1.out.size; have := HRr.out; omega) hb)
  have Xa_2 : Hid (Rb w2 r a) := Lib.hid (Xa_1.out.on hb)
  clear hb B_1 Xa_1
  have ka0 := Xa_2.out.c0
  have ka1 := Xa_2.out.c1
  have ka2 := Xa_2.out.c2
  have ka3 := Xa_2.out.c3
  go_wp2_with fail
  refine (mul_v Xa_2.out.sl Xa_2.out.sl Va.out Va.out HB.out HB.out (by decide)).mono ?_
  clear ka0 ka1 ka2 ka3
  rintro e w3 ⟨ts, rfl, hi, hv, hb⟩
  have B_3 := Lib.hid (below_chain B_2.out (by have := B_2.out.size; have := HRr.out; omega) hb)
  have Xa_3 : Hid (Rb w3 r a) := Lib.hid (Xa_2.out.on hb)
  have Is_3 : Hid (ts.In w3) := Lib.hid (hi)
  clear hb B_2 Xa_2 hi
  have Vs := Lib.hid hv
  clear hv
  go_wp2_with fail
  generalize hW : World.alloc w3 _ = V4
  have hn := below_new w3 (.cells #[.bool ts.g, .slice ts.A ts.n ts.c, .bool ts.gd, .slice ts.Ad ts.nd ts.cd] 27)
  have hx := Rb.new Is_3.out
  rw [hW] at hn hx
  have B_4 := Lib.hid (below_chain B_3.out (by have := B_3.out.size; have := HRr.out; omega) hn)
  have Xa_4 : Hid (Rb V4 r a) := Lib.hid (Xa_3.out.on hn)
  have Is_4 : Hid (ts.In V4) := Lib.hid (Is_3.out.on hn)
  have Xs_4 := Lib.hid hx
  clear hx hn hW B_3 Xa_3 Is_3 Is_4
  generalize w3.heap.size = b1 at *
  refine (sqrt_sq_v Xs_4.out.sl Vs.out m HM.out.1 HM.out.2.1).mono ?_
  rintro e w5 ⟨tr, rfl, hi, hv, hb⟩
  have B_5 := Lib.hid (below_chain B_4.out (by have := B_4.out.size; have := HRr.out; omega) hb)
  have Xa_5 : Hid (Rb w5 r a) := Lib.hid (Xa_4.out.on hb)
  have Xs_5 : Hid (Rb w5 b1 ts) := Lib.hid (Xs_4.out.on hb)
  have Ir_5 : Hid (tr.In w5) := Lib.hid (hi)
  clear hb B_4 Xa_4 Xs_4 hi
  have Vr := Lib.hid hv
  clear hv
  go_wp2_with fail
  generalize hW : World.alloc w5 _ = V6
  have hn := below_new w5 (.cells #[.bool tr.g, .slice tr.A tr.n tr.c, .bool tr.gd, .slice tr.Ad tr.nd tr.cd] 27)
  have hx := Rb.new Ir_5.out
  rw [hW] at hn hx
  have B_6 := Lib.hid (below_chain B_5.out (by have := B_5.out.size; have := HRr.out; omega) hn)
  have Xa_6 : Hid (Rb V6 r a) := Lib.hid (Xa_5.out.on hn)
  have Xs_6 : Hid (Rb V6 b1 ts) := Lib.hid (Xs_5.out.on hn)
  have Ir_6 : Hid (tr.In V6) := Lib.hid (Ir_5.out.on hn)
  have Xr_6 := Lib.hid hx
  clear hx hn hW B_5 Xa_5 Xs_5 Ir_5 Ir_6
  generalize w5.heap.size = b2 at *
  refine (sign_q Xr_6.out.sl Vr.out).mono ?_
  rintro e w7 ⟨rfl, hb⟩
  have B_7 := Lib.hid (below_chain B_6.out (by have := B_6.out.size; have := HRr.out; omega) hb)
  have Xa_7 : Hid (Rb w7 r a) := Lib.hid (Xa_6.out.on hb)
  have Xs_7 : Hid (Rb w7 b1 ts) := Lib.hid (Xs_6.out.on hb)
  have Xr_7 : Hid (Rb w7 b2 tr) := Lib.hid (Xr_6.out.on hb)
  clear hb B_6 Xa_6 Xs_6 Xr_6
  rw [show m.num.sign = sm from HG.out.1]
  have g1 : decide (sm < 0) = false := HG.out.2.1
  have kr0 := Xr_7.out.c0
  have kr1 := Xr_7.out.c1
  have kr2 := Xr_7.out.c2
  have kr3 := Xr_7.out.c3
  have ka0 := Xa_7.out.c0
  have ka1 := Xa_7.out.c1
  have ka2 := Xa_7.out.c2
  have ka3 := Xa_7.out.c3
  go_wp2_with fail
  clear g1
  refine (add_v Xr_7.out.sl Xa_7.out.sl Vr.out Va.out HM.out.2.2.1 HB.out (by decide)).mono ?_
  clear kr0 kr1 kr2 kr3 ka0 ka1 ka2 ka3
  rintro e w8 ⟨tu, rfl, hi, hv, hb⟩
  have B_8 := Lib.hid (below_chain B_7.out (by have := B_7.out.size; have := HRr.out; omega) hb)
  have Xa_8 : Hid (Rb w8 r a) := Lib.hid (Xa_7.out.on hb)
  have Xs_8 : Hid (Rb w8 b1 ts) := Lib.hid (Xs_7.out.on hb)
  have Xr_8 : Hid (Rb w8 b2 tr) := Lib.hid (Xr_7.out.on hb)
  have Iu_8 : Hid (tu.In w8) := Lib.hid (hi)
  clear hb B_7 Xa_7 Xs_7 Xr_7 hi
  have Vu := Lib.hid hv
  clear hv
  have kr0 := (Xr_8.out.on (below_new w8 (.cells #[.bool tu.g, .slice tu.A tu.n tu.c, .bool tu.gd, .slice tu.Ad tu.nd tu.cd] 27))).c0
  have kr1 := (Xr_8.out.on (below_new w8 (.cells #[.bool tu.g, .slice tu.A tu.n tu.c, .bool tu.gd, .slice tu.Ad tu.nd tu.cd] 27))).c1
  have kr2 := (Xr_8.out.on (below_new w8 (.cells #[.bool tu.g, .slice tu.A tu.n tu.c, .bool tu.gd, .slice tu.Ad tu.nd tu.cd] 27))).c2
  have kr3 := (Xr_8.out.on (below_new w8 (.cells #[.bool tu.g, .slice tu.A tu.n tu.c, .bool tu.gd, .slice tu.Ad tu.nd tu.cd] 27))).c3
  have ka0 := (Xa_8.out.on (below_new w8 (.cells #[.bool tu.g, .slice tu.A tu.n tu.c, .bool tu.gd, .slice tu.Ad tu.nd tu.cd] 27))).c0
  have ka1 := (Xa_8.out.on (below_new w8 (.cells #[.bool tu.g, .slice tu.A tu.n tu.c, .bool tu.gd, .slice tu.Ad tu.nd tu.cd] 27))).c1
  have ka2 := (Xa_8.out.on (below_new w8 (.cells #[.bool tu.g, .slice tu.A tu.n tu.c, .bool tu.gd, .slice tu.Ad tu.nd tu.cd] 27))).c2
  have ka3 := (Xa_8.out.on (below_new w8 (.cells #[.bool tu.g, .slice tu.A tu.n tu.c, .bool tu.gd, .slice tu.Ad tu.nd tu.cd] 27))).c3
  go_wp2_with fail
  generalize hW : World.alloc w8 _ = V9
  have hn := below_new w8 (.cells #[.bool tu.g, .slice tu.A tu.n tu.c, .bool tu.gd, .slice tu.Ad tu.nd tu.cd] 27)
  have hx := Rb.new Iu_8.out
  rw [hW] at hn hx
  have B_9 := Lib.hid (below_chain B_8.out (by have := B_8.out.size; have := HRr.out; omega) hn)
  have Xa_9 : Hid (Rb V9 r a) := Lib.hid (Xa_8.out.on hn)
  have Xs_9 : Hid (Rb V9 b1 ts) := Lib.hid (Xs_8.out.on hn)
  have Xr_9 : Hid (Rb V9 b2 tr) := Lib.hid (Xr_8.out.on hn)
  have Iu_9 : Hid (tu.In V9) := Lib.hid (Iu_8.out.on hn)
  have Xu_9 := Lib.hid hx
  clear hx hn hW B_8 Xa_8 Xs_8 Xr_8 Iu_8 Iu_9
  generalize w8.heap.size = b3 at *
  refine (sub_v Xr_9.out.sl Xa_9.out.sl Vr.out Va.out HM.out.2.2.1 HB.out (by decide)).mono ?_
  clear kr0 kr1 kr2 kr3 ka0 ka1 ka2 ka3
  rintro e w10 ⟨tv, rfl, hi, hv, hb⟩
  have B_10 := Lib.hid (below_chain B_9.out (by have := B_9.out.size; have := HRr.out; omega) hb)
  have Xa_10 : Hid (Rb w10 r a) := Lib.hid (Xa_9.out.on hb)
  have Xs_10 : Hid (Rb w10 b1 ts) := Lib.hid (Xs_9.out.on hb)
  have Xr_10 : Hid (Rb w10 b2 tr) := Lib.hid (Xr_9.out.on hb)
  have Xu_10 : Hid (Rb w10 b3 tu) := Lib.hid (Xu_9.out.on hb)
  have Iv_10 : Hid (tv.In w10) := Lib.hid (hi)
  clear hb B_9 Xa_9 Xs_9 Xr_9 Xu_9 hi
  have Vv := Lib.hid hv
  clear hv
  have ku0 := (Xu_10.out.on (below_new w10 (.cells #[.bool tv.g, .slice tv.A tv.n tv.c, .bool tv.gd, .slice tv.Ad tv.nd tv.cd] 27))).c0
  have ku1 := (Xu_10.out.on (below_new w10 (.cells #[.bool tv.g, .slice tv.A tv.n tv.c, .bool tv.gd, .slice tv.Ad tv.nd tv.cd] 27))).c1
  have ku2 := (Xu_10.out.on (below_new w10 (.cells #[.bool tv.g, .slice tv.A tv.n tv.c, .bool tv.gd, .slice tv.Ad tv.nd tv.cd] 27))).c2
  have ku3 := (Xu_10.out.on (below_new w10 (.cells #[.bool tv.g, .slice tv.A tv.n tv.c, .bool tv.gd, .slice tv.Ad tv.nd tv.cd] 27))).c3
  go_wp2_with fail
  generalize hW : World.alloc w10 _ = V11
  have hn := below_new w10 (.cells #[.bool tv.g, .slice tv.A tv.n tv.c, .bool tv.gd, .slice tv.Ad tv.nd tv.cd] 27)
  have hx := Rb.new Iv_10.out
  rw [hW] at hn hx
  have B_11 := Lib.hid (below_chain B_10.out (by have := B_10.out.size; have := HRr.out; omega) hn)
  have Xa_11 : Hid (Rb V11 r a) := Lib.hid (Xa_10.out.on hn)
  have Xs_11 : Hid (Rb V11 b1 ts) := Lib.hid (Xs_10.out.on hn)
  have Xr_11 : Hid (Rb V11 b2 tr) := Lib.hid (Xr_10.out.on hn)
  have Xu_11 : Hid (Rb V11 b3 tu) := Lib.hid (Xu_10.out.on hn)
  have Iv_11 : Hid (tv.In V11) := Lib.hid (Iv_10.out.on hn)
  have Xv_11 := Lib.hid hx
  clear hx hn hW B_10 Xa_10 Xs_10 Xr_10 Xu_10 Iv_10 Iv_11
  generalize w10.heap.size = b4 at *
  refine (sign_q Xu_11.out.sl Vu.out).mono ?_
  clear ku0 ku1 ku2 ku3
  rintro e w12 ⟨rfl, hb⟩
  have B_12 := Lib.hid (below_chain B_11.out (by have := B_11.out.size; have := HRr.out; omega) hb)
  have Xa_12 : Hid (Rb w12 r a) := Lib.hid (Xa_11.out.on hb)
  have Xs_12 : Hid (Rb w12 b1 ts) := Lib.hid (Xs_11.out.on hb)
  have Xr_12 : Hid (Rb w12 b2 tr) := Lib.hid (Xr_11.out.on hb)
  have Xu_12 : Hid (Rb w12 b3 tu) := Lib.hid (Xu_11.out.on hb)
  have Xv_12 : Hid (Rb w12 b4 tv) := Lib.hid (Xv_11.out.on hb)
  clear hb B_11 Xa_11 Xs_11 Xr_11 Xu_11 Xv_11
  rw [show (m + x).num.sign = su from HG.out.2.2.1]
  rw [show su = 0 from HG.out.2.2.2.1]
  have ka0 := Xa_12.out.c0
  have ka1 := Xa_12.out.c1
  have ka2 := Xa_12.out.c2
  have ka3 := Xa_12.out.c3
  go_wp2_with fail
  refine (HX.out.1 w12 Xa_12.out.sl).mono ?_
  clear ka0 ka1 ka2 ka3
  rintro e w13 ⟨tt, rfl, hi, hv, hb⟩
  have B_13 := Lib.hid (below_chain B_12.out (by have := B_12.out.size; have := HRr.out; omega) hb)
  have Xa_13 : Hid (Rb w13 r a) := Lib.hid (Xa_12.out.on hb)
  have Xs_13 : Hid (Rb w13 b1 ts) := Lib.hid (Xs_12.out.on hb)
  have Xr_13 : Hid (Rb w13 b2 tr) := Lib.hid (Xr_12.out.on hb)
  have Xu_13 : Hid (Rb w13 b3 tu) := Lib.hid (Xu_12.out.on hb)
  have Xv_13 : Hid (Rb w13 b4 tv) := Lib.hid (Xv_12.out.on hb)
  have It_13 : Hid (tt.In w13) := Lib.hid (hi)
  clear hb B_12 Xa_12 Xs_12 Xr_12 Xu_12 Xv_12 hi
  have Vt := Lib.hid hv
  clear hv
  have ka0 := (Xa_13.out.on (below_new w13 (.cells #[.bool tt.g, .slice tt.A tt.n tt.c, .bool tt.gd, .slice tt.Ad tt.nd tt.cd] 27))).c0
  have ka1 := (Xa_13.out.on (below_new w13 (.cells #[.bool tt.g, .slice tt.A tt.n tt.c, .bool tt.gd, .slice tt.Ad tt.nd tt.cd] 27))).c1
  have ka2 := (Xa_13.out.on (below_new w13 (.cells #[.bool tt.g, .slice tt.A tt.n tt.c, .bool tt.gd, .slice tt.Ad tt.nd tt.cd] 27))).c2
  have ka3 := (Xa_13.out.on (below_new w13 (.cells #[.bool tt.g, .slice tt.A tt.n tt.c, .bool tt.gd, .slice tt.Ad tt.nd tt.cd] 27))).c3
  go_wp2_with fail
  generalize hW : World.alloc w13 _ = V14
  have hn := below_new w13 (.cells #[.bool tt.g, .slice tt.A tt.n tt.c, .bool tt.gd, .slice tt.Ad tt.nd tt.cd] 27)
  have hx := Rb.new It_13.out
  rw [hW] at hn hx
  have B_14 := Lib.hid (below_chain B_13.out (by have := B_13.out.size; have := HRr.out; omega) hn)
  have Xa_14 : Hid (Rb V14 r a) := Lib.hid (Xa_13.out.on hn)
  have Xs_14 : Hid (Rb V14 b1 ts) := Lib.hid (Xs_13.out.on hn)
  have Xr_14 : Hid (Rb V14 b2 tr) := Lib.hid (Xr_13.out.on hn)
  have Xu_14 : Hid (Rb V14 b3 tu) := Lib.hid (Xu_13.out.on hn)
  have Xv_14 : Hid (Rb V14 b4 tv) := Lib.hid (Xv_13.out.on hn)
  have It_14 : Hid (tt.In V14) := Lib.hid (It_13.out.on hn)
  have Xt_14 := Lib.hid hx
  clear hx hn hW B_13 Xa_13 Xs_13 Xr_13 Xu_13 Xv_13 It_13 It_14
  generalize w13.heap.size = b5 at *
  refine (sign_q Xa_14.out.sl Va.out).mono ?_
  clear ka0 ka1 ka2 ka3
  rintro e w15 ⟨rfl, hb⟩
  have B_15 := Lib.hid (below_chain B_14.out (by have := B_14.out.size; have := HRr.out; omega) hb)
  have Xa_15 : Hid (Rb w15 r a) := Lib.hid (Xa_14.out.on hb)
  have Xs_15 : Hid (Rb w15 b1 ts) := Lib.hid (Xs_14.out.on hb)
  have Xr_15 : Hid (Rb w15 b2 tr) := Lib.hid (Xr_14.out.on hb)
  have Xu_15 : Hid (Rb w15 b3 tu) := Lib.hid (Xu_14.out.on hb)
  have Xv_15 : Hid (Rb w15 b4 tv) := Lib.hid (Xv_14.out.on hb)
  have Xt_15 : Hid (Rb w15 b5 tt) := Lib.hid (Xt_14.out.on hb)
  clear hb B_14 Xa_14 Xs_14 Xr_14 Xu_14 Xv_14 Xt_14
  rw [show x.num.sign = sx from HG.out.2.2.2.2.2.1]
  have g3 : decide (sx < 0) = false := HG.out.2.2.2.2.2.2
  have kt0 := Xt_15.out.c0
  have kt1 := Xt_15.out.c1
  have kt2 := Xt_15.out.c2
  have kt3 := Xt_15.out.c3
  go_wp2_with fail
  clear g3
  refine (mul_v Xt_15.out.sl Xt_15.out.sl Vt.out Vt.out HX.out.2.1 HX.out.2.1 (by decide)).mono ?_
  clear kt0 kt1 kt2 kt3
  rintro e w16 ⟨tz, rfl, hi, hv, hb⟩
  have B_16 := Lib.hid (below_chain B_15.out (by have := B_15.out.size; have := HRr.out; omega) hb)
  have Xa_16 : Hid (Rb w16 r a) := Lib.hid (Xa_15.out.on hb)
  have Xs_16 : Hid (Rb w16 b1 ts) := Lib.hid (Xs_15.out.on hb)
  have Xr_16 : Hid (Rb w16 b2 tr) := Lib.hid (Xr_15.out.on hb)
  have Xu_16 : Hid (Rb w16 b3 tu) := Lib.hid (Xu_15.out.on hb)
  have Xv_16 : Hid (Rb w16 b4 tv) := Lib.hid (Xv_15.out.on hb)
  have Xt_16 : Hid (Rb w16 b5 tt) := Lib.hid (Xt_15.out.on hb)
  have Iz_16 : Hid (tz.In w16) := Lib.hid (hi)
  clear hb B_15 Xa_15 Xs_15 Xr_15 Xu_15 Xv_15 Xt_15 hi
  have Vz := Lib.hid hv
  clear hv
  have ka0 := (Xa_16.out.on (below_new w16 (.cells #[.bool tz.g, .slice tz.A tz.n tz.c, .bool tz.gd, .slice tz.Ad tz.nd tz.cd] 27))).c0
  have ka1 := (Xa_16.out.on (below_new w16 (.cells #[.bool tz.g, .slice tz.A tz.n tz.c, .bool tz.gd, .slice tz.Ad tz.nd tz.cd] 27))).c1
  have ka2 := (Xa_16.out.on (below_new w16 (.cells #[.bool tz.g, .slice tz.A tz.n tz.c, .bool tz.gd, .slice tz.Ad tz.nd tz.cd] 27))).c2
  have ka3 := (Xa_16.out.on (below_new w16 (.cells #[.bool tz.g, .slice tz.A tz.n tz.c, .bool tz.gd, .slice tz.Ad tz.nd tz.cd] 27))).c3
  go_wp2_with fail
  generalize hW : World.alloc w16 _ = V17
  have hn := below_new w16 (.cells #[.bool tz.g, .slice tz.A tz.n tz.c, .bool tz.gd, .slice tz.Ad tz.nd tz.cd] 27)
  have hx := Rb.new Iz_16.out
  rw [hW] at hn hx
  have B_17 := Lib.hid (below_chain B_16.out (by have := B_16.out.size; have := HRr.out; omega) hn)
  have Xa_17 : Hid (Rb V17 r a) := Lib.hid (Xa_16.out.on hn)
  have Xs_17 : Hid (Rb V17 b1 ts) := Lib.hid (Xs_16.out.on hn)
  have Xr_17 : Hid (Rb V17 b2 tr) := Lib.hid (Xr_16.out.on hn)
  have Xu_17 : Hid (Rb V17 b3 tu) := Lib.hid (Xu_16.out.on hn)
  have Xv_17 : Hid (Rb V17 b4 tv) := Lib.hid (Xv_16.out.on hn)
  have Xt_17 : Hid (Rb V17 b5 tt) := Lib.hid (Xt_16.out.on hn)
  have Iz_17 : Hid (tz.In V17) := Lib.hid (Iz_16.out.on hn)
  have Xz_17 := Lib.hid hx
  clear hx hn hW B_16 Xa_16 Xs_16 Xr_16 Xu_16 Xv_16 Xt_16 Iz_16 Iz_17
  generalize w16.heap.size = b6 at *
  refine (same_v Xz_17.out.sl Xa_17.out.sl Vz.out Va.out HX.out.2.2).mono ?_
  clear ka0 ka1 ka2 ka3
  rintro e w18 ⟨rfl, hb⟩
  have B_18 := Lib.hid (below_chain B_17.out (by have := B_17.out.size; have := HRr.out; omega) hb)
  have Xa_18 : Hid (Rb w18 r a) := Lib.hid (Xa_17.out.on hb)
  have Xs_18 : Hid (Rb w18 b1 ts) := Lib.hid (Xs_17.out.on hb)
  have Xr_18 : Hid (Rb w18 b2 tr) := Lib.hid (Xr_17.out.on hb)
  have Xu_18 : Hid (Rb w18 b3 tu) := Lib.hid (Xu_17.out.on hb)
  have Xv_18 : Hid (Rb w18 b4 tv) := Lib.hid (Xv_17.out.on hb)
  have Xt_18 : Hid (Rb w18 b5 tt) := Lib.hid (Xt_17.out.on hb)
  have Xz_18 : Hid (Rb w18 b6 tz) := Lib.hid (Xz_17.out.on hb)
  clear hb B_17 Xa_17 Xs_17 Xr_17 Xu_17 Xv_17 Xt_17 Xz_17
  go_wp2
  go_ret
  exact ⟨rfl, by rw [HRr.out]; exact B_18.out⟩

set_option maxRecDepth 20000 in
set_option maxHeartbeats 4000000 in
theorem sq_pno (a : RVal) (w : World) (h1 : a.In w) (x : Rat) (hx : rv a.o a.od = some x) (hB : Bd 1920 x) (hv : vok a a a 60 = true) (m : Rat) (hM : (x.num.natAbs : Int) = m.num ∧ x.den = m.den ∧ Bd 1920 m ∧ True) (sm su sx : Int) (hG : m.num.sign = sm ∧ decide (sm < 0) = false ∧ (m + x).num.sign = su ∧ (su == 0) = false ∧ (m - x).num.sign = 0 ∧ x.num.sign = sx ∧ decide (sx < 0) = false) (hX : ∀ w, a.In w → Calls Tryz.prog 35 #[.agg #[.bool a.g, .slice a.A a.n a.c, .bool a.gd, .slice a.Ad a.nd a.cd]] w (RetRB 0 0 false 0 w)) :
    Calls Tryz.prog 11 #[.agg #[.bool a.g, .slice a.A a.n a.c, .bool a.gd, .slice a.Ad a.nd a.cd]] w fun e w' => e = .returned (.bool true) ∧ Below w.heap.size w w' := by
  have Va := Lib.hid hx
  have HB := Lib.hid hB
  have HV := Lib.hid hv
  have HM := Lib.hid hM
  have HG := Lib.hid hG
  have HX := Lib.hid hX
  have HS := Lib.hid h1
  clear h1 hx hB hv hM hG hX
  go_enter Tryz.func11, Tryz.ntmps11
  go_wp2_with fail
  generalize hW : World.alloc w _ = V
  obtain ⟨hb, ra⟩ := one_rat a w V HS.out hW
  have B_0 : Hid (Below w.heap.size w V) := Lib.hid (hb)
  have Xa_0 := Lib.hid ra
  clear hb ra hW
  generalize hr : w.heap.size = r at *
  have HRr := Lib.hid hr
  clear hr
  refine (sane V).mono ?_
  rintro e w1 ⟨rfl, hb⟩
  have B_1 := Lib.hid (below_chain B_0.out (by have := B_0.out.size; have := HRr.out; omega) hb)
  have Xa_1 : Hid (Rb w1 r a) := Lib.hid (Xa_0.out.on hb)
  clear hb B_0 Xa_0
  have ka0 := Xa_1.out.c0
  have ka1 := Xa_1.out.c1
  have ka2 := Xa_1.out.c2
  have ka3 := Xa_1.out.c3
  go_wp2_with fail
  have C := val_any a a a 60 w1 Xa_1.out.sl Xa_1.out.sl Xa_1.out.sl
  rw [HV.out] at C
  refine C.mono ?_
  clear C
  clear ka0 ka1 ka2 ka3
  rintro e w2 ⟨rfl, hb⟩
  have B_2 := Lib.hid (below_chain B_1.out (by have := B_1.out.size; have := HRr.out; omega) hb)
  have Xa_2 : Hid (Rb w2 r a) := Lib.hid (Xa_1.out.on hb)
  clear hb B_1 Xa_1
  have ka0 := Xa_2.out.c0
  have ka1 := Xa_2.out.c1
  have ka2 := Xa_2.out.c2
  have ka3 := Xa_2.out.c3
  go_wp2_with fail
  refine (mul_v Xa_2.out.sl Xa_2.out.sl Va.out Va.out HB.out HB.out (by decide)).mono ?_
  clear ka0 ka1 ka2 ka3
  rintro e w3 ⟨ts, rfl, hi, hv, hb⟩
  have B_3 := Lib.hid (below_chain B_2.out (by have := B_2.out.size; have := HRr.out; omega) hb)
  have Xa_3 : Hid (Rb w3 r a) := Lib.hid (Xa_2.out.on hb)
  have Is_3 : Hid (ts.In w3) := Lib.hid (hi)
  clear hb B_2 Xa_2 hi
  have Vs := Lib.hid hv
  clear hv
  go_wp2_with fail
  generalize hW : World.alloc w3 _ = V4
  have hn := below_new w3 (.cells #[.bool ts.g, .slice ts.A ts.n ts.c, .bool ts.gd, .slice ts.Ad ts.nd ts.cd] 27)
  have hx := Rb.new Is_3.out
  rw [hW] at hn hx
  have B_4 := Lib.hid (below_chain B_3.out (by have := B_3.out.size; have := HRr.out; omega) hn)
  have Xa_4 : Hid (Rb V4 r a) := Lib.hid (Xa_3.out.on hn)
  have Is_4 : Hid (ts.In V4) := Lib.hid (Is_3.out.on hn)
  have Xs_4 := Lib.hid hx
  clear hx hn hW B_3 Xa_3 Is_3 Is_4
  generalize w3.heap.size = b1 at *
  refine (sqrt_sq_v Xs_4.out.sl Vs.out m HM.out.1 HM.out.2.1).mono ?_
  rintro e w5 ⟨tr, rfl, hi, hv, hb⟩
  have B_5 := Lib.hid (below_chain B_4.out (by have := B_4.out.size; have := HRr.out; omega) hb)
  have Xa_5 : Hid (Rb w5 r a) := Lib.hid (Xa_4.out.on hb)
  have Xs_5 : Hid (Rb w5 b1 ts) := Lib.hid (Xs_4.out.on hb)
  have Ir_5 : Hid (tr.In w5) := Lib.hid (hi)
  clear hb B_4 Xa_4 Xs_4 hi
  have Vr := Lib.hid hv
  clear hv
  go_wp2_with fail
  generalize hW : World.alloc w5 _ = V6
  have hn := below_new w5 (.cells #[.bool tr.g, .slice tr.A tr.n tr.c, .bool tr.gd, .slice tr.Ad tr.nd tr.cd] 27)
  have hx := Rb.new Ir_5.out
  rw [hW] at hn hx
  have B_6 := Lib.hid (below_chain B_5.out (by have := B_5.out.size; have := HRr.out; omega) hn)
  have Xa_6 : Hid (Rb V6 r a) := Lib.hid (Xa_5.out.on hn)
  have Xs_6 : Hid (Rb V6 b1 ts) := Lib.hid (Xs_5.out.on hn)
  have Ir_6 : Hid (tr.In V6) := Lib.hid (Ir_5.out.on hn)
  have Xr_6 := Lib.hid hx
  clear hx hn hW B_5 Xa_5 Xs_5 Ir_5 Ir_6
  generalize w5.heap.size = b2 at *
  refine (sign_q Xr_6.out.sl Vr.out).mono ?_
  rintro e w7 ⟨rfl, hb⟩
  have B_7 := Lib.hid (below_chain B_6.out (by have := B_6.out.size; have := HRr.out; omega) hb)
  have Xa_7 : Hid (Rb w7 r a) := Lib.hid (Xa_6.out.on hb)
  have Xs_7 : Hid (Rb w7 b1 ts) := Lib.hid (Xs_6.out.on hb)
  have Xr_7 : Hid (Rb w7 b2 tr) := Lib.hid (Xr_6.out.on hb)
  clear hb B_6 Xa_6 Xs_6 Xr_6
  rw [show m.num.sign = sm from HG.out.1]
  have g1 : decide (sm < 0) = false := HG.out.2.1
  have kr0 := Xr_7.out.c0
  have kr1 := Xr_7.out.c1
  have kr2 := Xr_7.out.c2
  have kr3 := Xr_7.out.c3
  have ka0 := Xa_7.out.c0
  have ka1 := Xa_7.out.c1
  have ka2 := Xa_7.out.c2
  have ka3 := Xa_7.out.c3
  go_wp2_with fail
  clear g1
  refine (add_v Xr_7.out.sl Xa_7.out.sl Vr.out Va.out HM.out.2.2.1 HB.out (by decide)).mono ?_
  clear kr0 kr1 kr2 kr3 ka0 ka1 ka2 ka3
  rintro e w8 ⟨tu, rfl, hi, hv, hb⟩
  have B_8 := Lib.hid (below_chain B_7.out (by have := B_7.out.size; have := HRr.out; omega) hb)
  have Xa_8 : Hid (Rb w8 r a) := Lib.hid (Xa_7.out.on hb)
  have Xs_8 : Hid (Rb w8 b1 ts) := Lib.hid (Xs_7.out.on hb)
  have Xr_8 : Hid (Rb w8 b2 tr) := Lib.hid (Xr_7.out.on hb)
  have Iu_8 : Hid (tu.In w8) := Lib.hid (hi)
  clear hb B_7 Xa_7 Xs_7 Xr_7 hi
  have Vu := Lib.hid hv
  clear hv
  have kr0 := (Xr_8.out.on (below_new w8 (.cells #[.bool tu.g, .slice tu.A tu.n tu.c, .bool tu.gd, .slice tu.Ad tu.nd tu.cd] 27))).c0
  have kr1 := (Xr_8.out.on (below_new w8 (.cells #[.bool tu.g, .slice tu.A tu.n tu.c, .bool tu.gd, .slice tu.Ad tu.nd tu.cd] 27))).c1
  have kr2 := (Xr_8.out.on (below_new w8 (.cells #[.bool tu.g, .slice tu.A tu.n tu.c, .bool tu.gd, .slice tu.Ad tu.nd tu.cd] 27))).c2
  have kr3 := (Xr_8.out.on (below_new w8 (.cells #[.bool tu.g, .slice tu.A tu.n tu.c, .bool tu.gd, .slice tu.Ad tu.nd tu.cd] 27))).c3
  have ka0 := (Xa_8.out.on (below_new w8 (.cells #[.bool tu.g, .slice tu.A tu.n tu.c, .bool tu.gd, .slice tu.Ad tu.nd tu.cd] 27))).c0
  have ka1 := (Xa_8.out.on (below_new w8 (.cells #[.bool tu.g, .slice tu.A tu.n tu.c, .bool tu.gd, .slice tu.Ad tu.nd tu.cd] 27))).c1
  have ka2 := (Xa_8.out.on (below_new w8 (.cells #[.bool tu.g, .slice tu.A tu.n tu.c, .bool tu.gd, .slice tu.Ad tu.nd tu.cd] 27))).c2
  have ka3 := (Xa_8.out.on (below_new w8 (.cells #[.bool tu.g, .slice tu.A tu.n tu.c, .bool tu.gd, .slice tu.Ad tu.nd tu.cd] 27))).c3
  go_wp2_with fail
  generalize hW : World.alloc w8 _ = V9
  have hn := below_new w8 (.cells #[.bool tu.g, .slice tu.A tu.n tu.c, .bool tu.gd, .slice tu.Ad tu.nd tu.cd] 27)
  have hx := Rb.new Iu_8.out
  rw [hW] at hn hx
  have B_9 := Lib.hid (below_chain B_8.out (by have := B_8.out.size; have := HRr.out; omega) hn)
  have Xa_9 : Hid (Rb V9 r a) := Lib.hid (Xa_8.out.on hn)
  have Xs_9 : Hid (Rb V9 b1 ts) := Lib.hid (Xs_8.out.on hn)
  have Xr_9 : Hid (Rb V9 b2 tr) := Lib.hid (Xr_8.out.on hn)
  have Iu_9 : Hid (tu.In V9) := Lib.hid (Iu_8.out.on hn)
  have Xu_9 := Lib.hid hx
  clear hx hn hW B_8 Xa_8 Xs_8 Xr_8 Iu_8 Iu_9
  generalize w8.heap.size = b3 at *
  refine (sub_v Xr_9.out.sl Xa_9.out.sl Vr.out Va.out HM.out.2.2.1 HB.out (by decide)).mono ?_
  clear kr0 kr1 kr2 kr3 ka0 ka1 ka2 ka3
  rintro e w10 ⟨tv, rfl, hi, hv, hb⟩
  have B_10 := Lib.hid (below_chain B_9.out (by have := B_9.out.size; have := HRr.out; omega) hb)
  have Xa_10 : Hid (Rb w10 r a) := Lib.hid (Xa_9.out.on hb)
  have Xs_10 : Hid (Rb w10 b1 ts) := Lib.hid (Xs_9.out.on hb)
  have Xr_10 : Hid (Rb w10 b2 tr) := Lib.hid (Xr_9.out.on hb)
  have Xu_10 : Hid (Rb w10 b3 tu) := Lib.hid (Xu_9.out.on hb)
  have Iv_10 : Hid (tv.In w10) := Lib.hid (hi)
  clear hb B_9 Xa_9 Xs_9 Xr_9 Xu_9 hi
  have Vv := Lib.hid hv
  clear hv
  have ku0 := (Xu_10.out.on (below_new w10 (.cells #[.bool tv.g, .slice tv.A tv.n tv.c, .bool tv.gd, .slice tv.Ad tv.nd tv.cd] 27))).c0
  have ku1 := (Xu_10.out.on (below_new w10 (.cells #[.bool tv.g, .slice tv.A tv.n tv.c, .bool tv.gd, .slice tv.Ad tv.nd tv.cd] 27))).c1
  have ku2 := (Xu_10.out.on (below_new w10 (.cells #[.bool tv.g, .slice tv.A tv.n tv.c, .bool tv.gd, .slice tv.Ad tv.nd tv.cd] 27))).c2
  have ku3 := (Xu_10.out.on (below_new w10 (.cells #[.bool tv.g, .slice tv.A tv.n tv.c, .bool tv.gd, .slice tv.Ad tv.nd tv.cd] 27))).c3
  go_wp2_with fail
  generalize hW : World.alloc w10 _ = V11
  have hn := below_new w10 (.cells #[.bool tv.g, .slice tv.A tv.n tv.c, .bool tv.gd, .slice tv.Ad tv.nd tv.cd] 27)
  have hx := Rb.new Iv_10.out
  rw [hW] at hn hx
  have B_11 := Lib.hid (below_chain B_10.out (by have := B_10.out.size; have := HRr.out; omega) hn)
  have Xa_11 : Hid (Rb V11 r a) := Lib.hid (Xa_10.out.on hn)
  have Xs_11 : Hid (Rb V11 b1 ts) := Lib.hid (Xs_10.out.on hn)
  have Xr_11 : Hid (Rb V11 b2 tr) := Lib.hid (Xr_10.out.on hn)
  have Xu_11 : Hid (Rb V11 b3 tu) := Lib.hid (Xu_10.out.on hn)
  have Iv_11 : Hid (tv.In V11) := Lib.hid (Iv_10.out.on hn)
  have Xv_11 := Lib.hid hx
  clear hx hn hW B_10 Xa_10 Xs_10 Xr_10 Xu_10 Iv_10 Iv_11
  generalize w10.heap.size = b4 at *
  refine (sign_q Xu_11.out.sl Vu.out).mono ?_
  clear ku0 ku1 ku2 ku3
  rintro e w12 ⟨rfl, hb⟩
  have B_12 := Lib.hid (below_chain B_11.out (by have := B_11.out.size; have := HRr.out; omega) hb)
  have Xa_12 : Hid (Rb w12 r a) := Lib.hid (Xa_11.out.on hb)
  have Xs_12 : Hid (Rb w12 b1 ts) := Lib.hid (Xs_11.out.on hb)
  have Xr_12 : Hid (Rb w12 b2 tr) := Lib.hid (Xr_11.out.on hb)
  have Xu_12 : Hid (Rb w12 b3 tu) := Lib.hid (Xu_11.out.on hb)
  have Xv_12 : Hid (Rb w12 b4 tv) := Lib.hid (Xv_11.out.on hb)
  clear hb B_11 Xa_11 Xs_11 Xr_11 Xu_11 Xv_11
  rw [show (m + x).num.sign = su from HG.out.2.2.1]
  have g2 : (su != 0) = true := by rw [bne, show (su == 0) = false from HG.out.2.2.2.1]; rfl
  have kv0 := Xv_12.out.c0
  have kv1 := Xv_12.out.c1
  have kv2 := Xv_12.out.c2
  have kv3 := Xv_12.out.c3
  go_wp2_with fail
  clear g2
  refine (sign_q Xv_12.out.sl Vv.out).mono ?_
  clear kv0 kv1 kv2 kv3
  rintro e w13 ⟨rfl, hb⟩
  have B_13 := Lib.hid (below_chain B_12.out (by have := B_12.out.size; have := HRr.out; omega) hb)
  have Xa_13 : Hid (Rb w13 r a) := Lib.hid (Xa_12.out.on hb)
  have Xs_13 : Hid (Rb w13 b1 ts) := Lib.hid (Xs_12.out.on hb)
  have Xr_13 : Hid (Rb w13 b2 tr) := Lib.hid (Xr_12.out.on hb)
  have Xu_13 : Hid (Rb w13 b3 tu) := Lib.hid (Xu_12.out.on hb)
  have Xv_13 : Hid (Rb w13 b4 tv) := Lib.hid (Xv_12.out.on hb)
  clear hb B_12 Xa_12 Xs_12 Xr_12 Xu_12 Xv_12
  rw [show (m - x).num.sign = 0 from HG.out.2.2.2.2.1]
  have ka0 := Xa_13.out.c0
  have ka1 := Xa_13.out.c1
  have ka2 := Xa_13.out.c2
  have ka3 := Xa_13.out.c3
  go_wp2_with fail
  refine (HX.out w13 Xa_13.out.sl).mono ?_
  clear ka0 ka1 ka2 ka3
  rintro e w14 ⟨tt, rfl, hi, hv, hv2, hb⟩
  have B_14 := Lib.hid (below_chain B_13.out (by have := B_13.out.size; have := HRr.out; omega) hb)
  have Xa_14 : Hid (Rb w14 r a) := Lib.hid (Xa_13.out.on hb)
  have Xs_14 : Hid (Rb w14 b1 ts) := Lib.hid (Xs_13.out.on hb)
  have Xr_14 : Hid (Rb w14 b2 tr) := Lib.hid (Xr_13.out.on hb)
  have Xu_14 : Hid (Rb w14 b3 tu) := Lib.hid (Xu_13.out.on hb)
  have Xv_14 : Hid (Rb w14 b4 tv) := Lib.hid (Xv_13.out.on hb)
  have It_14 : Hid (tt.In w14) := Lib.hid (hi)
  clear hb B_13 Xa_13 Xs_13 Xr_13 Xu_13 Xv_13 hi
  have VN := Lib.hid (And.intro hv hv2)
  clear hv hv2
  have ka0 := (Xa_14.out.on (below_new w14 (.cells #[.bool tt.g, .slice tt.A tt.n tt.c, .bool tt.gd, .slice tt.Ad tt.nd tt.cd] 27))).c0
  have ka1 := (Xa_14.out.on (below_new w14 (.cells #[.bool tt.g, .slice tt.A tt.n tt.c, .bool tt.gd, .slice tt.Ad tt.nd tt.cd] 27))).c1
  have ka2 := (Xa_14.out.on (below_new w14 (.cells #[.bool tt.g, .slice tt.A tt.n tt.c, .bool tt.gd, .slice tt.Ad tt.nd tt.cd] 27))).c2
  have ka3 := (Xa_14.out.on (below_new w14 (.cells #[.bool tt.g, .slice tt.A tt.n tt.c, .bool tt.gd, .slice tt.Ad tt.nd tt.cd] 27))).c3
  go_wp2_with fail
  generalize hW : World.alloc w14 _ = V15
  have hn := below_new w14 (.cells #[.bool tt.g, .slice tt.A tt.n tt.c, .bool tt.gd, .slice tt.Ad tt.nd tt.cd] 27)
  have hx := Rb.new It_14.out
  rw [hW] at hn hx
  have B_15 := Lib.hid (below_chain B_14.out (by have := B_14.out.size; have := HRr.out; omega) hn)
  have Xa_15 : Hid (Rb V15 r a) := Lib.hid (Xa_14.out.on hn)
  have Xs_15 : Hid (Rb V15 b1 ts) := Lib.hid (Xs_14.out.on hn)
  have Xr_15 : Hid (Rb V15 b2 tr) := Lib.hid (Xr_14.out.on hn)
  have Xu_15 : Hid (Rb V15 b3 tu) := Lib.hid (Xu_14.out.on hn)
  have Xv_15 : Hid (Rb V15 b4 tv) := Lib.hid (Xv_14.out.on hn)
  have It_15 : Hid (tt.In V15) := Lib.hid (It_14.out.on hn)
  have Xt_15 := Lib.hid hx
  clear hx hn hW B_14 Xa_14 Xs_14 Xr_14 Xu_14 Xv_14 It_14 It_15
  generalize w14.heap.size = b5 at *
  refine (sign_q Xa_15.out.sl Va.out).mono ?_
  clear ka0 ka1 ka2 ka3
  rintro e w16 ⟨rfl, hb⟩
  have B_16 := Lib.hid (below_chain B_15.out (by have := B_15.out.size; have := HRr.out; omega) hb)
  have Xa_16 : Hid (Rb w16 r a) := Lib.hid (Xa_15.out.on hb)
  have Xs_16 : Hid (Rb w16 b1 ts) := Lib.hid (Xs_15.out.on hb)
  have Xr_16 : Hid (Rb w16 b2 tr) := Lib.hid (Xr_15.out.on hb)
  have Xu_16 : Hid (Rb w16 b3 tu) := Lib.hid (Xu_15.out.on hb)
  have Xv_16 : Hid (Rb w16 b4 tv) := Lib.hid (Xv_15.out.on hb)
  have Xt_16 : Hid (Rb w16 b5 tt) := Lib.hid (Xt_15.out.on hb)
  clear hb B_15 Xa_15 Xs_15 Xr_15 Xu_15 Xv_15 Xt_15
  rw [show x.num.sign = sx from HG.out.2.2.2.2.2.1]
  have g3 : decide (sx < 0) = false := HG.out.2.2.2.2.2.2
  have kt0 := Xt_16.out.c0
  have kt1 := Xt_16.out.c1
  have kt2 := Xt_16.out.c2
  have kt3 := Xt_16.out.c3
  go_wp2_with fail
  clear g3
  refine (mul_bad tt tt w16 Xt_16.out.sl Xt_16.out.sl (by rw [VN.out.1, VN.out.2]; rfl)).mono ?_
  clear kt0 kt1 kt2 kt3
  rintro e w17 ⟨tz, rfl, hi, hv, hv2, hb⟩
  have B_17 := Lib.hid (below_chain B_16.out (by have := B_16.out.size; have := HRr.out; omega) hb)
  have Xa_17 : Hid (Rb w17 r a) := Lib.hid (Xa_16.out.on hb)
  have Xs_17 : Hid (Rb w17 b1 ts) := Lib.hid (Xs_16.out.on hb)
  have Xr_17 : Hid (Rb w17 b2 tr) := Lib.hid (Xr_16.out.on hb)
  have Xu_17 : Hid (Rb w17 b3 tu) := Lib.hid (Xu_16.out.on hb)
  have Xv_17 : Hid (Rb w17 b4 tv) := Lib.hid (Xv_16.out.on hb)
  have Xt_17 : Hid (Rb w17 b5 tt) := Lib.hid (Xt_16.out.on hb)
  have Iz_17 : Hid (tz.In w17) := Lib.hid (hi)
  clear hb B_16 Xa_16 Xs_16 Xr_16 Xu_16 Xv_16 Xt_16 hi
  clear hv hv2
  go_wp2_with fail
  generalize hW : World.alloc w17 _ = V18
  have hn := below_new w17 (.cells #[.bool tz.g, .slice tz.A tz.n tz.c, .bool tz.gd, .slice tz.Ad tz.nd tz.cd] 27)
  have hx := Rb.new Iz_17.out
  rw [hW] at hn hx
  have B_18 := Lib.hid (below_chain B_17.out (by have := B_17.out.size; have := HRr.out; omega) hn)
  have Xa_18 : Hid (Rb V18 r a) := Lib.hid (Xa_17.out.on hn)
  have Xs_18 : Hid (Rb V18 b1 ts) := Lib.hid (Xs_17.out.on hn)
  have Xr_18 : Hid (Rb V18 b2 tr) := Lib.hid (Xr_17.out.on hn)
  have Xu_18 : Hid (Rb V18 b3 tu) := Lib.hid (Xu_17.out.on hn)
  have Xv_18 : Hid (Rb V18 b4 tv) := Lib.hid (Xv_17.out.on hn)
  have Xt_18 : Hid (Rb V18 b5 tt) := Lib.hid (Xt_17.out.on hn)
  have Iz_18 : Hid (tz.In V18) := Lib.hid (Iz_17.out.on hn)
  have Xz_18 := Lib.hid hx
  clear hx hn hW B_17 Xa_17 Xs_17 Xr_17 Xu_17 Xv_17 Xt_17 Iz_17 Iz_18
  generalize w17.heap.size = b6 at *
  go_wp2
  go_ret
  exact ⟨rfl, by rw [HRr.out]; exact B_18.out⟩

set_option maxRecDepth 20000 in
set_option maxHeartbeats 4000000 in
theorem sq_pyes (a : RVal) (w : World) (h1 : a.In w) (x : Rat) (hx : rv a.o a.od = some x) (hB : Bd 1920 x) (hv : vok a a a 60 = true) (m : Rat) (hM : (x.num.natAbs : Int) = m.num ∧ x.den = m.den ∧ Bd 1920 m ∧ True) (sm su sx : Int) (hG : m.num.sign = sm ∧ decide (sm < 0) = false ∧ (m + x).num.sign = su ∧ (su == 0) = false ∧ (m - x).num.sign = 0 ∧ x.num.sign = sx ∧ decide (sx < 0) = false) (y : Rat) (hX : (∀ w, a.In w → Calls Tryz.prog 35 #[.agg #[.bool a.g, .slice a.A a.n a.c, .bool a.gd, .slice a.Ad a.nd a.cd]] w (RetVB y w)) ∧ Bd 1920 y ∧ y * y = x) :
    Calls Tryz.prog 11 #[.agg #[.bool a.g, .slice a.A a.n a.c, .bool a.gd, .slice a.Ad a.nd a.cd]] w fun e w' => e = .returned (.bool true) ∧ Below w.heap.size w w' := by
  have Va := Lib.hid hx
  have HB := Lib.hid hB
  have HV := Lib.hid hv
  have HM := Lib.hid hM
  have HG := Lib.hid hG
  have HX := Lib.hid hX
  have HS := Lib.hid h1
  clear h1 hx hB hv hM hG hX
  go_enter Tryz.func11, Tryz.ntmps11
  go_wp2_with fail
  generalize hW : World.alloc w _ = V
  obtain ⟨hb, ra⟩ := one_rat a w V HS.out hW
  have B_0 : Hid (Below w.heap.size w V) := Lib.hid (hb)
  have Xa_0 := Lib.hid ra
  clear hb ra hW
  generalize hr : w.heap.size = r at *
  have HRr := Lib.hid hr
  clear hr
  refine (sane V).mono ?_
  rintro e w1 ⟨rfl, hb⟩
  have B_1 := Lib.hid (below_chain B_0.out (by have := B_0.out.size; have := HRr.out; omega) hb)
  have Xa_1 : Hid (Rb w1 r a) := Lib.hid (Xa_0.out.on hb)
  clear hb B_0 Xa_0
  have ka0 := Xa_1.out.c0
  have ka1 := Xa_1.out.c1
  have ka2 := Xa_1.out.c2
  have ka3 := Xa_1.out.c3
  go_wp2_with fail
  have C := val_any a a a 60 w1 Xa_1.out.sl Xa_1.out.sl Xa_1.out.sl
  rw [HV.out] at C
  refine C.mono ?_
  clear C
  clear ka0 ka1 ka2 ka3
  rintro e w2 ⟨rfl, hb⟩
  have B_2 := Lib.hid (below_chain B_1.out (by have := B_1.out.size; have := HRr.out; omega) hb)
  have Xa_2 : Hid (Rb w2 r a) := Lib.hid (Xa_1.out.on hb)
  clear hb B_1 Xa_1
  have ka0 := Xa_2.out.c0
  have ka1 := Xa_2.out.c1
  have ka2 := Xa_2.out.c2
  have ka3 := Xa_2.out.c3
  go_wp2_with fail
  refine (mul_v Xa_2.out.sl Xa_2.out.sl Va.out Va.out HB.out HB.out (by decide)).mono ?_
  clear ka0 ka1 ka2 ka3
  rintro e w3 ⟨ts, rfl, hi, hv, hb⟩
  have B_3 := Lib.hid (below_chain B_2.out (by have := B_2.out.size; have := HRr.out; omega) hb)
  have Xa_3 : Hid (Rb w3 r a) := Lib.hid (Xa_2.out.on hb)
  have Is_3 : Hid (ts.In w3) := Lib.hid (hi)
  clear hb B_2 Xa_2 hi
  have Vs := Lib.hid hv
  clear hv
  go_wp2_with fail
  generalize hW : World.alloc w3 _ = V4
  have hn := below_new w3 (.cells #[.bool ts.g, .slice ts.A ts.n ts.c, .bool ts.gd, .slice ts.Ad ts.nd ts.cd] 27)
  have hx := Rb.new Is_3.out
  rw [hW] at hn hx
  have B_4 := Lib.hid (below_chain B_3.out (by have := B_3.out.size; have := HRr.out; omega) hn)
  have Xa_4 : Hid (Rb V4 r a) := Lib.hid (Xa_3.out.on hn)
  have Is_4 : Hid (ts.In V4) := Lib.hid (Is_3.out.on hn)
  have Xs_4 := Lib.hid hx
  clear hx hn hW B_3 Xa_3 Is_3 Is_4
  generalize w3.heap.size = b1 at *
  refine (sqrt_sq_v Xs_4.out.sl Vs.out m HM.out.1 HM.out.2.1).mono ?_
  rintro e w5 ⟨tr, rfl, hi, hv, hb⟩
  have B_5 := Lib.hid (below_chain B_4.out (by have := B_4.out.size; have := HRr.out; omega) hb)
  have Xa_5 : Hid (Rb w5 r a) := Lib.hid (Xa_4.out.on hb)
  have Xs_5 : Hid (Rb w5 b1 ts) := Lib.hid (Xs_4.out.on hb)
  have Ir_5 : Hid (tr.In w5) := Lib.hid (hi)
  clear hb B_4 Xa_4 Xs_4 hi
  have Vr := Lib.hid hv
  clear hv
  go_wp2_with fail
  generalize hW : World.alloc w5 _ = V6
  have hn := below_new w5 (.cells #[.bool tr.g, .slice tr.A tr.n tr.c, .bool tr.gd, .slice tr.Ad tr.nd tr.cd] 27)
  have hx := Rb.new Ir_5.out
  rw [hW] at hn hx
  have B_6 := Lib.hid (below_chain B_5.out (by have := B_5.out.size; have := HRr.out; omega) hn)
  have Xa_6 : Hid (Rb V6 r a) := Lib.hid (Xa_5.out.on hn)
  have Xs_6 : Hid (Rb V6 b1 ts) := Lib.hid (Xs_5.out.on hn)
  have Ir_6 : Hid (tr.In V6) := Lib.hid (Ir_5.out.on hn)
  have Xr_6 := Lib.hid hx
  clear hx hn hW B_5 Xa_5 Xs_5 Ir_5 Ir_6
  generalize w5.heap.size = b2 at *
  refine (sign_q Xr_6.out.sl Vr.out).mono ?_
  rintro e w7 ⟨rfl, hb⟩
  have B_7 := Lib.hid (below_chain B_6.out (by have := B_6.out.size; have := HRr.out; omega) hb)
  have Xa_7 : Hid (Rb w7 r a) := Lib.hid (Xa_6.out.on hb)
  have Xs_7 : Hid (Rb w7 b1 ts) := Lib.hid (Xs_6.out.on hb)
  have Xr_7 : Hid (Rb w7 b2 tr) := Lib.hid (Xr_6.out.on hb)
  clear hb B_6 Xa_6 Xs_6 Xr_6
  rw [show m.num.sign = sm from HG.out.1]
  have g1 : decide (sm < 0) = false := HG.out.2.1
  have kr0 := Xr_7.out.c0
  have kr1 := Xr_7.out.c1
  have kr2 := Xr_7.out.c2
  have kr3 := Xr_7.out.c3
  have ka0 := Xa_7.out.c0
  have ka1 := Xa_7.out.c1
  have ka2 := Xa_7.out.c2
  have ka3 := Xa_7.out.c3
  go_wp2_with fail
  clear g1
  refine (add_v Xr_7.out.sl Xa_7.out.sl Vr.out Va.out HM.out.2.2.1 HB.out (by decide)).mono ?_
  clear kr0 kr1 kr2 kr3 ka0 ka1 ka2 ka3
  rintro e w8 ⟨tu, rfl, hi, hv, hb⟩
  have B_8 := Lib.hid (below_chain B_7.out (by have := B_7.out.size; have := HRr.out; omega) hb)
  have Xa_8 : Hid (Rb w8 r a) := Lib.hid (Xa_7.out.on hb)
  have Xs_8 : Hid (Rb w8 b1 ts) := Lib.hid (Xs_7.out.on hb)
  have Xr_8 : Hid (Rb w8 b2 tr) := Lib.hid (Xr_7.out.on hb)
  have Iu_8 : Hid (tu.In w8) := Lib.hid (hi)
  clear hb B_7 Xa_7 Xs_7 Xr_7 hi
  have Vu := Lib.hid hv
  clear hv
  have kr0 := (Xr_8.out.on (below_new w8 (.cells #[.bool tu.g, .slice tu.A tu.n tu.c, .bool tu.gd, .slice tu.Ad tu.nd tu.cd] 27))).c0
  have kr1 := (Xr_8.out.on (below_new w8 (.cells #[.bool tu.g, .slice tu.A tu.n tu.c, .bool tu.gd, .slice tu.Ad tu.nd tu.cd] 27))).c1
  have kr2 := (Xr_8.out.on (below_new w8 (.cells #[.bool tu.g, .slice tu.A tu.n tu.c, .bool tu.gd, .slice tu.Ad tu.nd tu.cd] 27))).c2
  have kr3 := (Xr_8.out.on (below_new w8 (.cells #[.bool tu.g, .slice tu.A tu.n tu.c, .bool tu.gd, .slice tu.Ad tu.nd tu.cd] 27))).c3
  have ka0 := (Xa_8.out.on (below_new w8 (.cells #[.bool tu.g, .slice tu.A tu.n tu.c, .bool tu.gd, .slice tu.Ad tu.nd tu.cd] 27))).c0
  have ka1 := (Xa_8.out.on (below_new w8 (.cells #[.bool tu.g, .slice tu.A tu.n tu.c, .bool tu.gd, .slice tu.Ad tu.nd tu.cd] 27))).c1
  have ka2 := (Xa_8.out.on (below_new w8 (.cells #[.bool tu.g, .slice tu.A tu.n tu.c, .bool tu.gd, .slice tu.Ad tu.nd tu.cd] 27))).c2
  have ka3 := (Xa_8.out.on (below_new w8 (.cells #[.bool tu.g, .slice tu.A tu.n tu.c, .bool tu.gd, .slice tu.Ad tu.nd tu.cd] 27))).c3
  go_wp2_with fail
  generalize hW : World.alloc w8 _ = V9
  have hn := below_new w8 (.cells #[.bool tu.g, .slice tu.A tu.n tu.c, .bool tu.gd, .slice tu.Ad tu.nd tu.cd] 27)
  have hx := Rb.new Iu_8.out
  rw [hW] at hn hx
  have B_9 := Lib.hid (below_chain B_8.out (by have := B_8.out.size; have := HRr.out; omega) hn)
  have Xa_9 : Hid (Rb V9 r a) := Lib.hid (Xa_8.out.on hn)
  have Xs_9 : Hid (Rb V9 b1 ts) := Lib.hid (Xs_8.out.on hn)
  have Xr_9 : Hid (Rb V9 b2 tr) := Lib.hid (Xr_8.out.on hn)
  have Iu_9 : Hid (tu.In V9) := Lib.hid (Iu_8.out.on hn)
  have Xu_9 := Lib.hid hx
  clear hx hn hW B_8 Xa_8 Xs_8 Xr_8 Iu_8 Iu_9
  generalize w8.heap.size = b3 at *
  refine (sub_v Xr_9.out.sl Xa_9.out.sl Vr.out Va.out HM.out.2.2.1 HB.out (by decide)).mono ?_
  clear kr0 kr1 kr2 kr3 ka0 ka1 ka2 ka3
  rintro e w10 ⟨tv, rfl, hi, hv, hb⟩
  have B_10 := Lib.hid (below_chain B_9.out (by have := B_9.out.size; have := HRr.out; omega) hb)
  have Xa_10 : Hid (Rb w10 r a) := Lib.hid (Xa_9.out.on hb)
  have Xs_10 : Hid (Rb w10 b1 ts) := Lib.hid (Xs_9.out.on hb)
  have Xr_10 : Hid (Rb w10 b2 tr) := Lib.hid (Xr_9.out.on hb)
  have Xu_10 : Hid (Rb w10 b3 tu) := Lib.hid (Xu_9.out.on hb)
  have Iv_10 : Hid (tv.In w10) := Lib.hid (hi)
  clear hb B_9 Xa_9 Xs_9 Xr_9 Xu_9 hi
  have Vv := Lib.hid hv
  clear hv
  have ku0 := (Xu_10.out.on (below_new w10 (.cells #[.bool tv.g, .slice tv.A tv.n tv.c, .bool tv.gd, .slice tv.Ad tv.nd tv.cd] 27))).c0
  have ku1 := (Xu_10.out.on (below_new w10 (.cells #[.bool tv.g, .slice tv.A tv.n tv.c, .bool tv.gd, .slice tv.Ad tv.nd tv.cd] 27))).c1
  have ku2 := (Xu_10.out.on (below_new w10 (.cells #[.bool tv.g, .slice tv.A tv.n tv.c, .bool tv.gd, .slice tv.Ad tv.nd tv.cd] 27))).c2
  have ku3 := (Xu_10.out.on (below_new w10 (.cells #[.bool tv.g, .slice tv.A tv.n tv.c, .bool tv.gd, .slice tv.Ad tv.nd tv.cd] 27))).c3
  go_wp2_with fail
  generalize hW : World.alloc w10 _ = V11
  have hn := below_new w10 (.cells #[.bool tv.g, .slice tv.A tv.n tv.c, .bool tv.gd, .slice tv.Ad tv.nd tv.cd] 27)
  have hx := Rb.new Iv_10.out
  rw [hW] at hn hx
  have B_11 := Lib.hid (below_chain B_10.out (by have := B_10.out.size; have := HRr.out; omega) hn)
  have Xa_11 : Hid (Rb V11 r a) := Lib.hid (Xa_10.out.on hn)
  have Xs_11 : Hid (Rb V11 b1 ts) := Lib.hid (Xs_10.out.on hn)
  have Xr_11 : Hid (Rb V11 b2 tr) := Lib.hid (Xr_10.out.on hn)
  have Xu_11 : Hid (Rb V11 b3 tu) := Lib.hid (Xu_10.out.on hn)
  have Iv_11 : Hid (tv.In V11) := Lib.hid (Iv_10.out.on hn)
  have Xv_11 := Lib.hid hx
  clear hx hn hW B_10 Xa_10 Xs_10 Xr_10 Xu_10 Iv_10 Iv_11
  generalize w10.heap.size = b4 at *
  refine (sign_q Xu_11.out.sl Vu.out).mono ?_
  clear ku0 ku1 ku2 ku3
  rintro e w12 ⟨rfl, hb⟩
  have B_12 := Lib.hid (below_chain B_11.out (by have := B_11.out.size; have := HRr.out; omega) hb)
  have Xa_12 : Hid (Rb w12 r a) := Lib.hid (Xa_11.out.on hb)
  have Xs_12 : Hid (Rb w12 b1 ts) := Lib.hid (Xs_11.out.on hb)
  have Xr_12 : Hid (Rb w12 b2 tr) := Lib.hid (Xr_11.out.on hb)
  have Xu_12 : Hid (Rb w12 b3 tu) := Lib.hid (Xu_11.out.on hb)
  have Xv_12 : Hid (Rb w12 b4 tv) := Lib.hid (Xv_11.out.on hb)
  clear hb B_11 Xa_11 Xs_11 Xr_11 Xu_11 Xv_11
  rw [show (m + x).num.sign = su from HG.out.2.2.1]
  have g2 : (su != 0) = true := by rw [bne, show (su == 0) = false from HG.out.2.2.2.1]; rfl
  have kv0 := Xv_12.out.c0
  have kv1 := Xv_12.out.c1
  have kv2 := Xv_12.out.c2
  have kv3 := Xv_12.out.c3
  go_wp2_with fail
  clear g2
  refine (sign_q Xv_12.out.sl Vv.out).mono ?_
  clear kv0 kv1 kv2 kv3
  rintro e w13 ⟨rfl, hb⟩
  have B_13 := Lib.hid (below_chain B_12.out (by have := B_12.out.size; have := HRr.out; omega) hb)
  have Xa_13 : Hid (Rb w13 r a) := Lib.hid (Xa_12.out.on hb)
  have Xs_13 : Hid (Rb w13 b1 ts) := Lib.hid (Xs_12.out.on hb)
  have Xr_13 : Hid (Rb w13 b2 tr) := Lib.hid (Xr_12.out.on hb)
  have Xu_13 : Hid (Rb w13 b3 tu) := Lib.hid (Xu_12.out.on hb)
  have Xv_13 : Hid (Rb w13 b4 tv) := Lib.hid (Xv_12.out.on hb)
  clear hb B_12 Xa_12 Xs_12 Xr_12 Xu_12 Xv_12
  rw [show (m - x).num.sign = 0 from HG.out.2.2.2.2.1]
  have ka0 := Xa_13.out.c0
  have ka1 := Xa_13.out.c1
  have ka2 := Xa_13.out.c2
  have ka3 := Xa_13.out.c3
  go_wp2_with fail
  refine (HX.out.1 w13 Xa_13.out.sl).mono ?_
  clear ka0 ka1 ka2 ka3
  rintro e w14 ⟨tt, rfl, hi, hv, hb⟩
  have B_14 := Lib.hid (below_chain B_13.out (by have := B_13.out.size; have := HRr.out; omega) hb)
  have Xa_14 : Hid (Rb w14 r a) := Lib.hid (Xa_13.out.on hb)
  have Xs_14 : Hid (Rb w14 b1 ts) := Lib.hid (Xs_13.out.on hb)
  have Xr_14 : Hid (Rb w14 b2 tr) := Lib.hid (Xr_13.out.on hb)
  have Xu_14 : Hid (Rb w14 b3 tu) := Lib.hid (Xu_13.out.on hb)
  have Xv_14 : Hid (Rb w14 b4 tv) := Lib.hid (Xv_13.out.on hb)
  have It_14 : Hid (tt.In w14) := Lib.hid (hi)
  clear hb B_13 Xa_13 Xs_13 Xr_13 Xu_13 Xv_13 hi
  have Vt := Lib.hid hv
  clear hv
  have ka0 := (Xa_14.out.on (below_new w14 (.cells #[.bool tt.g, .slice tt.A tt.n tt.c, .bool tt.gd, .slice tt.Ad tt.nd tt.cd] 27))).c0
  have ka1 := (Xa_14.out.on (below_new w14 (.cells #[.bool tt.g, .slice tt.A tt.n tt.c, .bool tt.gd, .slice tt.Ad tt.nd tt.cd] 27))).c1
  have ka2 := (Xa_14.out.on (below_new w14 (.cells #[.bool tt.g, .slice tt.A tt.n tt.c, .bool tt.gd, .slice tt.Ad tt.nd tt.cd] 27))).c2
  have ka3 := (Xa_14.out.on (below_new w14 (.cells #[.bool tt.g, .slice tt.A tt.n tt.c, .bool tt.gd, .slice tt.Ad tt.nd tt.cd] 27))).c3
  go_wp2_with fail
  generalize hW : World.alloc w14 _ = V15
  have hn := below_new w14 (.cells #[.bool tt.g, .slice tt.A tt.n tt.c, .bool tt.gd, .slice tt.Ad tt.nd tt.cd] 27)
  have hx := Rb.new It_14.out
  rw [hW] at hn hx
  have B_15 := Lib.hid (below_chain B_14.out (by have := B_14.out.size; have := HRr.out; omega) hn)
  have Xa_15 : Hid (Rb V15 r a) := Lib.hid (Xa_14.out.on hn)
  have Xs_15 : Hid (Rb V15 b1 ts) := Lib.hid (Xs_14.out.on hn)
  have Xr_15 : Hid (Rb V15 b2 tr) := Lib.hid (Xr_14.out.on hn)
  have Xu_15 : Hid (Rb V15 b3 tu) := Lib.hid (Xu_14.out.on hn)
  have Xv_15 : Hid (Rb V15 b4 tv) := Lib.hid (Xv_14.out.on hn)
  have It_15 : Hid (tt.In V15) := Lib.hid (It_14.out.on hn)
  have Xt_15 := Lib.hid hx
  clear hx hn hW B_14 Xa_14 Xs_14 Xr_14 Xu_14 Xv_14 It_14 It_15
  generalize w14.heap.size = b5 at *
  refine (sign_q Xa_15.out.sl Va.out).mono ?_
  clear ka0 ka1 ka2 ka3
  rintro e w16 ⟨rfl, hb⟩
  have B_16 := Lib.hid (below_chain B_15.out (by have := B_15.out.size; have := HRr.out; omega) hb)
  have Xa_16 : Hid (Rb w16 r a) := Lib.hid (Xa_15.out.on hb)
  have Xs_16 : Hid (Rb w16 b1 ts) := Lib.hid (Xs_15.out.on hb)
  have Xr_16 : Hid (Rb w16 b2 tr) := Lib.hid (Xr_15.out.on hb)
  have Xu_16 : Hid (Rb w16 b3 tu) := Lib.hid (Xu_15.out.on hb)
  have Xv_16 : Hid (Rb w16 b4 tv) := Lib.hid (Xv_15.out.on hb)
  have Xt_16 : Hid (Rb w16 b5 tt) := Lib.hid (Xt_15.out.on hb)
  clear hb B_15 Xa_15 Xs_15 Xr_15 Xu_15 Xv_15 Xt_15
  rw [show x.num.sign = sx from HG.out.2.2.2.2.2.1]
  have g3 : decide (sx < 0) = false := HG.out.2.2.2.2.2.2
  have kt0 := Xt_16.out.c0
  have kt1 := Xt_16.out.c1
  have kt2 := Xt_16.out.c2
  have kt3 := Xt_16.out.c3
  go_wp2_with fail
  clear g3
  refine (mul_v Xt_16.out.sl Xt_16.out.sl Vt.out Vt.out HX.out.2.1 HX.out.2.1 (by decide)).mono ?_
  clear kt0 kt1 kt2 kt3
  rintro e w17 ⟨tz, rfl, hi, hv, hb⟩
  have B_17 := Lib.hid (below_chain B_16.out (by have := B_16.out.size; have := HRr.out; omega) hb)
  have Xa_17 : Hid (Rb w17 r a) := Lib.hid (Xa_16.out.on hb)
  have Xs_17 : Hid (Rb w17 b1 ts) := Lib.hid (Xs_16.out.on hb)
  have Xr_17 : Hid (Rb w17 b2 tr) := Lib.hid (Xr_16.out.on hb)
  have Xu_17 : Hid (Rb w17 b3 tu) := Lib.hid (Xu_16.out.on hb)
  have Xv_17 : Hid (Rb w17 b4 tv) := Lib.hid (Xv_16.out.on hb)
  have Xt_17 : Hid (Rb w17 b5 tt) := Lib.hid (Xt_16.out.on hb)
  have Iz_17 : Hid (tz.In w17) := Lib.hid (hi)
  clear hb B_16 Xa_16 Xs_16 Xr_16 Xu_16 Xv_16 Xt_16 hi
  have Vz := Lib.hid hv
  clear hv
  have ka0 := (Xa_17.out.on (below_new w17 (.cells #[.bool tz.g, .slice tz.A tz.n tz.c, .bool tz.gd, .slice tz.Ad tz.nd tz.cd] 27))).c0
  have ka1 := (Xa_17.out.on (below_new w17 (.cells #[.bool tz.g, .slice tz.A tz.n tz.c, .bool tz.gd, .slice tz.Ad tz.nd tz.cd] 27))).c1
  have ka2 := (Xa_17.out.on (below_new w17 (.cells #[.bool tz.g, .slice tz.A tz.n tz.c, .bool tz.gd, .slice tz.Ad tz.nd tz.cd] 27))).c2
  have ka3 := (Xa_17.out.on (below_new w17 (.cells #[.bool tz.g, .slice tz.A tz.n tz.c, .bool tz.gd, .slice tz.Ad tz.nd tz.cd] 27))).c3
  go_wp2_with fail
  generalize hW : World.alloc w17 _ = V18
  have hn := below_new w17 (.cells #[.bool tz.g, .slice tz.A tz.n tz.c, .bool tz.gd, .slice tz.Ad tz.nd tz.cd] 27)
  have hx := Rb.new Iz_17.out
  rw [hW] at hn hx
  have B_18 := Lib.hid (below_chain B_17.out (by have := B_17.out.size; have := HRr.out; omega) hn)
  have Xa_18 : Hid (Rb V18 r a) := Lib.hid (Xa_17.out.on hn)
  have Xs_18 : Hid (Rb V18 b1 ts) := Lib.hid (Xs_17.out.on hn)
  have Xr_18 : Hid (Rb V18 b2 tr) := Lib.hid (Xr_17.out.on hn)
  have Xu_18 : Hid (Rb V18 b3 tu) := Lib.hid (Xu_17.out.on hn)
  have Xv_18 : Hid (Rb V18 b4 tv) := Lib.hid (Xv_17.out.on hn)
  have Xt_18 : Hid (Rb V18 b5 tt) := Lib.hid (Xt_17.out.on hn)
  have Iz_18 : Hid (tz.In V18) := Lib.hid (Iz_17.out.on hn)
  have Xz_18 := Lib.hid hx
  clear hx hn hW B_17 Xa_17 Xs_17 Xr_17 Xu_17 Xv_17 Xt_17 Iz_17 Iz_18
  generalize w17.heap.size = b6 at *
  refine (same_v Xz_18.out.sl Xa_18.out.sl Vz.out Va.out HX.out.2.2).mono ?_
  clear ka0 ka1 ka2 ka3
  rintro e w19 ⟨rfl, hb⟩
  have B_19 := Lib.hid (below_chain B_18.out (by have := B_18.out.size; have := HRr.out; omega) hb)
  have Xa_19 : Hid (Rb w19 r a) := Lib.hid (Xa_18.out.on hb)
  have Xs_19 : Hid (Rb w19 b1 ts) := Lib.hid (Xs_18.out.on hb)
  have Xr_19 : Hid (Rb w19 b2 tr) := Lib.hid (Xr_18.out.on hb)
  have Xu_19 : Hid (Rb w19 b3 tu) := Lib.hid (Xu_18.out.on hb)
  have Xv_19 : Hid (Rb w19 b4 tv) := Lib.hid (Xv_18.out.on hb)
  have Xt_19 : Hid (Rb w19 b5 tt) := Lib.hid (Xt_18.out.on hb)
  have Xz_19 : Hid (Rb w19 b6 tz) := Lib.hid (Xz_18.out.on hb)
  clear hb B_18 Xa_18 Xs_18 Xr_18 Xu_18 Xv_18 Xt_18 Xz_18
  go_wp2
  go_ret
  exact ⟨rfl, by rw [HRr.out]; exact B_19.out⟩

theorem rationalSquares_any (a : RVal) (w : World) (h1 : a.In w) :
    Calls Tryz.prog 11 #[.agg #[.bool a.g, .slice a.A a.n a.c, .bool a.gd, .slice a.Ad a.nd a.cd]] w fun e w' => e = .returned (.bool true) ∧ Below w.heap.size w w' := by
  rcases hv : vok a a a 60 with _ | _
  · exact sq_no a w h1 hv
  · obtain ⟨x, x', x'', hx, _, _, bx, _, _⟩ := vok_yes h1 h1 h1 hv
    have bx : Bd 1920 x := bx
    rcases Int.lt_trichotomy x.num 0 with h | h | h
    · have e1 : (-x).num = -x.num := rfl
      have e2 : (-x).den = x.den := rfl
      have e3 : -x + x = 0 := by grind
      refine sq_neg a w h1 x hx bx hv (-x) ⟨by rw [e1]; omega, e2.symm, ⟨by rw [e1, Int.natAbs_neg]; exact bx.1, bx.2⟩, trivial⟩ _ _ _ ⟨rfl, ?_, rfl, by rw [e3]; rfl, trivial, rfl, ?_⟩ h
      · rw [decide_eq_false_iff_not, e1, Int.sign_eq_one_of_pos (by omega)]; decide
      · rw [decide_eq_true_iff, Int.sign_eq_neg_one_of_neg h]; decide
    · have hm : (x.num.natAbs : Int) = x.num := by omega
      have e0 : x = 0 := Rat.num_eq_zero.1 h
      have e3 : x + x = 0 := by grind
      have s0 : decide (x.num.sign < 0) = false := by rw [h]; rfl
      rcases sqrt_any hx (by omega) bx with ⟨y, hy, by', C⟩ | C
      · exact sq_zyes a w h1 x hx bx hv x ⟨hm, rfl, bx, trivial⟩ _ _ _ ⟨rfl, s0, rfl, by rw [e3]; rfl, trivial, rfl, s0⟩ y ⟨C, by', hy⟩
      · exact sq_zno a w h1 x hx bx hv x ⟨hm, rfl, bx, trivial⟩ _ _ _ ⟨rfl, s0, rfl, by rw [e3]; rfl, trivial, rfl, s0⟩ C
    · have hm : (x.num.natAbs : Int) = x.num := by omega
      have e3 : x - x = 0 := by grind
      have s0 : decide (x.num.sign < 0) = false := by rw [Int.sign_eq_one_of_pos h]; rfl
      have s1 : ((x + x).num.sign == 0) = false := by
        rw [beq_eq_false_iff_ne]
        intro k
        have k2 : (x + x).num = 0 := Int.sign_eq_zero_iff_zero.1 k
        have k3 : x + x = 0 := Rat.num_eq_zero.1 k2
        have k4 : x = 0 := by grind
        rw [k4] at h
        exact absurd h (by decide)
      rcases sqrt_any hx (by omega) bx with ⟨y, hy, by', C⟩ | C
      · exact sq_pyes a w h1 x hx bx hv x ⟨hm, rfl, bx, trivial⟩ _ _ _ ⟨rfl, s0, rfl, s1, by rw [e3]; rfl, rfl, s0⟩ y ⟨C, by', hy⟩
      · exact sq_pno a w h1 x hx bx hv x ⟨hm, rfl, bx, trivial⟩ _ _ _ ⟨rfl, s0, rfl, s1, by rw [e3]; rfl, rfl, s0⟩ C
end Go.Proofs.YtfpcooinceebpaaGreat