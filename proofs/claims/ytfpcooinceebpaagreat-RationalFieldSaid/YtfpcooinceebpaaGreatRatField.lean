/-
  Stage 2: RationalField, its walk.
-/
import Derived.Test.YtfpcooinceebpaaGreatRatLb
namespace Go.Proofs.YtfpcooinceebpaaGreat
open Go.RowKit

set_option maxRecDepth 20000 in
set_option maxHeartbeats 4000000 in
theorem field_no (a b c : RVal) (w : World) (h1 : a.In w) (h2 : b.In w) (h3 : c.In w) (hv : vok a b c 16 = false) :
    Calls Tryz.prog 8 #[.agg #[.bool a.g, .slice a.A a.n a.c, .bool a.gd, .slice a.Ad a.nd a.cd], .agg #[.bool b.g, .slice b.A b.n b.c, .bool b.gd, .slice b.Ad b.nd b.cd], .agg #[.bool c.g, .slice c.A c.n c.c, .bool c.gd, .slice c.Ad c.nd c.cd]] w fun e w' => e = .returned (.bool true) ∧ Below w.heap.size w w' := by
  have HV := Lib.hid hv
  have HS := Lib.hid (And.intro h1 (And.intro h2 h3))
  clear h1 h2 h3 hv
  go_enter Tryz.func8, Tryz.ntmps8
  go_wp2_with fail
  generalize hW : World.alloc (World.alloc (World.alloc w _) _) _ = V
  obtain ⟨hb, ra, rb, rc⟩ := three_rats a b c w V HS.out.1 HS.out.2.1 HS.out.2.2 hW
  have B_0 : Hid (Below w.heap.size w V) := Lib.hid (hb)
  have Xa_0 := Lib.hid ra
  have Xb_0 := Lib.hid rb
  have Xc_0 := Lib.hid rc
  clear hb ra rb rc hW
  generalize hr : w.heap.size = r at *
  have HRr := Lib.hid hr
  clear hr
  refine (sane V).mono ?_
  rintro e w1 ⟨rfl, hb⟩
  have B_1 := Lib.hid (below_chain B_0.out (by have := B_0.out.size; have := HRr.out; omega) hb)
  have Xa_1 : Hid (Rb w1 r a) := Lib.hid (Xa_0.out.on hb)
  have Xb_1 : Hid (Rb w1 (r + 1) b) := Lib.hid (Xb_0.out.on hb)
  have Xc_1 : Hid (Rb w1 (r + 1 + 1) c) := Lib.hid (Xc_0.out.on hb)
  clear hb B_0 Xa_0 Xb_0 Xc_0
  have ka0 := Xa_1.out.c0
  have ka1 := Xa_1.out.c1
  have ka2 := Xa_1.out.c2
  have ka3 := Xa_1.out.c3
  have kb0 := Xb_1.out.c0
  have kb1 := Xb_1.out.c1
  have kb2 := Xb_1.out.c2
  have kb3 := Xb_1.out.c3
  have kc0 := Xc_1.out.c0
  have kc1 := Xc_1.out.c1
  have kc2 := Xc_1.out.c2
  have kc3 := Xc_1.out.c3
  go_wp2_with fail
  have C := val_any a b c 16 w1 Xa_1.out.sl Xb_1.out.sl Xc_1.out.sl
  rw [HV.out] at C
  refine C.mono ?_
  clear C
  clear ka0 ka1 ka2 ka3 kb0 kb1 kb2 kb3 kc0 kc1 kc2 kc3
  rintro e w2 ⟨rfl, hb⟩
  have B_2 := Lib.hid (below_chain B_1.out (by have := B_1.out.size; have := HRr.out; omega) hb)
  have Xa_2 : Hid (Rb w2 r a) := Lib.hid (Xa_1.out.on hb)
  have Xb_2 : Hid (Rb w2 (r + 1) b) := Lib.hid (Xb_1.out.on hb)
  have Xc_2 : Hid (Rb w2 (r + 1 + 1) c) := Lib.hid (Xc_1.out.on hb)
  clear hb B_1 Xa_1 Xb_1 Xc_1
  go_wp2
  go_ret
  exact ⟨rfl, by rw [HRr.out]; exact B_2.out⟩

set_option maxRecDepth 20000 in
set_option maxHeartbeats 4000000 in
theorem field_yes (a b c : RVal) (w : World) (h1 : a.In w) (h2 : b.In w) (h3 : c.In w) (x y z : Rat) (hx : rv a.o a.od = some x) (hy : rv b.o b.od = some y) (hz : rv c.o c.od = some z) (hB : Bd 512 x ∧ Bd 512 y ∧ Bd 512 z) (hv : vok a b c 16 = true) (he : x + y = y + x ∧ x + y + z = x + (y + z) ∧ x * y = y * x ∧ x * y * z = x * (y * z) ∧ x * y + x * z = x * (y + z)) :
    Calls Tryz.prog 8 #[.agg #[.bool a.g, .slice a.A a.n a.c, .bool a.gd, .slice a.Ad a.nd a.cd], .agg #[.bool b.g, .slice b.A b.n b.c, .bool b.gd, .slice b.Ad b.nd b.cd], .agg #[.bool c.g, .slice c.A c.n c.c, .bool c.gd, .slice c.Ad c.nd c.cd]] w fun e w' => e = .returned (.bool true) ∧ Below w.heap.size w w' := by
  have Va := Lib.hid hx
  have Vb := Lib.hid hy
  have Vc := Lib.hid hz
  have HB := Lib.hid hB
  have HV := Lib.hid hv
  have HE := Lib.hid he
  have HS := Lib.hid (And.intro h1 (And.intro h2 h3))
  clear h1 h2 h3 hx hy hz hB hv he
  go_enter Tryz.func8, Tryz.ntmps8
  go_wp2_with fail
  generalize hW : World.alloc (World.alloc (World.alloc w _) _) _ = V
  obtain ⟨hb, ra, rb, rc⟩ := three_rats a b c w V HS.out.1 HS.out.2.1 HS.out.2.2 hW
  have B_0 : Hid (Below w.heap.size w V) := Lib.hid (hb)
  have Xa_0 := Lib.hid ra
  have Xb_0 := Lib.hid rb
  have Xc_0 := Lib.hid rc
  clear hb ra rb rc hW
  generalize hr : w.heap.size = r at *
  have HRr := Lib.hid hr
  clear hr
  refine (sane V).mono ?_
  rintro e w1 ⟨rfl, hb⟩
  have B_1 := Lib.hid (below_chain B_0.out (by have := B_0.out.size; have := HRr.out; omega) hb)
  have Xa_1 : Hid (Rb w1 r a) := Lib.hid (Xa_0.out.on hb)
  have Xb_1 : Hid (Rb w1 (r + 1) b) := Lib.hid (Xb_0.out.on hb)
  have Xc_1 : Hid (Rb w1 (r + 1 + 1) c) := Lib.hid (Xc_0.out.on hb)
  clear hb B_0 Xa_0 Xb_0 Xc_0
  have ka0 := Xa_1.out.c0
  have ka1 := Xa_1.out.c1
  have ka2 := Xa_1.out.c2
  have ka3 := Xa_1.out.c3
  have kb0 := Xb_1.out.c0
  have kb1 := Xb_1.out.c1
  have kb2 := Xb_1.out.c2
  have kb3 := Xb_1.out.c3
  have kc0 := Xc_1.out.c0
  have kc1 := Xc_1.out.c1
  have kc2 := Xc_1.out.c2
  have kc3 := Xc_1.out.c3
  go_wp2_with fail
  have C := val_any a b c 16 w1 Xa_1.out.sl Xb_1.out.sl Xc_1.out.sl
  rw [HV.out] at C
  refine C.mono ?_
  clear C
  clear ka0 ka1 ka2 ka3 kb0 kb1 kb2 kb3 kc0 kc1 kc2 kc3
  rintro e w2 ⟨rfl, hb⟩
  have B_2 := Lib.hid (below_chain B_1.out (by have := B_1.out.size; have := HRr.out; omega) hb)
  have Xa_2 : Hid (Rb w2 r a) := Lib.hid (Xa_1.out.on hb)
  have Xb_2 : Hid (Rb w2 (r + 1) b) := Lib.hid (Xb_1.out.on hb)
  have Xc_2 : Hid (Rb w2 (r + 1 + 1) c) := Lib.hid (Xc_1.out.on hb)
  clear hb B_1 Xa_1 Xb_1 Xc_1
  have ka0 := Xa_2.out.c0
  have ka1 := Xa_2.out.c1
  have ka2 := Xa_2.out.c2
  have ka3 := Xa_2.out.c3
  have kb0 := Xb_2.out.c0
  have kb1 := Xb_2.out.c1
  have kb2 := Xb_2.out.c2
  have kb3 := Xb_2.out.c3
  go_wp2_with fail
  refine (add_v Xa_2.out.sl Xb_2.out.sl Va.out Vb.out HB.out.1 HB.out.2.1 (by decide)).mono ?_
  clear ka0 ka1 ka2 ka3 kb0 kb1 kb2 kb3
  rintro e w3 ⟨tp, rfl, hi, hv, hb⟩
  have B_3 := Lib.hid (below_chain B_2.out (by have := B_2.out.size; have := HRr.out; omega) hb)
  have Xa_3 : Hid (Rb w3 r a) := Lib.hid (Xa_2.out.on hb)
  have Xb_3 : Hid (Rb w3 (r + 1) b) := Lib.hid (Xb_2.out.on hb)
  have Xc_3 : Hid (Rb w3 (r + 1 + 1) c) := Lib.hid (Xc_2.out.on hb)
  have Ip_3 : Hid (tp.In w3) := Lib.hid (hi)
  clear hb B_2 Xa_2 Xb_2 Xc_2 hi
  have Vp := Lib.hid hv
  clear hv
  have kb0 := (Xb_3.out.on (below_new w3 (.cells #[.bool tp.g, .slice tp.A tp.n tp.c, .bool tp.gd, .slice tp.Ad tp.nd tp.cd] 27))).c0
  have kb1 := (Xb_3.out.on (below_new w3 (.cells #[.bool tp.g, .slice tp.A tp.n tp.c, .bool tp.gd, .slice tp.Ad tp.nd tp.cd] 27))).c1
  have kb2 := (Xb_3.out.on (below_new w3 (.cells #[.bool tp.g, .slice tp.A tp.n tp.c, .bool tp.gd, .slice tp.Ad tp.nd tp.cd] 27))).c2
  have kb3 := (Xb_3.out.on (below_new w3 (.cells #[.bool tp.g, .slice tp.A tp.n tp.c, .bool tp.gd, .slice tp.Ad tp.nd tp.cd] 27))).c3
  have ka0 := (Xa_3.out.on (below_new w3 (.cells #[.bool tp.g, .slice tp.A tp.n tp.c, .bool tp.gd, .slice tp.Ad tp.nd tp.cd] 27))).c0
  have ka1 := (Xa_3.out.on (below_new w3 (.cells #[.bool tp.g, .slice tp.A tp.n tp.c, .bool tp.gd, .slice tp.Ad tp.nd tp.cd] 27))).c1
  have ka2 := (Xa_3.out.on (below_new w3 (.cells #[.bool tp.g, .slice tp.A tp.n tp.c, .bool tp.gd, .slice tp.Ad tp.nd tp.cd] 27))).c2
  have ka3 := (Xa_3.out.on (below_new w3 (.cells #[.bool tp.g, .slice tp.A tp.n tp.c, .bool tp.gd, .slice tp.Ad tp.nd tp.cd] 27))).c3
  go_wp2_with fail
  generalize hW : World.alloc w3 _ = V4
  have hn := below_new w3 (.cells #[.bool tp.g, .slice tp.A tp.n tp.c, .bool tp.gd, .slice tp.Ad tp.nd tp.cd] 27)
  have hx := Rb.new Ip_3.out
  rw [hW] at hn hx
  have B_4 := Lib.hid (below_chain B_3.out (by have := B_3.out.size; have := HRr.out; omega) hn)
  have Xa_4 : Hid (Rb V4 r a) := Lib.hid (Xa_3.out.on hn)
  have Xb_4 : Hid (Rb V4 (r + 1) b) := Lib.hid (Xb_3.out.on hn)
  have Xc_4 : Hid (Rb V4 (r + 1 + 1) c) := Lib.hid (Xc_3.out.on hn)
  have Ip_4 : Hid (tp.In V4) := Lib.hid (Ip_3.out.on hn)
  have Xp_4 := Lib.hid hx
  clear hx hn hW B_3 Xa_3 Xb_3 Xc_3 Ip_3 Ip_4
  generalize w3.heap.size = b1 at *
  refine (add_v Xb_4.out.sl Xa_4.out.sl Vb.out Va.out HB.out.2.1 HB.out.1 (by decide)).mono ?_
  clear kb0 kb1 kb2 kb3 ka0 ka1 ka2 ka3
  rintro e w5 ⟨tq, rfl, hi, hv, hb⟩
  have B_5 := Lib.hid (below_chain B_4.out (by have := B_4.out.size; have := HRr.out; omega) hb)
  have Xa_5 : Hid (Rb w5 r a) := Lib.hid (Xa_4.out.on hb)
  have Xb_5 : Hid (Rb w5 (r + 1) b) := Lib.hid (Xb_4.out.on hb)
  have Xc_5 : Hid (Rb w5 (r + 1 + 1) c) := Lib.hid (Xc_4.out.on hb)
  have Xp_5 : Hid (Rb w5 b1 tp) := Lib.hid (Xp_4.out.on hb)
  have Iq_5 : Hid (tq.In w5) := Lib.hid (hi)
  clear hb B_4 Xa_4 Xb_4 Xc_4 Xp_4 hi
  have Vq := Lib.hid hv
  clear hv
  have kb0 := (Xb_5.out.on (below_new w5 (.cells #[.bool tq.g, .slice tq.A tq.n tq.c, .bool tq.gd, .slice tq.Ad tq.nd tq.cd] 27))).c0
  have kb1 := (Xb_5.out.on (below_new w5 (.cells #[.bool tq.g, .slice tq.A tq.n tq.c, .bool tq.gd, .slice tq.Ad tq.nd tq.cd] 27))).c1
  have kb2 := (Xb_5.out.on (below_new w5 (.cells #[.bool tq.g, .slice tq.A tq.n tq.c, .bool tq.gd, .slice tq.Ad tq.nd tq.cd] 27))).c2
  have kb3 := (Xb_5.out.on (below_new w5 (.cells #[.bool tq.g, .slice tq.A tq.n tq.c, .bool tq.gd, .slice tq.Ad tq.nd tq.cd] 27))).c3
  have kc0 := (Xc_5.out.on (below_new w5 (.cells #[.bool tq.g, .slice tq.A tq.n tq.c, .bool tq.gd, .slice tq.Ad tq.nd tq.cd] 27))).c0
  have kc1 := (Xc_5.out.on (below_new w5 (.cells #[.bool tq.g, .slice tq.A tq.n tq.c, .bool tq.gd, .slice tq.Ad tq.nd tq.cd] 27))).c1
  have kc2 := (Xc_5.out.on (below_new w5 (.cells #[.bool tq.g, .slice tq.A tq.n tq.c, .bool tq.gd, .slice tq.Ad tq.nd tq.cd] 27))).c2
  have kc3 := (Xc_5.out.on (below_new w5 (.cells #[.bool tq.g, .slice tq.A tq.n tq.c, .bool tq.gd, .slice tq.Ad tq.nd tq.cd] 27))).c3
  go_wp2_with fail
  generalize hW : World.alloc w5 _ = V6
  have hn := below_new w5 (.cells #[.bool tq.g, .slice tq.A tq.n tq.c, .bool tq.gd, .slice tq.Ad tq.nd tq.cd] 27)
  have hx := Rb.new Iq_5.out
  rw [hW] at hn hx
  have B_6 := Lib.hid (below_chain B_5.out (by have := B_5.out.size; have := HRr.out; omega) hn)
  have Xa_6 : Hid (Rb V6 r a) := Lib.hid (Xa_5.out.on hn)
  have Xb_6 : Hid (Rb V6 (r + 1) b) := Lib.hid (Xb_5.out.on hn)
  have Xc_6 : Hid (Rb V6 (r + 1 + 1) c) := Lib.hid (Xc_5.out.on hn)
  have Xp_6 : Hid (Rb V6 b1 tp) := Lib.hid (Xp_5.out.on hn)
  have Iq_6 : Hid (tq.In V6) := Lib.hid (Iq_5.out.on hn)
  have Xq_6 := Lib.hid hx
  clear hx hn hW B_5 Xa_5 Xb_5 Xc_5 Xp_5 Iq_5 Iq_6
  generalize w5.heap.size = b2 at *
  refine (add_v Xb_6.out.sl Xc_6.out.sl Vb.out Vc.out HB.out.2.1 HB.out.2.2 (by decide)).mono ?_
  clear kb0 kb1 kb2 kb3 kc0 kc1 kc2 kc3
  rintro e w7 ⟨ts, rfl, hi, hv, hb⟩
  have B_7 := Lib.hid (below_chain B_6.out (by have := B_6.out.size; have := HRr.out; omega) hb)
  have Xa_7 : Hid (Rb w7 r a) := Lib.hid (Xa_6.out.on hb)
  have Xb_7 : Hid (Rb w7 (r + 1) b) := Lib.hid (Xb_6.out.on hb)
  have Xc_7 : Hid (Rb w7 (r + 1 + 1) c) := Lib.hid (Xc_6.out.on hb)
  have Xp_7 : Hid (Rb w7 b1 tp) := Lib.hid (Xp_6.out.on hb)
  have Xq_7 : Hid (Rb w7 b2 tq) := Lib.hid (Xq_6.out.on hb)
  have Is_7 : Hid (ts.In w7) := Lib.hid (hi)
  clear hb B_6 Xa_6 Xb_6 Xc_6 Xp_6 Xq_6 hi
  have Vs := Lib.hid hv
  clear hv
  have kp0 := (Xp_7.out.on (below_new w7 (.cells #[.bool ts.g, .slice ts.A ts.n ts.c, .bool ts.gd, .slice ts.Ad ts.nd ts.cd] 27))).c0
  have kp1 := (Xp_7.out.on (below_new w7 (.cells #[.bool ts.g, .slice ts.A ts.n ts.c, .bool ts.gd, .slice ts.Ad ts.nd ts.cd] 27))).c1
  have kp2 := (Xp_7.out.on (below_new w7 (.cells #[.bool ts.g, .slice ts.A ts.n ts.c, .bool ts.gd, .slice ts.Ad ts.nd ts.cd] 27))).c2
  have kp3 := (Xp_7.out.on (below_new w7 (.cells #[.bool ts.g, .slice ts.A ts.n ts.c, .bool ts.gd, .slice ts.Ad ts.nd ts.cd] 27))).c3
  have kc0 := (Xc_7.out.on (below_new w7 (.cells #[.bool ts.g, .slice ts.A ts.n ts.c, .bool ts.gd, .slice ts.Ad ts.nd ts.cd] 27))).c0
  have kc1 := (Xc_7.out.on (below_new w7 (.cells #[.bool ts.g, .slice ts.A ts.n ts.c, .bool ts.gd, .slice ts.Ad ts.nd ts.cd] 27))).c1
  have kc2 := (Xc_7.out.on (below_new w7 (.cells #[.bool ts.g, .slice ts.A ts.n ts.c, .bool ts.gd, .slice ts.Ad ts.nd ts.cd] 27))).c2
  have kc3 := (Xc_7.out.on (below_new w7 (.cells #[.bool ts.g, .slice ts.A ts.n ts.c, .bool ts.gd, .slice ts.Ad ts.nd ts.cd] 27))).c3
  go_wp2_with fail
  generalize hW : World.alloc w7 _ = V8
  have hn := below_new w7 (.cells #[.bool ts.g, .slice ts.A ts.n ts.c, .bool ts.gd, .slice ts.Ad ts.nd ts.cd] 27)
  have hx := Rb.new Is_7.out
  rw [hW] at hn hx
  have B_8 := Lib.hid (below_chain B_7.out (by have := B_7.out.size; have := HRr.out; omega) hn)
  have Xa_8 : Hid (Rb V8 r a) := Lib.hid (Xa_7.out.on hn)
  have Xb_8 : Hid (Rb V8 (r + 1) b) := Lib.hid (Xb_7.out.on hn)
  have Xc_8 : Hid (Rb V8 (r + 1 + 1) c) := Lib.hid (Xc_7.out.on hn)
  have Xp_8 : Hid (Rb V8 b1 tp) := Lib.hid (Xp_7.out.on hn)
  have Xq_8 : Hid (Rb V8 b2 tq) := Lib.hid (Xq_7.out.on hn)
  have Is_8 : Hid (ts.In V8) := Lib.hid (Is_7.out.on hn)
  have Xs_8 := Lib.hid hx
  clear hx hn hW B_7 Xa_7 Xb_7 Xc_7 Xp_7 Xq_7 Is_7 Is_8
  generalize w7.heap.size = b3 at *
  refine (add_v Xp_8.out.sl Xc_8.out.sl Vp.out Vc.out (HB.out.1.add HB.out.2.1) HB.out.2.2 (by decide)).mono ?_
  clear kp0 kp1 kp2 kp3 kc0 kc1 kc2 kc3
  rintro e w9 ⟨tl, rfl, hi, hv, hb⟩
  have B_9 := Lib.hid (below_chain B_8.out (by have := B_8.out.size; have := HRr.out; omega) hb)
  have Xa_9 : Hid (Rb w9 r a) := Lib.hid (Xa_8.out.on hb)
  have Xb_9 : Hid (Rb w9 (r + 1) b) := Lib.hid (Xb_8.out.on hb)
  have Xc_9 : Hid (Rb w9 (r + 1 + 1) c) := Lib.hid (Xc_8.out.on hb)
  have Xp_9 : Hid (Rb w9 b1 tp) := Lib.hid (Xp_8.out.on hb)
  have Xq_9 : Hid (Rb w9 b2 tq) := Lib.hid (Xq_8.out.on hb)
  have Xs_9 : Hid (Rb w9 b3 ts) := Lib.hid (Xs_8.out.on hb)
  have Il_9 : Hid (tl.In w9) := Lib.hid (hi)
  clear hb B_8 Xa_8 Xb_8 Xc_8 Xp_8 Xq_8 Xs_8 hi
  have Vl := Lib.hid hv
  clear hv
  have ka0 := (Xa_9.out.on (below_new w9 (.cells #[.bool tl.g, .slice tl.A tl.n tl.c, .bool tl.gd, .slice tl.Ad tl.nd tl.cd] 27))).c0
  have ka1 := (Xa_9.out.on (below_new w9 (.cells #[.bool tl.g, .slice tl.A tl.n tl.c, .bool tl.gd, .slice tl.Ad tl.nd tl.cd] 27))).c1
  have ka2 := (Xa_9.out.on (below_new w9 (.cells #[.bool tl.g, .slice tl.A tl.n tl.c, .bool tl.gd, .slice tl.Ad tl.nd tl.cd] 27))).c2
  have ka3 := (Xa_9.out.on (below_new w9 (.cells #[.bool tl.g, .slice tl.A tl.n tl.c, .bool tl.gd, .slice tl.Ad tl.nd tl.cd] 27))).c3
  have ks0 := (Xs_9.out.on (below_new w9 (.cells #[.bool tl.g, .slice tl.A tl.n tl.c, .bool tl.gd, .slice tl.Ad tl.nd tl.cd] 27))).c0
  have ks1 := (Xs_9.out.on (below_new w9 (.cells #[.bool tl.g, .slice tl.A tl.n tl.c, .bool tl.gd, .slice tl.Ad tl.nd tl.cd] 27))).c1
  have ks2 := (Xs_9.out.on (below_new w9 (.cells #[.bool tl.g, .slice tl.A tl.n tl.c, .bool tl.gd, .slice tl.Ad tl.nd tl.cd] 27))).c2
  have ks3 := (Xs_9.out.on (below_new w9 (.cells #[.bool tl.g, .slice tl.A tl.n tl.c, .bool tl.gd, .slice tl.Ad tl.nd tl.cd] 27))).c3
  go_wp2_with fail
  generalize hW : World.alloc w9 _ = V10
  have hn := below_new w9 (.cells #[.bool tl.g, .slice tl.A tl.n tl.c, .bool tl.gd, .slice tl.Ad tl.nd tl.cd] 27)
  have hx := Rb.new Il_9.out
  rw [hW] at hn hx
  have B_10 := Lib.hid (below_chain B_9.out (by have := B_9.out.size; have := HRr.out; omega) hn)
  have Xa_10 : Hid (Rb V10 r a) := Lib.hid (Xa_9.out.on hn)
  have Xb_10 : Hid (Rb V10 (r + 1) b) := Lib.hid (Xb_9.out.on hn)
  have Xc_10 : Hid (Rb V10 (r + 1 + 1) c) := Lib.hid (Xc_9.out.on hn)
  have Xp_10 : Hid (Rb V10 b1 tp) := Lib.hid (Xp_9.out.on hn)
  have Xq_10 : Hid (Rb V10 b2 tq) := Lib.hid (Xq_9.out.on hn)
  have Xs_10 : Hid (Rb V10 b3 ts) := Lib.hid (Xs_9.out.on hn)
  have Il_10 : Hid (tl.In V10) := Lib.hid (Il_9.out.on hn)
  have Xl_10 := Lib.hid hx
  clear hx hn hW B_9 Xa_9 Xb_9 Xc_9 Xp_9 Xq_9 Xs_9 Il_9 Il_10
  generalize w9.heap.size = b4 at *
  refine (add_v Xa_10.out.sl Xs_10.out.sl Va.out Vs.out HB.out.1 (HB.out.2.1.add HB.out.2.2) (by decide)).mono ?_
  clear ka0 ka1 ka2 ka3 ks0 ks1 ks2 ks3
  rintro e w11 ⟨tm, rfl, hi, hv, hb⟩
  have B_11 := Lib.hid (below_chain B_10.out (by have := B_10.out.size; have := HRr.out; omega) hb)
  have Xa_11 : Hid (Rb w11 r a) := Lib.hid (Xa_10.out.on hb)
  have Xb_11 : Hid (Rb w11 (r + 1) b) := Lib.hid (Xb_10.out.on hb)
  have Xc_11 : Hid (Rb w11 (r + 1 + 1) c) := Lib.hid (Xc_10.out.on hb)
  have Xp_11 : Hid (Rb w11 b1 tp) := Lib.hid (Xp_10.out.on hb)
  have Xq_11 : Hid (Rb w11 b2 tq) := Lib.hid (Xq_10.out.on hb)
  have Xs_11 : Hid (Rb w11 b3 ts) := Lib.hid (Xs_10.out.on hb)
  have Xl_11 : Hid (Rb w11 b4 tl) := Lib.hid (Xl_10.out.on hb)
  have Im_11 : Hid (tm.In w11) := Lib.hid (hi)
  clear hb B_10 Xa_10 Xb_10 Xc_10 Xp_10 Xq_10 Xs_10 Xl_10 hi
  have Vm := Lib.hid hv
  clear hv
  have kp0 := (Xp_11.out.on (below_new w11 (.cells #[.bool tm.g, .slice tm.A tm.n tm.c, .bool tm.gd, .slice tm.Ad tm.nd tm.cd] 27))).c0
  have kp1 := (Xp_11.out.on (below_new w11 (.cells #[.bool tm.g, .slice tm.A tm.n tm.c, .bool tm.gd, .slice tm.Ad tm.nd tm.cd] 27))).c1
  have kp2 := (Xp_11.out.on (below_new w11 (.cells #[.bool tm.g, .slice tm.A tm.n tm.c, .bool tm.gd, .slice tm.Ad tm.nd tm.cd] 27))).c2
  have kp3 := (Xp_11.out.on (below_new w11 (.cells #[.bool tm.g, .slice tm.A tm.n tm.c, .bool tm.gd, .slice tm.Ad tm.nd tm.cd] 27))).c3
  have kq0 := (Xq_11.out.on (below_new w11 (.cells #[.bool tm.g, .slice tm.A tm.n tm.c, .bool tm.gd, .slice tm.Ad tm.nd tm.cd] 27))).c0
  have kq1 := (Xq_11.out.on (below_new w11 (.cells #[.bool tm.g, .slice tm.A tm.n tm.c, .bool tm.gd, .slice tm.Ad tm.nd tm.cd] 27))).c1
  have kq2 := (Xq_11.out.on (below_new w11 (.cells #[.bool tm.g, .slice tm.A tm.n tm.c, .bool tm.gd, .slice tm.Ad tm.nd tm.cd] 27))).c2
  have kq3 := (Xq_11.out.on (below_new w11 (.cells #[.bool tm.g, .slice tm.A tm.n tm.c, .bool tm.gd, .slice tm.Ad tm.nd tm.cd] 27))).c3
  go_wp2_with fail
  generalize hW : World.alloc w11 _ = V12
  have hn := below_new w11 (.cells #[.bool tm.g, .slice tm.A tm.n tm.c, .bool tm.gd, .slice tm.Ad tm.nd tm.cd] 27)
  have hx := Rb.new Im_11.out
  rw [hW] at hn hx
  have B_12 := Lib.hid (below_chain B_11.out (by have := B_11.out.size; have := HRr.out; omega) hn)
  have Xa_12 : Hid (Rb V12 r a) := Lib.hid (Xa_11.out.on hn)
  have Xb_12 : Hid (Rb V12 (r + 1) b) := Lib.hid (Xb_11.out.on hn)
  have Xc_12 : Hid (Rb V12 (r + 1 + 1) c) := Lib.hid (Xc_11.out.on hn)
  have Xp_12 : Hid (Rb V12 b1 tp) := Lib.hid (Xp_11.out.on hn)
  have Xq_12 : Hid (Rb V12 b2 tq) := Lib.hid (Xq_11.out.on hn)
  have Xs_12 : Hid (Rb V12 b3 ts) := Lib.hid (Xs_11.out.on hn)
  have Xl_12 : Hid (Rb V12 b4 tl) := Lib.hid (Xl_11.out.on hn)
  have Im_12 : Hid (tm.In V12) := Lib.hid (Im_11.out.on hn)
  have Xm_12 := Lib.hid hx
  clear hx hn hW B_11 Xa_11 Xb_11 Xc_11 Xp_11 Xq_11 Xs_11 Xl_11 Im_11 Im_12
  generalize w11.heap.size = b5 at *
  refine (same_v Xp_12.out.sl Xq_12.out.sl Vp.out Vq.out HE.out.1).mono ?_
  clear kp0 kp1 kp2 kp3 kq0 kq1 kq2 kq3
  rintro e w13 ⟨rfl, hb⟩
  have B_13 := Lib.hid (below_chain B_12.out (by have := B_12.out.size; have := HRr.out; omega) hb)
  have Xa_13 : Hid (Rb w13 r a) := Lib.hid (Xa_12.out.on hb)
  have Xb_13 : Hid (Rb w13 (r + 1) b) := Lib.hid (Xb_12.out.on hb)
  have Xc_13 : Hid (Rb w13 (r + 1 + 1) c) := Lib.hid (Xc_12.out.on hb)
  have Xp_13 : Hid (Rb w13 b1 tp) := Lib.hid (Xp_12.out.on hb)
  have Xq_13 : Hid (Rb w13 b2 tq) := Lib.hid (Xq_12.out.on hb)
  have Xs_13 : Hid (Rb w13 b3 ts) := Lib.hid (Xs_12.out.on hb)
  have Xl_13 : Hid (Rb w13 b4 tl) := Lib.hid (Xl_12.out.on hb)
  have Xm_13 : Hid (Rb w13 b5 tm) := Lib.hid (Xm_12.out.on hb)
  clear hb B_12 Xa_12 Xb_12 Xc_12 Xp_12 Xq_12 Xs_12 Xl_12 Xm_12
  have kl0 := Xl_13.out.c0
  have kl1 := Xl_13.out.c1
  have kl2 := Xl_13.out.c2
  have kl3 := Xl_13.out.c3
  have km0 := Xm_13.out.c0
  have km1 := Xm_13.out.c1
  have km2 := Xm_13.out.c2
  have km3 := Xm_13.out.c3
  go_wp2_with fail
  refine (same_v Xl_13.out.sl Xm_13.out.sl Vl.out Vm.out HE.out.2.1).mono ?_
  clear kl0 kl1 kl2 kl3 km0 km1 km2 km3
  rintro e w14 ⟨rfl, hb⟩
  have B_14 := Lib.hid (below_chain B_13.out (by have := B_13.out.size; have := HRr.out; omega) hb)
  have Xa_14 : Hid (Rb w14 r a) := Lib.hid (Xa_13.out.on hb)
  have Xb_14 : Hid (Rb w14 (r + 1) b) := Lib.hid (Xb_13.out.on hb)
  have Xc_14 : Hid (Rb w14 (r + 1 + 1) c) := Lib.hid (Xc_13.out.on hb)
  have Xp_14 : Hid (Rb w14 b1 tp) := Lib.hid (Xp_13.out.on hb)
  have Xq_14 : Hid (Rb w14 b2 tq) := Lib.hid (Xq_13.out.on hb)
  have Xs_14 : Hid (Rb w14 b3 ts) := Lib.hid (Xs_13.out.on hb)
  have Xl_14 : Hid (Rb w14 b4 tl) := Lib.hid (Xl_13.out.on hb)
  have Xm_14 : Hid (Rb w14 b5 tm) := Lib.hid (Xm_13.out.on hb)
  clear hb B_13 Xa_13 Xb_13 Xc_13 Xp_13 Xq_13 Xs_13 Xl_13 Xm_13
  clear Xp_14 Xq_14 Xl_14 Xm_14
  have ka0 := Xa_14.out.c0
  have ka1 := Xa_14.out.c1
  have ka2 := Xa_14.out.c2
  have ka3 := Xa_14.out.c3
  have kb0 := Xb_14.out.c0
  have kb1 := Xb_14.out.c1
  have kb2 := Xb_14.out.c2
  have kb3 := Xb_14.out.c3
  go_wp2_with fail
  refine (mul_v Xa_14.out.sl Xb_14.out.sl Va.out Vb.out HB.out.1 HB.out.2.1 (by decide)).mono ?_
  clear ka0 ka1 ka2 ka3 kb0 kb1 kb2 kb3
  rintro e w15 ⟨tt, rfl, hi, hv, hb⟩
  have B_15 := Lib.hid (below_chain B_14.out (by have := B_14.out.size; have := HRr.out; omega) hb)
  have Xa_15 : Hid (Rb w15 r a) := Lib.hid (Xa_14.out.on hb)
  have Xb_15 : Hid (Rb w15 (r + 1) b) := Lib.hid (Xb_14.out.on hb)
  have Xc_15 : Hid (Rb w15 (r + 1 + 1) c) := Lib.hid (Xc_14.out.on hb)
  have Xs_15 : Hid (Rb w15 b3 ts) := Lib.hid (Xs_14.out.on hb)
  have It_15 : Hid (tt.In w15) := Lib.hid (hi)
  clear hb B_14 Xa_14 Xb_14 Xc_14 Xs_14 hi
  have Vt := Lib.hid hv
  clear hv
  have kb0 := (Xb_15.out.on (below_new w15 (.cells #[.bool tt.g, .slice tt.A tt.n tt.c, .bool tt.gd, .slice tt.Ad tt.nd tt.cd] 27))).c0
  have kb1 := (Xb_15.out.on (below_new w15 (.cells #[.bool tt.g, .slice tt.A tt.n tt.c, .bool tt.gd, .slice tt.Ad tt.nd tt.cd] 27))).c1
  have kb2 := (Xb_15.out.on (below_new w15 (.cells #[.bool tt.g, .slice tt.A tt.n tt.c, .bool tt.gd, .slice tt.Ad tt.nd tt.cd] 27))).c2
  have kb3 := (Xb_15.out.on (below_new w15 (.cells #[.bool tt.g, .slice tt.A tt.n tt.c, .bool tt.gd, .slice tt.Ad tt.nd tt.cd] 27))).c3
  have ka0 := (Xa_15.out.on (below_new w15 (.cells #[.bool tt.g, .slice tt.A tt.n tt.c, .bool tt.gd, .slice tt.Ad tt.nd tt.cd] 27))).c0
  have ka1 := (Xa_15.out.on (below_new w15 (.cells #[.bool tt.g, .slice tt.A tt.n tt.c, .bool tt.gd, .slice tt.Ad tt.nd tt.cd] 27))).c1
  have ka2 := (Xa_15.out.on (below_new w15 (.cells #[.bool tt.g, .slice tt.A tt.n tt.c, .bool tt.gd, .slice tt.Ad tt.nd tt.cd] 27))).c2
  have ka3 := (Xa_15.out.on (below_new w15 (.cells #[.bool tt.g, .slice tt.A tt.n tt.c, .bool tt.gd, .slice tt.Ad tt.nd tt.cd] 27))).c3
  go_wp2_with fail
  generalize hW : World.alloc w15 _ = V16
  have hn := below_new w15 (.cells #[.bool tt.g, .slice tt.A tt.n tt.c, .bool tt.gd, .slice tt.Ad tt.nd tt.cd] 27)
  have hx := Rb.new It_15.out
  rw [hW] at hn hx
  have B_16 := Lib.hid (below_chain B_15.out (by have := B_15.out.size; have := HRr.out; omega) hn)
  have Xa_16 : Hid (Rb V16 r a) := Lib.hid (Xa_15.out.on hn)
  have Xb_16 : Hid (Rb V16 (r + 1) b) := Lib.hid (Xb_15.out.on hn)
  have Xc_16 : Hid (Rb V16 (r + 1 + 1) c) := Lib.hid (Xc_15.out.on hn)
  have Xs_16 : Hid (Rb V16 b3 ts) := Lib.hid (Xs_15.out.on hn)
  have It_16 : Hid (tt.In V16) := Lib.hid (It_15.out.on hn)
  have Xt_16 := Lib.hid hx
  clear hx hn hW B_15 Xa_15 Xb_15 Xc_15 Xs_15 It_15 It_16
  generalize w15.heap.size = b6 at *
  refine (mul_v Xb_16.out.sl Xa_16.out.sl Vb.out Va.out HB.out.2.1 HB.out.1 (by decide)).mono ?_
  clear kb0 kb1 kb2 kb3 ka0 ka1 ka2 ka3
  rintro e w17 ⟨tu, rfl, hi, hv, hb⟩
  have B_17 := Lib.hid (below_chain B_16.out (by have := B_16.out.size; have := HRr.out; omega) hb)
  have Xa_17 : Hid (Rb w17 r a) := Lib.hid (Xa_16.out.on hb)
  have Xb_17 : Hid (Rb w17 (r + 1) b) := Lib.hid (Xb_16.out.on hb)
  have Xc_17 : Hid (Rb w17 (r + 1 + 1) c) := Lib.hid (Xc_16.out.on hb)
  have Xs_17 : Hid (Rb w17 b3 ts) := Lib.hid (Xs_16.out.on hb)
  have Xt_17 : Hid (Rb w17 b6 tt) := Lib.hid (Xt_16.out.on hb)
  have Iu_17 : Hid (tu.In w17) := Lib.hid (hi)
  clear hb B_16 Xa_16 Xb_16 Xc_16 Xs_16 Xt_16 hi
  have Vu := Lib.hid hv
  clear hv
  have kb0 := (Xb_17.out.on (below_new w17 (.cells #[.bool tu.g, .slice tu.A tu.n tu.c, .bool tu.gd, .slice tu.Ad tu.nd tu.cd] 27))).c0
  have kb1 := (Xb_17.out.on (below_new w17 (.cells #[.bool tu.g, .slice tu.A tu.n tu.c, .bool tu.gd, .slice tu.Ad tu.nd tu.cd] 27))).c1
  have kb2 := (Xb_17.out.on (below_new w17 (.cells #[.bool tu.g, .slice tu.A tu.n tu.c, .bool tu.gd, .slice tu.Ad tu.nd tu.cd] 27))).c2
  have kb3 := (Xb_17.out.on (below_new w17 (.cells #[.bool tu.g, .slice tu.A tu.n tu.c, .bool tu.gd, .slice tu.Ad tu.nd tu.cd] 27))).c3
  have kc0 := (Xc_17.out.on (below_new w17 (.cells #[.bool tu.g, .slice tu.A tu.n tu.c, .bool tu.gd, .slice tu.Ad tu.nd tu.cd] 27))).c0
  have kc1 := (Xc_17.out.on (below_new w17 (.cells #[.bool tu.g, .slice tu.A tu.n tu.c, .bool tu.gd, .slice tu.Ad tu.nd tu.cd] 27))).c1
  have kc2 := (Xc_17.out.on (below_new w17 (.cells #[.bool tu.g, .slice tu.A tu.n tu.c, .bool tu.gd, .slice tu.Ad tu.nd tu.cd] 27))).c2
  have kc3 := (Xc_17.out.on (below_new w17 (.cells #[.bool tu.g, .slice tu.A tu.n tu.c, .bool tu.gd, .slice tu.Ad tu.nd tu.cd] 27))).c3
  go_wp2_with fail
  generalize hW : World.alloc w17 _ = V18
  have hn := below_new w17 (.cells #[.bool tu.g, .slice tu.A tu.n tu.c, .bool tu.gd, .slice tu.Ad tu.nd tu.cd] 27)
  have hx := Rb.new Iu_17.out
  rw [hW] at hn hx
  have B_18 := Lib.hid (below_chain B_17.out (by have := B_17.out.size; have := HRr.out; omega) hn)
  have Xa_18 : Hid (Rb V18 r a) := Lib.hid (Xa_17.out.on hn)
  have Xb_18 : Hid (Rb V18 (r + 1) b) := Lib.hid (Xb_17.out.on hn)
  have Xc_18 : Hid (Rb V18 (r + 1 + 1) c) := Lib.hid (Xc_17.out.on hn)
  have Xs_18 : Hid (Rb V18 b3 ts) := Lib.hid (Xs_17.out.on hn)
  have Xt_18 : Hid (Rb V18 b6 tt) := Lib.hid (Xt_17.out.on hn)
  have Iu_18 : Hid (tu.In V18) := Lib.hid (Iu_17.out.on hn)
  have Xu_18 := Lib.hid hx
  clear hx hn hW B_17 Xa_17 Xb_17 Xc_17 Xs_17 Xt_17 Iu_17 Iu_18
  generalize w17.heap.size = b7 at *
  refine (mul_v Xb_18.out.sl Xc_18.out.sl Vb.out Vc.out HB.out.2.1 HB.out.2.2 (by decide)).mono ?_
  clear kb0 kb1 kb2 kb3 kc0 kc1 kc2 kc3
  rintro e w19 ⟨ti, rfl, hi, hv, hb⟩
  have B_19 := Lib.hid (below_chain B_18.out (by have := B_18.out.size; have := HRr.out; omega) hb)
  have Xa_19 : Hid (Rb w19 r a) := Lib.hid (Xa_18.out.on hb)
  have Xb_19 : Hid (Rb w19 (r + 1) b) := Lib.hid (Xb_18.out.on hb)
  have Xc_19 : Hid (Rb w19 (r + 1 + 1) c) := Lib.hid (Xc_18.out.on hb)
  have Xs_19 : Hid (Rb w19 b3 ts) := Lib.hid (Xs_18.out.on hb)
  have Xt_19 : Hid (Rb w19 b6 tt) := Lib.hid (Xt_18.out.on hb)
  have Xu_19 : Hid (Rb w19 b7 tu) := Lib.hid (Xu_18.out.on hb)
  have Ii_19 : Hid (ti.In w19) := Lib.hid (hi)
  clear hb B_18 Xa_18 Xb_18 Xc_18 Xs_18 Xt_18 Xu_18 hi
  have Vi := Lib.hid hv
  clear hv
  have kt0 := (Xt_19.out.on (below_new w19 (.cells #[.bool ti.g, .slice ti.A ti.n ti.c, .bool ti.gd, .slice ti.Ad ti.nd ti.cd] 27))).c0
  have kt1 := (Xt_19.out.on (below_new w19 (.cells #[.bool ti.g, .slice ti.A ti.n ti.c, .bool ti.gd, .slice ti.Ad ti.nd ti.cd] 27))).c1
  have kt2 := (Xt_19.out.on (below_new w19 (.cells #[.bool ti.g, .slice ti.A ti.n ti.c, .bool ti.gd, .slice ti.Ad ti.nd ti.cd] 27))).c2
  have kt3 := (Xt_19.out.on (below_new w19 (.cells #[.bool ti.g, .slice ti.A ti.n ti.c, .bool ti.gd, .slice ti.Ad ti.nd ti.cd] 27))).c3
  have kc0 := (Xc_19.out.on (below_new w19 (.cells #[.bool ti.g, .slice ti.A ti.n ti.c, .bool ti.gd, .slice ti.Ad ti.nd ti.cd] 27))).c0
  have kc1 := (Xc_19.out.on (below_new w19 (.cells #[.bool ti.g, .slice ti.A ti.n ti.c, .bool ti.gd, .slice ti.Ad ti.nd ti.cd] 27))).c1
  have kc2 := (Xc_19.out.on (below_new w19 (.cells #[.bool ti.g, .slice ti.A ti.n ti.c, .bool ti.gd, .slice ti.Ad ti.nd ti.cd] 27))).c2
  have kc3 := (Xc_19.out.on (below_new w19 (.cells #[.bool ti.g, .slice ti.A ti.n ti.c, .bool ti.gd, .slice ti.Ad ti.nd ti.cd] 27))).c3
  go_wp2_with fail
  generalize hW : World.alloc w19 _ = V20
  have hn := below_new w19 (.cells #[.bool ti.g, .slice ti.A ti.n ti.c, .bool ti.gd, .slice ti.Ad ti.nd ti.cd] 27)
  have hx := Rb.new Ii_19.out
  rw [hW] at hn hx
  have B_20 := Lib.hid (below_chain B_19.out (by have := B_19.out.size; have := HRr.out; omega) hn)
  have Xa_20 : Hid (Rb V20 r a) := Lib.hid (Xa_19.out.on hn)
  have Xb_20 : Hid (Rb V20 (r + 1) b) := Lib.hid (Xb_19.out.on hn)
  have Xc_20 : Hid (Rb V20 (r + 1 + 1) c) := Lib.hid (Xc_19.out.on hn)
  have Xs_20 : Hid (Rb V20 b3 ts) := Lib.hid (Xs_19.out.on hn)
  have Xt_20 : Hid (Rb V20 b6 tt) := Lib.hid (Xt_19.out.on hn)
  have Xu_20 : Hid (Rb V20 b7 tu) := Lib.hid (Xu_19.out.on hn)
  have Ii_20 : Hid (ti.In V20) := Lib.hid (Ii_19.out.on hn)
  have Xi_20 := Lib.hid hx
  clear hx hn hW B_19 Xa_19 Xb_19 Xc_19 Xs_19 Xt_19 Xu_19 Ii_19 Ii_20
  generalize w19.heap.size = b8 at *
  refine (mul_v Xt_20.out.sl Xc_20.out.sl Vt.out Vc.out (HB.out.1.mul HB.out.2.1) HB.out.2.2 (by decide)).mono ?_
  clear kt0 kt1 kt2 kt3 kc0 kc1 kc2 kc3
  rintro e w21 ⟨tj, rfl, hi, hv, hb⟩
  have B_21 := Lib.hid (below_chain B_20.out (by have := B_20.out.size; have := HRr.out; omega) hb)
  have Xa_21 : Hid (Rb w21 r a) := Lib.hid (Xa_20.out.on hb)
  have Xb_21 : Hid (Rb w21 (r + 1) b) := Lib.hid (Xb_20.out.on hb)
  have Xc_21 : Hid (Rb w21 (r + 1 + 1) c) := Lib.hid (Xc_20.out.on hb)
  have Xs_21 : Hid (Rb w21 b3 ts) := Lib.hid (Xs_20.out.on hb)
  have Xt_21 : Hid (Rb w21 b6 tt) := Lib.hid (Xt_20.out.on hb)
  have Xu_21 : Hid (Rb w21 b7 tu) := Lib.hid (Xu_20.out.on hb)
  have Xi_21 : Hid (Rb w21 b8 ti) := Lib.hid (Xi_20.out.on hb)
  have Ij_21 : Hid (tj.In w21) := Lib.hid (hi)
  clear hb B_20 Xa_20 Xb_20 Xc_20 Xs_20 Xt_20 Xu_20 Xi_20 hi
  have Vj := Lib.hid hv
  clear hv
  have ka0 := (Xa_21.out.on (below_new w21 (.cells #[.bool tj.g, .slice tj.A tj.n tj.c, .bool tj.gd, .slice tj.Ad tj.nd tj.cd] 27))).c0
  have ka1 := (Xa_21.out.on (below_new w21 (.cells #[.bool tj.g, .slice tj.A tj.n tj.c, .bool tj.gd, .slice tj.Ad tj.nd tj.cd] 27))).c1
  have ka2 := (Xa_21.out.on (below_new w21 (.cells #[.bool tj.g, .slice tj.A tj.n tj.c, .bool tj.gd, .slice tj.Ad tj.nd tj.cd] 27))).c2
  have ka3 := (Xa_21.out.on (below_new w21 (.cells #[.bool tj.g, .slice tj.A tj.n tj.c, .bool tj.gd, .slice tj.Ad tj.nd tj.cd] 27))).c3
  have ki0 := (Xi_21.out.on (below_new w21 (.cells #[.bool tj.g, .slice tj.A tj.n tj.c, .bool tj.gd, .slice tj.Ad tj.nd tj.cd] 27))).c0
  have ki1 := (Xi_21.out.on (below_new w21 (.cells #[.bool tj.g, .slice tj.A tj.n tj.c, .bool tj.gd, .slice tj.Ad tj.nd tj.cd] 27))).c1
  have ki2 := (Xi_21.out.on (below_new w21 (.cells #[.bool tj.g, .slice tj.A tj.n tj.c, .bool tj.gd, .slice tj.Ad tj.nd tj.cd] 27))).c2
  have ki3 := (Xi_21.out.on (below_new w21 (.cells #[.bool tj.g, .slice tj.A tj.n tj.c, .bool tj.gd, .slice tj.Ad tj.nd tj.cd] 27))).c3
  go_wp2_with fail
  generalize hW : World.alloc w21 _ = V22
  have hn := below_new w21 (.cells #[.bool tj.g, .slice tj.A tj.n tj.c, .bool tj.gd, .slice tj.Ad tj.nd tj.cd] 27)
  have hx := Rb.new Ij_21.out
  rw [hW] at hn hx
  have B_22 := Lib.hid (below_chain B_21.out (by have := B_21.out.size; have := HRr.out; omega) hn)
  have Xa_22 : Hid (Rb V22 r a) := Lib.hid (Xa_21.out.on hn)
  have Xb_22 : Hid (Rb V22 (r + 1) b) := Lib.hid (Xb_21.out.on hn)
  have Xc_22 : Hid (Rb V22 (r + 1 + 1) c) := Lib.hid (Xc_21.out.on hn)
  have Xs_22 : Hid (Rb V22 b3 ts) := Lib.hid (Xs_21.out.on hn)
  have Xt_22 : Hid (Rb V22 b6 tt) := Lib.hid (Xt_21.out.on hn)
  have Xu_22 : Hid (Rb V22 b7 tu) := Lib.hid (Xu_21.out.on hn)
  have Xi_22 : Hid (Rb V22 b8 ti) := Lib.hid (Xi_21.out.on hn)
  have Ij_22 : Hid (tj.In V22) := Lib.hid (Ij_21.out.on hn)
  have Xj_22 := Lib.hid hx
  clear hx hn hW B_21 Xa_21 Xb_21 Xc_21 Xs_21 Xt_21 Xu_21 Xi_21 Ij_21 Ij_22
  generalize w21.heap.size = b9 at *
  refine (mul_v Xa_22.out.sl Xi_22.out.sl Va.out Vi.out HB.out.1 (HB.out.2.1.mul HB.out.2.2) (by decide)).mono ?_
  clear ka0 ka1 ka2 ka3 ki0 ki1 ki2 ki3
  rintro e w23 ⟨tn, rfl, hi, hv, hb⟩
  have B_23 := Lib.hid (below_chain B_22.out (by have := B_22.out.size; have := HRr.out; omega) hb)
  have Xa_23 : Hid (Rb w23 r a) := Lib.hid (Xa_22.out.on hb)
  have Xb_23 : Hid (Rb w23 (r + 1) b) := Lib.hid (Xb_22.out.on hb)
  have Xc_23 : Hid (Rb w23 (r + 1 + 1) c) := Lib.hid (Xc_22.out.on hb)
  have Xs_23 : Hid (Rb w23 b3 ts) := Lib.hid (Xs_22.out.on hb)
  have Xt_23 : Hid (Rb w23 b6 tt) := Lib.hid (Xt_22.out.on hb)
  have Xu_23 : Hid (Rb w23 b7 tu) := Lib.hid (Xu_22.out.on hb)
  have Xi_23 : Hid (Rb w23 b8 ti) := Lib.hid (Xi_22.out.on hb)
  have Xj_23 : Hid (Rb w23 b9 tj) := Lib.hid (Xj_22.out.on hb)
  have In_23 : Hid (tn.In w23) := Lib.hid (hi)
  clear hb B_22 Xa_22 Xb_22 Xc_22 Xs_22 Xt_22 Xu_22 Xi_22 Xj_22 hi
  have Vn := Lib.hid hv
  clear hv
  have kt0 := (Xt_23.out.on (below_new w23 (.cells #[.bool tn.g, .slice tn.A tn.n tn.c, .bool tn.gd, .slice tn.Ad tn.nd tn.cd] 27))).c0
  have kt1 := (Xt_23.out.on (below_new w23 (.cells #[.bool tn.g, .slice tn.A tn.n tn.c, .bool tn.gd, .slice tn.Ad tn.nd tn.cd] 27))).c1
  have kt2 := (Xt_23.out.on (below_new w23 (.cells #[.bool tn.g, .slice tn.A tn.n tn.c, .bool tn.gd, .slice tn.Ad tn.nd tn.cd] 27))).c2
  have kt3 := (Xt_23.out.on (below_new w23 (.cells #[.bool tn.g, .slice tn.A tn.n tn.c, .bool tn.gd, .slice tn.Ad tn.nd tn.cd] 27))).c3
  have ku0 := (Xu_23.out.on (below_new w23 (.cells #[.bool tn.g, .slice tn.A tn.n tn.c, .bool tn.gd, .slice tn.Ad tn.nd tn.cd] 27))).c0
  have ku1 := (Xu_23.out.on (below_new w23 (.cells #[.bool tn.g, .slice tn.A tn.n tn.c, .bool tn.gd, .slice tn.Ad tn.nd tn.cd] 27))).c1
  have ku2 := (Xu_23.out.on (below_new w23 (.cells #[.bool tn.g, .slice tn.A tn.n tn.c, .bool tn.gd, .slice tn.Ad tn.nd tn.cd] 27))).c2
  have ku3 := (Xu_23.out.on (below_new w23 (.cells #[.bool tn.g, .slice tn.A tn.n tn.c, .bool tn.gd, .slice tn.Ad tn.nd tn.cd] 27))).c3
  go_wp2_with fail
  generalize hW : World.alloc w23 _ = V24
  have hn := below_new w23 (.cells #[.bool tn.g, .slice tn.A tn.n tn.c, .bool tn.gd, .slice tn.Ad tn.nd tn.cd] 27)
  have hx := Rb.new In_23.out
  rw [hW] at hn hx
  have B_24 := Lib.hid (below_chain B_23.out (by have := B_23.out.size; have := HRr.out; omega) hn)
  have Xa_24 : Hid (Rb V24 r a) := Lib.hid (Xa_23.out.on hn)
  have Xb_24 : Hid (Rb V24 (r + 1) b) := Lib.hid (Xb_23.out.on hn)
  have Xc_24 : Hid (Rb V24 (r + 1 + 1) c) := Lib.hid (Xc_23.out.on hn)
  have Xs_24 : Hid (Rb V24 b3 ts) := Lib.hid (Xs_23.out.on hn)
  have Xt_24 : Hid (Rb V24 b6 tt) := Lib.hid (Xt_23.out.on hn)
  have Xu_24 : Hid (Rb V24 b7 tu) := Lib.hid (Xu_23.out.on hn)
  have Xi_24 : Hid (Rb V24 b8 ti) := Lib.hid (Xi_23.out.on hn)
  have Xj_24 : Hid (Rb V24 b9 tj) := Lib.hid (Xj_23.out.on hn)
  have In_24 : Hid (tn.In V24) := Lib.hid (In_23.out.on hn)
  have Xn_24 := Lib.hid hx
  clear hx hn hW B_23 Xa_23 Xb_23 Xc_23 Xs_23 Xt_23 Xu_23 Xi_23 Xj_23 In_23 In_24
  generalize w23.heap.size = b10 at *
  refine (same_v Xt_24.out.sl Xu_24.out.sl Vt.out Vu.out HE.out.2.2.1).mono ?_
  clear kt0 kt1 kt2 kt3 ku0 ku1 ku2 ku3
  rintro e w25 ⟨rfl, hb⟩
  have B_25 := Lib.hid (below_chain B_24.out (by have := B_24.out.size; have := HRr.out; omega) hb)
  have Xa_25 : Hid (Rb w25 r a) := Lib.hid (Xa_24.out.on hb)
  have Xb_25 : Hid (Rb w25 (r + 1) b) := Lib.hid (Xb_24.out.on hb)
  have Xc_25 : Hid (Rb w25 (r + 1 + 1) c) := Lib.hid (Xc_24.out.on hb)
  have Xs_25 : Hid (Rb w25 b3 ts) := Lib.hid (Xs_24.out.on hb)
  have Xt_25 : Hid (Rb w25 b6 tt) := Lib.hid (Xt_24.out.on hb)
  have Xu_25 : Hid (Rb w25 b7 tu) := Lib.hid (Xu_24.out.on hb)
  have Xi_25 : Hid (Rb w25 b8 ti) := Lib.hid (Xi_24.out.on hb)
  have Xj_25 : Hid (Rb w25 b9 tj) := Lib.hid (Xj_24.out.on hb)
  have Xn_25 : Hid (Rb w25 b10 tn) := Lib.hid (Xn_24.out.on hb)
  clear hb B_24 Xa_24 Xb_24 Xc_24 Xs_24 Xt_24 Xu_24 Xi_24 Xj_24 Xn_24
  have kj0 := Xj_25.out.c0
  have kj1 := Xj_25.out.c1
  have kj2 := Xj_25.out.c2
  have kj3 := Xj_25.out.c3
  have kn0 := Xn_25.out.c0
  have kn1 := Xn_25.out.c1
  have kn2 := Xn_25.out.c2
  have kn3 := Xn_25.out.c3
  go_wp2_with fail
  refine (same_v Xj_25.out.sl Xn_25.out.sl Vj.out Vn.out HE.out.2.2.2.1).mono ?_
  clear kj0 kj1 kj2 kj3 kn0 kn1 kn2 kn3
  rintro e w26 ⟨rfl, hb⟩
  have B_26 := Lib.hid (below_chain B_25.out (by have := B_25.out.size; have := HRr.out; omega) hb)
  have Xa_26 : Hid (Rb w26 r a) := Lib.hid (Xa_25.out.on hb)
  have Xb_26 : Hid (Rb w26 (r + 1) b) := Lib.hid (Xb_25.out.on hb)
  have Xc_26 : Hid (Rb w26 (r + 1 + 1) c) := Lib.hid (Xc_25.out.on hb)
  have Xs_26 : Hid (Rb w26 b3 ts) := Lib.hid (Xs_25.out.on hb)
  have Xt_26 : Hid (Rb w26 b6 tt) := Lib.hid (Xt_25.out.on hb)
  have Xu_26 : Hid (Rb w26 b7 tu) := Lib.hid (Xu_25.out.on hb)
  have Xi_26 : Hid (Rb w26 b8 ti) := Lib.hid (Xi_25.out.on hb)
  have Xj_26 : Hid (Rb w26 b9 tj) := Lib.hid (Xj_25.out.on hb)
  have Xn_26 : Hid (Rb w26 b10 tn) := Lib.hid (Xn_25.out.on hb)
  clear hb B_25 Xa_25 Xb_25 Xc_25 Xs_25 Xt_25 Xu_25 Xi_25 Xj_25 Xn_25
  clear Xu_26 Xj_26 Xn_26 Xi_26
  have ka0 := Xa_26.out.c0
  have ka1 := Xa_26.out.c1
  have ka2 := Xa_26.out.c2
  have ka3 := Xa_26.out.c3
  have kc0 := Xc_26.out.c0
  have kc1 := Xc_26.out.c1
  have kc2 := Xc_26.out.c2
  have kc3 := Xc_26.out.c3
  go_wp2_with fail
  refine (mul_v Xa_26.out.sl Xc_26.out.sl Va.out Vc.out HB.out.1 HB.out.2.2 (by decide)).mono ?_
  clear ka0 ka1 ka2 ka3 kc0 kc1 kc2 kc3
  rintro e w27 ⟨tx, rfl, hi, hv, hb⟩
  have B_27 := Lib.hid (below_chain B_26.out (by have := B_26.out.size; have := HRr.out; omega) hb)
  have Xa_27 : Hid (Rb w27 r a) := Lib.hid (Xa_26.out.on hb)
  have Xb_27 : Hid (Rb w27 (r + 1) b) := Lib.hid (Xb_26.out.on hb)
  have Xc_27 : Hid (Rb w27 (r + 1 + 1) c) := Lib.hid (Xc_26.out.on hb)
  have Xs_27 : Hid (Rb w27 b3 ts) := Lib.hid (Xs_26.out.on hb)
  have Xt_27 : Hid (Rb w27 b6 tt) := Lib.hid (Xt_26.out.on hb)
  have Ix_27 : Hid (tx.In w27) := Lib.hid (hi)
  clear hb B_26 Xa_26 Xb_26 Xc_26 Xs_26 Xt_26 hi
  have Vx := Lib.hid hv
  clear hv
  have kt0 := (Xt_27.out.on (below_new w27 (.cells #[.bool tx.g, .slice tx.A tx.n tx.c, .bool tx.gd, .slice tx.Ad tx.nd tx.cd] 27))).c0
  have kt1 := (Xt_27.out.on (below_new w27 (.cells #[.bool tx.g, .slice tx.A tx.n tx.c, .bool tx.gd, .slice tx.Ad tx.nd tx.cd] 27))).c1
  have kt2 := (Xt_27.out.on (below_new w27 (.cells #[.bool tx.g, .slice tx.A tx.n tx.c, .bool tx.gd, .slice tx.Ad tx.nd tx.cd] 27))).c2
  have kt3 := (Xt_27.out.on (below_new w27 (.cells #[.bool tx.g, .slice tx.A tx.n tx.c, .bool tx.gd, .slice tx.Ad tx.nd tx.cd] 27))).c3
  go_wp2_with fail
  generalize hW : World.alloc w27 _ = V28
  have hn := below_new w27 (.cells #[.bool tx.g, .slice tx.A tx.n tx.c, .bool tx.gd, .slice tx.Ad tx.nd tx.cd] 27)
  have hx := Rb.new Ix_27.out
  rw [hW] at hn hx
  have B_28 := Lib.hid (below_chain B_27.out (by have := B_27.out.size; have := HRr.out; omega) hn)
  have Xa_28 : Hid (Rb V28 r a) := Lib.hid (Xa_27.out.on hn)
  have Xb_28 : Hid (Rb V28 (r + 1) b) := Lib.hid (Xb_27.out.on hn)
  have Xc_28 : Hid (Rb V28 (r + 1 + 1) c) := Lib.hid (Xc_27.out.on hn)
  have Xs_28 : Hid (Rb V28 b3 ts) := Lib.hid (Xs_27.out.on hn)
  have Xt_28 : Hid (Rb V28 b6 tt) := Lib.hid (Xt_27.out.on hn)
  have Ix_28 : Hid (tx.In V28) := Lib.hid (Ix_27.out.on hn)
  have Xx_28 := Lib.hid hx
  clear hx hn hW B_27 Xa_27 Xb_27 Xc_27 Xs_27 Xt_27 Ix_27 Ix_28
  generalize w27.heap.size = b11 at *
  refine (add_v Xt_28.out.sl Xx_28.out.sl Vt.out Vx.out (HB.out.1.mul HB.out.2.1) (HB.out.1.mul HB.out.2.2) (by decide)).mono ?_
  clear kt0 kt1 kt2 kt3
  rintro e w29 ⟨ty, rfl, hi, hv, hb⟩
  have B_29 := Lib.hid (below_chain B_28.out (by have := B_28.out.size; have := HRr.out; omega) hb)
  have Xa_29 : Hid (Rb w29 r a) := Lib.hid (Xa_28.out.on hb)
  have Xb_29 : Hid (Rb w29 (r + 1) b) := Lib.hid (Xb_28.out.on hb)
  have Xc_29 : Hid (Rb w29 (r + 1 + 1) c) := Lib.hid (Xc_28.out.on hb)
  have Xs_29 : Hid (Rb w29 b3 ts) := Lib.hid (Xs_28.out.on hb)
  have Xt_29 : Hid (Rb w29 b6 tt) := Lib.hid (Xt_28.out.on hb)
  have Xx_29 : Hid (Rb w29 b11 tx) := Lib.hid (Xx_28.out.on hb)
  have Iy_29 : Hid (ty.In w29) := Lib.hid (hi)
  clear hb B_28 Xa_28 Xb_28 Xc_28 Xs_28 Xt_28 Xx_28 hi
  have Vy := Lib.hid hv
  clear hv
  have ka0 := (Xa_29.out.on (below_new w29 (.cells #[.bool ty.g, .slice ty.A ty.n ty.c, .bool ty.gd, .slice ty.Ad ty.nd ty.cd] 27))).c0
  have ka1 := (Xa_29.out.on (below_new w29 (.cells #[.bool ty.g, .slice ty.A ty.n ty.c, .bool ty.gd, .slice ty.Ad ty.nd ty.cd] 27))).c1
  have ka2 := (Xa_29.out.on (below_new w29 (.cells #[.bool ty.g, .slice ty.A ty.n ty.c, .bool ty.gd, .slice ty.Ad ty.nd ty.cd] 27))).c2
  have ka3 := (Xa_29.out.on (below_new w29 (.cells #[.bool ty.g, .slice ty.A ty.n ty.c, .bool ty.gd, .slice ty.Ad ty.nd ty.cd] 27))).c3
  have ks0 := (Xs_29.out.on (below_new w29 (.cells #[.bool ty.g, .slice ty.A ty.n ty.c, .bool ty.gd, .slice ty.Ad ty.nd ty.cd] 27))).c0
  have ks1 := (Xs_29.out.on (below_new w29 (.cells #[.bool ty.g, .slice ty.A ty.n ty.c, .bool ty.gd, .slice ty.Ad ty.nd ty.cd] 27))).c1
  have ks2 := (Xs_29.out.on (below_new w29 (.cells #[.bool ty.g, .slice ty.A ty.n ty.c, .bool ty.gd, .slice ty.Ad ty.nd ty.cd] 27))).c2
  have ks3 := (Xs_29.out.on (below_new w29 (.cells #[.bool ty.g, .slice ty.A ty.n ty.c, .bool ty.gd, .slice ty.Ad ty.nd ty.cd] 27))).c3
  go_wp2_with fail
  generalize hW : World.alloc w29 _ = V30
  have hn := below_new w29 (.cells #[.bool ty.g, .slice ty.A ty.n ty.c, .bool ty.gd, .slice ty.Ad ty.nd ty.cd] 27)
  have hx := Rb.new Iy_29.out
  rw [hW] at hn hx
  have B_30 := Lib.hid (below_chain B_29.out (by have := B_29.out.size; have := HRr.out; omega) hn)
  have Xa_30 : Hid (Rb V30 r a) := Lib.hid (Xa_29.out.on hn)
  have Xb_30 : Hid (Rb V30 (r + 1) b) := Lib.hid (Xb_29.out.on hn)
  have Xc_30 : Hid (Rb V30 (r + 1 + 1) c) := Lib.hid (Xc_29.out.on hn)
  have Xs_30 : Hid (Rb V30 b3 ts) := Lib.hid (Xs_29.out.on hn)
  have Xt_30 : Hid (Rb V30 b6 tt) := Lib.hid (Xt_29.out.on hn)
  have Xx_30 : Hid (Rb V30 b11 tx) := Lib.hid (Xx_29.out.on hn)
  have Iy_30 : Hid (ty.In V30) := Lib.hid (Iy_29.out.on hn)
  have Xy_30 := Lib.hid hx
  clear hx hn hW B_29 Xa_29 Xb_29 Xc_29 Xs_29 Xt_29 Xx_29 Iy_29 Iy_30
  generalize w29.heap.size = b12 at *
  refine (mul_v Xa_30.out.sl Xs_30.out.sl Va.out Vs.out HB.out.1 (HB.out.2.1.add HB.out.2.2) (by decide)).mono ?_
  clear ka0 ka1 ka2 ka3 ks0 ks1 ks2 ks3
  rintro e w31 ⟨tz, rfl, hi, hv, hb⟩
  have B_31 := Lib.hid (below_chain B_30.out (by have := B_30.out.size; have := HRr.out; omega) hb)
  have Xa_31 : Hid (Rb w31 r a) := Lib.hid (Xa_30.out.on hb)
  have Xb_31 : Hid (Rb w31 (r + 1) b) := Lib.hid (Xb_30.out.on hb)
  have Xc_31 : Hid (Rb w31 (r + 1 + 1) c) := Lib.hid (Xc_30.out.on hb)
  have Xs_31 : Hid (Rb w31 b3 ts) := Lib.hid (Xs_30.out.on hb)
  have Xt_31 : Hid (Rb w31 b6 tt) := Lib.hid (Xt_30.out.on hb)
  have Xx_31 : Hid (Rb w31 b11 tx) := Lib.hid (Xx_30.out.on hb)
  have Xy_31 : Hid (Rb w31 b12 ty) := Lib.hid (Xy_30.out.on hb)
  have Iz_31 : Hid (tz.In w31) := Lib.hid (hi)
  clear hb B_30 Xa_30 Xb_30 Xc_30 Xs_30 Xt_30 Xx_30 Xy_30 hi
  have Vz := Lib.hid hv
  clear hv
  have ky0 := (Xy_31.out.on (below_new w31 (.cells #[.bool tz.g, .slice tz.A tz.n tz.c, .bool tz.gd, .slice tz.Ad tz.nd tz.cd] 27))).c0
  have ky1 := (Xy_31.out.on (below_new w31 (.cells #[.bool tz.g, .slice tz.A tz.n tz.c, .bool tz.gd, .slice tz.Ad tz.nd tz.cd] 27))).c1
  have ky2 := (Xy_31.out.on (below_new w31 (.cells #[.bool tz.g, .slice tz.A tz.n tz.c, .bool tz.gd, .slice tz.Ad tz.nd tz.cd] 27))).c2
  have ky3 := (Xy_31.out.on (below_new w31 (.cells #[.bool tz.g, .slice tz.A tz.n tz.c, .bool tz.gd, .slice tz.Ad tz.nd tz.cd] 27))).c3
  go_wp2_with fail
  generalize hW : World.alloc w31 _ = V32
  have hn := below_new w31 (.cells #[.bool tz.g, .slice tz.A tz.n tz.c, .bool tz.gd, .slice tz.Ad tz.nd tz.cd] 27)
  have hx := Rb.new Iz_31.out
  rw [hW] at hn hx
  have B_32 := Lib.hid (below_chain B_31.out (by have := B_31.out.size; have := HRr.out; omega) hn)
  have Xa_32 : Hid (Rb V32 r a) := Lib.hid (Xa_31.out.on hn)
  have Xb_32 : Hid (Rb V32 (r + 1) b) := Lib.hid (Xb_31.out.on hn)
  have Xc_32 : Hid (Rb V32 (r + 1 + 1) c) := Lib.hid (Xc_31.out.on hn)
  have Xs_32 : Hid (Rb V32 b3 ts) := Lib.hid (Xs_31.out.on hn)
  have Xt_32 : Hid (Rb V32 b6 tt) := Lib.hid (Xt_31.out.on hn)
  have Xx_32 : Hid (Rb V32 b11 tx) := Lib.hid (Xx_31.out.on hn)
  have Xy_32 : Hid (Rb V32 b12 ty) := Lib.hid (Xy_31.out.on hn)
  have Iz_32 : Hid (tz.In V32) := Lib.hid (Iz_31.out.on hn)
  have Xz_32 := Lib.hid hx
  clear hx hn hW B_31 Xa_31 Xb_31 Xc_31 Xs_31 Xt_31 Xx_31 Xy_31 Iz_31 Iz_32
  generalize w31.heap.size = b13 at *
  refine (same_v Xy_32.out.sl Xz_32.out.sl Vy.out Vz.out HE.out.2.2.2.2).mono ?_
  clear ky0 ky1 ky2 ky3
  rintro e w33 ⟨rfl, hb⟩
  have B_33 := Lib.hid (below_chain B_32.out (by have := B_32.out.size; have := HRr.out; omega) hb)
  have Xa_33 : Hid (Rb w33 r a) := Lib.hid (Xa_32.out.on hb)
  have Xb_33 : Hid (Rb w33 (r + 1) b) := Lib.hid (Xb_32.out.on hb)
  have Xc_33 : Hid (Rb w33 (r + 1 + 1) c) := Lib.hid (Xc_32.out.on hb)
  have Xs_33 : Hid (Rb w33 b3 ts) := Lib.hid (Xs_32.out.on hb)
  have Xt_33 : Hid (Rb w33 b6 tt) := Lib.hid (Xt_32.out.on hb)
  have Xx_33 : Hid (Rb w33 b11 tx) := Lib.hid (Xx_32.out.on hb)
  have Xy_33 : Hid (Rb w33 b12 ty) := Lib.hid (Xy_32.out.on hb)
  have Xz_33 : Hid (Rb w33 b13 tz) := Lib.hid (Xz_32.out.on hb)
  clear hb B_32 Xa_32 Xb_32 Xc_32 Xs_32 Xt_32 Xx_32 Xy_32 Xz_32
  go_wp2
  go_ret
  exact ⟨rfl, by rw [HRr.out]; exact B_33.out⟩

theorem rationalField_any (a b c : RVal) (w : World) (h1 : a.In w) (h2 : b.In w) (h3 : c.In w) :
    Calls Tryz.prog 8 #[.agg #[.bool a.g, .slice a.A a.n a.c, .bool a.gd, .slice a.Ad a.nd a.cd], .agg #[.bool b.g, .slice b.A b.n b.c, .bool b.gd, .slice b.Ad b.nd b.cd], .agg #[.bool c.g, .slice c.A c.n c.c, .bool c.gd, .slice c.Ad c.nd c.cd]] w fun e w' => e = .returned (.bool true) ∧ Below w.heap.size w w' := by
  rcases hv : vok a b c 16 with _ | _
  · exact field_no a b c w h1 h2 h3 hv
  · obtain ⟨x, y, z, hx, hy, hz, bx, by', bz⟩ := vok_yes h1 h2 h3 hv
    exact field_yes a b c w h1 h2 h3 x y z hx hy hz ⟨bx, by', bz⟩ hv ⟨by grind, by grind, by grind, by grind, by grind⟩
end Go.Proofs.YtfpcooinceebpaaGreat