/-
  Stage 2: RationalReverses, its walk.
-/
import Derived.Test.YtfpcooinceebpaaGreatRatLb
namespace Go.Proofs.YtfpcooinceebpaaGreat
open Go.RowKit

set_option maxRecDepth 20000 in
set_option maxHeartbeats 4000000 in
theorem rev_no (a b : RVal) (w : World) (h1 : a.In w) (h2 : b.In w) (hv : vok a b b 32 = false) :
    Calls Tryz.prog 9 #[.agg #[.bool a.g, .slice a.A a.n a.c, .bool a.gd, .slice a.Ad a.nd a.cd], .agg #[.bool b.g, .slice b.A b.n b.c, .bool b.gd, .slice b.Ad b.nd b.cd]] w fun e w' => e = .returned (.bool true) ∧ Below w.heap.size w w' := by
  have HV := Lib.hid hv
  have HS := Lib.hid (And.intro h1 h2)
  clear h1 h2 hv
  go_enter Tryz.func9, Tryz.ntmps9
  go_wp2_with fail
  generalize hW : World.alloc (World.alloc w _) _ = V
  obtain ⟨hb, ra, rb⟩ := two_rats a b w V HS.out.1 HS.out.2 hW
  have rne : w.heap.size < V.heap.size := ra.lt
  clear rne
  have B_0 : Hid (Below w.heap.size w V) := Lib.hid (hb)
  have Xa_0 := Lib.hid ra
  have Xb_0 := Lib.hid rb
  clear hb ra rb hW
  generalize hr : w.heap.size = r at *
  have HRr := Lib.hid hr
  clear hr
  refine (sane V).mono ?_
  rintro e w1 ⟨rfl, hb⟩
  have B_1 := Lib.hid (below_chain B_0.out (by have := B_0.out.size; have := HRr.out; omega) hb)
  have Xa_1 : Hid (Rb w1 r a) := Lib.hid (Xa_0.out.on hb)
  have Xb_1 : Hid (Rb w1 (r + 1) b) := Lib.hid (Xb_0.out.on hb)
  clear hb B_0 Xa_0 Xb_0
  have ka0 := Xa_1.out.c0
  have ka1 := Xa_1.out.c1
  have ka2 := Xa_1.out.c2
  have ka3 := Xa_1.out.c3
  have kb0 := Xb_1.out.c0
  have kb1 := Xb_1.out.c1
  have kb2 := Xb_1.out.c2
  have kb3 := Xb_1.out.c3
  go_wp2_with fail
  have C := val_any a b b 32 w1 Xa_1.out.sl Xb_1.out.sl Xb_1.out.sl
  rw [HV.out] at C
  refine C.mono ?_
  clear C
  clear ka0 ka1 ka2 ka3 kb0 kb1 kb2 kb3
  rintro e w2 ⟨rfl, hb⟩
  have B_2 := Lib.hid (below_chain B_1.out (by have := B_1.out.size; have := HRr.out; omega) hb)
  have Xa_2 : Hid (Rb w2 r a) := Lib.hid (Xa_1.out.on hb)
  have Xb_2 : Hid (Rb w2 (r + 1) b) := Lib.hid (Xb_1.out.on hb)
  clear hb B_1 Xa_1 Xb_1
  go_wp2
  go_ret
  exact ⟨rfl, by rw [HRr.out]; exact B_2.out⟩

set_option maxRecDepth 20000 in
set_option maxHeartbeats 4000000 in
theorem rev_0 (a b : RVal) (w : World) (h1 : a.In w) (h2 : b.In w) (x y : Rat) (hx : rv a.o a.od = some x) (hy : rv b.o b.od = some y) (hB : Bd 1024 x ∧ Bd 1024 y) (hv : vok a b b 32 = true) (hz : y.num = 0) (he : x + y - y = x ∧ x - x = Rat.divInt 0 1 ∧ True) :
    Calls Tryz.prog 9 #[.agg #[.bool a.g, .slice a.A a.n a.c, .bool a.gd, .slice a.Ad a.nd a.cd], .agg #[.bool b.g, .slice b.A b.n b.c, .bool b.gd, .slice b.Ad b.nd b.cd]] w fun e w' => e = .returned (.bool true) ∧ Below w.heap.size w w' := by
  have Va := Lib.hid hx
  have Vb := Lib.hid hy
  have HB := Lib.hid hB
  have HV := Lib.hid hv
  have HZ := Lib.hid hz
  have HE := Lib.hid he
  have HS := Lib.hid (And.intro h1 h2)
  clear h1 h2 hx hy hB hv hz he
  go_enter Tryz.func9, Tryz.ntmps9
  go_wp2_with fail
  generalize hW : World.alloc (World.alloc w _) _ = V
  obtain ⟨hb, ra, rb⟩ := two_rats a b w V HS.out.1 HS.out.2 hW
  have rne : w.heap.size < V.heap.size := ra.lt
  clear rne
  have B_0 : Hid (Below w.heap.size w V) := Lib.hid (hb)
  have Xa_0 := Lib.hid ra
  have Xb_0 := Lib.hid rb
  clear hb ra rb hW
  generalize hr : w.heap.size = r at *
  have HRr := Lib.hid hr
  clear hr
  refine (sane V).mono ?_
  rintro e w1 ⟨rfl, hb⟩
  have B_1 := Lib.hid (below_chain B_0.out (by have := B_0.out.size; have := HRr.out; omega) hb)
  have Xa_1 : Hid (Rb w1 r a) := Lib.hid (Xa_0.out.on hb)
  have Xb_1 : Hid (Rb w1 (r + 1) b) := Lib.hid (Xb_0.out.on hb)
  clear hb B_0 Xa_0 Xb_0
  have ka0 := Xa_1.out.c0
  have ka1 := Xa_1.out.c1
  have ka2 := Xa_1.out.c2
  have ka3 := Xa_1.out.c3
  have kb0 := Xb_1.out.c0
  have kb1 := Xb_1.out.c1
  have kb2 := Xb_1.out.c2
  have kb3 := Xb_1.out.c3
  go_wp2_with fail
  have C := val_any a b b 32 w1 Xa_1.out.sl Xb_1.out.sl Xb_1.out.sl
  rw [HV.out] at C
  refine C.mono ?_
  clear C
  clear ka0 ka1 ka2 ka3 kb0 kb1 kb2 kb3
  rintro e w2 ⟨rfl, hb⟩
  have B_2 := Lib.hid (below_chain B_1.out (by have := B_1.out.size; have := HRr.out; omega) hb)
  have Xa_2 : Hid (Rb w2 r a) := Lib.hid (Xa_1.out.on hb)
  have Xb_2 : Hid (Rb w2 (r + 1) b) := Lib.hid (Xb_1.out.on hb)
  clear hb B_1 Xa_1 Xb_1
  have ka0 := Xa_2.out.c0
  have ka1 := Xa_2.out.c1
  have ka2 := Xa_2.out.c2
  have ka3 := Xa_2.out.c3
  have kb0 := Xb_2.out.c0
  have kb1 := Xb_2.out.c1
  have kb2 := Xb_2.out.c2
  have kb3 := Xb_2.out.c3
  go_wp2_with fail
  refine (add_v Xa_2.out.sl Xb_2.out.sl Va.out Vb.out HB.out.1 HB.out.2 (by decide)).mono ?_
  clear ka0 ka1 ka2 ka3 kb0 kb1 kb2 kb3
  rintro e w3 ⟨ts, rfl, hi, hv, hb⟩
  have B_3 := Lib.hid (below_chain B_2.out (by have := B_2.out.size; have := HRr.out; omega) hb)
  have Xa_3 : Hid (Rb w3 r a) := Lib.hid (Xa_2.out.on hb)
  have Xb_3 : Hid (Rb w3 (r + 1) b) := Lib.hid (Xb_2.out.on hb)
  have Is_3 : Hid (ts.In w3) := Lib.hid (hi)
  clear hb B_2 Xa_2 Xb_2 hi
  have Vs := Lib.hid hv
  clear hv
  have kb0 := (Xb_3.out.on (below_new w3 (.cells #[.bool ts.g, .slice ts.A ts.n ts.c, .bool ts.gd, .slice ts.Ad ts.nd ts.cd] 27))).c0
  have kb1 := (Xb_3.out.on (below_new w3 (.cells #[.bool ts.g, .slice ts.A ts.n ts.c, .bool ts.gd, .slice ts.Ad ts.nd ts.cd] 27))).c1
  have kb2 := (Xb_3.out.on (below_new w3 (.cells #[.bool ts.g, .slice ts.A ts.n ts.c, .bool ts.gd, .slice ts.Ad ts.nd ts.cd] 27))).c2
  have kb3 := (Xb_3.out.on (below_new w3 (.cells #[.bool ts.g, .slice ts.A ts.n ts.c, .bool ts.gd, .slice ts.Ad ts.nd ts.cd] 27))).c3
  go_wp2_with fail
  generalize hW : World.alloc w3 _ = V4
  have hn := below_new w3 (.cells #[.bool ts.g, .slice ts.A ts.n ts.c, .bool ts.gd, .slice ts.Ad ts.nd ts.cd] 27)
  have hx := Rb.new Is_3.out
  rw [hW] at hn hx
  have B_4 := Lib.hid (below_chain B_3.out (by have := B_3.out.size; have := HRr.out; omega) hn)
  have Xa_4 : Hid (Rb V4 r a) := Lib.hid (Xa_3.out.on hn)
  have Xb_4 : Hid (Rb V4 (r + 1) b) := Lib.hid (Xb_3.out.on hn)
  have Is_4 : Hid (ts.In V4) := Lib.hid (Is_3.out.on hn)
  have Xs_4 := Lib.hid hx
  clear hx hn hW B_3 Xa_3 Xb_3 Is_3 Is_4
  generalize w3.heap.size = b1 at *
  refine (sub_v Xs_4.out.sl Xb_4.out.sl Vs.out Vb.out (HB.out.1.add HB.out.2) HB.out.2 (by decide)).mono ?_
  clear kb0 kb1 kb2 kb3
  rintro e w5 ⟨tt, rfl, hi, hv, hb⟩
  have B_5 := Lib.hid (below_chain B_4.out (by have := B_4.out.size; have := HRr.out; omega) hb)
  have Xa_5 : Hid (Rb w5 r a) := Lib.hid (Xa_4.out.on hb)
  have Xb_5 : Hid (Rb w5 (r + 1) b) := Lib.hid (Xb_4.out.on hb)
  have Xs_5 : Hid (Rb w5 b1 ts) := Lib.hid (Xs_4.out.on hb)
  have It_5 : Hid (tt.In w5) := Lib.hid (hi)
  clear hb B_4 Xa_4 Xb_4 Xs_4 hi
  have Vt := Lib.hid hv
  clear hv
  have ka0 := (Xa_5.out.on (below_new w5 (.cells #[.bool tt.g, .slice tt.A tt.n tt.c, .bool tt.gd, .slice tt.Ad tt.nd tt.cd] 27))).c0
  have ka1 := (Xa_5.out.on (below_new w5 (.cells #[.bool tt.g, .slice tt.A tt.n tt.c, .bool tt.gd, .slice tt.Ad tt.nd tt.cd] 27))).c1
  have ka2 := (Xa_5.out.on (below_new w5 (.cells #[.bool tt.g, .slice tt.A tt.n tt.c, .bool tt.gd, .slice tt.Ad tt.nd tt.cd] 27))).c2
  have ka3 := (Xa_5.out.on (below_new w5 (.cells #[.bool tt.g, .slice tt.A tt.n tt.c, .bool tt.gd, .slice tt.Ad tt.nd tt.cd] 27))).c3
  have kb0 := (Xb_5.out.on (below_new w5 (.cells #[.bool tt.g, .slice tt.A tt.n tt.c, .bool tt.gd, .slice tt.Ad tt.nd tt.cd] 27))).c0
  have kb1 := (Xb_5.out.on (below_new w5 (.cells #[.bool tt.g, .slice tt.A tt.n tt.c, .bool tt.gd, .slice tt.Ad tt.nd tt.cd] 27))).c1
  have kb2 := (Xb_5.out.on (below_new w5 (.cells #[.bool tt.g, .slice tt.A tt.n tt.c, .bool tt.gd, .slice tt.Ad tt.nd tt.cd] 27))).c2
  have kb3 := (Xb_5.out.on (below_new w5 (.cells #[.bool tt.g, .slice tt.A tt.n tt.c, .bool tt.gd, .slice tt.Ad tt.nd tt.cd] 27))).c3
  go_wp2_with fail
  generalize hW : World.alloc w5 _ = V6
  have hn := below_new w5 (.cells #[.bool tt.g, .slice tt.A tt.n tt.c, .bool tt.gd, .slice tt.Ad tt.nd tt.cd] 27)
  have hx := Rb.new It_5.out
  rw [hW] at hn hx
  have B_6 := Lib.hid (below_chain B_5.out (by have := B_5.out.size; have := HRr.out; omega) hn)
  have Xa_6 : Hid (Rb V6 r a) := Lib.hid (Xa_5.out.on hn)
  have Xb_6 : Hid (Rb V6 (r + 1) b) := Lib.hid (Xb_5.out.on hn)
  have Xs_6 : Hid (Rb V6 b1 ts) := Lib.hid (Xs_5.out.on hn)
  have It_6 : Hid (tt.In V6) := Lib.hid (It_5.out.on hn)
  have Xt_6 := Lib.hid hx
  clear hx hn hW B_5 Xa_5 Xb_5 Xs_5 It_5 It_6
  generalize w5.heap.size = b2 at *
  refine (mul_v Xa_6.out.sl Xb_6.out.sl Va.out Vb.out HB.out.1 HB.out.2 (by decide)).mono ?_
  clear ka0 ka1 ka2 ka3 kb0 kb1 kb2 kb3
  rintro e w7 ⟨tp, rfl, hi, hv, hb⟩
  have B_7 := Lib.hid (below_chain B_6.out (by have := B_6.out.size; have := HRr.out; omega) hb)
  have Xa_7 : Hid (Rb w7 r a) := Lib.hid (Xa_6.out.on hb)
  have Xb_7 : Hid (Rb w7 (r + 1) b) := Lib.hid (Xb_6.out.on hb)
  have Xs_7 : Hid (Rb w7 b1 ts) := Lib.hid (Xs_6.out.on hb)
  have Xt_7 : Hid (Rb w7 b2 tt) := Lib.hid (Xt_6.out.on hb)
  have Ip_7 : Hid (tp.In w7) := Lib.hid (hi)
  clear hb B_6 Xa_6 Xb_6 Xs_6 Xt_6 hi
  have Vp := Lib.hid hv
  clear hv
  have ka0 := (Xa_7.out.on (below_new w7 (.cells #[.bool tp.g, .slice tp.A tp.n tp.c, .bool tp.gd, .slice tp.Ad tp.nd tp.cd] 27))).c0
  have ka1 := (Xa_7.out.on (below_new w7 (.cells #[.bool tp.g, .slice tp.A tp.n tp.c, .bool tp.gd, .slice tp.Ad tp.nd tp.cd] 27))).c1
  have ka2 := (Xa_7.out.on (below_new w7 (.cells #[.bool tp.g, .slice tp.A tp.n tp.c, .bool tp.gd, .slice tp.Ad tp.nd tp.cd] 27))).c2
  have ka3 := (Xa_7.out.on (below_new w7 (.cells #[.bool tp.g, .slice tp.A tp.n tp.c, .bool tp.gd, .slice tp.Ad tp.nd tp.cd] 27))).c3
  go_wp2_with fail
  generalize hW : World.alloc w7 _ = V8
  have hn := below_new w7 (.cells #[.bool tp.g, .slice tp.A tp.n tp.c, .bool tp.gd, .slice tp.Ad tp.nd tp.cd] 27)
  have hx := Rb.new Ip_7.out
  rw [hW] at hn hx
  have B_8 := Lib.hid (below_chain B_7.out (by have := B_7.out.size; have := HRr.out; omega) hn)
  have Xa_8 : Hid (Rb V8 r a) := Lib.hid (Xa_7.out.on hn)
  have Xb_8 : Hid (Rb V8 (r + 1) b) := Lib.hid (Xb_7.out.on hn)
  have Xs_8 : Hid (Rb V8 b1 ts) := Lib.hid (Xs_7.out.on hn)
  have Xt_8 : Hid (Rb V8 b2 tt) := Lib.hid (Xt_7.out.on hn)
  have Ip_8 : Hid (tp.In V8) := Lib.hid (Ip_7.out.on hn)
  have Xp_8 := Lib.hid hx
  clear hx hn hW B_7 Xa_7 Xb_7 Xs_7 Xt_7 Ip_7 Ip_8
  generalize w7.heap.size = b3 at *
  refine (sub_v Xa_8.out.sl Xa_8.out.sl Va.out Va.out HB.out.1 HB.out.1 (by decide)).mono ?_
  clear ka0 ka1 ka2 ka3
  rintro e w9 ⟨tz, rfl, hi, hv, hb⟩
  have B_9 := Lib.hid (below_chain B_8.out (by have := B_8.out.size; have := HRr.out; omega) hb)
  have Xa_9 : Hid (Rb w9 r a) := Lib.hid (Xa_8.out.on hb)
  have Xb_9 : Hid (Rb w9 (r + 1) b) := Lib.hid (Xb_8.out.on hb)
  have Xs_9 : Hid (Rb w9 b1 ts) := Lib.hid (Xs_8.out.on hb)
  have Xt_9 : Hid (Rb w9 b2 tt) := Lib.hid (Xt_8.out.on hb)
  have Xp_9 : Hid (Rb w9 b3 tp) := Lib.hid (Xp_8.out.on hb)
  have Iz_9 : Hid (tz.In w9) := Lib.hid (hi)
  clear hb B_8 Xa_8 Xb_8 Xs_8 Xt_8 Xp_8 hi
  have Vz := Lib.hid hv
  clear hv
  go_wp2_with fail
  generalize hW : World.alloc w9 _ = V10
  have hn := below_new w9 (.cells #[.bool tz.g, .slice tz.A tz.n tz.c, .bool tz.gd, .slice tz.Ad tz.nd tz.cd] 27)
  have hx := Rb.new Iz_9.out
  rw [hW] at hn hx
  have B_10 := Lib.hid (below_chain B_9.out (by have := B_9.out.size; have := HRr.out; omega) hn)
  have Xa_10 : Hid (Rb V10 r a) := Lib.hid (Xa_9.out.on hn)
  have Xb_10 : Hid (Rb V10 (r + 1) b) := Lib.hid (Xb_9.out.on hn)
  have Xs_10 : Hid (Rb V10 b1 ts) := Lib.hid (Xs_9.out.on hn)
  have Xt_10 : Hid (Rb V10 b2 tt) := Lib.hid (Xt_9.out.on hn)
  have Xp_10 : Hid (Rb V10 b3 tp) := Lib.hid (Xp_9.out.on hn)
  have Iz_10 : Hid (tz.In V10) := Lib.hid (Iz_9.out.on hn)
  have Xz_10 := Lib.hid hx
  clear hx hn hW B_9 Xa_9 Xb_9 Xs_9 Xt_9 Xp_9 Iz_9 Iz_10
  generalize w9.heap.size = b4 at *
  have kt0 := Xt_10.out.c0
  have kt1 := Xt_10.out.c1
  have kt2 := Xt_10.out.c2
  have kt3 := Xt_10.out.c3
  have ka0 := Xa_10.out.c0
  have ka1 := Xa_10.out.c1
  have ka2 := Xa_10.out.c2
  have ka3 := Xa_10.out.c3
  have kz0 := Xz_10.out.c0
  have kz1 := Xz_10.out.c1
  have kz2 := Xz_10.out.c2
  have kz3 := Xz_10.out.c3
  have B_11 := Lib.hid (B_10.out.drew)
  have Xa_11 : Hid (Rb V10.drew r a) := Lib.hid (Xa_10.out.drew)
  have Xb_11 : Hid (Rb V10.drew (r + 1) b) := Lib.hid (Xb_10.out.drew)
  have Xs_11 : Hid (Rb V10.drew b1 ts) := Lib.hid (Xs_10.out.drew)
  have Xt_11 : Hid (Rb V10.drew b2 tt) := Lib.hid (Xt_10.out.drew)
  have Xp_11 : Hid (Rb V10.drew b3 tp) := Lib.hid (Xp_10.out.drew)
  have Xz_11 : Hid (Rb V10.drew b4 tz) := Lib.hid (Xz_10.out.drew)
  go_region_held3 (fun w' => w'.cell? ⟨b2, 0, none⟩ = some (.bool tt.g) ∧ w'.cell? ⟨b2, 1, none⟩ = some (.slice tt.A tt.n tt.c) ∧ w'.cell? ⟨b2, 2, none⟩ = some (.bool tt.gd) ∧ w'.cell? ⟨b2, 3, none⟩ = some (.slice tt.Ad tt.nd tt.cd) ∧ w'.cell? ⟨r, 0, none⟩ = some (.bool a.g) ∧ w'.cell? ⟨r, 1, none⟩ = some (.slice a.A a.n a.c) ∧ w'.cell? ⟨r, 2, none⟩ = some (.bool a.gd) ∧ w'.cell? ⟨r, 3, none⟩ = some (.slice a.Ad a.nd a.cd) ∧ w'.cell? ⟨b4, 0, none⟩ = some (.bool tz.g) ∧ w'.cell? ⟨b4, 1, none⟩ = some (.slice tz.A tz.n tz.c) ∧ w'.cell? ⟨b4, 2, none⟩ = some (.bool tz.gd) ∧ w'.cell? ⟨b4, 3, none⟩ = some (.slice tz.Ad tz.nd tz.cd)) (go_keep)
    (first
      | (go_at_call 22; have C := same_v Xz_13.out.sl Io1_13.out Vz.out Vo1.out HE.out.2.1; (with_reducible refine C.mono ?_); clear C; rintro e w14 ⟨rfl, hb⟩; have B_14 := Lib.hid (below_chain B_13.out (by have := B_13.out.size; have := HRr.out; omega) hb); have Xa_14 : Hid (Rb w14 r a) := Lib.hid (Xa_13.out.on hb); have Xb_14 : Hid (Rb w14 (r + 1) b) := Lib.hid (Xb_13.out.on hb); have Xs_14 : Hid (Rb w14 b1 ts) := Lib.hid (Xs_13.out.on hb); have Xt_14 : Hid (Rb w14 b2 tt) := Lib.hid (Xt_13.out.on hb); have Xp_14 : Hid (Rb w14 b3 tp) := Lib.hid (Xp_13.out.on hb); have Xz_14 : Hid (Rb w14 b4 tz) := Lib.hid (Xz_13.out.on hb); have Io1_14 : Hid (o1.In w14) := Lib.hid (Io1_13.out.on hb); clear hb B_13 Xa_13 Xb_13 Xs_13 Xt_13 Xp_13 Xz_13 Io1_13 kt0 kt1 kt2 kt3 ka0 ka1 ka2 ka3 kz0 kz1 kz2 kz3; have kt0 := Xt_14.out.c0; have kt1 := Xt_14.out.c1; have kt2 := Xt_14.out.c2; have kt3 := Xt_14.out.c3; have ka0 := Xa_14.out.c0; have ka1 := Xa_14.out.c1; have ka2 := Xa_14.out.c2; have ka3 := Xa_14.out.c3; have kz0 := Xz_14.out.c0; have kz1 := Xz_14.out.c1; have kz2 := Xz_14.out.c2; have kz3 := Xz_14.out.c3)
      | (go_at_call 47; have C := of_v 0 1 w12 (by decide) (by decide) (by decide) (by decide); (with_reducible refine C.mono ?_); clear C; rintro e w13 ⟨o1, rfl, hi, hv, hb⟩; have B_13 := Lib.hid (below_chain B_12.out (by have := B_12.out.size; have := HRr.out; omega) hb); have Xa_13 : Hid (Rb w13 r a) := Lib.hid (Xa_12.out.on hb); have Xb_13 : Hid (Rb w13 (r + 1) b) := Lib.hid (Xb_12.out.on hb); have Xs_13 : Hid (Rb w13 b1 ts) := Lib.hid (Xs_12.out.on hb); have Xt_13 : Hid (Rb w13 b2 tt) := Lib.hid (Xt_12.out.on hb); have Xp_13 : Hid (Rb w13 b3 tp) := Lib.hid (Xp_12.out.on hb); have Xz_13 : Hid (Rb w13 b4 tz) := Lib.hid (Xz_12.out.on hb); have Io1_13 : Hid (o1.In w13) := Lib.hid hi; have Vo1 := Lib.hid hv; clear hv; clear hb B_12 Xa_12 Xb_12 Xs_12 Xt_12 Xp_12 Xz_12 hi kt0 kt1 kt2 kt3 ka0 ka1 ka2 ka3 kz0 kz1 kz2 kz3; have kt0 := Xt_13.out.c0; have kt1 := Xt_13.out.c1; have kt2 := Xt_13.out.c2; have kt3 := Xt_13.out.c3; have ka0 := Xa_13.out.c0; have ka1 := Xa_13.out.c1; have ka2 := Xa_13.out.c2; have ka3 := Xa_13.out.c3; have kz0 := Xz_13.out.c0; have kz1 := Xz_13.out.c1; have kz2 := Xz_13.out.c2; have kz3 := Xz_13.out.c3)
      | (go_at_call 22; have C := same_v Xt_11.out.sl Xa_11.out.sl Vt.out Va.out HE.out.1; (with_reducible refine C.mono ?_); clear C; rintro e w12 ⟨rfl, hb⟩; have B_12 := Lib.hid (below_chain B_11.out (by have := B_11.out.size; have := HRr.out; omega) hb); have Xa_12 : Hid (Rb w12 r a) := Lib.hid (Xa_11.out.on hb); have Xb_12 : Hid (Rb w12 (r + 1) b) := Lib.hid (Xb_11.out.on hb); have Xs_12 : Hid (Rb w12 b1 ts) := Lib.hid (Xs_11.out.on hb); have Xt_12 : Hid (Rb w12 b2 tt) := Lib.hid (Xt_11.out.on hb); have Xp_12 : Hid (Rb w12 b3 tp) := Lib.hid (Xp_11.out.on hb); have Xz_12 : Hid (Rb w12 b4 tz) := Lib.hid (Xz_11.out.on hb); clear hb B_11 Xa_11 Xb_11 Xs_11 Xt_11 Xp_11 Xz_11 kt0 kt1 kt2 kt3 ka0 ka1 ka2 ka3 kz0 kz1 kz2 kz3; have kt0 := Xt_12.out.c0; have kt1 := Xt_12.out.c1; have kt2 := Xt_12.out.c2; have kt3 := Xt_12.out.c3; have ka0 := Xa_12.out.c0; have ka1 := Xa_12.out.c1; have ka2 := Xa_12.out.c2; have ka3 := Xa_12.out.c3; have kz0 := Xz_12.out.c0; have kz1 := Xz_12.out.c1; have kz2 := Xz_12.out.c2; have kz3 := Xz_12.out.c3))
  clear kt0 kt1 kt2 kt3 ka0 ka1 ka2 ka3 kz0 kz1 kz2 kz3
  clear Io1_14
  have kp0 := Xp_14.out.c0
  have kp1 := Xp_14.out.c1
  have kp2 := Xp_14.out.c2
  have kp3 := Xp_14.out.c3
  have kb0 := Xb_14.out.c0
  have kb1 := Xb_14.out.c1
  have kb2 := Xb_14.out.c2
  have kb3 := Xb_14.out.c3
  go_wp2_with fail
  refine (div_v0 Xp_14.out.sl Xb_14.out.sl Vp.out Vb.out HZ.out (HB.out.1.mul HB.out.2) HB.out.2 (by decide)).mono ?_
  clear kp0 kp1 kp2 kp3 kb0 kb1 kb2 kb3
  rintro e w15 ⟨tq, rfl, hi, hv, hv2, hb⟩
  have B_15 := Lib.hid (below_chain B_14.out (by have := B_14.out.size; have := HRr.out; omega) hb)
  have Xa_15 : Hid (Rb w15 r a) := Lib.hid (Xa_14.out.on hb)
  have Xb_15 : Hid (Rb w15 (r + 1) b) := Lib.hid (Xb_14.out.on hb)
  have Xs_15 : Hid (Rb w15 b1 ts) := Lib.hid (Xs_14.out.on hb)
  have Xt_15 : Hid (Rb w15 b2 tt) := Lib.hid (Xt_14.out.on hb)
  have Xp_15 : Hid (Rb w15 b3 tp) := Lib.hid (Xp_14.out.on hb)
  have Xz_15 : Hid (Rb w15 b4 tz) := Lib.hid (Xz_14.out.on hb)
  have Iq_15 : Hid (tq.In w15) := Lib.hid (hi)
  clear hb B_14 Xa_14 Xb_14 Xs_14 Xt_14 Xp_14 Xz_14 hi
  clear hv hv2
  have kb0 := (Xb_15.out.on (below_new w15 (.cells #[.bool tq.g, .slice tq.A tq.n tq.c, .bool tq.gd, .slice tq.Ad tq.nd tq.cd] 27))).c0
  have kb1 := (Xb_15.out.on (below_new w15 (.cells #[.bool tq.g, .slice tq.A tq.n tq.c, .bool tq.gd, .slice tq.Ad tq.nd tq.cd] 27))).c1
  have kb2 := (Xb_15.out.on (below_new w15 (.cells #[.bool tq.g, .slice tq.A tq.n tq.c, .bool tq.gd, .slice tq.Ad tq.nd tq.cd] 27))).c2
  have kb3 := (Xb_15.out.on (below_new w15 (.cells #[.bool tq.g, .slice tq.A tq.n tq.c, .bool tq.gd, .slice tq.Ad tq.nd tq.cd] 27))).c3
  go_wp2_with fail
  generalize hW : World.alloc w15 _ = V16
  have hn := below_new w15 (.cells #[.bool tq.g, .slice tq.A tq.n tq.c, .bool tq.gd, .slice tq.Ad tq.nd tq.cd] 27)
  have hx := Rb.new Iq_15.out
  rw [hW] at hn hx
  have B_16 := Lib.hid (below_chain B_15.out (by have := B_15.out.size; have := HRr.out; omega) hn)
  have Xa_16 : Hid (Rb V16 r a) := Lib.hid (Xa_15.out.on hn)
  have Xb_16 : Hid (Rb V16 (r + 1) b) := Lib.hid (Xb_15.out.on hn)
  have Xs_16 : Hid (Rb V16 b1 ts) := Lib.hid (Xs_15.out.on hn)
  have Xt_16 : Hid (Rb V16 b2 tt) := Lib.hid (Xt_15.out.on hn)
  have Xp_16 : Hid (Rb V16 b3 tp) := Lib.hid (Xp_15.out.on hn)
  have Xz_16 : Hid (Rb V16 b4 tz) := Lib.hid (Xz_15.out.on hn)
  have Iq_16 : Hid (tq.In V16) := Lib.hid (Iq_15.out.on hn)
  have Xq_16 := Lib.hid hx
  clear hx hn hW B_15 Xa_15 Xb_15 Xs_15 Xt_15 Xp_15 Xz_15 Iq_15 Iq_16
  generalize w15.heap.size = b5 at *
  refine (div_v0 Xb_16.out.sl Xb_16.out.sl Vb.out Vb.out HZ.out HB.out.2 HB.out.2 (by decide)).mono ?_
  clear kb0 kb1 kb2 kb3
  rintro e w17 ⟨tu, rfl, hi, hv, hv2, hb⟩
  have B_17 := Lib.hid (below_chain B_16.out (by have := B_16.out.size; have := HRr.out; omega) hb)
  have Xa_17 : Hid (Rb w17 r a) := Lib.hid (Xa_16.out.on hb)
  have Xb_17 : Hid (Rb w17 (r + 1) b) := Lib.hid (Xb_16.out.on hb)
  have Xs_17 : Hid (Rb w17 b1 ts) := Lib.hid (Xs_16.out.on hb)
  have Xt_17 : Hid (Rb w17 b2 tt) := Lib.hid (Xt_16.out.on hb)
  have Xp_17 : Hid (Rb w17 b3 tp) := Lib.hid (Xp_16.out.on hb)
  have Xz_17 : Hid (Rb w17 b4 tz) := Lib.hid (Xz_16.out.on hb)
  have Xq_17 : Hid (Rb w17 b5 tq) := Lib.hid (Xq_16.out.on hb)
  have Iu_17 : Hid (tu.In w17) := Lib.hid (hi)
  clear hb B_16 Xa_16 Xb_16 Xs_16 Xt_16 Xp_16 Xz_16 Xq_16 hi
  clear hv hv2
  have kb0 := (Xb_17.out.on (below_new w17 (.cells #[.bool tu.g, .slice tu.A tu.n tu.c, .bool tu.gd, .slice tu.Ad tu.nd tu.cd] 27))).c0
  have kb1 := (Xb_17.out.on (below_new w17 (.cells #[.bool tu.g, .slice tu.A tu.n tu.c, .bool tu.gd, .slice tu.Ad tu.nd tu.cd] 27))).c1
  have kb2 := (Xb_17.out.on (below_new w17 (.cells #[.bool tu.g, .slice tu.A tu.n tu.c, .bool tu.gd, .slice tu.Ad tu.nd tu.cd] 27))).c2
  have kb3 := (Xb_17.out.on (below_new w17 (.cells #[.bool tu.g, .slice tu.A tu.n tu.c, .bool tu.gd, .slice tu.Ad tu.nd tu.cd] 27))).c3
  go_wp2_with fail
  generalize hW : World.alloc w17 _ = V18
  have hn := below_new w17 (.cells #[.bool tu.g, .slice tu.A tu.n tu.c, .bool tu.gd, .slice tu.Ad tu.nd tu.cd] 27)
  have hx := Rb.new Iu_17.out
  rw [hW] at hn hx
  have B_18 := Lib.hid (below_chain B_17.out (by have := B_17.out.size; have := HRr.out; omega) hn)
  have Xa_18 : Hid (Rb V18 r a) := Lib.hid (Xa_17.out.on hn)
  have Xb_18 : Hid (Rb V18 (r + 1) b) := Lib.hid (Xb_17.out.on hn)
  have Xs_18 : Hid (Rb V18 b1 ts) := Lib.hid (Xs_17.out.on hn)
  have Xt_18 : Hid (Rb V18 b2 tt) := Lib.hid (Xt_17.out.on hn)
  have Xp_18 : Hid (Rb V18 b3 tp) := Lib.hid (Xp_17.out.on hn)
  have Xz_18 : Hid (Rb V18 b4 tz) := Lib.hid (Xz_17.out.on hn)
  have Xq_18 : Hid (Rb V18 b5 tq) := Lib.hid (Xq_17.out.on hn)
  have Iu_18 : Hid (tu.In V18) := Lib.hid (Iu_17.out.on hn)
  have Xu_18 := Lib.hid hx
  clear hx hn hW B_17 Xa_17 Xb_17 Xs_17 Xt_17 Xp_17 Xz_17 Xq_17 Iu_17 Iu_18
  generalize w17.heap.size = b6 at *
  refine (sign_q Xb_18.out.sl Vb.out).mono ?_
  clear kb0 kb1 kb2 kb3
  rintro e w19 ⟨rfl, hb⟩
  have B_19 := Lib.hid (below_chain B_18.out (by have := B_18.out.size; have := HRr.out; omega) hb)
  have Xa_19 : Hid (Rb w19 r a) := Lib.hid (Xa_18.out.on hb)
  have Xb_19 : Hid (Rb w19 (r + 1) b) := Lib.hid (Xb_18.out.on hb)
  have Xs_19 : Hid (Rb w19 b1 ts) := Lib.hid (Xs_18.out.on hb)
  have Xt_19 : Hid (Rb w19 b2 tt) := Lib.hid (Xt_18.out.on hb)
  have Xp_19 : Hid (Rb w19 b3 tp) := Lib.hid (Xp_18.out.on hb)
  have Xz_19 : Hid (Rb w19 b4 tz) := Lib.hid (Xz_18.out.on hb)
  have Xq_19 : Hid (Rb w19 b5 tq) := Lib.hid (Xq_18.out.on hb)
  have Xu_19 : Hid (Rb w19 b6 tu) := Lib.hid (Xu_18.out.on hb)
  clear hb B_18 Xa_18 Xb_18 Xs_18 Xt_18 Xp_18 Xz_18 Xq_18 Xu_18
  rw [HZ.out]
  go_wp2
  go_ret
  exact ⟨rfl, by rw [HRr.out]; exact B_19.out⟩

set_option maxRecDepth 20000 in
set_option maxHeartbeats 4000000 in
theorem rev_1 (a b : RVal) (w : World) (h1 : a.In w) (h2 : b.In w) (x y : Rat) (hx : rv a.o a.od = some x) (hy : rv b.o b.od = some y) (hB : Bd 1024 x ∧ Bd 1024 y) (hv : vok a b b 32 = true) (hz : y.num ≠ 0) (he : x + y - y = x ∧ x - x = Rat.divInt 0 1 ∧ x * y / y = x ∧ y / y = Rat.divInt 1 1) :
    Calls Tryz.prog 9 #[.agg #[.bool a.g, .slice a.A a.n a.c, .bool a.gd, .slice a.Ad a.nd a.cd], .agg #[.bool b.g, .slice b.A b.n b.c, .bool b.gd, .slice b.Ad b.nd b.cd]] w fun e w' => e = .returned (.bool true) ∧ Below w.heap.size w w' := by
  have Va := Lib.hid hx
  have Vb := Lib.hid hy
  have HB := Lib.hid hB
  have HV := Lib.hid hv
  have HZ := Lib.hid hz
  have HE := Lib.hid he
  have HS := Lib.hid (And.intro h1 h2)
  clear h1 h2 hx hy hB hv hz he
  go_enter Tryz.func9, Tryz.ntmps9
  go_wp2_with fail
  generalize hW : World.alloc (World.alloc w _) _ = V
  obtain ⟨hb, ra, rb⟩ := two_rats a b w V HS.out.1 HS.out.2 hW
  have rne : w.heap.size < V.heap.size := ra.lt
  clear rne
  have B_0 : Hid (Below w.heap.size w V) := Lib.hid (hb)
  have Xa_0 := Lib.hid ra
  have Xb_0 := Lib.hid rb
  clear hb ra rb hW
  generalize hr : w.heap.size = r at *
  have HRr := Lib.hid hr
  clear hr
  refine (sane V).mono ?_
  rintro e w1 ⟨rfl, hb⟩
  have B_1 := Lib.hid (below_chain B_0.out (by have := B_0.out.size; have := HRr.out; omega) hb)
  have Xa_1 : Hid (Rb w1 r a) := Lib.hid (Xa_0.out.on hb)
  have Xb_1 : Hid (Rb w1 (r + 1) b) := Lib.hid (Xb_0.out.on hb)
  clear hb B_0 Xa_0 Xb_0
  have ka0 := Xa_1.out.c0
  have ka1 := Xa_1.out.c1
  have ka2 := Xa_1.out.c2
  have ka3 := Xa_1.out.c3
  have kb0 := Xb_1.out.c0
  have kb1 := Xb_1.out.c1
  have kb2 := Xb_1.out.c2
  have kb3 := Xb_1.out.c3
  go_wp2_with fail
  have C := val_any a b b 32 w1 Xa_1.out.sl Xb_1.out.sl Xb_1.out.sl
  rw [HV.out] at C
  refine C.mono ?_
  clear C
  clear ka0 ka1 ka2 ka3 kb0 kb1 kb2 kb3
  rintro e w2 ⟨rfl, hb⟩
  have B_2 := Lib.hid (below_chain B_1.out (by have := B_1.out.size; have := HRr.out; omega) hb)
  have Xa_2 : Hid (Rb w2 r a) := Lib.hid (Xa_1.out.on hb)
  have Xb_2 : Hid (Rb w2 (r + 1) b) := Lib.hid (Xb_1.out.on hb)
  clear hb B_1 Xa_1 Xb_1
  have ka0 := Xa_2.out.c0
  have ka1 := Xa_2.out.c1
  have ka2 := Xa_2.out.c2
  have ka3 := Xa_2.out.c3
  have kb0 := Xb_2.out.c0
  have kb1 := Xb_2.out.c1
  have kb2 := Xb_2.out.c2
  have kb3 := Xb_2.out.c3
  go_wp2_with fail
  refine (add_v Xa_2.out.sl Xb_2.out.sl Va.out Vb.out HB.out.1 HB.out.2 (by decide)).mono ?_
  clear ka0 ka1 ka2 ka3 kb0 kb1 kb2 kb3
  rintro e w3 ⟨ts, rfl, hi, hv, hb⟩
  have B_3 := Lib.hid (below_chain B_2.out (by have := B_2.out.size; have := HRr.out; omega) hb)
  have Xa_3 : Hid (Rb w3 r a) := Lib.hid (Xa_2.out.on hb)
  have Xb_3 : Hid (Rb w3 (r + 1) b) := Lib.hid (Xb_2.out.on hb)
  have Is_3 : Hid (ts.In w3) := Lib.hid (hi)
  clear hb B_2 Xa_2 Xb_2 hi
  have Vs := Lib.hid hv
  clear hv
  have kb0 := (Xb_3.out.on (below_new w3 (.cells #[.bool ts.g, .slice ts.A ts.n ts.c, .bool ts.gd, .slice ts.Ad ts.nd ts.cd] 27))).c0
  have kb1 := (Xb_3.out.on (below_new w3 (.cells #[.bool ts.g, .slice ts.A ts.n ts.c, .bool ts.gd, .slice ts.Ad ts.nd ts.cd] 27))).c1
  have kb2 := (Xb_3.out.on (below_new w3 (.cells #[.bool ts.g, .slice ts.A ts.n ts.c, .bool ts.gd, .slice ts.Ad ts.nd ts.cd] 27))).c2
  have kb3 := (Xb_3.out.on (below_new w3 (.cells #[.bool ts.g, .slice ts.A ts.n ts.c, .bool ts.gd, .slice ts.Ad ts.nd ts.cd] 27))).c3
  go_wp2_with fail
  generalize hW : World.alloc w3 _ = V4
  have hn := below_new w3 (.cells #[.bool ts.g, .slice ts.A ts.n ts.c, .bool ts.gd, .slice ts.Ad ts.nd ts.cd] 27)
  have hx := Rb.new Is_3.out
  rw [hW] at hn hx
  have B_4 := Lib.hid (below_chain B_3.out (by have := B_3.out.size; have := HRr.out; omega) hn)
  have Xa_4 : Hid (Rb V4 r a) := Lib.hid (Xa_3.out.on hn)
  have Xb_4 : Hid (Rb V4 (r + 1) b) := Lib.hid (Xb_3.out.on hn)
  have Is_4 : Hid (ts.In V4) := Lib.hid (Is_3.out.on hn)
  have Xs_4 := Lib.hid hx
  clear hx hn hW B_3 Xa_3 Xb_3 Is_3 Is_4
  generalize w3.heap.size = b1 at *
  refine (sub_v Xs_4.out.sl Xb_4.out.sl Vs.out Vb.out (HB.out.1.add HB.out.2) HB.out.2 (by decide)).mono ?_
  clear kb0 kb1 kb2 kb3
  rintro e w5 ⟨tt, rfl, hi, hv, hb⟩
  have B_5 := Lib.hid (below_chain B_4.out (by have := B_4.out.size; have := HRr.out; omega) hb)
  have Xa_5 : Hid (Rb w5 r a) := Lib.hid (Xa_4.out.on hb)
  have Xb_5 : Hid (Rb w5 (r + 1) b) := Lib.hid (Xb_4.out.on hb)
  have Xs_5 : Hid (Rb w5 b1 ts) := Lib.hid (Xs_4.out.on hb)
  have It_5 : Hid (tt.In w5) := Lib.hid (hi)
  clear hb B_4 Xa_4 Xb_4 Xs_4 hi
  have Vt := Lib.hid hv
  clear hv
  have ka0 := (Xa_5.out.on (below_new w5 (.cells #[.bool tt.g, .slice tt.A tt.n tt.c, .bool tt.gd, .slice tt.Ad tt.nd tt.cd] 27))).c0
  have ka1 := (Xa_5.out.on (below_new w5 (.cells #[.bool tt.g, .slice tt.A tt.n tt.c, .bool tt.gd, .slice tt.Ad tt.nd tt.cd] 27))).c1
  have ka2 := (Xa_5.out.on (below_new w5 (.cells #[.bool tt.g, .slice tt.A tt.n tt.c, .bool tt.gd, .slice tt.Ad tt.nd tt.cd] 27))).c2
  have ka3 := (Xa_5.out.on (below_new w5 (.cells #[.bool tt.g, .slice tt.A tt.n tt.c, .bool tt.gd, .slice tt.Ad tt.nd tt.cd] 27))).c3
  have kb0 := (Xb_5.out.on (below_new w5 (.cells #[.bool tt.g, .slice tt.A tt.n tt.c, .bool tt.gd, .slice tt.Ad tt.nd tt.cd] 27))).c0
  have kb1 := (Xb_5.out.on (below_new w5 (.cells #[.bool tt.g, .slice tt.A tt.n tt.c, .bool tt.gd, .slice tt.Ad tt.nd tt.cd] 27))).c1
  have kb2 := (Xb_5.out.on (below_new w5 (.cells #[.bool tt.g, .slice tt.A tt.n tt.c, .bool tt.gd, .slice tt.Ad tt.nd tt.cd] 27))).c2
  have kb3 := (Xb_5.out.on (below_new w5 (.cells #[.bool tt.g, .slice tt.A tt.n tt.c, .bool tt.gd, .slice tt.Ad tt.nd tt.cd] 27))).c3
  go_wp2_with fail
  generalize hW : World.alloc w5 _ = V6
  have hn := below_new w5 (.cells #[.bool tt.g, .slice tt.A tt.n tt.c, .bool tt.gd, .slice tt.Ad tt.nd tt.cd] 27)
  have hx := Rb.new It_5.out
  rw [hW] at hn hx
  have B_6 := Lib.hid (below_chain B_5.out (by have := B_5.out.size; have := HRr.out; omega) hn)
  have Xa_6 : Hid (Rb V6 r a) := Lib.hid (Xa_5.out.on hn)
  have Xb_6 : Hid (Rb V6 (r + 1) b) := Lib.hid (Xb_5.out.on hn)
  have Xs_6 : Hid (Rb V6 b1 ts) := Lib.hid (Xs_5.out.on hn)
  have It_6 : Hid (tt.In V6) := Lib.hid (It_5.out.on hn)
  have Xt_6 := Lib.hid hx
  clear hx hn hW B_5 Xa_5 Xb_5 Xs_5 It_5 It_6
  generalize w5.heap.size = b2 at *
  refine (mul_v Xa_6.out.sl Xb_6.out.sl Va.out Vb.out HB.out.1 HB.out.2 (by decide)).mono ?_
  clear ka0 ka1 ka2 ka3 kb0 kb1 kb2 kb3
  rintro e w7 ⟨tp, rfl, hi, hv, hb⟩
  have B_7 := Lib.hid (below_chain B_6.out (by have := B_6.out.size; have := HRr.out; omega) hb)
  have Xa_7 : Hid (Rb w7 r a) := Lib.hid (Xa_6.out.on hb)
  have Xb_7 : Hid (Rb w7 (r + 1) b) := Lib.hid (Xb_6.out.on hb)
  have Xs_7 : Hid (Rb w7 b1 ts) := Lib.hid (Xs_6.out.on hb)
  have Xt_7 : Hid (Rb w7 b2 tt) := Lib.hid (Xt_6.out.on hb)
  have Ip_7 : Hid (tp.In w7) := Lib.hid (hi)
  clear hb B_6 Xa_6 Xb_6 Xs_6 Xt_6 hi
  have Vp := Lib.hid hv
  clear hv
  have ka0 := (Xa_7.out.on (below_new w7 (.cells #[.bool tp.g, .slice tp.A tp.n tp.c, .bool tp.gd, .slice tp.Ad tp.nd tp.cd] 27))).c0
  have ka1 := (Xa_7.out.on (below_new w7 (.cells #[.bool tp.g, .slice tp.A tp.n tp.c, .bool tp.gd, .slice tp.Ad tp.nd tp.cd] 27))).c1
  have ka2 := (Xa_7.out.on (below_new w7 (.cells #[.bool tp.g, .slice tp.A tp.n tp.c, .bool tp.gd, .slice tp.Ad tp.nd tp.cd] 27))).c2
  have ka3 := (Xa_7.out.on (below_new w7 (.cells #[.bool tp.g, .slice tp.A tp.n tp.c, .bool tp.gd, .slice tp.Ad tp.nd tp.cd] 27))).c3
  go_wp2_with fail
  generalize hW : World.alloc w7 _ = V8
  have hn := below_new w7 (.cells #[.bool tp.g, .slice tp.A tp.n tp.c, .bool tp.gd, .slice tp.Ad tp.nd tp.cd] 27)
  have hx := Rb.new Ip_7.out
  rw [hW] at hn hx
  have B_8 := Lib.hid (below_chain B_7.out (by have := B_7.out.size; have := HRr.out; omega) hn)
  have Xa_8 : Hid (Rb V8 r a) := Lib.hid (Xa_7.out.on hn)
  have Xb_8 : Hid (Rb V8 (r + 1) b) := Lib.hid (Xb_7.out.on hn)
  have Xs_8 : Hid (Rb V8 b1 ts) := Lib.hid (Xs_7.out.on hn)
  have Xt_8 : Hid (Rb V8 b2 tt) := Lib.hid (Xt_7.out.on hn)
  have Ip_8 : Hid (tp.In V8) := Lib.hid (Ip_7.out.on hn)
  have Xp_8 := Lib.hid hx
  clear hx hn hW B_7 Xa_7 Xb_7 Xs_7 Xt_7 Ip_7 Ip_8
  generalize w7.heap.size = b3 at *
  refine (sub_v Xa_8.out.sl Xa_8.out.sl Va.out Va.out HB.out.1 HB.out.1 (by decide)).mono ?_
  clear ka0 ka1 ka2 ka3
  rintro e w9 ⟨tz, rfl, hi, hv, hb⟩
  have B_9 := Lib.hid (below_chain B_8.out (by have := B_8.out.size; have := HRr.out; omega) hb)
  have Xa_9 : Hid (Rb w9 r a) := Lib.hid (Xa_8.out.on hb)
  have Xb_9 : Hid (Rb w9 (r + 1) b) := Lib.hid (Xb_8.out.on hb)
  have Xs_9 : Hid (Rb w9 b1 ts) := Lib.hid (Xs_8.out.on hb)
  have Xt_9 : Hid (Rb w9 b2 tt) := Lib.hid (Xt_8.out.on hb)
  have Xp_9 : Hid (Rb w9 b3 tp) := Lib.hid (Xp_8.out.on hb)
  have Iz_9 : Hid (tz.In w9) := Lib.hid (hi)
  clear hb B_8 Xa_8 Xb_8 Xs_8 Xt_8 Xp_8 hi
  have Vz := Lib.hid hv
  clear hv
  go_wp2_with fail
  generalize hW : World.alloc w9 _ = V10
  have hn := below_new w9 (.cells #[.bool tz.g, .slice tz.A tz.n tz.c, .bool tz.gd, .slice tz.Ad tz.nd tz.cd] 27)
  have hx := Rb.new Iz_9.out
  rw [hW] at hn hx
  have B_10 := Lib.hid (below_chain B_9.out (by have := B_9.out.size; have := HRr.out; omega) hn)
  have Xa_10 : Hid (Rb V10 r a) := Lib.hid (Xa_9.out.on hn)
  have Xb_10 : Hid (Rb V10 (r + 1) b) := Lib.hid (Xb_9.out.on hn)
  have Xs_10 : Hid (Rb V10 b1 ts) := Lib.hid (Xs_9.out.on hn)
  have Xt_10 : Hid (Rb V10 b2 tt) := Lib.hid (Xt_9.out.on hn)
  have Xp_10 : Hid (Rb V10 b3 tp) := Lib.hid (Xp_9.out.on hn)
  have Iz_10 : Hid (tz.In V10) := Lib.hid (Iz_9.out.on hn)
  have Xz_10 := Lib.hid hx
  clear hx hn hW B_9 Xa_9 Xb_9 Xs_9 Xt_9 Xp_9 Iz_9 Iz_10
  generalize w9.heap.size = b4 at *
  have kt0 := Xt_10.out.c0
  have kt1 := Xt_10.out.c1
  have kt2 := Xt_10.out.c2
  have kt3 := Xt_10.out.c3
  have ka0 := Xa_10.out.c0
  have ka1 := Xa_10.out.c1
  have ka2 := Xa_10.out.c2
  have ka3 := Xa_10.out.c3
  have kz0 := Xz_10.out.c0
  have kz1 := Xz_10.out.c1
  have kz2 := Xz_10.out.c2
  have kz3 := Xz_10.out.c3
  have B_11 := Lib.hid (B_10.out.drew)
  have Xa_11 : Hid (Rb V10.drew r a) := Lib.hid (Xa_10.out.drew)
  have Xb_11 : Hid (Rb V10.drew (r + 1) b) := Lib.hid (Xb_10.out.drew)
  have Xs_11 : Hid (Rb V10.drew b1 ts) := Lib.hid (Xs_10.out.drew)
  have Xt_11 : Hid (Rb V10.drew b2 tt) := Lib.hid (Xt_10.out.drew)
  have Xp_11 : Hid (Rb V10.drew b3 tp) := Lib.hid (Xp_10.out.drew)
  have Xz_11 : Hid (Rb V10.drew b4 tz) := Lib.hid (Xz_10.out.drew)
  go_region_held3 (fun w' => w'.cell? ⟨b2, 0, none⟩ = some (.bool tt.g) ∧ w'.cell? ⟨b2, 1, none⟩ = some (.slice tt.A tt.n tt.c) ∧ w'.cell? ⟨b2, 2, none⟩ = some (.bool tt.gd) ∧ w'.cell? ⟨b2, 3, none⟩ = some (.slice tt.Ad tt.nd tt.cd) ∧ w'.cell? ⟨r, 0, none⟩ = some (.bool a.g) ∧ w'.cell? ⟨r, 1, none⟩ = some (.slice a.A a.n a.c) ∧ w'.cell? ⟨r, 2, none⟩ = some (.bool a.gd) ∧ w'.cell? ⟨r, 3, none⟩ = some (.slice a.Ad a.nd a.cd) ∧ w'.cell? ⟨b4, 0, none⟩ = some (.bool tz.g) ∧ w'.cell? ⟨b4, 1, none⟩ = some (.slice tz.A tz.n tz.c) ∧ w'.cell? ⟨b4, 2, none⟩ = some (.bool tz.gd) ∧ w'.cell? ⟨b4, 3, none⟩ = some (.slice tz.Ad tz.nd tz.cd)) (go_keep)
    (first
      | (go_at_call 22; have C := same_v Xz_13.out.sl Io1_13.out Vz.out Vo1.out HE.out.2.1; (with_reducible refine C.mono ?_); clear C; rintro e w14 ⟨rfl, hb⟩; have B_14 := Lib.hid (below_chain B_13.out (by have := B_13.out.size; have := HRr.out; omega) hb); have Xa_14 : Hid (Rb w14 r a) := Lib.hid (Xa_13.out.on hb); have Xb_14 : Hid (Rb w14 (r + 1) b) := Lib.hid (Xb_13.out.on hb); have Xs_14 : Hid (Rb w14 b1 ts) := Lib.hid (Xs_13.out.on hb); have Xt_14 : Hid (Rb w14 b2 tt) := Lib.hid (Xt_13.out.on hb); have Xp_14 : Hid (Rb w14 b3 tp) := Lib.hid (Xp_13.out.on hb); have Xz_14 : Hid (Rb w14 b4 tz) := Lib.hid (Xz_13.out.on hb); have Io1_14 : Hid (o1.In w14) := Lib.hid (Io1_13.out.on hb); clear hb B_13 Xa_13 Xb_13 Xs_13 Xt_13 Xp_13 Xz_13 Io1_13 kt0 kt1 kt2 kt3 ka0 ka1 ka2 ka3 kz0 kz1 kz2 kz3; have kt0 := Xt_14.out.c0; have kt1 := Xt_14.out.c1; have kt2 := Xt_14.out.c2; have kt3 := Xt_14.out.c3; have ka0 := Xa_14.out.c0; have ka1 := Xa_14.out.c1; have ka2 := Xa_14.out.c2; have ka3 := Xa_14.out.c3; have kz0 := Xz_14.out.c0; have kz1 := Xz_14.out.c1; have kz2 := Xz_14.out.c2; have kz3 := Xz_14.out.c3)
      | (go_at_call 47; have C := of_v 0 1 w12 (by decide) (by decide) (by decide) (by decide); (with_reducible refine C.mono ?_); clear C; rintro e w13 ⟨o1, rfl, hi, hv, hb⟩; have B_13 := Lib.hid (below_chain B_12.out (by have := B_12.out.size; have := HRr.out; omega) hb); have Xa_13 : Hid (Rb w13 r a) := Lib.hid (Xa_12.out.on hb); have Xb_13 : Hid (Rb w13 (r + 1) b) := Lib.hid (Xb_12.out.on hb); have Xs_13 : Hid (Rb w13 b1 ts) := Lib.hid (Xs_12.out.on hb); have Xt_13 : Hid (Rb w13 b2 tt) := Lib.hid (Xt_12.out.on hb); have Xp_13 : Hid (Rb w13 b3 tp) := Lib.hid (Xp_12.out.on hb); have Xz_13 : Hid (Rb w13 b4 tz) := Lib.hid (Xz_12.out.on hb); have Io1_13 : Hid (o1.In w13) := Lib.hid hi; have Vo1 := Lib.hid hv; clear hv; clear hb B_12 Xa_12 Xb_12 Xs_12 Xt_12 Xp_12 Xz_12 hi kt0 kt1 kt2 kt3 ka0 ka1 ka2 ka3 kz0 kz1 kz2 kz3; have kt0 := Xt_13.out.c0; have kt1 := Xt_13.out.c1; have kt2 := Xt_13.out.c2; have kt3 := Xt_13.out.c3; have ka0 := Xa_13.out.c0; have ka1 := Xa_13.out.c1; have ka2 := Xa_13.out.c2; have ka3 := Xa_13.out.c3; have kz0 := Xz_13.out.c0; have kz1 := Xz_13.out.c1; have kz2 := Xz_13.out.c2; have kz3 := Xz_13.out.c3)
      | (go_at_call 22; have C := same_v Xt_11.out.sl Xa_11.out.sl Vt.out Va.out HE.out.1; (with_reducible refine C.mono ?_); clear C; rintro e w12 ⟨rfl, hb⟩; have B_12 := Lib.hid (below_chain B_11.out (by have := B_11.out.size; have := HRr.out; omega) hb); have Xa_12 : Hid (Rb w12 r a) := Lib.hid (Xa_11.out.on hb); have Xb_12 : Hid (Rb w12 (r + 1) b) := Lib.hid (Xb_11.out.on hb); have Xs_12 : Hid (Rb w12 b1 ts) := Lib.hid (Xs_11.out.on hb); have Xt_12 : Hid (Rb w12 b2 tt) := Lib.hid (Xt_11.out.on hb); have Xp_12 : Hid (Rb w12 b3 tp) := Lib.hid (Xp_11.out.on hb); have Xz_12 : Hid (Rb w12 b4 tz) := Lib.hid (Xz_11.out.on hb); clear hb B_11 Xa_11 Xb_11 Xs_11 Xt_11 Xp_11 Xz_11 kt0 kt1 kt2 kt3 ka0 ka1 ka2 ka3 kz0 kz1 kz2 kz3; have kt0 := Xt_12.out.c0; have kt1 := Xt_12.out.c1; have kt2 := Xt_12.out.c2; have kt3 := Xt_12.out.c3; have ka0 := Xa_12.out.c0; have ka1 := Xa_12.out.c1; have ka2 := Xa_12.out.c2; have ka3 := Xa_12.out.c3; have kz0 := Xz_12.out.c0; have kz1 := Xz_12.out.c1; have kz2 := Xz_12.out.c2; have kz3 := Xz_12.out.c3))
  clear kt0 kt1 kt2 kt3 ka0 ka1 ka2 ka3 kz0 kz1 kz2 kz3
  clear Io1_14
  have kp0 := Xp_14.out.c0
  have kp1 := Xp_14.out.c1
  have kp2 := Xp_14.out.c2
  have kp3 := Xp_14.out.c3
  have kb0 := Xb_14.out.c0
  have kb1 := Xb_14.out.c1
  have kb2 := Xb_14.out.c2
  have kb3 := Xb_14.out.c3
  go_wp2_with fail
  refine (div_v Xp_14.out.sl Xb_14.out.sl Vp.out Vb.out HZ.out (HB.out.1.mul HB.out.2) HB.out.2 (by decide)).mono ?_
  clear kp0 kp1 kp2 kp3 kb0 kb1 kb2 kb3
  rintro e w15 ⟨tq, rfl, hi, hv, hb⟩
  have B_15 := Lib.hid (below_chain B_14.out (by have := B_14.out.size; have := HRr.out; omega) hb)
  have Xa_15 : Hid (Rb w15 r a) := Lib.hid (Xa_14.out.on hb)
  have Xb_15 : Hid (Rb w15 (r + 1) b) := Lib.hid (Xb_14.out.on hb)
  have Xs_15 : Hid (Rb w15 b1 ts) := Lib.hid (Xs_14.out.on hb)
  have Xt_15 : Hid (Rb w15 b2 tt) := Lib.hid (Xt_14.out.on hb)
  have Xp_15 : Hid (Rb w15 b3 tp) := Lib.hid (Xp_14.out.on hb)
  have Xz_15 : Hid (Rb w15 b4 tz) := Lib.hid (Xz_14.out.on hb)
  have Iq_15 : Hid (tq.In w15) := Lib.hid (hi)
  clear hb B_14 Xa_14 Xb_14 Xs_14 Xt_14 Xp_14 Xz_14 hi
  have Vq := Lib.hid hv
  clear hv
  have kb0 := (Xb_15.out.on (below_new w15 (.cells #[.bool tq.g, .slice tq.A tq.n tq.c, .bool tq.gd, .slice tq.Ad tq.nd tq.cd] 27))).c0
  have kb1 := (Xb_15.out.on (below_new w15 (.cells #[.bool tq.g, .slice tq.A tq.n tq.c, .bool tq.gd, .slice tq.Ad tq.nd tq.cd] 27))).c1
  have kb2 := (Xb_15.out.on (below_new w15 (.cells #[.bool tq.g, .slice tq.A tq.n tq.c, .bool tq.gd, .slice tq.Ad tq.nd tq.cd] 27))).c2
  have kb3 := (Xb_15.out.on (below_new w15 (.cells #[.bool tq.g, .slice tq.A tq.n tq.c, .bool tq.gd, .slice tq.Ad tq.nd tq.cd] 27))).c3
  go_wp2_with fail
  generalize hW : World.alloc w15 _ = V16
  have hn := below_new w15 (.cells #[.bool tq.g, .slice tq.A tq.n tq.c, .bool tq.gd, .slice tq.Ad tq.nd tq.cd] 27)
  have hx := Rb.new Iq_15.out
  rw [hW] at hn hx
  have B_16 := Lib.hid (below_chain B_15.out (by have := B_15.out.size; have := HRr.out; omega) hn)
  have Xa_16 : Hid (Rb V16 r a) := Lib.hid (Xa_15.out.on hn)
  have Xb_16 : Hid (Rb V16 (r + 1) b) := Lib.hid (Xb_15.out.on hn)
  have Xs_16 : Hid (Rb V16 b1 ts) := Lib.hid (Xs_15.out.on hn)
  have Xt_16 : Hid (Rb V16 b2 tt) := Lib.hid (Xt_15.out.on hn)
  have Xp_16 : Hid (Rb V16 b3 tp) := Lib.hid (Xp_15.out.on hn)
  have Xz_16 : Hid (Rb V16 b4 tz) := Lib.hid (Xz_15.out.on hn)
  have Iq_16 : Hid (tq.In V16) := Lib.hid (Iq_15.out.on hn)
  have Xq_16 := Lib.hid hx
  clear hx hn hW B_15 Xa_15 Xb_15 Xs_15 Xt_15 Xp_15 Xz_15 Iq_15 Iq_16
  generalize w15.heap.size = b5 at *
  refine (div_v Xb_16.out.sl Xb_16.out.sl Vb.out Vb.out HZ.out HB.out.2 HB.out.2 (by decide)).mono ?_
  clear kb0 kb1 kb2 kb3
  rintro e w17 ⟨tu, rfl, hi, hv, hb⟩
  have B_17 := Lib.hid (below_chain B_16.out (by have := B_16.out.size; have := HRr.out; omega) hb)
  have Xa_17 : Hid (Rb w17 r a) := Lib.hid (Xa_16.out.on hb)
  have Xb_17 : Hid (Rb w17 (r + 1) b) := Lib.hid (Xb_16.out.on hb)
  have Xs_17 : Hid (Rb w17 b1 ts) := Lib.hid (Xs_16.out.on hb)
  have Xt_17 : Hid (Rb w17 b2 tt) := Lib.hid (Xt_16.out.on hb)
  have Xp_17 : Hid (Rb w17 b3 tp) := Lib.hid (Xp_16.out.on hb)
  have Xz_17 : Hid (Rb w17 b4 tz) := Lib.hid (Xz_16.out.on hb)
  have Xq_17 : Hid (Rb w17 b5 tq) := Lib.hid (Xq_16.out.on hb)
  have Iu_17 : Hid (tu.In w17) := Lib.hid (hi)
  clear hb B_16 Xa_16 Xb_16 Xs_16 Xt_16 Xp_16 Xz_16 Xq_16 hi
  have Vu := Lib.hid hv
  clear hv
  have kb0 := (Xb_17.out.on (below_new w17 (.cells #[.bool tu.g, .slice tu.A tu.n tu.c, .bool tu.gd, .slice tu.Ad tu.nd tu.cd] 27))).c0
  have kb1 := (Xb_17.out.on (below_new w17 (.cells #[.bool tu.g, .slice tu.A tu.n tu.c, .bool tu.gd, .slice tu.Ad tu.nd tu.cd] 27))).c1
  have kb2 := (Xb_17.out.on (below_new w17 (.cells #[.bool tu.g, .slice tu.A tu.n tu.c, .bool tu.gd, .slice tu.Ad tu.nd tu.cd] 27))).c2
  have kb3 := (Xb_17.out.on (below_new w17 (.cells #[.bool tu.g, .slice tu.A tu.n tu.c, .bool tu.gd, .slice tu.Ad tu.nd tu.cd] 27))).c3
  go_wp2_with fail
  generalize hW : World.alloc w17 _ = V18
  have hn := below_new w17 (.cells #[.bool tu.g, .slice tu.A tu.n tu.c, .bool tu.gd, .slice tu.Ad tu.nd tu.cd] 27)
  have hx := Rb.new Iu_17.out
  rw [hW] at hn hx
  have B_18 := Lib.hid (below_chain B_17.out (by have := B_17.out.size; have := HRr.out; omega) hn)
  have Xa_18 : Hid (Rb V18 r a) := Lib.hid (Xa_17.out.on hn)
  have Xb_18 : Hid (Rb V18 (r + 1) b) := Lib.hid (Xb_17.out.on hn)
  have Xs_18 : Hid (Rb V18 b1 ts) := Lib.hid (Xs_17.out.on hn)
  have Xt_18 : Hid (Rb V18 b2 tt) := Lib.hid (Xt_17.out.on hn)
  have Xp_18 : Hid (Rb V18 b3 tp) := Lib.hid (Xp_17.out.on hn)
  have Xz_18 : Hid (Rb V18 b4 tz) := Lib.hid (Xz_17.out.on hn)
  have Xq_18 : Hid (Rb V18 b5 tq) := Lib.hid (Xq_17.out.on hn)
  have Iu_18 : Hid (tu.In V18) := Lib.hid (Iu_17.out.on hn)
  have Xu_18 := Lib.hid hx
  clear hx hn hW B_17 Xa_17 Xb_17 Xs_17 Xt_17 Xp_17 Xz_17 Xq_17 Iu_17 Iu_18
  generalize w17.heap.size = b6 at *
  refine (sign_q Xb_18.out.sl Vb.out).mono ?_
  clear kb0 kb1 kb2 kb3
  rintro e w19 ⟨rfl, hb⟩
  have B_19 := Lib.hid (below_chain B_18.out (by have := B_18.out.size; have := HRr.out; omega) hb)
  have Xa_19 : Hid (Rb w19 r a) := Lib.hid (Xa_18.out.on hb)
  have Xb_19 : Hid (Rb w19 (r + 1) b) := Lib.hid (Xb_18.out.on hb)
  have Xs_19 : Hid (Rb w19 b1 ts) := Lib.hid (Xs_18.out.on hb)
  have Xt_19 : Hid (Rb w19 b2 tt) := Lib.hid (Xt_18.out.on hb)
  have Xp_19 : Hid (Rb w19 b3 tp) := Lib.hid (Xp_18.out.on hb)
  have Xz_19 : Hid (Rb w19 b4 tz) := Lib.hid (Xz_18.out.on hb)
  have Xq_19 : Hid (Rb w19 b5 tq) := Lib.hid (Xq_18.out.on hb)
  have Xu_19 : Hid (Rb w19 b6 tu) := Lib.hid (Xu_18.out.on hb)
  clear hb B_18 Xa_18 Xb_18 Xs_18 Xt_18 Xp_18 Xz_18 Xq_18 Xu_18
  have sg : (y.num.sign == 0) = false := by have := HZ.out; rw [beq_eq_false_iff_ne]; intro h; exact this (Int.sign_eq_zero_iff_zero.1 h)
  generalize y.num.sign = sgn at *
  go_wp2_with fail
  have kq0 := Xq_19.out.c0
  have kq1 := Xq_19.out.c1
  have kq2 := Xq_19.out.c2
  have kq3 := Xq_19.out.c3
  have ka0 := Xa_19.out.c0
  have ka1 := Xa_19.out.c1
  have ka2 := Xa_19.out.c2
  have ka3 := Xa_19.out.c3
  have ku0 := Xu_19.out.c0
  have ku1 := Xu_19.out.c1
  have ku2 := Xu_19.out.c2
  have ku3 := Xu_19.out.c3
  have B_20 := Lib.hid (B_19.out.drew)
  have Xa_20 : Hid (Rb w19.drew r a) := Lib.hid (Xa_19.out.drew)
  have Xb_20 : Hid (Rb w19.drew (r + 1) b) := Lib.hid (Xb_19.out.drew)
  have Xs_20 : Hid (Rb w19.drew b1 ts) := Lib.hid (Xs_19.out.drew)
  have Xt_20 : Hid (Rb w19.drew b2 tt) := Lib.hid (Xt_19.out.drew)
  have Xp_20 : Hid (Rb w19.drew b3 tp) := Lib.hid (Xp_19.out.drew)
  have Xz_20 : Hid (Rb w19.drew b4 tz) := Lib.hid (Xz_19.out.drew)
  have Xq_20 : Hid (Rb w19.drew b5 tq) := Lib.hid (Xq_19.out.drew)
  have Xu_20 : Hid (Rb w19.drew b6 tu) := Lib.hid (Xu_19.out.drew)
  go_region_held3 (fun w' => w'.cell? ⟨b5, 0, none⟩ = some (.bool tq.g) ∧ w'.cell? ⟨b5, 1, none⟩ = some (.slice tq.A tq.n tq.c) ∧ w'.cell? ⟨b5, 2, none⟩ = some (.bool tq.gd) ∧ w'.cell? ⟨b5, 3, none⟩ = some (.slice tq.Ad tq.nd tq.cd) ∧ w'.cell? ⟨r, 0, none⟩ = some (.bool a.g) ∧ w'.cell? ⟨r, 1, none⟩ = some (.slice a.A a.n a.c) ∧ w'.cell? ⟨r, 2, none⟩ = some (.bool a.gd) ∧ w'.cell? ⟨r, 3, none⟩ = some (.slice a.Ad a.nd a.cd) ∧ w'.cell? ⟨b6, 0, none⟩ = some (.bool tu.g) ∧ w'.cell? ⟨b6, 1, none⟩ = some (.slice tu.A tu.n tu.c) ∧ w'.cell? ⟨b6, 2, none⟩ = some (.bool tu.gd) ∧ w'.cell? ⟨b6, 3, none⟩ = some (.slice tu.Ad tu.nd tu.cd)) (go_keep)
    (first
      | (go_at_call 22; have C := same_v Xu_22.out.sl Io2_22.out Vu.out Vo2.out HE.out.2.2.2; (with_reducible refine C.mono ?_); clear C; rintro e w23 ⟨rfl, hb⟩; have B_23 := Lib.hid (below_chain B_22.out (by have := B_22.out.size; have := HRr.out; omega) hb); have Xa_23 : Hid (Rb w23 r a) := Lib.hid (Xa_22.out.on hb); have Xb_23 : Hid (Rb w23 (r + 1) b) := Lib.hid (Xb_22.out.on hb); have Xs_23 : Hid (Rb w23 b1 ts) := Lib.hid (Xs_22.out.on hb); have Xt_23 : Hid (Rb w23 b2 tt) := Lib.hid (Xt_22.out.on hb); have Xp_23 : Hid (Rb w23 b3 tp) := Lib.hid (Xp_22.out.on hb); have Xz_23 : Hid (Rb w23 b4 tz) := Lib.hid (Xz_22.out.on hb); have Xq_23 : Hid (Rb w23 b5 tq) := Lib.hid (Xq_22.out.on hb); have Xu_23 : Hid (Rb w23 b6 tu) := Lib.hid (Xu_22.out.on hb); have Io2_23 : Hid (o2.In w23) := Lib.hid (Io2_22.out.on hb); clear hb B_22 Xa_22 Xb_22 Xs_22 Xt_22 Xp_22 Xz_22 Xq_22 Xu_22 Io2_22 kq0 kq1 kq2 kq3 ka0 ka1 ka2 ka3 ku0 ku1 ku2 ku3; have kq0 := Xq_23.out.c0; have kq1 := Xq_23.out.c1; have kq2 := Xq_23.out.c2; have kq3 := Xq_23.out.c3; have ka0 := Xa_23.out.c0; have ka1 := Xa_23.out.c1; have ka2 := Xa_23.out.c2; have ka3 := Xa_23.out.c3; have ku0 := Xu_23.out.c0; have ku1 := Xu_23.out.c1; have ku2 := Xu_23.out.c2; have ku3 := Xu_23.out.c3)
      | (go_at_call 47; have C := of_v 1 1 w21 (by decide) (by decide) (by decide) (by decide); (with_reducible refine C.mono ?_); clear C; rintro e w22 ⟨o2, rfl, hi, hv, hb⟩; have B_22 := Lib.hid (below_chain B_21.out (by have := B_21.out.size; have := HRr.out; omega) hb); have Xa_22 : Hid (Rb w22 r a) := Lib.hid (Xa_21.out.on hb); have Xb_22 : Hid (Rb w22 (r + 1) b) := Lib.hid (Xb_21.out.on hb); have Xs_22 : Hid (Rb w22 b1 ts) := Lib.hid (Xs_21.out.on hb); have Xt_22 : Hid (Rb w22 b2 tt) := Lib.hid (Xt_21.out.on hb); have Xp_22 : Hid (Rb w22 b3 tp) := Lib.hid (Xp_21.out.on hb); have Xz_22 : Hid (Rb w22 b4 tz) := Lib.hid (Xz_21.out.on hb); have Xq_22 : Hid (Rb w22 b5 tq) := Lib.hid (Xq_21.out.on hb); have Xu_22 : Hid (Rb w22 b6 tu) := Lib.hid (Xu_21.out.on hb); have Io2_22 : Hid (o2.In w22) := Lib.hid hi; have Vo2 := Lib.hid hv; clear hv; clear hb B_21 Xa_21 Xb_21 Xs_21 Xt_21 Xp_21 Xz_21 Xq_21 Xu_21 hi kq0 kq1 kq2 kq3 ka0 ka1 ka2 ka3 ku0 ku1 ku2 ku3; have kq0 := Xq_22.out.c0; have kq1 := Xq_22.out.c1; have kq2 := Xq_22.out.c2; have kq3 := Xq_22.out.c3; have ka0 := Xa_22.out.c0; have ka1 := Xa_22.out.c1; have ka2 := Xa_22.out.c2; have ka3 := Xa_22.out.c3; have ku0 := Xu_22.out.c0; have ku1 := Xu_22.out.c1; have ku2 := Xu_22.out.c2; have ku3 := Xu_22.out.c3)
      | (go_at_call 22; have C := same_v Xq_20.out.sl Xa_20.out.sl Vq.out Va.out HE.out.2.2.1; (with_reducible refine C.mono ?_); clear C; rintro e w21 ⟨rfl, hb⟩; have B_21 := Lib.hid (below_chain B_20.out (by have := B_20.out.size; have := HRr.out; omega) hb); have Xa_21 : Hid (Rb w21 r a) := Lib.hid (Xa_20.out.on hb); have Xb_21 : Hid (Rb w21 (r + 1) b) := Lib.hid (Xb_20.out.on hb); have Xs_21 : Hid (Rb w21 b1 ts) := Lib.hid (Xs_20.out.on hb); have Xt_21 : Hid (Rb w21 b2 tt) := Lib.hid (Xt_20.out.on hb); have Xp_21 : Hid (Rb w21 b3 tp) := Lib.hid (Xp_20.out.on hb); have Xz_21 : Hid (Rb w21 b4 tz) := Lib.hid (Xz_20.out.on hb); have Xq_21 : Hid (Rb w21 b5 tq) := Lib.hid (Xq_20.out.on hb); have Xu_21 : Hid (Rb w21 b6 tu) := Lib.hid (Xu_20.out.on hb); clear hb B_20 Xa_20 Xb_20 Xs_20 Xt_20 Xp_20 Xz_20 Xq_20 Xu_20 kq0 kq1 kq2 kq3 ka0 ka1 ka2 ka3 ku0 ku1 ku2 ku3; have kq0 := Xq_21.out.c0; have kq1 := Xq_21.out.c1; have kq2 := Xq_21.out.c2; have kq3 := Xq_21.out.c3; have ka0 := Xa_21.out.c0; have ka1 := Xa_21.out.c1; have ka2 := Xa_21.out.c2; have ka3 := Xa_21.out.c3; have ku0 := Xu_21.out.c0; have ku1 := Xu_21.out.c1; have ku2 := Xu_21.out.c2; have ku3 := Xu_21.out.c3))
  go_wp2
  go_ret
  exact ⟨rfl, by rw [HRr.out]; exact B_23.out⟩

end Go.Proofs.YtfpcooinceebpaaGreat