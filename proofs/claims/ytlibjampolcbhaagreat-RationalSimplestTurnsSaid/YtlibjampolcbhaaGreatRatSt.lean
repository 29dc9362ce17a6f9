/-
  Stage 2: RationalSimplestTurns, its walk.
-/
import Derived.Test.YtlibjampolcbhaaGreatRatSv
import Derived.Test.YtlibjampolcbhaaGreatRatCq
import Derived.Test.YtlibjampolcbhaaGreatRatVa
namespace Go.Proofs.YtlibjampolcbhaaGreat
open Go.RowKit
set_option linter.unusedSimpArgs false in
set_option maxRecDepth 20000 in
set_option maxHeartbeats 2000000 in
theorem turns_no (p q : RVal) (w : World) (ha : p.In w) (hb : q.In w) (hv : vok p q q 32 = false) :
    Calls Tryz.prog 14 #[.agg #[.bool p.g, .slice p.A p.n p.c, .bool p.gd, .slice p.Ad p.nd p.cd], .agg #[.bool q.g, .slice q.A q.n q.c, .bool q.gd, .slice q.Ad q.nd q.cd]] w fun e w' => e = .returned (.bool true) ∧ Below w.heap.size w w' := by
  have HV := hI hv
  clear hv
  have Ia_0 := hI ha
  clear ha
  have Ib_0 := hI hb
  clear hb
  have B_0 : Hid (Below w.heap.size w w) := hI (Below.refl _ _)
  go_enter Tryz.func14, Tryz.ntmps14
  go_wp2_with fail
  generalize hW : World.alloc w _ = W1
  have hn := below_new w (.cells #[.bool p.g, .slice p.A p.n p.c, .bool p.gd, .slice p.Ad p.nd p.cd] 27)
  rw [hW] at hn
  have hz : W1.heap.size = w.heap.size + 1 := by rw [← hW]; simp
  have hx : Rb W1 w.heap.size p := by rw [← hW]; exact Rb.new (q := p) Ia_0.out
  have Ib_1 := hI (Ib_0.out.on hn)
  have B_2 := hI (below_chain B_0.out B_0.out.size hn)
  generalize hr : w.heap.size = r at *
  have HRr := hI hr
  clear hr
  have Xa_3 : Hid (Rb W1 r p) := hI hx
  have HT3 := hz
  clear hn hx hz hW Ib_0 B_0 Ia_0
  generalize hW : World.alloc W1 _ = W4
  have hn := below_new W1 (.cells #[.bool q.g, .slice q.A q.n q.c, .bool q.gd, .slice q.Ad q.nd q.cd] 27)
  rw [hW] at hn
  have hx : Rb W4 W1.heap.size q := by rw [← hW]; exact Rb.new (q := q) Ib_1.out
  have hlt : r < W1.heap.size := Xa_3.out.lt
  have B_4 := hI (bch B_2.out HRr.out hn)
  have Xa_5 := hI (Xa_3.out.on hn)
  rw [HT3] at hx hlt
  have Xb_6 : Hid (Rb W4 (r + 1) q) := hI hx
  clear hn hx hW hlt B_2 Xa_3 Ib_1
  clear HT3
  refine (sane W4).mono ?_
  rintro e w7 ⟨rfl, hb⟩
  have B_7 := hI (bch B_4.out HRr.out hb)
  have Xa_8 := hI (Xa_5.out.on hb)
  have Xb_9 := hI (Xb_6.out.on hb)
  clear hb B_4 Xa_5 Xb_6
  obtain ⟨ka0, ka1, ka2, ka3⟩ := Xa_8.out.cs
  have la := Xa_8.out.lt
  obtain ⟨kb0, kb1, kb2, kb3⟩ := Xb_9.out.cs
  have lb := Xb_9.out.lt
  go_wp2_with fail
  have C := val_any p q q 32 w7 Xa_8.out.sl Xb_9.out.sl Xb_9.out.sl
  rw [HV.out] at C
  refine C.mono ?_
  clear C
  clear ka0 ka1 ka2 ka3 la kb0 kb1 kb2 kb3 lb
  rintro e w10 ⟨rfl, hb⟩
  have B_10 := hI (bch B_7.out HRr.out hb)
  have Xa_11 := hI (Xa_8.out.on hb)
  have Xb_12 := hI (Xb_9.out.on hb)
  clear hb B_7 Xa_8 Xb_9
  go_wp2
  go_ret
  exact ⟨rfl, (by rw [HRr.out]; exact B_10.out)⟩
set_option linter.unusedSimpArgs false in
set_option maxRecDepth 20000 in
set_option maxHeartbeats 2000000 in
theorem turns_ge (p q : RVal) (w : World) (ha : p.In w) (hb : q.In w) (hv : vok p q q 32 = true) (x y : Rat) (ha2 : rv p.o p.od = some x) (hb2 : rv q.o q.od = some y) (u : Int) (hc : Int.sign (x.num * y.den - y.num * x.den) = u ∧ decide (0 ≤ u) = true) :
    Calls Tryz.prog 14 #[.agg #[.bool p.g, .slice p.A p.n p.c, .bool p.gd, .slice p.Ad p.nd p.cd], .agg #[.bool q.g, .slice q.A q.n q.c, .bool q.gd, .slice q.Ad q.nd q.cd]] w fun e w' => e = .returned (.bool true) ∧ Below w.heap.size w w' := by
  have HV := hI hv
  have Va := hI ha2
  have Vb := hI hb2
  have HC := hI hc
  clear hv ha2 hb2 hc
  have Ia_0 := hI ha
  clear ha
  have Ib_0 := hI hb
  clear hb
  have B_0 : Hid (Below w.heap.size w w) := hI (Below.refl _ _)
  go_enter Tryz.func14, Tryz.ntmps14
  go_wp2_with fail
  generalize hW : World.alloc w _ = W1
  have hn := below_new w (.cells #[.bool p.g, .slice p.A p.n p.c, .bool p.gd, .slice p.Ad p.nd p.cd] 27)
  rw [hW] at hn
  have hz : W1.heap.size = w.heap.size + 1 := by rw [← hW]; simp
  have hx : Rb W1 w.heap.size p := by rw [← hW]; exact Rb.new (q := p) Ia_0.out
  have Ib_1 := hI (Ib_0.out.on hn)
  have B_2 := hI (below_chain B_0.out B_0.out.size hn)
  generalize hr : w.heap.size = r at *
  have HRr := hI hr
  clear hr
  have Xa_3 : Hid (Rb W1 r p) := hI hx
  have HT3 := hz
  clear hn hx hz hW Ib_0 B_0 Ia_0
  generalize hW : World.alloc W1 _ = W4
  have hn := below_new W1 (.cells #[.bool q.g, .slice q.A q.n q.c, .bool q.gd, .slice q.Ad q.nd q.cd] 27)
  rw [hW] at hn
  have hx : Rb W4 W1.heap.size q := by rw [← hW]; exact Rb.new (q := q) Ib_1.out
  have hlt : r < W1.heap.size := Xa_3.out.lt
  have B_4 := hI (bch B_2.out HRr.out hn)
  have Xa_5 := hI (Xa_3.out.on hn)
  rw [HT3] at hx hlt
  have Xb_6 : Hid (Rb W4 (r + 1) q) := hI hx
  clear hn hx hW hlt B_2 Xa_3 Ib_1
  clear HT3
  refine (sane W4).mono ?_
  rintro e w7 ⟨rfl, hb⟩
  have B_7 := hI (bch B_4.out HRr.out hb)
  have Xa_8 := hI (Xa_5.out.on hb)
  have Xb_9 := hI (Xb_6.out.on hb)
  clear hb B_4 Xa_5 Xb_6
  obtain ⟨ka0, ka1, ka2, ka3⟩ := Xa_8.out.cs
  have la := Xa_8.out.lt
  obtain ⟨kb0, kb1, kb2, kb3⟩ := Xb_9.out.cs
  have lb := Xb_9.out.lt
  go_wp2_with fail
  have C := val_any p q q 32 w7 Xa_8.out.sl Xb_9.out.sl Xb_9.out.sl
  rw [HV.out] at C
  refine C.mono ?_
  clear C
  clear ka0 ka1 ka2 ka3 la kb0 kb1 kb2 kb3 lb
  rintro e w10 ⟨rfl, hb⟩
  have B_10 := hI (bch B_7.out HRr.out hb)
  have Xa_11 := hI (Xa_8.out.on hb)
  have Xb_12 := hI (Xb_9.out.on hb)
  clear hb B_7 Xa_8 Xb_9
  obtain ⟨ka0, ka1, ka2, ka3⟩ := Xa_11.out.cs
  have la := Xa_11.out.lt
  obtain ⟨kb0, kb1, kb2, kb3⟩ := Xb_12.out.cs
  have lb := Xb_12.out.lt
  go_wp2_with fail
  refine (rcmpq_ok p q w10 Xa_11.out.sl Xb_12.out.sl x y Va.out Vb.out u HC.out.1).mono ?_
  clear ka0 ka1 ka2 ka3 la kb0 kb1 kb2 kb3 lb
  rintro e w13 ⟨rfl, hb⟩
  have B_13 := hI (bch B_10.out HRr.out hb)
  have Xa_14 := hI (Xa_11.out.on hb)
  have Xb_15 := hI (Xb_12.out.on hb)
  clear hb B_10 Xa_11 Xb_12
  have gu : decide (0 ≤ u) = true := HC.out.2
  go_wp2
  go_ret
  exact ⟨rfl, (by rw [HRr.out]; exact B_13.out)⟩
set_option linter.unusedSimpArgs false in
set_option maxRecDepth 20000 in
set_option maxHeartbeats 2000000 in
theorem turns_yes (p q : RVal) (w : World) (ha : p.In w) (hb : q.In w) (hv : vok p q q 32 = true) (x y z : Rat) (u : Int) (ha2 : rv p.o p.od = some x) (hb2 : rv q.o q.od = some y) (hc : Int.sign (x.num * y.den - y.num * x.den) = -1) (h1 : Simp x y z) (h2 : Simp (-y) (-x) (-z)) (hB : Bd 1 (Rat.divInt 0 1) ∧ Bd 1024 x ∧ Bd 1024 y ∧ Bd 2052 (-z) ∧ Bd 2049 (x + y) ∧ Bd 2 (Rat.divInt 2 1)) (hz : Rat.divInt 0 1 - y = -y ∧ Rat.divInt 0 1 - x = -x ∧ z = Rat.divInt 0 1 - -z ∧ Int.sign (x.num * z.den - z.num * x.den) = -1 ∧ Int.sign (z.num * y.den - y.num * z.den) = -1 ∧ Int.sign ((z.den : Int) - (((x + y) / Rat.divInt 2 1).den : Int)) = u ∧ decide (u ≤ 0) = true) (hd : (Rat.divInt 2 1).num ≠ 0) :
    Calls Tryz.prog 14 #[.agg #[.bool p.g, .slice p.A p.n p.c, .bool p.gd, .slice p.Ad p.nd p.cd], .agg #[.bool q.g, .slice q.A q.n q.c, .bool q.gd, .slice q.Ad q.nd q.cd]] w fun e w' => e = .returned (.bool true) ∧ Below w.heap.size w w' := by
  have HV := hI hv
  have Va := hI ha2
  have Vb := hI hb2
  have HC := hI hc
  have S1 := hI h1
  have S2 := hI h2
  have HB := hI hB
  have HZ := hI hz
  have HD := hI hd
  clear hv ha2 hb2 hc h1 h2 hB hz hd
  have Ia_0 := hI ha
  clear ha
  have Ib_0 := hI hb
  clear hb
  have B_0 : Hid (Below w.heap.size w w) := hI (Below.refl _ _)
  go_enter Tryz.func14, Tryz.ntmps14
  go_wp2_with fail
  generalize hW : World.alloc w _ = W1
  have hn := below_new w (.cells #[.bool p.g, .slice p.A p.n p.c, .bool p.gd, .slice p.Ad p.nd p.cd] 27)
  rw [hW] at hn
  have hz : W1.heap.size = w.heap.size + 1 := by rw [← hW]; simp
  have hx : Rb W1 w.heap.size p := by rw [← hW]; exact Rb.new (q := p) Ia_0.out
  have Ib_1 := hI (Ib_0.out.on hn)
  have B_2 := hI (below_chain B_0.out B_0.out.size hn)
  generalize hr : w.heap.size = r at *
  have HRr := hI hr
  clear hr
  have Xa_3 : Hid (Rb W1 r p) := hI hx
  have HT3 := hz
  clear hn hx hz hW Ib_0 B_0 Ia_0
  generalize hW : World.alloc W1 _ = W4
  have hn := below_new W1 (.cells #[.bool q.g, .slice q.A q.n q.c, .bool q.gd, .slice q.Ad q.nd q.cd] 27)
  rw [hW] at hn
  have hx : Rb W4 W1.heap.size q := by rw [← hW]; exact Rb.new (q := q) Ib_1.out
  have hlt : r < W1.heap.size := Xa_3.out.lt
  have B_4 := hI (bch B_2.out HRr.out hn)
  have Xa_5 := hI (Xa_3.out.on hn)
  rw [HT3] at hx hlt
  have Xb_6 : Hid (Rb W4 (r + 1) q) := hI hx
  clear hn hx hW hlt B_2 Xa_3 Ib_1
  clear HT3
  refine (sane W4).mono ?_
  rintro e w7 ⟨rfl, hb⟩
  have B_7 := hI (bch B_4.out HRr.out hb)
  have Xa_8 := hI (Xa_5.out.on hb)
  have Xb_9 := hI (Xb_6.out.on hb)
  clear hb B_4 Xa_5 Xb_6
  obtain ⟨ka0, ka1, ka2, ka3⟩ := Xa_8.out.cs
  have la := Xa_8.out.lt
  obtain ⟨kb0, kb1, kb2, kb3⟩ := Xb_9.out.cs
  have lb := Xb_9.out.lt
  go_wp2_with fail
  have C := val_any p q q 32 w7 Xa_8.out.sl Xb_9.out.sl Xb_9.out.sl
  rw [HV.out] at C
  refine C.mono ?_
  clear C
  clear ka0 ka1 ka2 ka3 la kb0 kb1 kb2 kb3 lb
  rintro e w10 ⟨rfl, hb⟩
  have B_10 := hI (bch B_7.out HRr.out hb)
  have Xa_11 := hI (Xa_8.out.on hb)
  have Xb_12 := hI (Xb_9.out.on hb)
  clear hb B_7 Xa_8 Xb_9
  obtain ⟨ka0, ka1, ka2, ka3⟩ := Xa_11.out.cs
  have la := Xa_11.out.lt
  obtain ⟨kb0, kb1, kb2, kb3⟩ := Xb_12.out.cs
  have lb := Xb_12.out.lt
  go_wp2_with fail
  refine (rcmpq_ok p q w10 Xa_11.out.sl Xb_12.out.sl x y Va.out Vb.out (-1) HC.out).mono ?_
  clear ka0 ka1 ka2 ka3 la kb0 kb1 kb2 kb3 lb
  rintro e w13 ⟨rfl, hb⟩
  have B_13 := hI (bch B_10.out HRr.out hb)
  have Xa_14 := hI (Xa_11.out.on hb)
  have Xb_15 := hI (Xb_12.out.on hb)
  clear hb B_10 Xa_11 Xb_12
  go_wp2_with fail
  refine (of_v 0 1 w13 (by decide) (by decide) (by decide) (by decide)).mono ?_
  rintro e w16 ⟨to0, rfl, hi, hv, hb⟩
  have B_16 := hI (bch B_13.out HRr.out hb)
  have Xa_17 := hI (Xa_14.out.on hb)
  have Xb_18 := hI (Xb_15.out.on hb)
  have Io0_19 : Hid (to0.In w16) := hI hi
  clear hb B_13 Xa_14 Xb_15 hi
  have Vo0 := hI hv
  clear hv
  obtain ⟨ka0, ka1, ka2, ka3⟩ := (Xa_17.out.on (below_new w16 (.cells #[.bool to0.g, .slice to0.A to0.n to0.c, .bool to0.gd, .slice to0.Ad to0.nd to0.cd] 27))).cs
  have la := Xa_17.out.lt
  obtain ⟨kb0, kb1, kb2, kb3⟩ := (Xb_18.out.on (below_new w16 (.cells #[.bool to0.g, .slice to0.A to0.n to0.c, .bool to0.gd, .slice to0.Ad to0.nd to0.cd] 27))).cs
  have lb := Xb_18.out.lt
  go_wp2_with fail
  generalize hW : World.alloc w16 _ = W20
  have hn := below_new w16 (.cells #[.bool to0.g, .slice to0.A to0.n to0.c, .bool to0.gd, .slice to0.Ad to0.nd to0.cd] 27)
  rw [hW] at hn
  have hx : Rb W20 w16.heap.size to0 := by rw [← hW]; exact Rb.new (q := to0) Io0_19.out
  have hlt : (r + 1) < w16.heap.size := Xb_18.out.lt
  have B_20 := hI (bch B_16.out HRr.out hn)
  have Xa_21 := hI (Xa_17.out.on hn)
  have Xb_22 := hI (Xb_18.out.on hn)
  generalize hbb : w16.heap.size = b1 at *
  clear hbb
  have Xo_23 : Hid (Rb W20 b1 to0) := hI hx
  have O23 := hI hlt
  clear hn hx hW hlt B_16 Xa_17 Xb_18 Io0_19
  refine (S1.out _ _ W20 Xa_21.out.sl Xb_22.out.sl Va.out Vb.out).mono ?_
  clear ka0 ka1 ka2 ka3 la kb0 kb1 kb2 kb3 lb
  rintro e w24 ⟨tx0, rfl, hi, hv, hb⟩
  have B_24 := hI (bch B_20.out HRr.out hb)
  have Xa_25 := hI (Xa_21.out.on hb)
  have Xb_26 := hI (Xb_22.out.on hb)
  have Xo_27 := hI (Xo_23.out.on hb)
  have Ix0_28 : Hid (tx0.In w24) := hI hi
  clear hb B_20 Xa_21 Xb_22 Xo_23 hi
  have Vx0 := hI hv
  clear hv
  obtain ⟨ko0, ko1, ko2, ko3⟩ := (Xo_27.out.on (below_new w24 (.cells #[.bool tx0.g, .slice tx0.A tx0.n tx0.c, .bool tx0.gd, .slice tx0.Ad tx0.nd tx0.cd] 27))).cs
  have lo := Xo_27.out.lt
  obtain ⟨kb0, kb1, kb2, kb3⟩ := (Xb_26.out.on (below_new w24 (.cells #[.bool tx0.g, .slice tx0.A tx0.n tx0.c, .bool tx0.gd, .slice tx0.Ad tx0.nd tx0.cd] 27))).cs
  have lb := Xb_26.out.lt
  go_wp2_with fail
  generalize hW : World.alloc w24 _ = W29
  have hn := below_new w24 (.cells #[.bool tx0.g, .slice tx0.A tx0.n tx0.c, .bool tx0.gd, .slice tx0.Ad tx0.nd tx0.cd] 27)
  rw [hW] at hn
  have hx : Rb W29 w24.heap.size tx0 := by rw [← hW]; exact Rb.new (q := tx0) Ix0_28.out
  have hlt : b1 < w24.heap.size := Xo_27.out.lt
  have B_29 := hI (bch B_24.out HRr.out hn)
  have Xa_30 := hI (Xa_25.out.on hn)
  have Xb_31 := hI (Xb_26.out.on hn)
  have Xo_32 := hI (Xo_27.out.on hn)
  generalize hbb : w24.heap.size = b2 at *
  clear hbb
  have Xx_33 : Hid (Rb W29 b2 tx0) := hI hx
  have O33 := hI hlt
  clear hn hx hW hlt B_24 Xa_25 Xb_26 Xo_27 Ix0_28
  refine (sub_v Xo_32.out.sl Xb_31.out.sl Vo0.out Vb.out HB.out.1 HB.out.2.2.1 (by decide)).mono ?_
  clear ko0 ko1 ko2 ko3 lo kb0 kb1 kb2 kb3 lb
  rintro e w34 ⟨tf0, rfl, hi, hv, hb⟩
  have B_34 := hI (bch B_29.out HRr.out hb)
  have Xa_35 := hI (Xa_30.out.on hb)
  have Xb_36 := hI (Xb_31.out.on hb)
  have Xo_37 := hI (Xo_32.out.on hb)
  have Xx_38 := hI (Xx_33.out.on hb)
  have If0_39 : Hid (tf0.In w34) := hI hi
  clear hb B_29 Xa_30 Xb_31 Xo_32 Xx_33 hi
  have Vf0 := hI hv
  clear hv
  obtain ⟨ko0, ko1, ko2, ko3⟩ := (Xo_37.out.on (below_new w34 (.cells #[.bool tf0.g, .slice tf0.A tf0.n tf0.c, .bool tf0.gd, .slice tf0.Ad tf0.nd tf0.cd] 27))).cs
  have lo := Xo_37.out.lt
  obtain ⟨ka0, ka1, ka2, ka3⟩ := (Xa_35.out.on (below_new w34 (.cells #[.bool tf0.g, .slice tf0.A tf0.n tf0.c, .bool tf0.gd, .slice tf0.Ad tf0.nd tf0.cd] 27))).cs
  have la := Xa_35.out.lt
  go_wp2_with fail
  generalize hW : World.alloc w34 _ = W40
  have hn := below_new w34 (.cells #[.bool tf0.g, .slice tf0.A tf0.n tf0.c, .bool tf0.gd, .slice tf0.Ad tf0.nd tf0.cd] 27)
  rw [hW] at hn
  have hx : Rb W40 w34.heap.size tf0 := by rw [← hW]; exact Rb.new (q := tf0) If0_39.out
  have hlt : b2 < w34.heap.size := Xx_38.out.lt
  have B_40 := hI (bch B_34.out HRr.out hn)
  have Xa_41 := hI (Xa_35.out.on hn)
  have Xb_42 := hI (Xb_36.out.on hn)
  have Xo_43 := hI (Xo_37.out.on hn)
  have Xx_44 := hI (Xx_38.out.on hn)
  generalize hbb : w34.heap.size = b3 at *
  clear hbb
  have Xf_45 : Hid (Rb W40 b3 tf0) := hI hx
  have O45 := hI hlt
  clear hn hx hW hlt B_34 Xa_35 Xb_36 Xo_37 Xx_38 If0_39
  refine (sub_v Xo_43.out.sl Xa_41.out.sl Vo0.out Va.out HB.out.1 HB.out.2.1 (by decide)).mono ?_
  clear ko0 ko1 ko2 ko3 lo ka0 ka1 ka2 ka3 la
  rintro e w46 ⟨th0, rfl, hi, hv, hb⟩
  have B_46 := hI (bch B_40.out HRr.out hb)
  have Xa_47 := hI (Xa_41.out.on hb)
  have Xb_48 := hI (Xb_42.out.on hb)
  have Xo_49 := hI (Xo_43.out.on hb)
  have Xx_50 := hI (Xx_44.out.on hb)
  have Xf_51 := hI (Xf_45.out.on hb)
  have Ih0_52 : Hid (th0.In w46) := hI hi
  clear hb B_40 Xa_41 Xb_42 Xo_43 Xx_44 Xf_45 hi
  have Vh0 := hI hv
  clear hv
  obtain ⟨kf0, kf1, kf2, kf3⟩ := (Xf_51.out.on (below_new w46 (.cells #[.bool th0.g, .slice th0.A th0.n th0.c, .bool th0.gd, .slice th0.Ad th0.nd th0.cd] 27))).cs
  have lf := Xf_51.out.lt
  go_wp2_with fail
  generalize hW : World.alloc w46 _ = W53
  have hn := below_new w46 (.cells #[.bool th0.g, .slice th0.A th0.n th0.c, .bool th0.gd, .slice th0.Ad th0.nd th0.cd] 27)
  rw [hW] at hn
  have hx : Rb W53 w46.heap.size th0 := by rw [← hW]; exact Rb.new (q := th0) Ih0_52.out
  have hlt : b3 < w46.heap.size := Xf_51.out.lt
  have B_53 := hI (bch B_46.out HRr.out hn)
  have Xa_54 := hI (Xa_47.out.on hn)
  have Xb_55 := hI (Xb_48.out.on hn)
  have Xo_56 := hI (Xo_49.out.on hn)
  have Xx_57 := hI (Xx_50.out.on hn)
  have Xf_58 := hI (Xf_51.out.on hn)
  generalize hbb : w46.heap.size = b4 at *
  clear hbb
  have Xh_59 : Hid (Rb W53 b4 th0) := hI hx
  have O59 := hI hlt
  clear hn hx hW hlt B_46 Xa_47 Xb_48 Xo_49 Xx_50 Xf_51 Ih0_52
  have Vf1 := hI (Vf0.out.trans (congrArg some HZ.out.1))
  have Vh1 := hI (Vh0.out.trans (congrArg some HZ.out.2.1))
  refine (S2.out _ _ W53 Xf_58.out.sl Xh_59.out.sl Vf1.out Vh1.out).mono ?_
  clear kf0 kf1 kf2 kf3 lf
  rintro e w60 ⟨ty0, rfl, hi, hv, hb⟩
  have B_60 := hI (bch B_53.out HRr.out hb)
  have Xa_61 := hI (Xa_54.out.on hb)
  have Xb_62 := hI (Xb_55.out.on hb)
  have Xo_63 := hI (Xo_56.out.on hb)
  have Xx_64 := hI (Xx_57.out.on hb)
  have Xf_65 := hI (Xf_58.out.on hb)
  have Xh_66 := hI (Xh_59.out.on hb)
  have Iy0_67 : Hid (ty0.In w60) := hI hi
  clear hb B_53 Xa_54 Xb_55 Xo_56 Xx_57 Xf_58 Xh_59 hi
  have Vy0 := hI hv
  clear hv
  clear Xf_65 Xh_66
  obtain ⟨ko0, ko1, ko2, ko3⟩ := (Xo_63.out.on (below_new w60 (.cells #[.bool ty0.g, .slice ty0.A ty0.n ty0.c, .bool ty0.gd, .slice ty0.Ad ty0.nd ty0.cd] 27))).cs
  have lo := Xo_63.out.lt
  go_wp2_with fail
  generalize hW : World.alloc w60 _ = W68
  have hn := below_new w60 (.cells #[.bool ty0.g, .slice ty0.A ty0.n ty0.c, .bool ty0.gd, .slice ty0.Ad ty0.nd ty0.cd] 27)
  rw [hW] at hn
  have hx : Rb W68 w60.heap.size ty0 := by rw [← hW]; exact Rb.new (q := ty0) Iy0_67.out
  have hlt : b2 < w60.heap.size := Xx_64.out.lt
  have B_68 := hI (bch B_60.out HRr.out hn)
  have Xa_69 := hI (Xa_61.out.on hn)
  have Xb_70 := hI (Xb_62.out.on hn)
  have Xo_71 := hI (Xo_63.out.on hn)
  have Xx_72 := hI (Xx_64.out.on hn)
  generalize hbb : w60.heap.size = b5 at *
  clear hbb
  have Xy_73 : Hid (Rb W68 b5 ty0) := hI hx
  have O73 := hI hlt
  clear hn hx hW hlt B_60 Xa_61 Xb_62 Xo_63 Xx_64 Iy0_67
  refine (sub_v Xo_71.out.sl Xy_73.out.sl Vo0.out Vy0.out HB.out.1 HB.out.2.2.2.1 (by decide)).mono ?_
  clear ko0 ko1 ko2 ko3 lo
  rintro e w74 ⟨tz0, rfl, hi, hv, hb⟩
  have B_74 := hI (bch B_68.out HRr.out hb)
  have Xa_75 := hI (Xa_69.out.on hb)
  have Xb_76 := hI (Xb_70.out.on hb)
  have Xo_77 := hI (Xo_71.out.on hb)
  have Xx_78 := hI (Xx_72.out.on hb)
  have Xy_79 := hI (Xy_73.out.on hb)
  have Iz0_80 : Hid (tz0.In w74) := hI hi
  clear hb B_68 Xa_69 Xb_70 Xo_71 Xx_72 Xy_73 hi
  have Vz0 := hI hv
  clear hv
  clear Xo_77 Xy_79
  obtain ⟨ka0, ka1, ka2, ka3⟩ := (Xa_75.out.on (below_new w74 (.cells #[.bool tz0.g, .slice tz0.A tz0.n tz0.c, .bool tz0.gd, .slice tz0.Ad tz0.nd tz0.cd] 27))).cs
  have la := Xa_75.out.lt
  obtain ⟨kb0, kb1, kb2, kb3⟩ := (Xb_76.out.on (below_new w74 (.cells #[.bool tz0.g, .slice tz0.A tz0.n tz0.c, .bool tz0.gd, .slice tz0.Ad tz0.nd tz0.cd] 27))).cs
  have lb := Xb_76.out.lt
  go_wp2_with fail
  generalize hW : World.alloc w74 _ = W81
  have hn := below_new w74 (.cells #[.bool tz0.g, .slice tz0.A tz0.n tz0.c, .bool tz0.gd, .slice tz0.Ad tz0.nd tz0.cd] 27)
  rw [hW] at hn
  have hx : Rb W81 w74.heap.size tz0 := by rw [← hW]; exact Rb.new (q := tz0) Iz0_80.out
  have hlt : b2 < w74.heap.size := Xx_78.out.lt
  have B_81 := hI (bch B_74.out HRr.out hn)
  have Xa_82 := hI (Xa_75.out.on hn)
  have Xb_83 := hI (Xb_76.out.on hn)
  have Xx_84 := hI (Xx_78.out.on hn)
  generalize hbb : w74.heap.size = b6 at *
  clear hbb
  have Xz_85 : Hid (Rb W81 b6 tz0) := hI hx
  have O85 := hI hlt
  clear hn hx hW hlt B_74 Xa_75 Xb_76 Xx_78 Iz0_80
  refine (add_v Xa_82.out.sl Xb_83.out.sl Va.out Vb.out HB.out.2.1 HB.out.2.2.1 (by decide)).mono ?_
  clear ka0 ka1 ka2 ka3 la kb0 kb1 kb2 kb3 lb
  rintro e w86 ⟨ts0, rfl, hi, hv, hb⟩
  have B_86 := hI (bch B_81.out HRr.out hb)
  have Xa_87 := hI (Xa_82.out.on hb)
  have Xb_88 := hI (Xb_83.out.on hb)
  have Xx_89 := hI (Xx_84.out.on hb)
  have Xz_90 := hI (Xz_85.out.on hb)
  have Is0_91 : Hid (ts0.In w86) := hI hi
  clear hb B_81 Xa_82 Xb_83 Xx_84 Xz_85 hi
  have Vs0 := hI hv
  clear hv
  go_upto_region 14 with fail
  generalize hW : World.alloc w86 _ = W92
  have hn := below_new w86 (.cells #[.bool ts0.g, .slice ts0.A ts0.n ts0.c, .bool ts0.gd, .slice ts0.Ad ts0.nd ts0.cd] 27)
  rw [hW] at hn
  have hx : Rb W92 w86.heap.size ts0 := by rw [← hW]; exact Rb.new (q := ts0) Is0_91.out
  have hlt : b6 < w86.heap.size := Xz_90.out.lt
  have B_92 := hI (bch B_86.out HRr.out hn)
  have Xa_93 := hI (Xa_87.out.on hn)
  have Xb_94 := hI (Xb_88.out.on hn)
  have Xx_95 := hI (Xx_89.out.on hn)
  have Xz_96 := hI (Xz_90.out.on hn)
  generalize hbb : w86.heap.size = b7 at *
  clear hbb
  have Xs_97 : Hid (Rb W92 b7 ts0) := hI hx
  have O97 := hI hlt
  clear hn hx hW hlt B_86 Xa_87 Xb_88 Xx_89 Xz_90 Is0_91
  go_cut [21, 22] (fun p s wx => RMid W92.heap.size W92.drew ((x + y) / Rat.divInt 2 1) p s wx)
  case first =>
    have xs0 := hI Xs_97.out.drew
    have D0 : Hid (Below W92.heap.size W92.drew W92.drew) := hI (Below.refl _ _)
    obtain ⟨os0, os1, os2, os3⟩ := Xs_97.out.cs
    have oqs := World.new_ne _ _ os0
    obtain ⟨ps0, ps1, ps2, ps3⟩ := xs0.out.cs; have pqs := World.new_ne _ _ ps0
    go_region_held3 (fun w' => w'.cell? ⟨b7, 0, none⟩ = some (.bool ts0.g) ∧ w'.cell? ⟨b7, 1, none⟩ = some (.slice ts0.A ts0.n ts0.c) ∧ w'.cell? ⟨b7, 2, none⟩ = some (.bool ts0.gd) ∧ w'.cell? ⟨b7, 3, none⟩ = some (.slice ts0.Ad ts0.nd ts0.cd)) (go_keep)
      (first
        | (go_at_call 29; (first | (have C := div_v (w := v1) xs1.out.sl I1.out Vs0.out V1.out HD.out HB.out.2.2.2.2.1 HB.out.2.2.2.2.2 (by decide); (with_reducible refine C.mono ?_); clear C; rintro e v2 ⟨f2, rfl, hi, hv, hbn⟩; have xs2 := hI (xs1.out.on hbn); have D2 := hI (below_chain D1.out D1.out.size hbn); replace I1 := hI (I1.out.on hbn); have I9 := hI hi; have V9 := hI hv; (try replace bn := bn.on hbn); clear hbn hi hv ps0 ps1 ps2 ps3 pqs; obtain ⟨ps0, ps1, ps2, ps3⟩ := xs2.out.cs; have pqs := World.new_ne _ _ ps0; (try (have t0 := bn.c0; have t1 := bn.c1; have t2 := bn.c2; have t3 := bn.c3; have u0f := bn.f 0; have u1f := bn.f 1; have u2f := bn.f 2; have u3f := bn.f 3; have bb := hI bn; clear bn))) | (have C := div_v (w := (v1.alloc (.cells #[.bool false, .slice none 0 0, .bool false, .slice none 0 0] 27))) (xs1.out.on (below_new v1 (.cells #[.bool false, .slice none 0 0, .bool false, .slice none 0 0] 27))).sl (I1.out.on (below_new v1 (.cells #[.bool false, .slice none 0 0, .bool false, .slice none 0 0] 27))) Vs0.out V1.out HD.out HB.out.2.2.2.2.1 HB.out.2.2.2.2.2 (by decide); (with_reducible refine C.mono ?_); clear C; rintro e v2 ⟨f2, rfl, hi, hv, hbn⟩; have bn : Rb v2 v1.heap.size RVal.nil := (Rb.new (q := RVal.nil) (RVal.nil_in v1)).on hbn; have nz : Hid (W92.heap.size ≤ v1.heap.size) := hI D1.out.size; have xs2 := hI ((xs1.out.on (below_new v1 (.cells #[.bool false, .slice none 0 0, .bool false, .slice none 0 0] 27))).on hbn); have D2 := hI (below_chain (below_chain D1.out D1.out.size (below_new v1 (.cells #[.bool false, .slice none 0 0, .bool false, .slice none 0 0] 27))) (Nat.le_trans D1.out.size (below_new v1 (.cells #[.bool false, .slice none 0 0, .bool false, .slice none 0 0] 27)).size) hbn); replace I1 := hI ((I1.out.on (below_new v1 (.cells #[.bool false, .slice none 0 0, .bool false, .slice none 0 0] 27))).on hbn); have I9 := hI hi; have V9 := hI hv; have nas : b7 ≠ v1.heap.size := Nat.ne_of_lt xs1.out.lt; have nbs := nas.symm; clear hbn hi hv ps0 ps1 ps2 ps3 pqs; obtain ⟨ps0, ps1, ps2, ps3⟩ := xs2.out.cs; have pqs := World.new_ne _ _ ps0; (try (have t0 := bn.c0; have t1 := bn.c1; have t2 := bn.c2; have t3 := bn.c3; have u0f := bn.f 0; have u1f := bn.f 1; have u2f := bn.f 2; have u3f := bn.f 3; have bb := hI bn; clear bn)))))
        | (go_at_call 47; (first | (have C := of_v 2 1 W92.drew (by decide) (by decide) (by decide) (by decide); (with_reducible refine C.mono ?_); clear C; rintro e v1 ⟨f1, rfl, hi, hv, hbn⟩; have xs1 := hI (xs0.out.on hbn); have D1 := hI (below_chain D0.out D0.out.size hbn); have I1 := hI hi; have V1 := hI hv; (try replace bn := bn.on hbn); clear hbn hi hv ps0 ps1 ps2 ps3 pqs; obtain ⟨ps0, ps1, ps2, ps3⟩ := xs1.out.cs; have pqs := World.new_ne _ _ ps0) | (have C := of_v 2 1 ((W92.alloc (.cells #[.bool false, .slice none 0 0, .bool false, .slice none 0 0] 27)).drew) (by decide) (by decide) (by decide) (by decide); (with_reducible refine C.mono ?_); clear C; rintro e v1 ⟨f1, rfl, hi, hv, hbm⟩; have hbn : Below (W92.drew.alloc (.cells #[.bool false, .slice none 0 0, .bool false, .slice none 0 0] 27)).heap.size (W92.drew.alloc (.cells #[.bool false, .slice none 0 0, .bool false, .slice none 0 0] 27)) v1 := ⟨hbm.os, hbm.tape, hbm.output, hbm.size, hbm.block⟩; clear hbm; have bn : Rb v1 W92.heap.size RVal.nil := (Rb.new (q := RVal.nil) (RVal.nil_in W92.drew)).on hbn; have nz : Hid (W92.heap.size ≤ W92.heap.size) := hI (Nat.le_refl _); have xs1 := hI ((xs0.out.on (below_new W92.drew (.cells #[.bool false, .slice none 0 0, .bool false, .slice none 0 0] 27))).on hbn); have D1 := hI (below_chain (below_chain D0.out D0.out.size (below_new W92.drew (.cells #[.bool false, .slice none 0 0, .bool false, .slice none 0 0] 27))) (Nat.le_trans D0.out.size (below_new W92.drew (.cells #[.bool false, .slice none 0 0, .bool false, .slice none 0 0] 27)).size) hbn); have I1 := hI hi; have V1 := hI hv; have nas : b7 ≠ W92.heap.size := Nat.ne_of_lt xs0.out.lt; have nbs := nas.symm; clear hbn hi hv ps0 ps1 ps2 ps3 pqs; obtain ⟨ps0, ps1, ps2, ps3⟩ := xs1.out.cs; have pqs := World.new_ne _ _ ps0))))
    all_goals (go_wp2_with fail; go_meet; first
      | exact rMid_new D2.out D2.out.size I9.out V9.out
      | exact rMid_old bb.out D2.out nz.out I9.out V9.out
      | exact rMid_old bb.out D2.out (Nat.le_refl _) I9.out V9.out)
  case rest =>
  have B_98 := hI (B_92.out.drew)
  have Xa_99 := hI (Xa_93.out.drew)
  have Xb_100 := hI (Xb_94.out.drew)
  have Xx_101 := hI (Xx_95.out.drew)
  have Xz_102 := hI (Xz_96.out.drew)
  have Xs_103 := hI (Xs_97.out.drew)
  obtain ⟨b9, tm, rfl, rfl, hx, ho, hb⟩ := hcut
  have B_104 := hI (bch B_98.out HRr.out hb)
  have Xa_105 := hI (Xa_99.out.on hb)
  have Xb_106 := hI (Xb_100.out.on hb)
  have Xx_107 := hI (Xx_101.out.on hb)
  have Xz_108 := hI (Xz_102.out.on hb)
  have Xs_109 := hI (Xs_103.out.on hb)
  have Vm := hI ho
  have Xm_110 := hI hx
  clear hx ho hb B_92 Xa_93 Xb_94 Xx_95 Xz_96 Xs_97 B_98 Xa_99 Xb_100 Xx_101 Xz_102 Xs_103
  obtain ⟨w111, rfl⟩ : ∃ x : World, x = wc := ⟨_, rfl⟩
  obtain ⟨kx0, kx1, kx2, kx3⟩ := Xx_107.out.cs
  have lx := Xx_107.out.lt
  obtain ⟨kz0, kz1, kz2, kz3⟩ := Xz_108.out.cs
  have lz := Xz_108.out.lt
  go_wp2_with fail
  refine (same_v Xx_107.out.sl Xz_108.out.sl Vx0.out Vz0.out HZ.out.2.2.1).mono ?_
  clear kx0 kx1 kx2 kx3 lx kz0 kz1 kz2 kz3 lz
  rintro e w111 ⟨rfl, hb⟩
  have B_111 := hI (bch B_104.out HRr.out hb)
  have Xa_112 := hI (Xa_105.out.on hb)
  have Xb_113 := hI (Xb_106.out.on hb)
  have Xx_114 := hI (Xx_107.out.on hb)
  have Xz_115 := hI (Xz_108.out.on hb)
  have Xs_116 := hI (Xs_109.out.on hb)
  have Xm_117 := hI (Xm_110.out.on hb)
  clear hb B_104 Xa_105 Xb_106 Xx_107 Xz_108 Xs_109 Xm_110
  clear Xz_115 Xs_116
  obtain ⟨ka0, ka1, ka2, ka3⟩ := Xa_112.out.cs
  have la := Xa_112.out.lt
  obtain ⟨kx0, kx1, kx2, kx3⟩ := Xx_114.out.cs
  have lx := Xx_114.out.lt
  go_wp2_with fail
  refine (cmp_q Xa_112.out.sl Xx_114.out.sl Va.out Vx0.out (-1) HZ.out.2.2.2.1).mono ?_
  clear ka0 ka1 ka2 ka3 la kx0 kx1 kx2 kx3 lx
  rintro e w118 ⟨rfl, hb⟩
  have B_118 := hI (bch B_111.out HRr.out hb)
  have Xa_119 := hI (Xa_112.out.on hb)
  have Xb_120 := hI (Xb_113.out.on hb)
  have Xx_121 := hI (Xx_114.out.on hb)
  have Xm_122 := hI (Xm_117.out.on hb)
  clear hb B_111 Xa_112 Xb_113 Xx_114 Xm_117
  obtain ⟨kx0, kx1, kx2, kx3⟩ := Xx_121.out.cs
  have lx := Xx_121.out.lt
  obtain ⟨kb0, kb1, kb2, kb3⟩ := Xb_120.out.cs
  have lb := Xb_120.out.lt
  go_wp2_with fail
  refine (cmp_q Xx_121.out.sl Xb_120.out.sl Vx0.out Vb.out (-1) HZ.out.2.2.2.2.1).mono ?_
  clear kx0 kx1 kx2 kx3 lx kb0 kb1 kb2 kb3 lb
  rintro e w123 ⟨rfl, hb⟩
  have B_123 := hI (bch B_118.out HRr.out hb)
  have Xa_124 := hI (Xa_119.out.on hb)
  have Xb_125 := hI (Xb_120.out.on hb)
  have Xx_126 := hI (Xx_121.out.on hb)
  have Xm_127 := hI (Xm_122.out.on hb)
  clear hb B_118 Xa_119 Xb_120 Xx_121 Xm_122
  obtain ⟨kx0, kx1, kx2, kx3⟩ := Xx_126.out.cs
  have lx := Xx_126.out.lt
  obtain ⟨km0, km1, km2, km3⟩ := Xm_127.out.cs
  have lm := Xm_127.out.lt
  go_wp2_with fail
  refine (rcmp_z (g := tx0.gd) (g' := tm.gd) Xx_126.out.sl.2 Xm_127.out.sl.2 (rv_some Vx0.out).2 (rv_some Vm.out).2 u HZ.out.2.2.2.2.2.1).mono ?_
  clear kx0 kx1 kx2 kx3 lx km0 km1 km2 km3 lm
  rintro e w128 ⟨rfl, hb⟩
  have B_128 := hI (bch B_123.out HRr.out hb)
  have Xa_129 := hI (Xa_124.out.on hb)
  have Xb_130 := hI (Xb_125.out.on hb)
  have Xx_131 := hI (Xx_126.out.on hb)
  have Xm_132 := hI (Xm_127.out.on hb)
  clear hb B_123 Xa_124 Xb_125 Xx_126 Xm_127
  have gu : decide (u ≤ 0) = true := HZ.out.2.2.2.2.2.2
  go_wp2
  go_ret
  exact ⟨rfl, (by rw [HRr.out]; exact B_128.out)⟩
end Go.Proofs.YtlibjampolcbhaaGreat
