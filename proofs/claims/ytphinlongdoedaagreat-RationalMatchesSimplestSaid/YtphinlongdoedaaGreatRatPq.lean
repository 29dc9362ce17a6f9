/-
 Stage 2: the reference's Simplest, its ways.
-/
import Derived.Test.YtphinlongdoedaaGreatRatPw
import Derived.Test.YtphinlongdoedaaGreatRatCo
namespace Go.Proofs.YtphinlongdoedaaGreat
open Go.RowKit
set_option linter.unusedSimpArgs false
set_option maxRecDepth 20000
set_option maxHeartbeats 2000000
def PosC (n d m f z zd er : Int) : Prop := ∀ (p q : RVal) (w : World), p.In w -> q.In w -> p.o = some n -> p.od = some d -> q.o = some m -> q.od = some f -> Calls Tryz.prog 25 #[.agg #[.bool p.g, .slice p.A p.n p.c, .bool p.gd, .slice p.Ad p.nd p.cd], .agg #[.bool q.g, .slice q.A q.n q.c, .bool q.gd, .slice q.Ad q.nd q.cd]] w (RetR z zd er w)
theorem rsimp_bad (p q : RVal) (w : World) (ha : p.In w) (hb : q.In w) (hv : ((rv p.o p.od).isSome && (rv q.o q.od).isSome) = false) :
 Calls Tryz.prog 6 #[.agg #[.bool p.g, .slice p.A p.n p.c, .bool p.gd, .slice p.Ad p.nd p.cd], .agg #[.bool q.g, .slice q.A q.n q.c, .bool q.gd, .slice q.Ad q.nd q.cd]] w (RetR 0 0 1 w) := by
 have HV := hI hv
 clear hv
 have Ia_0 := hI ha
 clear ha
 have Ib_0 := hI hb
 clear hb
 have B_0 : Hid (Below w.heap.size w w) := hI (Below.refl _ _)
 go_enter Tryz.func6, Tryz.ntmps6
 go_wp2_with fail
 generalize hW : World.alloc w _ = W1
 have hn := zA0 w (.cells #[.bool p.g, .slice p.A p.n p.c, .bool p.gd, .slice p.Ad p.nd p.cd] 26)
 rw [hW] at hn
 have hz : W1.heap.size = w.heap.size + 1 := by rw [<- hW]; simp
 have hx : Rb W1 w.heap.size p := by rw [<- hW]; exact Rb.new (q := p) Ia_0.out
 have Ib_1 := hI (Ib_0.out.on hn)
 have B_2 := hI (zA B_0.out B_0.out.size hn)
 generalize hr : w.heap.size = r at *
 have HRr := hI hr
 clear hr
 have Xa_3 : Hid (Rb W1 r p) := hI hx
 have HT3 := hz
 clear hn hx hz hW Ib_0 B_0 Ia_0
 generalize hW : World.alloc W1 _ = W4
 have hn := zA0 W1 (.cells #[.bool q.g, .slice q.A q.n q.c, .bool q.gd, .slice q.Ad q.nd q.cd] 26)
 rw [hW] at hn
 have hz : W4.heap.size = W1.heap.size + 1 := by rw [<- hW]; simp
 have hx : Rb W4 W1.heap.size q := by rw [<- hW]; exact Rb.new (q := q) Ib_1.out
 have hlt : r < W1.heap.size := Xa_3.out.lt
 have B_4 := hI (bch B_2.out HRr.out hn)
 have Xa_5 := hI (Xa_3.out.on hn)
 rw [HT3] at hx hz hlt
 have Xb_6 : Hid (Rb W4 (r + 1) q) := hI hx
 have HT6 := hz
 clear hn hx hz hW hlt B_2 Xa_3 Ib_1
 generalize hW : World.alloc W4 _ = W7
 have hn := zA0 W4 (.cells #[.bool false, .slice none 0 0, .bool false, .slice none 0 0] 26)
 rw [hW] at hn
 have hx : Rb W7 W4.heap.size RVal.nil := by rw [<- hW]; exact Rb.new (q := RVal.nil) (RVal.nil_in W4)
 have hlt : (r + 1) < W4.heap.size := Xb_6.out.lt
 have B_7 := hI (bch B_4.out HRr.out hn)
 have Xa_8 := hI (Xa_5.out.on hn)
 have Xb_9 := hI (Xb_6.out.on hn)
 rw [HT6] at hx hlt
 have Xo_10 : Hid (Rb W7 (r + 1 + 1) RVal.nil) := hI hx
 clear hn hx hW hlt B_4 Xa_5 Xb_6
 clear HT3 HT6
 obtain ⟨ka0, ka1, ka2, ka3⟩ := Xa_8.out.cs
 have la := Xa_8.out.lt
 obtain ⟨kb0, kb1, kb2, kb3⟩ := Xb_9.out.cs
 have lb := Xb_9.out.lt
 go_wp2_with fail
 refine (zP9 Xa_8.out.sl Xb_9.out.sl false HV.out).mono ?_
 clear ka0 ka1 ka2 ka3 la kb0 kb1 kb2 kb3 lb
 rintro e w11 ⟨rfl, hb⟩
 have B_11 := hI (bch B_7.out HRr.out hb)
 have Xa_12 := hI (Xa_8.out.on hb)
 have Xb_13 := hI (Xb_9.out.on hb)
 have Xo_14 := hI (Xo_10.out.on hb)
 clear hb B_7 Xa_8 Xb_9 Xo_10
 clear Xa_12 Xb_13
 obtain ⟨ko0, ko1, ko2, ko3⟩ := Xo_14.out.cs
 obtain ⟨fo0, fo1, fo2, fo3⟩ := Xo_14.out.fs
 simp only [RVal.nil] at ko0 ko1 ko2 ko3
 have lo := Xo_14.out.lt
 go_wp2
 clear ko0 ko1 ko2 ko3 fo0 fo1 fo2 fo3 lo
 generalize hW : World.setCell (World.setCell (World.setCell (World.setCell w11 _ _) _ _) _ _) _ _ = W15
 have B_15 : Hid (Below r w W15) := by rw [<- hW]; exact hI (zA5 B_11.out (by omega) _ _ _ _)
 have Xo_16 : Hid (Rb W15 (r + 1 + 1) RVal.nil) := by rw [<- hW]; exact hI (Rb.put (q' := RVal.nil) Xo_14.out (RVal.nil_in w11))
 clear hW B_11 Xo_14
 obtain ⟨j0, j1, j2, j3⟩ := Xo_16.out.cs
 try dsimp only at j0 j1 j2 j3
 simp only [RVal.nil] at j0 j1 j2 j3
 refine bodyPost_ret (v := .tuple #[.agg #[.bool false, .slice none 0 0, .bool false, .slice none 0 0], .int .i64 1]) (by simp [results, Tryz.results6, go_sem, j0, j1, j2, j3]) rfl ?_
 exact RetR.of Xo_16.out rfl rfl (by rw [HRr.out]; exact B_15.out)
theorem rsimp_ge (p q : RVal) (w : World) (ha : p.In w) (hb : q.In w) (hv : ((rv p.o p.od).isSome && (rv q.o q.od).isSome) = true) (na da nb db : Int) (ho : p.o = some na /\ p.od = some da /\ q.o = some nb /\ q.od = some db) (hd : 0 < da /\ 0 < db) (u : Int) (hu : Int.sign (na * db - nb * da) = u /\ decide (0 <= u) = true) :
 Calls Tryz.prog 6 #[.agg #[.bool p.g, .slice p.A p.n p.c, .bool p.gd, .slice p.Ad p.nd p.cd], .agg #[.bool q.g, .slice q.A q.n q.c, .bool q.gd, .slice q.Ad q.nd q.cd]] w (RetR 0 0 1 w) := by
 have HV := hI hv
 have HO := hI ho
 have HD := hI hd
 have HU := hI hu
 clear hv ho hd hu
 have Ia_0 := hI ha
 clear ha
 have Ib_0 := hI hb
 clear hb
 have B_0 : Hid (Below w.heap.size w w) := hI (Below.refl _ _)
 go_enter Tryz.func6, Tryz.ntmps6
 go_wp2_with fail
 generalize hW : World.alloc w _ = W1
 have hn := zA0 w (.cells #[.bool p.g, .slice p.A p.n p.c, .bool p.gd, .slice p.Ad p.nd p.cd] 26)
 rw [hW] at hn
 have hz : W1.heap.size = w.heap.size + 1 := by rw [<- hW]; simp
 have hx : Rb W1 w.heap.size p := by rw [<- hW]; exact Rb.new (q := p) Ia_0.out
 have Ib_1 := hI (Ib_0.out.on hn)
 have B_2 := hI (zA B_0.out B_0.out.size hn)
 generalize hr : w.heap.size = r at *
 have HRr := hI hr
 clear hr
 have Xa_3 : Hid (Rb W1 r p) := hI hx
 have HT3 := hz
 clear hn hx hz hW Ib_0 B_0 Ia_0
 generalize hW : World.alloc W1 _ = W4
 have hn := zA0 W1 (.cells #[.bool q.g, .slice q.A q.n q.c, .bool q.gd, .slice q.Ad q.nd q.cd] 26)
 rw [hW] at hn
 have hz : W4.heap.size = W1.heap.size + 1 := by rw [<- hW]; simp
 have hx : Rb W4 W1.heap.size q := by rw [<- hW]; exact Rb.new (q := q) Ib_1.out
 have hlt : r < W1.heap.size := Xa_3.out.lt
 have B_4 := hI (bch B_2.out HRr.out hn)
 have Xa_5 := hI (Xa_3.out.on hn)
 rw [HT3] at hx hz hlt
 have Xb_6 : Hid (Rb W4 (r + 1) q) := hI hx
 have HT6 := hz
 clear hn hx hz hW hlt B_2 Xa_3 Ib_1
 generalize hW : World.alloc W4 _ = W7
 have hn := zA0 W4 (.cells #[.bool false, .slice none 0 0, .bool false, .slice none 0 0] 26)
 rw [hW] at hn
 have hx : Rb W7 W4.heap.size RVal.nil := by rw [<- hW]; exact Rb.new (q := RVal.nil) (RVal.nil_in W4)
 have hlt : (r + 1) < W4.heap.size := Xb_6.out.lt
 have B_7 := hI (bch B_4.out HRr.out hn)
 have Xa_8 := hI (Xa_5.out.on hn)
 have Xb_9 := hI (Xb_6.out.on hn)
 rw [HT6] at hx hlt
 have Xo_10 : Hid (Rb W7 (r + 1 + 1) RVal.nil) := hI hx
 clear hn hx hW hlt B_4 Xa_5 Xb_6
 clear HT3 HT6
 obtain ⟨ka0, ka1, ka2, ka3⟩ := Xa_8.out.cs
 have la := Xa_8.out.lt
 obtain ⟨kb0, kb1, kb2, kb3⟩ := Xb_9.out.cs
 have lb := Xb_9.out.lt
 go_wp2_with fail
 refine (zP9 Xa_8.out.sl Xb_9.out.sl true HV.out).mono ?_
 clear ka0 ka1 ka2 ka3 la kb0 kb1 kb2 kb3 lb
 rintro e w11 ⟨rfl, hb⟩
 have B_11 := hI (bch B_7.out HRr.out hb)
 have Xa_12 := hI (Xa_8.out.on hb)
 have Xb_13 := hI (Xb_9.out.on hb)
 have Xo_14 := hI (Xo_10.out.on hb)
 clear hb B_7 Xa_8 Xb_9 Xo_10
 obtain ⟨ka0, ka1, ka2, ka3⟩ := Xa_12.out.cs
 have la := Xa_12.out.lt
 obtain ⟨kb0, kb1, kb2, kb3⟩ := Xb_13.out.cs
 have lb := Xb_13.out.lt
 go_wp2_with fail
 refine (zF9 p q w11 Xa_12.out.sl.1 Xa_12.out.sl.2 Xb_13.out.sl.1 Xb_13.out.sl.2 na da nb db u ⟨HO.out.1, HO.out.2.1, HO.out.2.2.1, HO.out.2.2.2, HD.out.1, HD.out.2, HU.out.1⟩).mono ?_
 clear ka0 ka1 ka2 ka3 la kb0 kb1 kb2 kb3 lb
 rintro e w15 ⟨rfl, hb⟩
 have B_15 := hI (bch B_11.out HRr.out hb)
 have Xa_16 := hI (Xa_12.out.on hb)
 have Xb_17 := hI (Xb_13.out.on hb)
 have Xo_18 := hI (Xo_14.out.on hb)
 clear hb B_11 Xa_12 Xb_13 Xo_14
 have gu : decide (0 <= u) = true := HU.out.2
 clear Xa_16 Xb_17
 obtain ⟨ko0, ko1, ko2, ko3⟩ := Xo_18.out.cs
 obtain ⟨fo0, fo1, fo2, fo3⟩ := Xo_18.out.fs
 simp only [RVal.nil] at ko0 ko1 ko2 ko3
 have lo := Xo_18.out.lt
 go_wp2
 clear ko0 ko1 ko2 ko3 fo0 fo1 fo2 fo3 lo
 generalize hW : World.setCell (World.setCell (World.setCell (World.setCell w15 _ _) _ _) _ _) _ _ = W19
 have B_19 : Hid (Below r w W19) := by rw [<- hW]; exact hI (zA5 B_15.out (by omega) _ _ _ _)
 have Xo_20 : Hid (Rb W19 (r + 1 + 1) RVal.nil) := by rw [<- hW]; exact hI (Rb.put (q' := RVal.nil) Xo_18.out (RVal.nil_in w15))
 clear hW B_15 Xo_18
 obtain ⟨j0, j1, j2, j3⟩ := Xo_20.out.cs
 try dsimp only at j0 j1 j2 j3
 simp only [RVal.nil] at j0 j1 j2 j3
 refine bodyPost_ret (v := .tuple #[.agg #[.bool false, .slice none 0 0, .bool false, .slice none 0 0], .int .i64 1]) (by simp [results, Tryz.results6, go_sem, j0, j1, j2, j3]) rfl ?_
 exact RetR.of Xo_20.out rfl rfl (by rw [HRr.out]; exact B_19.out)
theorem rsimp_zero (p q : RVal) (w : World) (ha : p.In w) (hb : q.In w) (hv : ((rv p.o p.od).isSome && (rv q.o q.od).isSome) = true) (na da nb db : Int) (ho : p.o = some na /\ p.od = some da /\ q.o = some nb /\ q.od = some db) (hd : 0 < da /\ 0 < db) (hu : Int.sign (na * db - nb * da) = -1) (hg : decide (q.n = 0) = false /\ q.g = false /\ p.g = true) :
 Calls Tryz.prog 6 #[.agg #[.bool p.g, .slice p.A p.n p.c, .bool p.gd, .slice p.Ad p.nd p.cd], .agg #[.bool q.g, .slice q.A q.n q.c, .bool q.gd, .slice q.Ad q.nd q.cd]] w (RetR 0 1 0 w) := by
 have HV := hI hv
 have HO := hI ho
 have HD := hI hd
 have HU := hI hu
 have HG := hI hg
 clear hv ho hd hu hg
 have Ia_0 := hI ha
 clear ha
 have Ib_0 := hI hb
 clear hb
 have B_0 : Hid (Below w.heap.size w w) := hI (Below.refl _ _)
 go_enter Tryz.func6, Tryz.ntmps6
 go_wp2_with fail
 generalize hW : World.alloc w _ = W1
 have hn := zA0 w (.cells #[.bool p.g, .slice p.A p.n p.c, .bool p.gd, .slice p.Ad p.nd p.cd] 26)
 rw [hW] at hn
 have hz : W1.heap.size = w.heap.size + 1 := by rw [<- hW]; simp
 have hx : Rb W1 w.heap.size p := by rw [<- hW]; exact Rb.new (q := p) Ia_0.out
 have Ib_1 := hI (Ib_0.out.on hn)
 have B_2 := hI (zA B_0.out B_0.out.size hn)
 generalize hr : w.heap.size = r at *
 have HRr := hI hr
 clear hr
 have Xa_3 : Hid (Rb W1 r p) := hI hx
 have HT3 := hz
 clear hn hx hz hW Ib_0 B_0 Ia_0
 generalize hW : World.alloc W1 _ = W4
 have hn := zA0 W1 (.cells #[.bool q.g, .slice q.A q.n q.c, .bool q.gd, .slice q.Ad q.nd q.cd] 26)
 rw [hW] at hn
 have hz : W4.heap.size = W1.heap.size + 1 := by rw [<- hW]; simp
 have hx : Rb W4 W1.heap.size q := by rw [<- hW]; exact Rb.new (q := q) Ib_1.out
 have hlt : r < W1.heap.size := Xa_3.out.lt
 have B_4 := hI (bch B_2.out HRr.out hn)
 have Xa_5 := hI (Xa_3.out.on hn)
 rw [HT3] at hx hz hlt
 have Xb_6 : Hid (Rb W4 (r + 1) q) := hI hx
 have HT6 := hz
 clear hn hx hz hW hlt B_2 Xa_3 Ib_1
 generalize hW : World.alloc W4 _ = W7
 have hn := zA0 W4 (.cells #[.bool false, .slice none 0 0, .bool false, .slice none 0 0] 26)
 rw [hW] at hn
 have hx : Rb W7 W4.heap.size RVal.nil := by rw [<- hW]; exact Rb.new (q := RVal.nil) (RVal.nil_in W4)
 have hlt : (r + 1) < W4.heap.size := Xb_6.out.lt
 have B_7 := hI (bch B_4.out HRr.out hn)
 have Xa_8 := hI (Xa_5.out.on hn)
 have Xb_9 := hI (Xb_6.out.on hn)
 rw [HT6] at hx hlt
 have Xo_10 : Hid (Rb W7 (r + 1 + 1) RVal.nil) := hI hx
 clear hn hx hW hlt B_4 Xa_5 Xb_6
 clear HT3 HT6
 obtain ⟨ka0, ka1, ka2, ka3⟩ := Xa_8.out.cs
 have la := Xa_8.out.lt
 obtain ⟨kb0, kb1, kb2, kb3⟩ := Xb_9.out.cs
 have lb := Xb_9.out.lt
 go_wp2_with fail
 refine (zP9 Xa_8.out.sl Xb_9.out.sl true HV.out).mono ?_
 clear ka0 ka1 ka2 ka3 la kb0 kb1 kb2 kb3 lb
 rintro e w11 ⟨rfl, hb⟩
 have B_11 := hI (bch B_7.out HRr.out hb)
 have Xa_12 := hI (Xa_8.out.on hb)
 have Xb_13 := hI (Xb_9.out.on hb)
 have Xo_14 := hI (Xo_10.out.on hb)
 clear hb B_7 Xa_8 Xb_9 Xo_10
 obtain ⟨ka0, ka1, ka2, ka3⟩ := Xa_12.out.cs
 have la := Xa_12.out.lt
 obtain ⟨kb0, kb1, kb2, kb3⟩ := Xb_13.out.cs
 have lb := Xb_13.out.lt
 go_wp2_with fail
 refine (zF9 p q w11 Xa_12.out.sl.1 Xa_12.out.sl.2 Xb_13.out.sl.1 Xb_13.out.sl.2 na da nb db (-1) ⟨HO.out.1, HO.out.2.1, HO.out.2.2.1, HO.out.2.2.2, HD.out.1, HD.out.2, HU.out⟩).mono ?_
 clear ka0 ka1 ka2 ka3 la kb0 kb1 kb2 kb3 lb
 rintro e w15 ⟨rfl, hb⟩
 have B_15 := hI (bch B_11.out HRr.out hb)
 have Xa_16 := hI (Xa_12.out.on hb)
 have Xb_17 := hI (Xb_13.out.on hb)
 have Xo_18 := hI (Xo_14.out.on hb)
 clear hb B_11 Xa_12 Xb_13 Xo_14
 obtain ⟨ka0, ka1, ka2, ka3⟩ := Xa_16.out.cs
 have la := Xa_16.out.lt
 obtain ⟨kb0, kb1, kb2, kb3⟩ := Xb_17.out.cs
 have lb := Xb_17.out.lt
 rw [HG.out.2.2] at ka0
 rw [HG.out.2.1] at kb0
 go_wp2_with fail
 have C := zB2 false q.A q.n q.c w15
 rw [HG.out.1] at C
 refine C.mono ?_
 clear C
 clear ka0 ka1 ka2 ka3 la kb0 kb1 kb2 kb3 lb
 rintro e w19 ⟨rfl, hb⟩
 have B_19 := hI (bch B_15.out HRr.out hb)
 have Xa_20 := hI (Xa_16.out.on hb)
 have Xb_21 := hI (Xb_17.out.on hb)
 have Xo_22 := hI (Xo_18.out.on hb)
 clear hb B_15 Xa_16 Xb_17 Xo_18
 obtain ⟨ka0, ka1, ka2, ka3⟩ := Xa_20.out.cs
 have la := Xa_20.out.lt
 obtain ⟨kb0, kb1, kb2, kb3⟩ := Xb_21.out.cs
 have lb := Xb_21.out.lt
 rw [HG.out.2.2] at ka0
 rw [HG.out.2.1] at kb0
 go_wp2_with fail
 refine (rof_z 0 w19 (by decide) (by decide)).mono ?_
 clear ka0 ka1 ka2 ka3 la kb0 kb1 kb2 kb3 lb
 rintro e w23 ⟨gn, An, nn, cn, xsn, rfl, hs, ho, hb⟩
 have B_23 := hI (bch B_19.out HRr.out hb)
 have Xa_24 := hI (Xa_20.out.on hb)
 have Xb_25 := hI (Xb_21.out.on hb)
 have Xo_26 := hI (Xo_22.out.on hb)
 have Jn_27 : Hid (Sl w23 w23.heap.size An nn cn xsn) := hI hs
 clear hb B_19 Xa_20 Xb_21 Xo_22 hs
 have Vn := hI ho
 clear ho
 go_wp2_with fail
 refine (rof_z 1 w23 (by decide) (by decide)).mono ?_
 rintro e w28 ⟨gd, Ad, nd, cd, xsd, rfl, hs, ho, hb⟩
 have B_28 := hI (bch B_23.out HRr.out hb)
 have Xa_29 := hI (Xa_24.out.on hb)
 have Xb_30 := hI (Xb_25.out.on hb)
 have Xo_31 := hI (Xo_26.out.on hb)
 have Jn_32 := hI (Jn_27.out.on hb)
 have Jd_33 : Hid (Sl w28 w28.heap.size Ad nd cd xsd) := hI hs
 clear hb B_23 Xa_24 Xb_25 Xo_26 Jn_27 hs
 have Vd := hI ho
 clear ho
 have Ik_34 : Hid ((⟨gn, An, nn, cn, xsn, gd, Ad, nd, cd, xsd⟩ : RVal).In w28) := hI ⟨Jn_32.out, Jd_33.out⟩
 clear Xa_29 Xb_30 Jn_32 Jd_33
 obtain ⟨ko0, ko1, ko2, ko3⟩ := Xo_31.out.cs
 obtain ⟨fo0, fo1, fo2, fo3⟩ := Xo_31.out.fs
 simp only [RVal.nil] at ko0 ko1 ko2 ko3
 have lo := Xo_31.out.lt
 go_wp2
 clear ko0 ko1 ko2 ko3 fo0 fo1 fo2 fo3 lo
 generalize hW : World.setCell (World.setCell (World.setCell (World.setCell w28 _ _) _ _) _ _) _ _ = W35
 have B_35 : Hid (Below r w W35) := by rw [<- hW]; exact hI (zA5 B_28.out (by omega) _ _ _ _)
 have Xo_36 : Hid (Rb W35 (r + 1 + 1) (⟨gn, An, nn, cn, xsn, gd, Ad, nd, cd, xsd⟩ : RVal)) := by rw [<- hW]; exact hI (Rb.put (q' := (⟨gn, An, nn, cn, xsn, gd, Ad, nd, cd, xsd⟩ : RVal)) Xo_31.out Ik_34.out)
 clear hW B_28 Xo_31 Ik_34
 obtain ⟨j0, j1, j2, j3⟩ := Xo_36.out.cs
 try dsimp only at j0 j1 j2 j3
 refine bodyPost_ret (v := .tuple #[.agg #[.bool (gn), .slice An nn cn, .bool (gd), .slice Ad nd cd], .int .i64 0]) (by simp [results, Tryz.results6, go_sem, j0, j1, j2, j3]) rfl ?_
 exact RetR.of Xo_36.out Vn.out Vd.out (by rw [HRr.out]; exact B_35.out)
theorem rsimp_B1 (p q : RVal) (w : World) (ha : p.In w) (hb : q.In w) (hv : ((rv p.o p.od).isSome && (rv q.o q.od).isSome) = true) (na da nb db : Int) (ho : p.o = some na /\ p.od = some da /\ q.o = some nb /\ q.od = some db) (hd : 0 < da /\ 0 < db) (hu : Int.sign (na * db - nb * da) = -1) (z zd er : Int) (hp : PosC na da nb db z zd er) (hg : decide (q.n = 0) = false /\ q.g = false /\ p.g = false /\ decide (p.n = 0) = true) :
 Calls Tryz.prog 6 #[.agg #[.bool p.g, .slice p.A p.n p.c, .bool p.gd, .slice p.Ad p.nd p.cd], .agg #[.bool q.g, .slice q.A q.n q.c, .bool q.gd, .slice q.Ad q.nd q.cd]] w (RetR z zd er w) := by
 have HV := hI hv
 have HO := hI ho
 have HD := hI hd
 have HU := hI hu
 have HG := hI hg
 have HP := hI hp
 clear hv ho hd hu hg hp
 have Ia_0 := hI ha
 clear ha
 have Ib_0 := hI hb
 clear hb
 have B_0 : Hid (Below w.heap.size w w) := hI (Below.refl _ _)
 go_enter Tryz.func6, Tryz.ntmps6
 go_wp2_with fail
 generalize hW : World.alloc w _ = W1
 have hn := zA0 w (.cells #[.bool p.g, .slice p.A p.n p.c, .bool p.gd, .slice p.Ad p.nd p.cd] 26)
 rw [hW] at hn
 have hz : W1.heap.size = w.heap.size + 1 := by rw [<- hW]; simp
 have hx : Rb W1 w.heap.size p := by rw [<- hW]; exact Rb.new (q := p) Ia_0.out
 have Ib_1 := hI (Ib_0.out.on hn)
 have B_2 := hI (zA B_0.out B_0.out.size hn)
 generalize hr : w.heap.size = r at *
 have HRr := hI hr
 clear hr
 have Xa_3 : Hid (Rb W1 r p) := hI hx
 have HT3 := hz
 clear hn hx hz hW Ib_0 B_0 Ia_0
 generalize hW : World.alloc W1 _ = W4
 have hn := zA0 W1 (.cells #[.bool q.g, .slice q.A q.n q.c, .bool q.gd, .slice q.Ad q.nd q.cd] 26)
 rw [hW] at hn
 have hz : W4.heap.size = W1.heap.size + 1 := by rw [<- hW]; simp
 have hx : Rb W4 W1.heap.size q := by rw [<- hW]; exact Rb.new (q := q) Ib_1.out
 have hlt : r < W1.heap.size := Xa_3.out.lt
 have B_4 := hI (bch B_2.out HRr.out hn)
 have Xa_5 := hI (Xa_3.out.on hn)
 rw [HT3] at hx hz hlt
 have Xb_6 : Hid (Rb W4 (r + 1) q) := hI hx
 have HT6 := hz
 clear hn hx hz hW hlt B_2 Xa_3 Ib_1
 generalize hW : World.alloc W4 _ = W7
 have hn := zA0 W4 (.cells #[.bool false, .slice none 0 0, .bool false, .slice none 0 0] 26)
 rw [hW] at hn
 have hx : Rb W7 W4.heap.size RVal.nil := by rw [<- hW]; exact Rb.new (q := RVal.nil) (RVal.nil_in W4)
 have hlt : (r + 1) < W4.heap.size := Xb_6.out.lt
 have B_7 := hI (bch B_4.out HRr.out hn)
 have Xa_8 := hI (Xa_5.out.on hn)
 have Xb_9 := hI (Xb_6.out.on hn)
 rw [HT6] at hx hlt
 have Xo_10 : Hid (Rb W7 (r + 1 + 1) RVal.nil) := hI hx
 clear hn hx hW hlt B_4 Xa_5 Xb_6
 clear HT3 HT6
 obtain ⟨ka0, ka1, ka2, ka3⟩ := Xa_8.out.cs
 have la := Xa_8.out.lt
 obtain ⟨kb0, kb1, kb2, kb3⟩ := Xb_9.out.cs
 have lb := Xb_9.out.lt
 go_wp2_with fail
 refine (zP9 Xa_8.out.sl Xb_9.out.sl true HV.out).mono ?_
 clear ka0 ka1 ka2 ka3 la kb0 kb1 kb2 kb3 lb
 rintro e w11 ⟨rfl, hb⟩
 have B_11 := hI (bch B_7.out HRr.out hb)
 have Xa_12 := hI (Xa_8.out.on hb)
 have Xb_13 := hI (Xb_9.out.on hb)
 have Xo_14 := hI (Xo_10.out.on hb)
 clear hb B_7 Xa_8 Xb_9 Xo_10
 obtain ⟨ka0, ka1, ka2, ka3⟩ := Xa_12.out.cs
 have la := Xa_12.out.lt
 obtain ⟨kb0, kb1, kb2, kb3⟩ := Xb_13.out.cs
 have lb := Xb_13.out.lt
 go_wp2_with fail
 refine (zF9 p q w11 Xa_12.out.sl.1 Xa_12.out.sl.2 Xb_13.out.sl.1 Xb_13.out.sl.2 na da nb db (-1) ⟨HO.out.1, HO.out.2.1, HO.out.2.2.1, HO.out.2.2.2, HD.out.1, HD.out.2, HU.out⟩).mono ?_
 clear ka0 ka1 ka2 ka3 la kb0 kb1 kb2 kb3 lb
 rintro e w15 ⟨rfl, hb⟩
 have B_15 := hI (bch B_11.out HRr.out hb)
 have Xa_16 := hI (Xa_12.out.on hb)
 have Xb_17 := hI (Xb_13.out.on hb)
 have Xo_18 := hI (Xo_14.out.on hb)
 clear hb B_11 Xa_12 Xb_13 Xo_14
 obtain ⟨ka0, ka1, ka2, ka3⟩ := Xa_16.out.cs
 have la := Xa_16.out.lt
 obtain ⟨kb0, kb1, kb2, kb3⟩ := Xb_17.out.cs
 have lb := Xb_17.out.lt
 rw [HG.out.2.2.1] at ka0
 rw [HG.out.2.1] at kb0
 go_wp2_with fail
 have C := zB2 false q.A q.n q.c w15
 rw [HG.out.1] at C
 refine C.mono ?_
 clear C
 clear ka0 ka1 ka2 ka3 la kb0 kb1 kb2 kb3 lb
 rintro e w19 ⟨rfl, hb⟩
 have B_19 := hI (bch B_15.out HRr.out hb)
 have Xa_20 := hI (Xa_16.out.on hb)
 have Xb_21 := hI (Xb_17.out.on hb)
 have Xo_22 := hI (Xo_18.out.on hb)
 clear hb B_15 Xa_16 Xb_17 Xo_18
 obtain ⟨ka0, ka1, ka2, ka3⟩ := Xa_20.out.cs
 have la := Xa_20.out.lt
 obtain ⟨kb0, kb1, kb2, kb3⟩ := Xb_21.out.cs
 have lb := Xb_21.out.lt
 rw [HG.out.2.2.1] at ka0
 rw [HG.out.2.1] at kb0
 go_wp2_with fail
 have C := zB2 false p.A p.n p.c w19
 rw [HG.out.2.2.2] at C
 refine C.mono ?_
 clear C
 clear ka0 ka1 ka2 ka3 la kb0 kb1 kb2 kb3 lb
 rintro e w23 ⟨rfl, hb⟩
 have B_23 := hI (bch B_19.out HRr.out hb)
 have Xa_24 := hI (Xa_20.out.on hb)
 have Xb_25 := hI (Xb_21.out.on hb)
 have Xo_26 := hI (Xo_22.out.on hb)
 clear hb B_19 Xa_20 Xb_21 Xo_22
 obtain ⟨ka0, ka1, ka2, ka3⟩ := Xa_24.out.cs
 have la := Xa_24.out.lt
 obtain ⟨kb0, kb1, kb2, kb3⟩ := Xb_25.out.cs
 have lb := Xb_25.out.lt
 have ga := HG.out.2.2.1
 rw [ga] at ka0
 go_upto_region 8 with fail
 clear ga
 clear ka0 ka1 ka2 ka3 la kb0 kb1 kb2 kb3 lb
 obtain ⟨ka0, ka1, ka2, ka3⟩ := Xa_24.out.cs
 have la := Xa_24.out.lt
 obtain ⟨kb0, kb1, kb2, kb3⟩ := Xb_25.out.cs
 have lb := Xb_25.out.lt
 go_wp2_with fail
 refine (HP.out p q w23 Xa_24.out.sl Xb_25.out.sl HO.out.1 HO.out.2.1 HO.out.2.2.1 HO.out.2.2.2).mono ?_
 clear ka0 ka1 ka2 ka3 la kb0 kb1 kb2 kb3 lb
 rintro e w27 ⟨tk, rfl, hi, hko, hkd, hb⟩
 have B_27 := hI (bch B_23.out HRr.out hb)
 have Xa_28 := hI (Xa_24.out.on hb)
 have Xb_29 := hI (Xb_25.out.on hb)
 have Xo_30 := hI (Xo_26.out.on hb)
 have Ik_31 : Hid (tk.In w27) := hI hi
 clear hb B_23 Xa_24 Xb_25 Xo_26 hi
 have Vo := hI hko
 have Vd := hI hkd
 clear hko hkd
 clear Xa_28 Xb_29
 obtain ⟨ko0, ko1, ko2, ko3⟩ := Xo_30.out.cs
 obtain ⟨fo0, fo1, fo2, fo3⟩ := Xo_30.out.fs
 simp only [RVal.nil] at ko0 ko1 ko2 ko3
 have lo := Xo_30.out.lt
 go_wp2
 clear ko0 ko1 ko2 ko3 fo0 fo1 fo2 fo3 lo
 generalize hW : World.setCell (World.setCell (World.setCell (World.setCell w27 _ _) _ _) _ _) _ _ = W32
 have B_32 : Hid (Below r w W32) := by rw [<- hW]; exact hI (zA5 B_27.out (by omega) _ _ _ _)
 have Xo_33 : Hid (Rb W32 (r + 1 + 1) tk) := by rw [<- hW]; exact hI (Rb.put (q' := tk) Xo_30.out Ik_31.out)
 clear hW B_27 Xo_30 Ik_31
 obtain ⟨j0, j1, j2, j3⟩ := Xo_33.out.cs
 try dsimp only at j0 j1 j2 j3
 refine bodyPost_ret (v := .tuple #[.agg #[.bool tk.g, .slice tk.A tk.n tk.c, .bool tk.gd, .slice tk.Ad tk.nd tk.cd], .int .i64 er]) (by simp [results, Tryz.results6, go_sem, j0, j1, j2, j3]) rfl ?_
 exact RetR.of Xo_33.out Vo.out Vd.out (by rw [HRr.out]; exact B_32.out)
theorem rsimp_B2 (p q : RVal) (w : World) (ha : p.In w) (hb : q.In w) (hv : ((rv p.o p.od).isSome && (rv q.o q.od).isSome) = true) (na da nb db : Int) (ho : p.o = some na /\ p.od = some da /\ q.o = some nb /\ q.od = some db) (hd : 0 < da /\ 0 < db) (hu : Int.sign (na * db - nb * da) = -1) (z zd er : Int) (hp : PosC na da nb db z zd er) (hg : decide (q.n = 0) = false /\ q.g = false /\ p.g = false /\ decide (p.n = 0) = false) :
 Calls Tryz.prog 6 #[.agg #[.bool p.g, .slice p.A p.n p.c, .bool p.gd, .slice p.Ad p.nd p.cd], .agg #[.bool q.g, .slice q.A q.n q.c, .bool q.gd, .slice q.Ad q.nd q.cd]] w (RetR z zd er w) := by
 have HV := hI hv
 have HO := hI ho
 have HD := hI hd
 have HU := hI hu
 have HG := hI hg
 have HP := hI hp
 clear hv ho hd hu hg hp
 have Ia_0 := hI ha
 clear ha
 have Ib_0 := hI hb
 clear hb
 have B_0 : Hid (Below w.heap.size w w) := hI (Below.refl _ _)
 go_enter Tryz.func6, Tryz.ntmps6
 go_wp2_with fail
 generalize hW : World.alloc w _ = W1
 have hn := zA0 w (.cells #[.bool p.g, .slice p.A p.n p.c, .bool p.gd, .slice p.Ad p.nd p.cd] 26)
 rw [hW] at hn
 have hz : W1.heap.size = w.heap.size + 1 := by rw [<- hW]; simp
 have hx : Rb W1 w.heap.size p := by rw [<- hW]; exact Rb.new (q := p) Ia_0.out
 have Ib_1 := hI (Ib_0.out.on hn)
 have B_2 := hI (zA B_0.out B_0.out.size hn)
 generalize hr : w.heap.size = r at *
 have HRr := hI hr
 clear hr
 have Xa_3 : Hid (Rb W1 r p) := hI hx
 have HT3 := hz
 clear hn hx hz hW Ib_0 B_0 Ia_0
 generalize hW : World.alloc W1 _ = W4
 have hn := zA0 W1 (.cells #[.bool q.g, .slice q.A q.n q.c, .bool q.gd, .slice q.Ad q.nd q.cd] 26)
 rw [hW] at hn
 have hz : W4.heap.size = W1.heap.size + 1 := by rw [<- hW]; simp
 have hx : Rb W4 W1.heap.size q := by rw [<- hW]; exact Rb.new (q := q) Ib_1.out
 have hlt : r < W1.heap.size := Xa_3.out.lt
 have B_4 := hI (bch B_2.out HRr.out hn)
 have Xa_5 := hI (Xa_3.out.on hn)
 rw [HT3] at hx hz hlt
 have Xb_6 : Hid (Rb W4 (r + 1) q) := hI hx
 have HT6 := hz
 clear hn hx hz hW hlt B_2 Xa_3 Ib_1
 generalize hW : World.alloc W4 _ = W7
 have hn := zA0 W4 (.cells #[.bool false, .slice none 0 0, .bool false, .slice none 0 0] 26)
 rw [hW] at hn
 have hx : Rb W7 W4.heap.size RVal.nil := by rw [<- hW]; exact Rb.new (q := RVal.nil) (RVal.nil_in W4)
 have hlt : (r + 1) < W4.heap.size := Xb_6.out.lt
 have B_7 := hI (bch B_4.out HRr.out hn)
 have Xa_8 := hI (Xa_5.out.on hn)
 have Xb_9 := hI (Xb_6.out.on hn)
 rw [HT6] at hx hlt
 have Xo_10 : Hid (Rb W7 (r + 1 + 1) RVal.nil) := hI hx
 clear hn hx hW hlt B_4 Xa_5 Xb_6
 clear HT3 HT6
 obtain ⟨ka0, ka1, ka2, ka3⟩ := Xa_8.out.cs
 have la := Xa_8.out.lt
 obtain ⟨kb0, kb1, kb2, kb3⟩ := Xb_9.out.cs
 have lb := Xb_9.out.lt
 go_wp2_with fail
 refine (zP9 Xa_8.out.sl Xb_9.out.sl true HV.out).mono ?_
 clear ka0 ka1 ka2 ka3 la kb0 kb1 kb2 kb3 lb
 rintro e w11 ⟨rfl, hb⟩
 have B_11 := hI (bch B_7.out HRr.out hb)
 have Xa_12 := hI (Xa_8.out.on hb)
 have Xb_13 := hI (Xb_9.out.on hb)
 have Xo_14 := hI (Xo_10.out.on hb)
 clear hb B_7 Xa_8 Xb_9 Xo_10
 obtain ⟨ka0, ka1, ka2, ka3⟩ := Xa_12.out.cs
 have la := Xa_12.out.lt
 obtain ⟨kb0, kb1, kb2, kb3⟩ := Xb_13.out.cs
 have lb := Xb_13.out.lt
 go_wp2_with fail
 refine (zF9 p q w11 Xa_12.out.sl.1 Xa_12.out.sl.2 Xb_13.out.sl.1 Xb_13.out.sl.2 na da nb db (-1) ⟨HO.out.1, HO.out.2.1, HO.out.2.2.1, HO.out.2.2.2, HD.out.1, HD.out.2, HU.out⟩).mono ?_
 clear ka0 ka1 ka2 ka3 la kb0 kb1 kb2 kb3 lb
 rintro e w15 ⟨rfl, hb⟩
 have B_15 := hI (bch B_11.out HRr.out hb)
 have Xa_16 := hI (Xa_12.out.on hb)
 have Xb_17 := hI (Xb_13.out.on hb)
 have Xo_18 := hI (Xo_14.out.on hb)
 clear hb B_11 Xa_12 Xb_13 Xo_14
 obtain ⟨ka0, ka1, ka2, ka3⟩ := Xa_16.out.cs
 have la := Xa_16.out.lt
 obtain ⟨kb0, kb1, kb2, kb3⟩ := Xb_17.out.cs
 have lb := Xb_17.out.lt
 rw [HG.out.2.2.1] at ka0
 rw [HG.out.2.1] at kb0
 go_wp2_with fail
 have C := zB2 false q.A q.n q.c w15
 rw [HG.out.1] at C
 refine C.mono ?_
 clear C
 clear ka0 ka1 ka2 ka3 la kb0 kb1 kb2 kb3 lb
 rintro e w19 ⟨rfl, hb⟩
 have B_19 := hI (bch B_15.out HRr.out hb)
 have Xa_20 := hI (Xa_16.out.on hb)
 have Xb_21 := hI (Xb_17.out.on hb)
 have Xo_22 := hI (Xo_18.out.on hb)
 clear hb B_15 Xa_16 Xb_17 Xo_18
 obtain ⟨ka0, ka1, ka2, ka3⟩ := Xa_20.out.cs
 have la := Xa_20.out.lt
 obtain ⟨kb0, kb1, kb2, kb3⟩ := Xb_21.out.cs
 have lb := Xb_21.out.lt
 rw [HG.out.2.2.1] at ka0
 rw [HG.out.2.1] at kb0
 go_wp2_with fail
 have C := zB2 false p.A p.n p.c w19
 rw [HG.out.2.2.2] at C
 refine C.mono ?_
 clear C
 clear ka0 ka1 ka2 ka3 la kb0 kb1 kb2 kb3 lb
 rintro e w23 ⟨rfl, hb⟩
 have B_23 := hI (bch B_19.out HRr.out hb)
 have Xa_24 := hI (Xa_20.out.on hb)
 have Xb_25 := hI (Xb_21.out.on hb)
 have Xo_26 := hI (Xo_22.out.on hb)
 clear hb B_19 Xa_20 Xb_21 Xo_22
 obtain ⟨ka0, ka1, ka2, ka3⟩ := Xa_24.out.cs
 have la := Xa_24.out.lt
 obtain ⟨kb0, kb1, kb2, kb3⟩ := Xb_25.out.cs
 have lb := Xb_25.out.lt
 have ga := HG.out.2.2.1
 rw [ga] at ka0
 go_upto_region 14 with fail
 clear ga
 clear ka0 ka1 ka2 ka3 la kb0 kb1 kb2 kb3 lb
 obtain ⟨ka0, ka1, ka2, ka3⟩ := Xa_24.out.cs
 have la := Xa_24.out.lt
 obtain ⟨kb0, kb1, kb2, kb3⟩ := Xb_25.out.cs
 have lb := Xb_25.out.lt
 go_wp2_with fail
 refine (HP.out p q w23 Xa_24.out.sl Xb_25.out.sl HO.out.1 HO.out.2.1 HO.out.2.2.1 HO.out.2.2.2).mono ?_
 clear ka0 ka1 ka2 ka3 la kb0 kb1 kb2 kb3 lb
 rintro e w27 ⟨tk, rfl, hi, hko, hkd, hb⟩
 have B_27 := hI (bch B_23.out HRr.out hb)
 have Xa_28 := hI (Xa_24.out.on hb)
 have Xb_29 := hI (Xb_25.out.on hb)
 have Xo_30 := hI (Xo_26.out.on hb)
 have Ik_31 : Hid (tk.In w27) := hI hi
 clear hb B_23 Xa_24 Xb_25 Xo_26 hi
 have Vo := hI hko
 have Vd := hI hkd
 clear hko hkd
 clear Xa_28 Xb_29
 obtain ⟨ko0, ko1, ko2, ko3⟩ := Xo_30.out.cs
 obtain ⟨fo0, fo1, fo2, fo3⟩ := Xo_30.out.fs
 simp only [RVal.nil] at ko0 ko1 ko2 ko3
 have lo := Xo_30.out.lt
 go_wp2
 clear ko0 ko1 ko2 ko3 fo0 fo1 fo2 fo3 lo
 generalize hW : World.setCell (World.setCell (World.setCell (World.setCell w27 _ _) _ _) _ _) _ _ = W32
 have B_32 : Hid (Below r w W32) := by rw [<- hW]; exact hI (zA5 B_27.out (by omega) _ _ _ _)
 have Xo_33 : Hid (Rb W32 (r + 1 + 1) tk) := by rw [<- hW]; exact hI (Rb.put (q' := tk) Xo_30.out Ik_31.out)
 clear hW B_27 Xo_30 Ik_31
 obtain ⟨j0, j1, j2, j3⟩ := Xo_33.out.cs
 try dsimp only at j0 j1 j2 j3
 refine bodyPost_ret (v := .tuple #[.agg #[.bool tk.g, .slice tk.A tk.n tk.c, .bool tk.gd, .slice tk.Ad tk.nd tk.cd], .int .i64 er]) (by simp [results, Tryz.results6, go_sem, j0, j1, j2, j3]) rfl ?_
 exact RetR.of Xo_33.out Vo.out Vd.out (by rw [HRr.out]; exact B_32.out)
theorem rsimp_C (p q : RVal) (w : World) (ha : p.In w) (hb : q.In w) (hv : ((rv p.o p.od).isSome && (rv q.o q.od).isSome) = true) (na da nb db : Int) (ho : p.o = some na /\ p.od = some da /\ q.o = some nb /\ q.od = some db) (hd : 0 < da /\ 0 < db) (hu : Int.sign (na * db - nb * da) = -1) (zb gb : Bool) (hf : (zb = true /\ gb = false) \/ (zb = false /\ gb = true)) (z zd er z2 zd2 : Int) (hp : PosC (-nb) db (-na) da z zd er) (hg : decide (q.n = 0) = zb /\ q.g = gb /\ p.g = true) (he : (er = 0 -> z2 = -z /\ zd2 = zd) /\ (er ≠ 0 -> z2 = 0 /\ zd2 = 0)) :
 Calls Tryz.prog 6 #[.agg #[.bool p.g, .slice p.A p.n p.c, .bool p.gd, .slice p.Ad p.nd p.cd], .agg #[.bool q.g, .slice q.A q.n q.c, .bool q.gd, .slice q.Ad q.nd q.cd]] w (RetR z2 zd2 er w) := by
 rcases hf with ⟨rfl, rfl⟩ | ⟨rfl, rfl⟩
 all_goals
  have HV := hI hv
  have HO := hI ho
  have HD := hI hd
  have HU := hI hu
  have HG := hI hg
  have HP := hI hp
  have HE := hI he
  clear hv ho hd hu hg hp he
  have Ia_0 := hI ha
  clear ha
  have Ib_0 := hI hb
  clear hb
  have B_0 : Hid (Below w.heap.size w w) := hI (Below.refl _ _)
  go_enter Tryz.func6, Tryz.ntmps6
  go_wp2_with fail
  generalize hW : World.alloc w _ = W1
  have hn := zA0 w (.cells #[.bool p.g, .slice p.A p.n p.c, .bool p.gd, .slice p.Ad p.nd p.cd] 26)
  rw [hW] at hn
  have hz : W1.heap.size = w.heap.size + 1 := by rw [<- hW]; simp
  have hx : Rb W1 w.heap.size p := by rw [<- hW]; exact Rb.new (q := p) Ia_0.out
  have Ib_1 := hI (Ib_0.out.on hn)
  have B_2 := hI (zA B_0.out B_0.out.size hn)
  generalize hr : w.heap.size = r at *
  have HRr := hI hr
  clear hr
  have Xa_3 : Hid (Rb W1 r p) := hI hx
  have HT3 := hz
  clear hn hx hz hW Ib_0 B_0 Ia_0
  generalize hW : World.alloc W1 _ = W4
  have hn := zA0 W1 (.cells #[.bool q.g, .slice q.A q.n q.c, .bool q.gd, .slice q.Ad q.nd q.cd] 26)
  rw [hW] at hn
  have hz : W4.heap.size = W1.heap.size + 1 := by rw [<- hW]; simp
  have hx : Rb W4 W1.heap.size q := by rw [<- hW]; exact Rb.new (q := q) Ib_1.out
  have hlt : r < W1.heap.size := Xa_3.out.lt
  have B_4 := hI (bch B_2.out HRr.out hn)
  have Xa_5 := hI (Xa_3.out.on hn)
  rw [HT3] at hx hz hlt
  have Xb_6 : Hid (Rb W4 (r + 1) q) := hI hx
  have HT6 := hz
  clear hn hx hz hW hlt B_2 Xa_3 Ib_1
  generalize hW : World.alloc W4 _ = W7
  have hn := zA0 W4 (.cells #[.bool false, .slice none 0 0, .bool false, .slice none 0 0] 26)
  rw [hW] at hn
  have hx : Rb W7 W4.heap.size RVal.nil := by rw [<- hW]; exact Rb.new (q := RVal.nil) (RVal.nil_in W4)
  have hlt : (r + 1) < W4.heap.size := Xb_6.out.lt
  have B_7 := hI (bch B_4.out HRr.out hn)
  have Xa_8 := hI (Xa_5.out.on hn)
  have Xb_9 := hI (Xb_6.out.on hn)
  rw [HT6] at hx hlt
  have Xo_10 : Hid (Rb W7 (r + 1 + 1) RVal.nil) := hI hx
  clear hn hx hW hlt B_4 Xa_5 Xb_6
  clear HT3 HT6
  obtain ⟨ka0, ka1, ka2, ka3⟩ := Xa_8.out.cs
  have la := Xa_8.out.lt
  obtain ⟨kb0, kb1, kb2, kb3⟩ := Xb_9.out.cs
  have lb := Xb_9.out.lt
  go_wp2_with fail
  refine (zP9 Xa_8.out.sl Xb_9.out.sl true HV.out).mono ?_
  clear ka0 ka1 ka2 ka3 la kb0 kb1 kb2 kb3 lb
  rintro e w11 ⟨rfl, hb⟩
  have B_11 := hI (bch B_7.out HRr.out hb)
  have Xa_12 := hI (Xa_8.out.on hb)
  have Xb_13 := hI (Xb_9.out.on hb)
  have Xo_14 := hI (Xo_10.out.on hb)
  clear hb B_7 Xa_8 Xb_9 Xo_10
  obtain ⟨ka0, ka1, ka2, ka3⟩ := Xa_12.out.cs
  have la := Xa_12.out.lt
  obtain ⟨kb0, kb1, kb2, kb3⟩ := Xb_13.out.cs
  have lb := Xb_13.out.lt
  go_wp2_with fail
  refine (zF9 p q w11 Xa_12.out.sl.1 Xa_12.out.sl.2 Xb_13.out.sl.1 Xb_13.out.sl.2 na da nb db (-1) ⟨HO.out.1, HO.out.2.1, HO.out.2.2.1, HO.out.2.2.2, HD.out.1, HD.out.2, HU.out⟩).mono ?_
  clear ka0 ka1 ka2 ka3 la kb0 kb1 kb2 kb3 lb
  rintro e w15 ⟨rfl, hb⟩
  have B_15 := hI (bch B_11.out HRr.out hb)
  have Xa_16 := hI (Xa_12.out.on hb)
  have Xb_17 := hI (Xb_13.out.on hb)
  have Xo_18 := hI (Xo_14.out.on hb)
  clear hb B_11 Xa_12 Xb_13 Xo_14
  obtain ⟨ka0, ka1, ka2, ka3⟩ := Xa_16.out.cs
  have la := Xa_16.out.lt
  obtain ⟨kb0, kb1, kb2, kb3⟩ := Xb_17.out.cs
  have lb := Xb_17.out.lt
  rw [HG.out.2.2] at ka0
  rw [HG.out.2.1] at kb0
  go_wp2_with fail
  have C := zB2 q.g q.A q.n q.c w15
  rw [HG.out.2.1, HG.out.1] at C
  refine C.mono ?_
  clear C
  clear ka0 ka1 ka2 ka3 la kb0 kb1 kb2 kb3 lb
  rintro e w19 ⟨rfl, hb⟩
  have B_19 := hI (bch B_15.out HRr.out hb)
  have Xa_20 := hI (Xa_16.out.on hb)
  have Xb_21 := hI (Xb_17.out.on hb)
  have Xo_22 := hI (Xo_18.out.on hb)
  clear hb B_15 Xa_16 Xb_17 Xo_18
  obtain ⟨ka0, ka1, ka2, ka3⟩ := Xa_20.out.cs
  have la := Xa_20.out.lt
  obtain ⟨kb0, kb1, kb2, kb3⟩ := Xb_21.out.cs
  have lb := Xb_21.out.lt
  rw [HG.out.2.2] at ka0
  rw [HG.out.2.1] at kb0
  go_upto_region 10 with fail
  clear ka0 ka1 ka2 ka3 la kb0 kb1 kb2 kb3 lb
  have LO0 := hI Xo_22.out.lt
  go_cut [6, 7] (fun s6 s7 wx => QMid w19.heap.size w19.drew z zd er s6 s7 wx)
  case first =>
   have xa0 := hI Xa_20.out.drew
   have xb0 := hI Xb_21.out.drew
   have D0 : Hid (Below w19.heap.size w19.drew w19.drew) := hI (Below.refl _ _)
   have o0 := World.new_ne _ _ Xa_20.out.c0
   have o4 := World.new_ne _ _ Xb_21.out.c0
   obtain ⟨oa0, oa1, oa2, oa3⟩ := Xa_20.out.cs
   obtain ⟨ob0, ob1, ob2, ob3⟩ := Xb_21.out.cs
   have p0 := xa0.out.c0; have p1 := xa0.out.c1; have p2 := xa0.out.c2; have p3 := xa0.out.c3; have p4 := xb0.out.c0; have p5 := xb0.out.c1; have p6 := xb0.out.c2; have p7 := xb0.out.c3; have q0 := World.new_ne _ _ p0; have q4 := World.new_ne _ _ p4
   go_region_held3 (fun w' => w'.cell? ⟨r, 0, none⟩ = some (.bool p.g) /\ w'.cell? ⟨r, 1, none⟩ = some (.slice p.A p.n p.c) /\ w'.cell? ⟨r, 2, none⟩ = some (.bool p.gd) /\ w'.cell? ⟨r, 3, none⟩ = some (.slice p.Ad p.nd p.cd) /\ w'.cell? ⟨(r + 1), 0, none⟩ = some (.bool q.g) /\ w'.cell? ⟨(r + 1), 1, none⟩ = some (.slice q.A q.n q.c) /\ w'.cell? ⟨(r + 1), 2, none⟩ = some (.bool q.gd) /\ w'.cell? ⟨(r + 1), 3, none⟩ = some (.slice q.Ad q.nd q.cd)) (go_keep)
    (first
     | (go_at_call 25; (first | (have C := HP.out ⟨g1, A1, n1, c1, xs1, q.gd, q.Ad, q.nd, q.cd, q.ys⟩ ⟨g2, A2, n2, c2, xs2, p.gd, p.Ad, p.nd, p.cd, p.ys⟩ v2 ⟨T1.out, xb2.out.sl.2⟩ ⟨S2.out, xa2.out.sl.2⟩ O1.out HO.out.2.2.2 O2.out HO.out.2.1; (with_reducible refine C.mono ?_); clear C; rintro e v3 ⟨f3, rfl, hi, hv1, hv2, hbn⟩; have xa3 := hI (xa2.out.on hbn); have xb3 := hI (xb2.out.on hbn); have D3 := hI (zA D2.out D2.out.size hbn); have I3 := hI hi; have V3 := hI hv1; have W3 := hI hv2; clear hi hv1 hv2; (try replace bn := bn.on hbn); clear hbn p0 p1 p2 p3 p4 p5 p6 p7 q0 q4; have p0 := xa3.out.c0; have p1 := xa3.out.c1; have p2 := xa3.out.c2; have p3 := xa3.out.c3; have p4 := xb3.out.c0; have p5 := xb3.out.c1; have p6 := xb3.out.c2; have p7 := xb3.out.c3; have q0 := World.new_ne _ _ p0; have q4 := World.new_ne _ _ p4; (try (have t0 := bn.c0; have t1 := bn.c1; have t2 := bn.c2; have t3 := bn.c3; have u0f := bn.f 0; have u1f := bn.f 1; have u2f := bn.f 2; have u3f := bn.f 3; have bb := hI bn; clear bn))) | (have C := HP.out ⟨g1, A1, n1, c1, xs1, q.gd, q.Ad, q.nd, q.cd, q.ys⟩ ⟨g2, A2, n2, c2, xs2, p.gd, p.Ad, p.nd, p.cd, p.ys⟩ (v2.alloc (.cells #[.bool false, .slice none 0 0, .bool false, .slice none 0 0] 26)) ⟨(T1.out.on (zA0 v2 (.cells #[.bool false, .slice none 0 0, .bool false, .slice none 0 0] 26))), (xb2.out.on (zA0 v2 (.cells #[.bool false, .slice none 0 0, .bool false, .slice none 0 0] 26))).sl.2⟩ ⟨(S2.out.on (zA0 v2 (.cells #[.bool false, .slice none 0 0, .bool false, .slice none 0 0] 26))), (xa2.out.on (zA0 v2 (.cells #[.bool false, .slice none 0 0, .bool false, .slice none 0 0] 26))).sl.2⟩ O1.out HO.out.2.2.2 O2.out HO.out.2.1; (with_reducible refine C.mono ?_); clear C; rintro e v3 ⟨f3, rfl, hi, hv1, hv2, hbn⟩; have bn : Rb v3 v2.heap.size RVal.nil := (Rb.new (q := RVal.nil) (RVal.nil_in v2)).on hbn; have nz : Hid (w19.heap.size <= v2.heap.size) := hI D2.out.size; have xa3 := hI ((xa2.out.on (zA0 v2 (.cells #[.bool false, .slice none 0 0, .bool false, .slice none 0 0] 26))).on hbn); have xb3 := hI ((xb2.out.on (zA0 v2 (.cells #[.bool false, .slice none 0 0, .bool false, .slice none 0 0] 26))).on hbn); have D3 := hI (zA (zA D2.out D2.out.size (zA0 v2 (.cells #[.bool false, .slice none 0 0, .bool false, .slice none 0 0] 26))) (Nat.le_trans D2.out.size (zA0 v2 (.cells #[.bool false, .slice none 0 0, .bool false, .slice none 0 0] 26)).size) hbn); have I3 := hI hi; have V3 := hI hv1; have W3 := hI hv2; clear hi hv1 hv2; have na1 : r ≠ v2.heap.size := Nat.ne_of_lt xa2.out.lt; have nb1 : (r + 1) ≠ v2.heap.size := Nat.ne_of_lt xb2.out.lt; have na2 := na1.symm; have nb2 := nb1.symm; clear hbn p0 p1 p2 p3 p4 p5 p6 p7 q0 q4; have p0 := xa3.out.c0; have p1 := xa3.out.c1; have p2 := xa3.out.c2; have p3 := xa3.out.c3; have p4 := xb3.out.c0; have p5 := xb3.out.c1; have p6 := xb3.out.c2; have p7 := xb3.out.c3; have q0 := World.new_ne _ _ p0; have q4 := World.new_ne _ _ p4; (try (have t0 := bn.c0; have t1 := bn.c1; have t2 := bn.c2; have t3 := bn.c3; have u0f := bn.f 0; have u1f := bn.f 1; have u2f := bn.f 2; have u3f := bn.f 3; have bb := hI bn; clear bn)))))
     | (go_at_call 26; (first | (have C := rneg_z (w := v1) xa1.out.sl.1 HO.out.1; (with_reducible refine C.mono ?_); clear C; rintro e v2 ⟨g2, A2, n2, c2, xs2, rfl, hs, ho1, hbn⟩; have xa2 := hI (xa1.out.on hbn); have xb2 := hI (xb1.out.on hbn); have D2 := hI (zA D1.out D1.out.size hbn); have S2 := hI hs; have O2 := hI ho1; have T1 := hI (S1.out.on hbn); clear hs ho1; (try replace bn := bn.on hbn); clear hbn p0 p1 p2 p3 p4 p5 p6 p7 q0 q4; have p0 := xa2.out.c0; have p1 := xa2.out.c1; have p2 := xa2.out.c2; have p3 := xa2.out.c3; have p4 := xb2.out.c0; have p5 := xb2.out.c1; have p6 := xb2.out.c2; have p7 := xb2.out.c3; have q0 := World.new_ne _ _ p0; have q4 := World.new_ne _ _ p4) | (have C := rneg_z (w := (v1.alloc (.cells #[.bool false, .slice none 0 0, .bool false, .slice none 0 0] 26))) (xa1.out.on (zA0 v1 (.cells #[.bool false, .slice none 0 0, .bool false, .slice none 0 0] 26))).sl.1 HO.out.1; (with_reducible refine C.mono ?_); clear C; rintro e v2 ⟨g2, A2, n2, c2, xs2, rfl, hs, ho1, hbn⟩; have bn : Rb v2 v1.heap.size RVal.nil := (Rb.new (q := RVal.nil) (RVal.nil_in v1)).on hbn; have nz : Hid (w19.heap.size <= v1.heap.size) := hI D1.out.size; have xa2 := hI ((xa1.out.on (zA0 v1 (.cells #[.bool false, .slice none 0 0, .bool false, .slice none 0 0] 26))).on hbn); have xb2 := hI ((xb1.out.on (zA0 v1 (.cells #[.bool false, .slice none 0 0, .bool false, .slice none 0 0] 26))).on hbn); have D2 := hI (zA (zA D1.out D1.out.size (zA0 v1 (.cells #[.bool false, .slice none 0 0, .bool false, .slice none 0 0] 26))) (Nat.le_trans D1.out.size (zA0 v1 (.cells #[.bool false, .slice none 0 0, .bool false, .slice none 0 0] 26)).size) hbn); have S2 := hI hs; have O2 := hI ho1; have T1 := hI ((S1.out.on (zA0 v1 (.cells #[.bool false, .slice none 0 0, .bool false, .slice none 0 0] 26))).on hbn); clear hs ho1; have na1 : r ≠ v1.heap.size := Nat.ne_of_lt xa1.out.lt; have nb1 : (r + 1) ≠ v1.heap.size := Nat.ne_of_lt xb1.out.lt; have na2 := na1.symm; have nb2 := nb1.symm; clear hbn p0 p1 p2 p3 p4 p5 p6 p7 q0 q4; have p0 := xa2.out.c0; have p1 := xa2.out.c1; have p2 := xa2.out.c2; have p3 := xa2.out.c3; have p4 := xb2.out.c0; have p5 := xb2.out.c1; have p6 := xb2.out.c2; have p7 := xb2.out.c3; have q0 := World.new_ne _ _ p0; have q4 := World.new_ne _ _ p4)))
     | (go_at_call 26; (first | (have C := rneg_z (w := w19.drew) xb0.out.sl.1 HO.out.2.2.1; (with_reducible refine C.mono ?_); clear C; rintro e v1 ⟨g1, A1, n1, c1, xs1, rfl, hs, ho1, hbn⟩; have xa1 := hI (xa0.out.on hbn); have xb1 := hI (xb0.out.on hbn); have D1 := hI (zA D0.out D0.out.size hbn); have S1 := hI hs; have O1 := hI ho1; clear hs ho1; (try replace bn := bn.on hbn); clear hbn p0 p1 p2 p3 p4 p5 p6 p7 q0 q4; have p0 := xa1.out.c0; have p1 := xa1.out.c1; have p2 := xa1.out.c2; have p3 := xa1.out.c3; have p4 := xb1.out.c0; have p5 := xb1.out.c1; have p6 := xb1.out.c2; have p7 := xb1.out.c3; have q0 := World.new_ne _ _ p0; have q4 := World.new_ne _ _ p4) | (have C := rneg_z (w := ((w19.alloc (.cells #[.bool false, .slice none 0 0, .bool false, .slice none 0 0] 26)).drew)) ((Xb_21.out.on (zA0 w19 (.cells #[.bool false, .slice none 0 0, .bool false, .slice none 0 0] 26))).drew).sl.1 HO.out.2.2.1; (with_reducible refine C.mono ?_); clear C; rintro e v1 ⟨g1, A1, n1, c1, xs1, rfl, hs, ho1, hbm⟩; have hbn : Below (w19.drew.alloc (.cells #[.bool false, .slice none 0 0, .bool false, .slice none 0 0] 26)).heap.size (w19.drew.alloc (.cells #[.bool false, .slice none 0 0, .bool false, .slice none 0 0] 26)) v1 := ⟨hbm.os, hbm.tape, hbm.output, hbm.size, hbm.block⟩; clear hbm; have bn : Rb v1 w19.heap.size RVal.nil := (Rb.new (q := RVal.nil) (RVal.nil_in w19.drew)).on hbn; have nz : Hid (w19.heap.size <= w19.heap.size) := hI (Nat.le_refl _); have xa1 := hI ((xa0.out.on (zA0 w19.drew (.cells #[.bool false, .slice none 0 0, .bool false, .slice none 0 0] 26))).on hbn); have xb1 := hI ((xb0.out.on (zA0 w19.drew (.cells #[.bool false, .slice none 0 0, .bool false, .slice none 0 0] 26))).on hbn); have D1 := hI (zA (zA D0.out D0.out.size (zA0 w19.drew (.cells #[.bool false, .slice none 0 0, .bool false, .slice none 0 0] 26))) (Nat.le_trans D0.out.size (zA0 w19.drew (.cells #[.bool false, .slice none 0 0, .bool false, .slice none 0 0] 26)).size) hbn); have S1 := hI hs; have O1 := hI ho1; clear hs ho1; have na1 : r ≠ w19.heap.size := Nat.ne_of_lt xa0.out.lt; have nb1 : (r + 1) ≠ w19.heap.size := Nat.ne_of_lt xb0.out.lt; have na2 := na1.symm; have nb2 := nb1.symm; clear hbn p0 p1 p2 p3 p4 p5 p6 p7 q0 q4; have p0 := xa1.out.c0; have p1 := xa1.out.c1; have p2 := xa1.out.c2; have p3 := xa1.out.c3; have p4 := xb1.out.c0; have p5 := xb1.out.c1; have p6 := xb1.out.c2; have p7 := xb1.out.c3; have q0 := World.new_ne _ _ p0; have q4 := World.new_ne _ _ p4))))
   all_goals (go_wp2_with fail; go_meet; first
    | exact qMid_new D3.out D3.out.size I3.out V3.out W3.out
    | exact zR7 bb.out D3.out nz.out I3.out V3.out W3.out
    | exact zR7 bb.out D3.out (Nat.le_refl _) I3.out V3.out W3.out)
  case rest =>
  have B_23 := hI (B_19.out.drew)
  have Xa_24 := hI (Xa_20.out.drew)
  have Xb_25 := hI (Xb_21.out.drew)
  have Xo_26 := hI (Xo_22.out.drew)
  obtain ⟨b9, tk, rfl, rfl, hx, hko, hkd, hle, hb⟩ := hcut
  have NB := hI (show (r + 1 + 1) ≠ b9 from Nat.ne_of_lt (Nat.lt_of_lt_of_le LO0.out hle))
  clear hle
  have B_27 := hI (bch B_23.out HRr.out hb)
  have Xa_28 := hI (Xa_24.out.on hb)
  have Xb_29 := hI (Xb_25.out.on hb)
  have Xo_30 := hI (Xo_26.out.on hb)
  have Xk_0 := hI hx
  have Vo := hI hko
  have Vd := hI hkd
  clear hx hko hkd hb B_19 Xa_20 Xb_21 Xo_22 B_23 Xa_24 Xb_25 Xo_26
  obtain ⟨we, rfl⟩ : ∃ u : World, u = wc := ⟨_, rfl⟩
  by_cases h0 : er = 0
  . have HB := HE.out.1 h0
    subst h0
    clear Xa_28 Xb_29
    go_upto_region 13 with fail
    have D0 : Hid (Below we.heap.size we.drew we.drew) := hI (Below.refl _ _)
    obtain ⟨p0, p1, p2, p3⟩ := Xk_0.out.cs
    have q0 := World.new_ne _ _ p0
    have nbx := NB.out
    have nby := nbx.symm
    have LO := hI Xo_30.out.lt
    have LK := hI Xk_0.out.lt
    go_region_held3 (fun w' => w'.cell? ⟨b9, 0, none⟩ = some (.bool tk.g) /\ w'.cell? ⟨b9, 1, none⟩ = some (.slice tk.A tk.n tk.c) /\ w'.cell? ⟨b9, 2, none⟩ = some (.bool tk.gd) /\ w'.cell? ⟨b9, 3, none⟩ = some (.slice tk.Ad tk.nd tk.cd)) (go_keep)
     (first | (go_at_call 26; (have C := rneg_z (w := we.drew) Xk_0.out.drew.sl.1 Vo.out; (with_reducible refine C.mono ?_); clear C; rintro e v1 ⟨g9, A9, n9, c9, xs9, rfl, hs, ho9, hbn⟩; have J9 := hI hs; have V9 := hI ho9; have Y1 := hI (Xo_30.out.drew.on hbn); have K1 := hI (Xk_0.out.drew.on hbn); have B1 := hI (B_27.out.drew); have B2 := hI (bch B1.out HRr.out hbn); clear hs ho9 hbn p0 p1 p2 p3 q0; obtain ⟨p0, p1, p2, p3⟩ := K1.out.cs; have q0 := World.new_ne _ _ p0; obtain ⟨o0, o1, o2, o3⟩ := Y1.out.cs; obtain ⟨f0, f1, f2, f3⟩ := Y1.out.fs; have lo1 := Y1.out.lt)))
    go_wp2_with fail
    clear p0 p1 p2 p3 q0 o0 o1 o2 o3 f0 f1 f2 f3 lo1 nbx nby
    have I9 : Hid ((⟨g9, A9, n9, c9, xs9, tk.gd, tk.Ad, tk.nd, tk.cd, tk.ys⟩ : RVal).In v1) := hI ⟨J9.out, K1.out.sl.2⟩
    generalize hW : World.setCell (World.setCell (World.setCell (World.setCell v1 _ _) _ _) _ _) _ _ = W31
    have Xo_31 : Hid (Rb W31 (r + 1 + 1) (⟨g9, A9, n9, c9, xs9, tk.gd, tk.Ad, tk.nd, tk.cd, tk.ys⟩ : RVal)) := by rw [<- hW]; exact hI (Rb.put (q' := (⟨g9, A9, n9, c9, xs9, tk.gd, tk.Ad, tk.nd, tk.cd, tk.ys⟩ : RVal)) Y1.out I9.out)
    have B_32 : Hid (Below r w W31) := by rw [<- hW]; exact hI (zA5 B2.out (by omega) _ _ _ _)
    clear hW Y1 B2 I9
    obtain ⟨j0, j1, j2, j3⟩ := Xo_31.out.cs
    try dsimp only at j0 j1 j2 j3
    refine bodyPost_ret (v := .tuple #[.agg #[.bool (g9), .slice A9 n9 c9, .bool (tk.gd), .slice tk.Ad tk.nd tk.cd], .int .i64 0]) (by simp [results, Tryz.results6, go_sem, j0, j1, j2, j3]) rfl ?_
    rw [HB.1, HB.2]
    exact RetR.of Xo_31.out V9.out Vd.out (by rw [HRr.out]; exact B_32.out)
  . have h1 : (er != 0) = true := bne_iff_ne.2 h0
    have HB := HE.out.2 h0
    clear h0
    clear Xa_28 Xb_29 Xk_0
    obtain ⟨ko0, ko1, ko2, ko3⟩ := Xo_30.out.cs
    obtain ⟨fo0, fo1, fo2, fo3⟩ := Xo_30.out.fs
    simp only [RVal.nil] at ko0 ko1 ko2 ko3
    have lo := Xo_30.out.lt
    go_wp2
    clear ko0 ko1 ko2 ko3 fo0 fo1 fo2 fo3 lo
    clear h1
    generalize hW : World.setCell (World.setCell (World.setCell (World.setCell we _ _) _ _) _ _) _ _ = W31
    have B_31 : Hid (Below r w W31) := by rw [<- hW]; exact hI (zA5 B_27.out (by omega) _ _ _ _)
    have Xo_32 : Hid (Rb W31 (r + 1 + 1) RVal.nil) := by rw [<- hW]; exact hI (Rb.put (q' := RVal.nil) Xo_30.out (RVal.nil_in we))
    clear hW B_27 Xo_30
    obtain ⟨j0, j1, j2, j3⟩ := Xo_32.out.cs
    try dsimp only at j0 j1 j2 j3
    simp only [RVal.nil] at j0 j1 j2 j3
    refine bodyPost_ret (v := .tuple #[.agg #[.bool false, .slice none 0 0, .bool false, .slice none 0 0], .int .i64 er]) (by simp [results, Tryz.results6, go_sem, j0, j1, j2, j3]) rfl ?_
    rw [HB.1, HB.2]
    exact RetR.of Xo_32.out rfl rfl (by rw [HRr.out]; exact B_31.out)
end Go.Proofs.YtphinlongdoedaaGreat
