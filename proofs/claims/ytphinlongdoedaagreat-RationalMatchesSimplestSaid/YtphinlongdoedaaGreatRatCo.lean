/-
 Stage 2: the reference's comparison by continued fractions, Cmp and Sign.
-/
import Derived.Deep.LoopGhost
import Derived.Test.YtphinlongdoedaaGreatRatSv
import Derived.Test.YtphinlongdoedaaGreatRatCm
namespace Go.Proofs.YtphinlongdoedaaGreat
open Go.RowKit
set_option linter.unusedSimpArgs false
set_option maxRecDepth 20000
set_option maxHeartbeats 2000000
structure RcW (w0 : World) (r : Nat) (u n d m f : Int) (qa qb : RVal) (wr : World) : Prop where
 b1 : Ba wr r qa.g qa.A qa.n qa.c qa.xs
 b2 : Ba wr (r + 1) qa.gd qa.Ad qa.nd qa.cd qa.ys
 b3 : Ba wr (r + 1 + 1) qb.g qb.A qb.n qb.c qb.xs
 b4 : Ba wr (r + 1 + 1 + 1) qb.gd qb.Ad qb.nd qb.cd qb.ys
 bel : Below r w0 wr
 o1 : ov qa.g qa.xs = some n
 o2 : ov qa.gd qa.ys = some d
 o3 : ov qb.g qb.xs = some m
 o4 : ov qb.gd qb.ys = some f
 pd : 0 < d
 pf : 0 < f
 sg : Int.sign (n * f - m * d) = u
theorem fq_mod {n d : Int} (hd : 0 < d) : fq n d = n / d /\ fr n d = n % d := by
 have e := fq_pos n d hd
 have s := (zQ2 n d (by omega)).1
 refine ⟨e, ?_⟩
 rw [e] at s
 have := Int.emod_add_mul_ediv n d
 rw [Int.mul_comm] at s
 omega
theorem zF9 (q q' : RVal) (w : World) (ha : Sl w w.heap.size q.A q.n q.c q.xs) (hb : Sl w w.heap.size q.Ad q.nd q.cd q.ys) (hc : Sl w w.heap.size q'.A q'.n q'.c q'.xs) (hd : Sl w w.heap.size q'.Ad q'.nd q'.cd q'.ys) (n0 d0 m0 f0 u : Int) (hi : ov q.g q.xs = some n0 /\ ov q.gd q.ys = some d0 /\ ov q'.g q'.xs = some m0 /\ ov q'.gd q'.ys = some f0 /\ 0 < d0 /\ 0 < f0 /\ Int.sign (n0 * f0 - m0 * d0) = u) :
 Calls Tryz.prog 22 #[.agg #[.bool q.g, .slice q.A q.n q.c], .agg #[.bool q.gd, .slice q.Ad q.nd q.cd], .agg #[.bool q'.g, .slice q'.A q'.n q'.c], .agg #[.bool q'.gd, .slice q'.Ad q'.nd q'.cd]] w fun e w' => e = .returned (.int .i64 u) /\ Below w.heap.size w w' := by
 have HI := hI hi
 clear hi
 have Ja_0 := hI ha
 clear ha
 have Jb_0 := hI hb
 clear hb
 have Jc_0 := hI hc
 clear hc
 have Jd_0 := hI hd
 clear hd
 have B_0 : Hid (Below w.heap.size w w) := hI (Below.refl _ _)
 go_enter Tryz.func22, Tryz.ntmps22
 go_wp2_with fail
 generalize hW : World.alloc w _ = W1
 have hn := zA0 w (.cells #[.bool q.g, .slice q.A q.n q.c] 24)
 rw [hW] at hn
 have hz : W1.heap.size = w.heap.size + 1 := by rw [<- hW]; simp
 have hx : Ba W1 w.heap.size q.g q.A q.n q.c q.xs := by rw [<- hW]; exact ⟨Bx.new w _ _ _ _, Ja_0.out.on (zA0 _ _)⟩
 have Jb_1 := hI (Jb_0.out.on hn)
 have Jc_2 := hI (Jc_0.out.on hn)
 have Jd_3 := hI (Jd_0.out.on hn)
 have B_4 := hI (zA B_0.out B_0.out.size hn)
 generalize hr : w.heap.size = r at *
 have HRr := hI hr
 clear hr
 have Za_5 : Hid (Ba W1 r q.g q.A q.n q.c q.xs) := hI hx
 have HT5 := hz
 clear hn hx hz hW Jb_0 Jc_0 Jd_0 B_0 Ja_0
 generalize hW : World.alloc W1 _ = W6
 have hn := zA0 W1 (.cells #[.bool q.gd, .slice q.Ad q.nd q.cd] 24)
 rw [hW] at hn
 have hz : W6.heap.size = W1.heap.size + 1 := by rw [<- hW]; simp
 have hx : Ba W6 W1.heap.size q.gd q.Ad q.nd q.cd q.ys := by rw [<- hW]; exact ⟨Bx.new W1 _ _ _ _, Jb_1.out.on (zA0 _ _)⟩
 have hlt : r < W1.heap.size := Za_5.out.bx.lt
 have Jc_6 := hI (Jc_2.out.on hn)
 have Jd_7 := hI (Jd_3.out.on hn)
 have B_8 := hI (bch B_4.out HRr.out hn)
 have Za_9 := hI (Za_5.out.on hn)
 rw [HT5] at hx hz hlt
 have Zb_10 : Hid (Ba W6 (r + 1) q.gd q.Ad q.nd q.cd q.ys) := hI hx
 have HT10 := hz
 clear hn hx hz hW hlt Jc_2 Jd_3 B_4 Za_5 Jb_1
 generalize hW : World.alloc W6 _ = W11
 have hn := zA0 W6 (.cells #[.bool q'.g, .slice q'.A q'.n q'.c] 24)
 rw [hW] at hn
 have hz : W11.heap.size = W6.heap.size + 1 := by rw [<- hW]; simp
 have hx : Ba W11 W6.heap.size q'.g q'.A q'.n q'.c q'.xs := by rw [<- hW]; exact ⟨Bx.new W6 _ _ _ _, Jc_6.out.on (zA0 _ _)⟩
 have hlt : (r + 1) < W6.heap.size := Zb_10.out.bx.lt
 have Jd_11 := hI (Jd_7.out.on hn)
 have B_12 := hI (bch B_8.out HRr.out hn)
 have Za_13 := hI (Za_9.out.on hn)
 have Zb_14 := hI (Zb_10.out.on hn)
 rw [HT10] at hx hz hlt
 have Zc_15 : Hid (Ba W11 (r + 1 + 1) q'.g q'.A q'.n q'.c q'.xs) := hI hx
 have HT15 := hz
 clear hn hx hz hW hlt Jd_7 B_8 Za_9 Zb_10 Jc_6
 generalize hW : World.alloc W11 _ = W16
 have hn := zA0 W11 (.cells #[.bool q'.gd, .slice q'.Ad q'.nd q'.cd] 24)
 rw [hW] at hn
 have hx : Ba W16 W11.heap.size q'.gd q'.Ad q'.nd q'.cd q'.ys := by rw [<- hW]; exact ⟨Bx.new W11 _ _ _ _, Jd_11.out.on (zA0 _ _)⟩
 have hlt : (r + 1 + 1) < W11.heap.size := Zc_15.out.bx.lt
 have B_16 := hI (bch B_12.out HRr.out hn)
 have Za_17 := hI (Za_13.out.on hn)
 have Zb_18 := hI (Zb_14.out.on hn)
 have Zc_19 := hI (Zc_15.out.on hn)
 rw [HT15] at hx hlt
 have Zd_20 : Hid (Ba W16 (r + 1 + 1 + 1) q'.gd q'.Ad q'.nd q'.cd q'.ys) := hI hx
 clear hn hx hW hlt B_12 Za_13 Zb_14 Zc_15 Jd_11
 clear HT5 HT10 HT15
 have HX0 : Hid (RcW w r u n0 d0 m0 f0 q q' W16) := hI ⟨Za_17.out, Zb_18.out, Zc_19.out, Zd_20.out, B_16.out, HI.out.1, HI.out.2.1, HI.out.2.2.1, HI.out.2.2.2.1, HI.out.2.2.2.2.1, HI.out.2.2.2.2.2.1, HI.out.2.2.2.2.2.2⟩
 clear B_16 Za_17 Zb_18 Zc_19 Zd_20
 go_loopg [11] (d0 + f0).toNat (fun gg s11 wr => ∃ (n d m f : Int) (qa qb : RVal) (v11 : Value), s11 = v11 /\ (d + f).toNat = gg /\ Hid (RcW w r u n d m f qa qb wr))
 case atStart => exact ⟨n0, d0, m0, f0, q, q', _, rfl, rfl, HX0⟩
 case round =>
  obtain ⟨n, d, m, f, qa, qb, v11, rfl, hk, HX⟩ := hrel
  clear HX0
  have HK := hI hk
  clear hk
  have BD := hI (And.intro (zE7 HX.out.b1.sl.ok HX.out.o1) (And.intro (zE7 HX.out.b2.sl.ok HX.out.o2) (And.intro (zE7 HX.out.b3.sl.ok HX.out.o3) (zE7 HX.out.b4.sl.ok HX.out.o4))))
  obtain ⟨qt, hqt⟩ : ∃ x, n / d = x := ⟨_, rfl⟩
  obtain ⟨rs, hrs⟩ : ∃ x, n % d = x := ⟨_, rfl⟩
  obtain ⟨pt, hpt⟩ : ∃ x, m / f = x := ⟨_, rfl⟩
  obtain ⟨ss, hss⟩ : ∃ x, m % f = x := ⟨_, rfl⟩
  have D1 := hI (show d ≠ 0 /\ fq n d = qt /\ fr n d = rs /\ qt.natAbs < BIG from ⟨by have := HX.out.pd; omega, by rw [(fq_mod HX.out.pd).1, hqt], by rw [(fq_mod HX.out.pd).2, hrs], by rw [<- hqt]; exact Nat.lt_of_le_of_lt (Int.natAbs_ediv_le_natAbs _ _) BD.out.1⟩)
  have D2 := hI (show f ≠ 0 /\ fq m f = pt /\ fr m f = ss /\ pt.natAbs < BIG from ⟨by have := HX.out.pf; omega, by rw [(fq_mod HX.out.pf).1, hpt], by rw [(fq_mod HX.out.pf).2, hss], by rw [<- hpt]; exact Nat.lt_of_le_of_lt (Int.natAbs_ediv_le_natAbs _ _) BD.out.2.2.1⟩)
  have M := hI (show (d * qt + rs = n /\ 0 <= rs /\ rs < d) /\ f * pt + ss = m /\ 0 <= ss /\ ss < f from by
   have a1 := HX.out.pd
   have a2 := HX.out.pf
   rw [<- hqt, <- hrs, <- hpt, <- hss]
   exact ⟨⟨Int.mul_ediv_add_emod n d, Int.emod_nonneg n (by omega), Int.emod_lt_of_pos n a1⟩, Int.mul_ediv_add_emod m f, Int.emod_nonneg m (by omega), Int.emod_lt_of_pos m a2⟩)
  clear hqt hrs hpt hss
  have Za_0 := hI HX.out.b1
  have Va := hI HX.out.o1
  have Zb_0 := hI HX.out.b2
  have Vb := hI HX.out.o2
  have Zc_0 := hI HX.out.b3
  have Vc := hI HX.out.o3
  have Zd_0 := hI HX.out.b4
  have Vd := hI HX.out.o4
  have B_0 := hI HX.out.bel
  have HP := hI (And.intro HX.out.pd (And.intro HX.out.pf HX.out.sg))
  clear HX BD
  obtain ⟨ka0, ka1⟩ := Za_0.out.cs
  have la := Za_0.out.bx.lt
  obtain ⟨kb0, kb1⟩ := Zb_0.out.cs
  have lb := Zb_0.out.bx.lt
  go_wp2_with fail
  refine (zT0 Za_0.out.sl Zb_0.out.sl Va.out Vb.out D1.out.1 qt rs D1.out.2.1 D1.out.2.2.1 D1.out.2.2.2).mono ?_
  clear ka0 ka1 la kb0 kb1 lb
  rintro e w1 ⟨gx, Ax, nx, cx, xsx, gy, Ay, ny, cy, xsy, rfl, hs, ho, hs2, ho2, hb⟩
  have Za_1 := hI (Za_0.out.on hb)
  have Zb_2 := hI (Zb_0.out.on hb)
  have Zc_3 := hI (Zc_0.out.on hb)
  have Zd_4 := hI (Zd_0.out.on hb)
  have B_5 := hI (bch B_0.out HRr.out hb)
  have Jx_6 : Hid (Sl w1 w1.heap.size Ax nx cx xsx) := hI hs
  have Jy_7 : Hid (Sl w1 w1.heap.size Ay ny cy xsy) := hI hs2
  clear hb Za_0 Zb_0 Zc_0 Zd_0 B_0 hs hs2
  have Vx := hI ho
  have Vy := hI ho2
  clear ho ho2
  obtain ⟨kc0, kc1⟩ := ((Zc_3.out.on (zA0 w1 (.cells #[.bool gx, .slice Ax nx cx] 24))).on (zA0 (w1.alloc (.cells #[.bool gx, .slice Ax nx cx] 24)) (.cells #[.bool gy, .slice Ay ny cy] 24))).cs
  have lc := Zc_3.out.bx.lt
  obtain ⟨kd0, kd1⟩ := ((Zd_4.out.on (zA0 w1 (.cells #[.bool gx, .slice Ax nx cx] 24))).on (zA0 (w1.alloc (.cells #[.bool gx, .slice Ax nx cx] 24)) (.cells #[.bool gy, .slice Ay ny cy] 24))).cs
  have ld := Zd_4.out.bx.lt
  go_wp2_with fail
  generalize hW : World.alloc w1 _ = W8
  have hn := zA0 w1 (.cells #[.bool gx, .slice Ax nx cx] 24)
  rw [hW] at hn
  have hz : W8.heap.size = w1.heap.size + 1 := by rw [<- hW]; simp
  have hx : Ba W8 w1.heap.size gx Ax nx cx xsx := by rw [<- hW]; exact ⟨Bx.new w1 _ _ _ _, Jx_6.out.on (zA0 _ _)⟩
  have hlt : (r + 1 + 1 + 1) < w1.heap.size := Zd_4.out.bx.lt
  have Za_8 := hI (Za_1.out.on hn)
  have Zb_9 := hI (Zb_2.out.on hn)
  have Zc_10 := hI (Zc_3.out.on hn)
  have Zd_11 := hI (Zd_4.out.on hn)
  have B_12 := hI (bch B_5.out HRr.out hn)
  have Jy_13 := hI (Jy_7.out.on hn)
  generalize hbb : w1.heap.size = b1 at *
  clear hbb
  have Zx_14 : Hid (Ba W8 b1 gx Ax nx cx xsx) := hI hx
  have HT14 := hz
  have O14 := hI hlt
  clear hn hx hz hW hlt Za_1 Zb_2 Zc_3 Zd_4 B_5 Jy_7 Jx_6
  generalize hW : World.alloc W8 _ = W15
  have hn := zA0 W8 (.cells #[.bool gy, .slice Ay ny cy] 24)
  rw [hW] at hn
  have hx : Ba W15 W8.heap.size gy Ay ny cy xsy := by rw [<- hW]; exact ⟨Bx.new W8 _ _ _ _, Jy_13.out.on (zA0 _ _)⟩
  have hlt : b1 < W8.heap.size := Zx_14.out.bx.lt
  have Za_15 := hI (Za_8.out.on hn)
  have Zb_16 := hI (Zb_9.out.on hn)
  have Zc_17 := hI (Zc_10.out.on hn)
  have Zd_18 := hI (Zd_11.out.on hn)
  have B_19 := hI (bch B_12.out HRr.out hn)
  have Zx_20 := hI (Zx_14.out.on hn)
  rw [HT14] at hx hlt
  have Zy_21 : Hid (Ba W15 (b1 + 1) gy Ay ny cy xsy) := hI hx
  clear hn hx hW hlt Za_8 Zb_9 Zc_10 Zd_11 B_12 Zx_14 Jy_13
  clear HT14
  refine (zT0 Zc_17.out.sl Zd_18.out.sl Vc.out Vd.out D2.out.1 pt ss D2.out.2.1 D2.out.2.2.1 D2.out.2.2.2).mono ?_
  clear kc0 kc1 lc kd0 kd1 ld
  rintro e w22 ⟨gp, Ap, np, cp, xsp, gs, As, ns, cs, xss, rfl, hs, ho, hs2, ho2, hb⟩
  have Za_22 := hI (Za_15.out.on hb)
  have Zb_23 := hI (Zb_16.out.on hb)
  have Zc_24 := hI (Zc_17.out.on hb)
  have Zd_25 := hI (Zd_18.out.on hb)
  have B_26 := hI (bch B_19.out HRr.out hb)
  have Zx_27 := hI (Zx_20.out.on hb)
  have Zy_28 := hI (Zy_21.out.on hb)
  have Jp_29 : Hid (Sl w22 w22.heap.size Ap np cp xsp) := hI hs
  have Js_30 : Hid (Sl w22 w22.heap.size As ns cs xss) := hI hs2
  clear hb Za_15 Zb_16 Zc_17 Zd_18 B_19 Zx_20 Zy_21 hs hs2
  have Vp := hI ho
  have Vs := hI ho2
  clear ho ho2
  obtain ⟨kx0, kx1⟩ := ((Zx_27.out.on (zA0 w22 (.cells #[.bool gp, .slice Ap np cp] 24))).on (zA0 (w22.alloc (.cells #[.bool gp, .slice Ap np cp] 24)) (.cells #[.bool gs, .slice As ns cs] 24))).cs
  have lx := Zx_27.out.bx.lt
  go_wp2_with fail
  generalize hW : World.alloc w22 _ = W31
  have hn := zA0 w22 (.cells #[.bool gp, .slice Ap np cp] 24)
  rw [hW] at hn
  have hz : W31.heap.size = w22.heap.size + 1 := by rw [<- hW]; simp
  have hx : Ba W31 w22.heap.size gp Ap np cp xsp := by rw [<- hW]; exact ⟨Bx.new w22 _ _ _ _, Jp_29.out.on (zA0 _ _)⟩
  have hlt : (b1 + 1) < w22.heap.size := Zy_28.out.bx.lt
  have Za_31 := hI (Za_22.out.on hn)
  have Zb_32 := hI (Zb_23.out.on hn)
  have Zc_33 := hI (Zc_24.out.on hn)
  have Zd_34 := hI (Zd_25.out.on hn)
  have B_35 := hI (bch B_26.out HRr.out hn)
  have Zx_36 := hI (Zx_27.out.on hn)
  have Zy_37 := hI (Zy_28.out.on hn)
  have Js_38 := hI (Js_30.out.on hn)
  generalize hbb : w22.heap.size = b2 at *
  clear hbb
  have Zp_39 : Hid (Ba W31 b2 gp Ap np cp xsp) := hI hx
  have HT39 := hz
  have O39 := hI hlt
  clear hn hx hz hW hlt Za_22 Zb_23 Zc_24 Zd_25 B_26 Zx_27 Zy_28 Js_30 Jp_29
  generalize hW : World.alloc W31 _ = W40
  have hn := zA0 W31 (.cells #[.bool gs, .slice As ns cs] 24)
  rw [hW] at hn
  have hx : Ba W40 W31.heap.size gs As ns cs xss := by rw [<- hW]; exact ⟨Bx.new W31 _ _ _ _, Js_38.out.on (zA0 _ _)⟩
  have hlt : b2 < W31.heap.size := Zp_39.out.bx.lt
  have Za_40 := hI (Za_31.out.on hn)
  have Zb_41 := hI (Zb_32.out.on hn)
  have Zc_42 := hI (Zc_33.out.on hn)
  have Zd_43 := hI (Zd_34.out.on hn)
  have B_44 := hI (bch B_35.out HRr.out hn)
  have Zx_45 := hI (Zx_36.out.on hn)
  have Zy_46 := hI (Zy_37.out.on hn)
  have Zp_47 := hI (Zp_39.out.on hn)
  rw [HT39] at hx hlt
  have Zs_48 : Hid (Ba W40 (b2 + 1) gs As ns cs xss) := hI hx
  clear hn hx hW hlt Za_31 Zb_32 Zc_33 Zd_34 B_35 Zx_36 Zy_37 Zp_39 Js_38
  obtain ⟨c0, hc⟩ : ∃ c, Int.sign (qt - pt) = c := ⟨_, rfl⟩
  have HC := hI hc
  clear hc
  clear HT39
  refine (rcmp_z Zx_45.out.sl Zp_47.out.sl Vx.out Vp.out _ HC.out).mono ?_
  clear kx0 kx1 lx
  rintro e w49 ⟨rfl, hb⟩
  have Za_49 := hI (Za_40.out.on hb)
  have Zb_50 := hI (Zb_41.out.on hb)
  have Zc_51 := hI (Zc_42.out.on hb)
  have Zd_52 := hI (Zd_43.out.on hb)
  have B_53 := hI (bch B_44.out HRr.out hb)
  have Zx_54 := hI (Zx_45.out.on hb)
  have Zy_55 := hI (Zy_46.out.on hb)
  have Zp_56 := hI (Zp_47.out.on hb)
  have Zs_57 := hI (Zs_48.out.on hb)
  clear hb Za_40 Zb_41 Zc_42 Zd_43 B_44 Zx_45 Zy_46 Zp_47 Zs_48
  by_cases hne : qt = pt
  . have HE := hI hne
    have hc00 : c0 = 0 := by rw [<- HC.out, hne, Int.sub_self]; rfl
    subst hc00
    clear hne
    rcases hz1 : decide (rs = 0) with _ | _ <;> rcases hz2 : decide (ss = 0) with _ | _
    . have HZy : Hid (decide (ny = 0) = false) := hI ((zG5 Zy_55.out.sl Vy.out).trans hz1)
      have HZs : Hid (decide (ns = 0) = false) := hI ((zG5 Zs_57.out.sl Vs.out).trans hz2)
      obtain ⟨ky0, ky1⟩ := Zy_55.out.cs
      have ly := Zy_55.out.bx.lt
      go_wp2_with fail
      have C := zB2 gy Ay ny cy w49
      rw [HZy.out] at C
      refine C.mono ?_
      clear C
      clear ky0 ky1 ly
      rintro e w58 ⟨rfl, hb⟩
      have Za_58 := hI (Za_49.out.on hb)
      have Zb_59 := hI (Zb_50.out.on hb)
      have Zc_60 := hI (Zc_51.out.on hb)
      have Zd_61 := hI (Zd_52.out.on hb)
      have B_62 := hI (bch B_53.out HRr.out hb)
      have Zx_63 := hI (Zx_54.out.on hb)
      have Zy_64 := hI (Zy_55.out.on hb)
      have Zp_65 := hI (Zp_56.out.on hb)
      have Zs_66 := hI (Zs_57.out.on hb)
      clear hb Za_49 Zb_50 Zc_51 Zd_52 B_53 Zx_54 Zy_55 Zp_56 Zs_57
      obtain ⟨ky0, ky1⟩ := Zy_64.out.cs
      have ly := Zy_64.out.bx.lt
      go_wp2_with fail
      have C := zB2 gy Ay ny cy w58
      rw [HZy.out] at C
      refine C.mono ?_
      clear C
      clear ky0 ky1 ly
      rintro e w67 ⟨rfl, hb⟩
      have Za_67 := hI (Za_58.out.on hb)
      have Zb_68 := hI (Zb_59.out.on hb)
      have Zc_69 := hI (Zc_60.out.on hb)
      have Zd_70 := hI (Zd_61.out.on hb)
      have B_71 := hI (bch B_62.out HRr.out hb)
      have Zx_72 := hI (Zx_63.out.on hb)
      have Zy_73 := hI (Zy_64.out.on hb)
      have Zp_74 := hI (Zp_65.out.on hb)
      have Zs_75 := hI (Zs_66.out.on hb)
      clear hb Za_58 Zb_59 Zc_60 Zd_61 B_62 Zx_63 Zy_64 Zp_65 Zs_66
      obtain ⟨ks0, ks1⟩ := Zs_75.out.cs
      have ls := Zs_75.out.bx.lt
      go_wp2_with fail
      have C := zB2 gs As ns cs w67
      rw [HZs.out] at C
      refine C.mono ?_
      clear C
      clear ks0 ks1 ls
      rintro e w76 ⟨rfl, hb⟩
      have Za_76 := hI (Za_67.out.on hb)
      have Zb_77 := hI (Zb_68.out.on hb)
      have Zc_78 := hI (Zc_69.out.on hb)
      have Zd_79 := hI (Zd_70.out.on hb)
      have B_80 := hI (bch B_71.out HRr.out hb)
      have Zx_81 := hI (Zx_72.out.on hb)
      have Zy_82 := hI (Zy_73.out.on hb)
      have Zp_83 := hI (Zp_74.out.on hb)
      have Zs_84 := hI (Zs_75.out.on hb)
      clear hb Za_67 Zb_68 Zc_69 Zd_70 B_71 Zx_72 Zy_73 Zp_74 Zs_75
      have HQ := hI (show 0 < rs /\ 0 < ss from ⟨by have := of_decide_eq_false hz1; have := M.out.1.2.1; omega, by have := of_decide_eq_false hz2; have := M.out.2.2.1; omega⟩)
      go_upto_region 12 with fail
      clear Zx_81 Zp_83
      obtain ⟨ka0, ka1⟩ := Za_76.out.cs
      obtain ⟨fa0, fa1⟩ := Za_76.out.fs
      have la := Za_76.out.bx.lt
      obtain ⟨kb0, kb1⟩ := Zb_77.out.cs
      obtain ⟨fb0, fb1⟩ := Zb_77.out.fs
      have lb := Zb_77.out.bx.lt
      obtain ⟨kc0, kc1⟩ := Zc_78.out.cs
      obtain ⟨fc0, fc1⟩ := Zc_78.out.fs
      have lc := Zc_78.out.bx.lt
      obtain ⟨kd0, kd1⟩ := Zd_79.out.cs
      obtain ⟨fd0, fd1⟩ := Zd_79.out.fs
      have ld := Zd_79.out.bx.lt
      obtain ⟨ky0, ky1⟩ := Zy_82.out.cs
      have ly := Zy_82.out.bx.lt
      obtain ⟨ks0, ks1⟩ := Zs_84.out.cs
      have ls := Zs_84.out.bx.lt
      have nab : r ≠ (r + 1) := by omega
      have nba := nab.symm
      have nac : r ≠ (r + 1 + 1) := by omega
      have nca := nac.symm
      have nad : r ≠ (r + 1 + 1 + 1) := by omega
      have nda := nad.symm
      have nay : r ≠ (b1 + 1) := by have := O14.out; omega
      have nya := nay.symm
      have nas : r ≠ (b2 + 1) := by have := O14.out; have := O39.out; omega
      have nsa := nas.symm
      have nbc : (r + 1) ≠ (r + 1 + 1) := by omega
      have ncb := nbc.symm
      have nbd : (r + 1) ≠ (r + 1 + 1 + 1) := by omega
      have ndb := nbd.symm
      have nby : (r + 1) ≠ (b1 + 1) := by have := O14.out; omega
      have nyb := nby.symm
      have mby : r ≠ b1 := by have := O14.out; omega
      have myb := mby.symm
      have nbs : (r + 1) ≠ (b2 + 1) := by have := O14.out; have := O39.out; omega
      have nsb := nbs.symm
      have mbs : r ≠ b2 := by have := O14.out; have := O39.out; omega
      have msb := mbs.symm
      have ncd : (r + 1 + 1) ≠ (r + 1 + 1 + 1) := by omega
      have ndc := ncd.symm
      have ncy : (r + 1 + 1) ≠ (b1 + 1) := by have := O14.out; omega
      have nyc := ncy.symm
      have mcy : r + 1 ≠ b1 := by have := O14.out; omega
      have myc := mcy.symm
      have ncs : (r + 1 + 1) ≠ (b2 + 1) := by have := O14.out; have := O39.out; omega
      have nsc := ncs.symm
      have mcs : r + 1 ≠ b2 := by have := O14.out; have := O39.out; omega
      have msc := mcs.symm
      have ndy : (r + 1 + 1 + 1) ≠ (b1 + 1) := by have := O14.out; omega
      have nyd := ndy.symm
      have mdy : r + 1 + 1 ≠ b1 := by have := O14.out; omega
      have myd := mdy.symm
      have nds : (r + 1 + 1 + 1) ≠ (b2 + 1) := by have := O14.out; have := O39.out; omega
      have nsd := nds.symm
      have mds : r + 1 + 1 ≠ b2 := by have := O14.out; have := O39.out; omega
      have msd := mds.symm
      have nys : (b1 + 1) ≠ (b2 + 1) := by have := O39.out; omega
      have nsy := nys.symm
      have mys : b1 ≠ b2 := by have := O39.out; omega
      have msy := mys.symm
      have hC : ∀ (i j : Nat) (w' : World), i <= j -> ((i = 0 -> w'.cell? ⟨(r + 1 + 1 + 1), 0, none⟩ = some (.bool qb.gd) /\ w'.cell? ⟨(r + 1 + 1 + 1), 1, none⟩ = some (.slice qb.Ad qb.nd qb.cd) /\ w'.cell? ⟨(r + 1), 0, none⟩ = some (.bool qa.gd) /\ w'.cell? ⟨(r + 1), 1, none⟩ = some (.slice qa.Ad qa.nd qa.cd)) /\ (i <= 1 -> w'.cell? ⟨(b2 + 1), 0, none⟩ = some (.bool gs) /\ w'.cell? ⟨(b2 + 1), 1, none⟩ = some (.slice As ns cs)) /\ (i <= 3 -> w'.cell? ⟨(b1 + 1), 0, none⟩ = some (.bool gy) /\ w'.cell? ⟨(b1 + 1), 1, none⟩ = some (.slice Ay ny cy))) -> ((j = 0 -> w'.cell? ⟨(r + 1 + 1 + 1), 0, none⟩ = some (.bool qb.gd) /\ w'.cell? ⟨(r + 1 + 1 + 1), 1, none⟩ = some (.slice qb.Ad qb.nd qb.cd) /\ w'.cell? ⟨(r + 1), 0, none⟩ = some (.bool qa.gd) /\ w'.cell? ⟨(r + 1), 1, none⟩ = some (.slice qa.Ad qa.nd qa.cd)) /\ (j <= 1 -> w'.cell? ⟨(b2 + 1), 0, none⟩ = some (.bool gs) /\ w'.cell? ⟨(b2 + 1), 1, none⟩ = some (.slice As ns cs)) /\ (j <= 3 -> w'.cell? ⟨(b1 + 1), 0, none⟩ = some (.bool gy) /\ w'.cell? ⟨(b1 + 1), 1, none⟩ = some (.slice Ay ny cy))) := fun i j w' hij h => ⟨fun e => h.1 (by omega), fun e => h.2.1 (by omega), fun e => h.2.2 (by omega)⟩
      have hS : (fun w' : World => (w'.cell? ⟨(r + 1 + 1 + 1), 0, none⟩ = some (.bool qb.gd) /\ w'.cell? ⟨(r + 1 + 1 + 1), 1, none⟩ = some (.slice qb.Ad qb.nd qb.cd) /\ w'.cell? ⟨(r + 1), 0, none⟩ = some (.bool qa.gd) /\ w'.cell? ⟨(r + 1), 1, none⟩ = some (.slice qa.Ad qa.nd qa.cd)) /\ (w'.cell? ⟨(b2 + 1), 0, none⟩ = some (.bool gs) /\ w'.cell? ⟨(b2 + 1), 1, none⟩ = some (.slice As ns cs)) /\ w'.cell? ⟨(b1 + 1), 0, none⟩ = some (.bool gy) /\ w'.cell? ⟨(b1 + 1), 1, none⟩ = some (.slice Ay ny cy)) w76 := ⟨⟨kd0, kd1, kb0, kb1⟩, ⟨ks0, ks1⟩, ky0, ky1⟩
      refine zH5 (fun j w' => (j = 0 -> w'.cell? ⟨(r + 1 + 1 + 1), 0, none⟩ = some (.bool qb.gd) /\ w'.cell? ⟨(r + 1 + 1 + 1), 1, none⟩ = some (.slice qb.Ad qb.nd qb.cd) /\ w'.cell? ⟨(r + 1), 0, none⟩ = some (.bool qa.gd) /\ w'.cell? ⟨(r + 1), 1, none⟩ = some (.slice qa.Ad qa.nd qa.cd)) /\ (j <= 1 -> w'.cell? ⟨(b2 + 1), 0, none⟩ = some (.bool gs) /\ w'.cell? ⟨(b2 + 1), 1, none⟩ = some (.slice As ns cs)) /\ (j <= 3 -> w'.cell? ⟨(b1 + 1), 0, none⟩ = some (.bool gy) /\ w'.cell? ⟨(b1 + 1), 1, none⟩ = some (.slice Ay ny cy))) (fun j => match j with | 0 => 0 | 2 => 0 | 1 => 1 | 4 => 1 | 5 => 2 | 3 => 3 | 6 => 3 | _ => 4) (by kernel_rfl) ?_
      have hS : (fun w' : World => (w'.cell? ⟨(r + 1 + 1 + 1), 0, none⟩ = some (.bool qb.gd) /\ w'.cell? ⟨(r + 1 + 1 + 1), 1, none⟩ = some (.slice qb.Ad qb.nd qb.cd) /\ w'.cell? ⟨(r + 1), 0, none⟩ = some (.bool qa.gd) /\ w'.cell? ⟨(r + 1), 1, none⟩ = some (.slice qa.Ad qa.nd qa.cd)) /\ (w'.cell? ⟨(b2 + 1), 0, none⟩ = some (.bool gs) /\ w'.cell? ⟨(b2 + 1), 1, none⟩ = some (.slice As ns cs)) /\ w'.cell? ⟨(b1 + 1), 0, none⟩ = some (.bool gy) /\ w'.cell? ⟨(b1 + 1), 1, none⟩ = some (.slice Ay ny cy)) w76.drew := by go_keep
      try dsimp only at hS
      refine zA7 hC 3 (v := .agg #[.bool gy, .slice Ay ny cy]) rfl (by kernel_rfl) (by kernel_rfl) (by kernel_rfl) (by kernel_rfl) (fun _ _ _ h => h) (Or.inl ⟨by rfl, by (intro w' hSw; obtain ⟨fx0, fx1⟩ := hSw.2.2 (by decide); go_simp)⟩) ⟨fun _ => hS.1, fun _ => hS.2.1, fun _ => hS.2.2⟩ ?_
      try simp only [Act.put, List.setIfInBounds_toArray, List.set_cons_zero, List.set_cons_succ]
      refine zA7 hC 1 (v := .agg #[.bool gs, .slice As ns cs]) rfl (by kernel_rfl) (by kernel_rfl) (by kernel_rfl) (by kernel_rfl) (fun _ _ _ h => h) (Or.inl ⟨by rfl, by (intro w' hSw; obtain ⟨fx0, fx1⟩ := hSw.2.1 (by decide); go_simp)⟩) ⟨fun _ => hS.1, fun _ => hS.2.1, fun _ => hS.2.2⟩ ?_
      try simp only [Act.put, List.setIfInBounds_toArray, List.set_cons_zero, List.set_cons_succ]
      refine zA7 hC 0 (v := .agg #[.bool qb.gd, .slice qb.Ad qb.nd qb.cd]) rfl (by kernel_rfl) (by kernel_rfl) (by kernel_rfl) (by kernel_rfl) (fun _ _ _ h => h) (Or.inl ⟨by rfl, by (intro w' hSw; obtain ⟨fx0, fx1, fx2, fx3⟩ := hSw.1 rfl; go_simp)⟩) ⟨fun _ => hS.1, fun _ => hS.2.1, fun _ => hS.2.2⟩ ?_
      try simp only [Act.put, List.setIfInBounds_toArray, List.set_cons_zero, List.set_cons_succ]
      refine zA7 hC 2 (v := .agg #[.bool qa.gd, .slice qa.Ad qa.nd qa.cd]) rfl (by kernel_rfl) (by kernel_rfl) (by kernel_rfl) (by kernel_rfl) (fun _ _ _ h => h) (Or.inl ⟨by rfl, by (intro w' hSw; obtain ⟨fx0, fx1, fx2, fx3⟩ := hSw.1 rfl; go_simp)⟩) ⟨fun _ => hS.1, fun _ => hS.2.1, fun _ => hS.2.2⟩ ?_
      try simp only [Act.put, List.setIfInBounds_toArray, List.set_cons_zero, List.set_cons_succ]
      clear hS
      refine zC9 4 (by kernel_rfl) rfl (fun KK hKK => ?_)
      go_simp
      refine hKK.out _ _ ⟨fun e => absurd e (by decide), fun _ => (by go_keep), fun _ => (by go_keep)⟩ ?_
      clear hKK KK
      try simp only [Act.put, List.setIfInBounds_toArray, List.set_cons_zero, List.set_cons_succ]
      refine zC9 5 (by kernel_rfl) rfl (fun KK hKK => ?_)
      go_simp
      refine hKK.out _ _ ⟨fun e => absurd e (by decide), fun e => absurd e (by decide), fun _ => (by go_keep)⟩ ?_
      clear hKK KK
      try simp only [Act.put, List.setIfInBounds_toArray, List.set_cons_zero, List.set_cons_succ]
      refine zC9 6 (by kernel_rfl) rfl (fun KK hKK => ?_)
      go_simp
      refine hKK.out _ _ ⟨fun e => absurd e (by decide), fun e => absurd e (by decide), fun _ => (by go_keep)⟩ ?_
      clear hKK KK
      try simp only [Act.put, List.setIfInBounds_toArray, List.set_cons_zero, List.set_cons_succ]
      refine zC9 7 (by kernel_rfl) rfl (fun KK hKK => ?_)
      go_simp
      refine hKK.out _ _ ⟨fun e => absurd e (by decide), fun e => absurd e (by decide), fun e => absurd e (by decide)⟩ ?_
      clear hKK KK
      try simp only [Act.put, List.setIfInBounds_toArray, List.set_cons_zero, List.set_cons_succ]
      refine zJ3 (by kernel_rfl) ?_ _
      go_wp2_with fail
      clear ka0 ka1 fa0 fa1 la kb0 kb1 fb0 fb1 lb kc0 kc1 fc0 fc1 lc kd0 kd1 fd0 fd1 ld ky0 ky1 ly ks0 ks1 ls nab nba nac nca nad nda nay nya nas nsa nbc ncb nbd ndb nby nyb mby myb nbs nsb mbs msb ncd ndc ncy nyc mcy myc ncs nsc mcs msc ndy nyd mdy myd nds nsd mds msd nys nsy mys msy
      have Jf1_0 : Hid (Sl w76 w76.heap.size qb.Ad qb.nd qb.cd qb.ys) := hI Zd_79.out.sl
      have Jf2_0 : Hid (Sl w76 w76.heap.size As ns cs xss) := hI Zs_84.out.sl
      have Jf3_0 : Hid (Sl w76 w76.heap.size qa.Ad qa.nd qa.cd qa.ys) := hI Zb_77.out.sl
      have Jf4_0 : Hid (Sl w76 w76.heap.size Ay ny cy xsy) := hI Zy_82.out.sl
      clear Zy_82 Zs_84
      generalize hW : World.setCell (World.setCell w76 _ _) _ _ = W85
      have Za_85 : Hid (Ba W85 r qb.gd qb.Ad qb.nd qb.cd qb.ys) := by rw [<- hW]; exact hI (Za_76.out.stored Jf1_0.out _)
      have Zb_86 : Hid (Ba W85 (r + 1) qa.gd qa.Ad qa.nd qa.cd qa.ys) := by rw [<- hW]; exact hI (Zb_77.out.aside Za_76.out (by omega) _ _)
      have Zc_87 : Hid (Ba W85 (r + 1 + 1) qb.g qb.A qb.n qb.c qb.xs) := by rw [<- hW]; exact hI (Zc_78.out.aside Za_76.out (by omega) _ _)
      have Zd_88 : Hid (Ba W85 (r + 1 + 1 + 1) qb.gd qb.Ad qb.nd qb.cd qb.ys) := by rw [<- hW]; exact hI (Zd_79.out.aside Za_76.out (by omega) _ _)
      have B_89 : Hid (Below r w W85) := by rw [<- hW]; exact hI (zA1 B_80.out (by omega) _ _)
      have Jf2_90 : Hid (Sl W85 W85.heap.size As ns cs xss) := by rw [<- hW]; exact hI (Jf2_0.out.ret Za_76.out.bx _ _)
      have Jf3_91 : Hid (Sl W85 W85.heap.size qa.Ad qa.nd qa.cd qa.ys) := by rw [<- hW]; exact hI (Jf3_0.out.ret Za_76.out.bx _ _)
      have Jf4_92 : Hid (Sl W85 W85.heap.size Ay ny cy xsy) := by rw [<- hW]; exact hI (Jf4_0.out.ret Za_76.out.bx _ _)
      clear hW Za_76 Zb_77 Zc_78 Zd_79 B_80 Jf2_0 Jf3_0 Jf4_0 Jf1_0
      generalize hW : World.setCell (World.setCell W85 _ _) _ _ = W93
      have Za_93 : Hid (Ba W93 r qb.gd qb.Ad qb.nd qb.cd qb.ys) := by rw [<- hW]; exact hI (Za_85.out.aside Zb_86.out (by omega) _ _)
      have Zb_94 : Hid (Ba W93 (r + 1) gs As ns cs xss) := by rw [<- hW]; exact hI (Zb_86.out.stored Jf2_90.out _)
      have Zc_95 : Hid (Ba W93 (r + 1 + 1) qb.g qb.A qb.n qb.c qb.xs) := by rw [<- hW]; exact hI (Zc_87.out.aside Zb_86.out (by omega) _ _)
      have Zd_96 : Hid (Ba W93 (r + 1 + 1 + 1) qb.gd qb.Ad qb.nd qb.cd qb.ys) := by rw [<- hW]; exact hI (Zd_88.out.aside Zb_86.out (by omega) _ _)
      have B_97 : Hid (Below r w W93) := by rw [<- hW]; exact hI (zA1 B_89.out (by omega) _ _)
      have Jf3_98 : Hid (Sl W93 W93.heap.size qa.Ad qa.nd qa.cd qa.ys) := by rw [<- hW]; exact hI (Jf3_91.out.ret Zb_86.out.bx _ _)
      have Jf4_99 : Hid (Sl W93 W93.heap.size Ay ny cy xsy) := by rw [<- hW]; exact hI (Jf4_92.out.ret Zb_86.out.bx _ _)
      clear hW Za_85 Zb_86 Zc_87 Zd_88 B_89 Jf3_91 Jf4_92 Jf2_90
      generalize hW : World.setCell (World.setCell W93 _ _) _ _ = W100
      have Za_100 : Hid (Ba W100 r qb.gd qb.Ad qb.nd qb.cd qb.ys) := by rw [<- hW]; exact hI (Za_93.out.aside Zc_95.out (by omega) _ _)
      have Zb_101 : Hid (Ba W100 (r + 1) gs As ns cs xss) := by rw [<- hW]; exact hI (Zb_94.out.aside Zc_95.out (by omega) _ _)
      have Zc_102 : Hid (Ba W100 (r + 1 + 1) qa.gd qa.Ad qa.nd qa.cd qa.ys) := by rw [<- hW]; exact hI (Zc_95.out.stored Jf3_98.out _)
      have Zd_103 : Hid (Ba W100 (r + 1 + 1 + 1) qb.gd qb.Ad qb.nd qb.cd qb.ys) := by rw [<- hW]; exact hI (Zd_96.out.aside Zc_95.out (by omega) _ _)
      have B_104 : Hid (Below r w W100) := by rw [<- hW]; exact hI (zA1 B_97.out (by omega) _ _)
      have Jf4_105 : Hid (Sl W100 W100.heap.size Ay ny cy xsy) := by rw [<- hW]; exact hI (Jf4_99.out.ret Zc_95.out.bx _ _)
      clear hW Za_93 Zb_94 Zc_95 Zd_96 B_97 Jf4_99 Jf3_98
      generalize hW : World.setCell (World.setCell W100 _ _) _ _ = W106
      have Za_106 : Hid (Ba W106 r qb.gd qb.Ad qb.nd qb.cd qb.ys) := by rw [<- hW]; exact hI (Za_100.out.aside Zd_103.out (by omega) _ _)
      have Zb_107 : Hid (Ba W106 (r + 1) gs As ns cs xss) := by rw [<- hW]; exact hI (Zb_101.out.aside Zd_103.out (by omega) _ _)
      have Zc_108 : Hid (Ba W106 (r + 1 + 1) qa.gd qa.Ad qa.nd qa.cd qa.ys) := by rw [<- hW]; exact hI (Zc_102.out.aside Zd_103.out (by omega) _ _)
      have Zd_109 : Hid (Ba W106 (r + 1 + 1 + 1) gy Ay ny cy xsy) := by rw [<- hW]; exact hI (Zd_103.out.stored Jf4_105.out _)
      have B_110 : Hid (Below r w W106) := by rw [<- hW]; exact hI (zA1 B_104.out (by omega) _ _)
      clear hW Za_100 Zb_101 Zc_102 Zd_103 B_104 Jf4_105
      generalize hWd : World.drew W106 = W10
      have Y3 : Hid (RcW w r u f ss d rs (⟨qb.gd, qb.Ad, qb.nd, qb.cd, qb.ys, gs, As, ns, cs, xss⟩ : RVal) (⟨qa.gd, qa.Ad, qa.nd, qa.cd, qa.ys, gy, Ay, ny, cy, xsy⟩ : RVal) W10) := by rw [<- hWd]; exact hI ⟨Za_106.out.drewZ, Zb_107.out.drewZ, Zc_108.out.drewZ, Zd_109.out.drewZ, B_110.out.drew, Vd.out, Vs.out, Vb.out, Vy.out, HQ.out.2, HQ.out.1, zQ6 M.out.1.1 M.out.2.1 HP.out.2.2 HE.out⟩
      clear hWd hC Za_106 Zb_107 Zc_108 Zd_109 B_110
      go_roundg (ss + rs).toNat
      case measure => have a1 := HK.out; have a2 := M.out.1.2.2; have a3 := M.out.2.2.2; have a4 := M.out.1.2.1; have a5 := M.out.2.2.1; omega
      case rel => exact ⟨_, _, _, _, _, _, _, rfl, rfl, Y3⟩
    . have HZy : Hid (decide (ny = 0) = false) := hI ((zG5 Zy_55.out.sl Vy.out).trans hz1)
      have HZs : Hid (decide (ns = 0) = true) := hI ((zG5 Zs_57.out.sl Vs.out).trans hz2)
      obtain ⟨ky0, ky1⟩ := Zy_55.out.cs
      have ly := Zy_55.out.bx.lt
      go_wp2_with fail
      have C := zB2 gy Ay ny cy w49
      rw [HZy.out] at C
      refine C.mono ?_
      clear C
      clear ky0 ky1 ly
      rintro e w58 ⟨rfl, hb⟩
      have Za_58 := hI (Za_49.out.on hb)
      have Zb_59 := hI (Zb_50.out.on hb)
      have Zc_60 := hI (Zc_51.out.on hb)
      have Zd_61 := hI (Zd_52.out.on hb)
      have B_62 := hI (bch B_53.out HRr.out hb)
      have Zx_63 := hI (Zx_54.out.on hb)
      have Zy_64 := hI (Zy_55.out.on hb)
      have Zp_65 := hI (Zp_56.out.on hb)
      have Zs_66 := hI (Zs_57.out.on hb)
      clear hb Za_49 Zb_50 Zc_51 Zd_52 B_53 Zx_54 Zy_55 Zp_56 Zs_57
      obtain ⟨ky0, ky1⟩ := Zy_64.out.cs
      have ly := Zy_64.out.bx.lt
      go_wp2_with fail
      have C := zB2 gy Ay ny cy w58
      rw [HZy.out] at C
      refine C.mono ?_
      clear C
      clear ky0 ky1 ly
      rintro e w67 ⟨rfl, hb⟩
      have Za_67 := hI (Za_58.out.on hb)
      have Zb_68 := hI (Zb_59.out.on hb)
      have Zc_69 := hI (Zc_60.out.on hb)
      have Zd_70 := hI (Zd_61.out.on hb)
      have B_71 := hI (bch B_62.out HRr.out hb)
      have Zx_72 := hI (Zx_63.out.on hb)
      have Zy_73 := hI (Zy_64.out.on hb)
      have Zp_74 := hI (Zp_65.out.on hb)
      have Zs_75 := hI (Zs_66.out.on hb)
      clear hb Za_58 Zb_59 Zc_60 Zd_61 B_62 Zx_63 Zy_64 Zp_65 Zs_66
      obtain ⟨ks0, ks1⟩ := Zs_75.out.cs
      have ls := Zs_75.out.bx.lt
      go_wp2_with fail
      have C := zB2 gs As ns cs w67
      rw [HZs.out] at C
      refine C.mono ?_
      clear C
      clear ks0 ks1 ls
      rintro e w76 ⟨rfl, hb⟩
      have Za_76 := hI (Za_67.out.on hb)
      have Zb_77 := hI (Zb_68.out.on hb)
      have Zc_78 := hI (Zc_69.out.on hb)
      have Zd_79 := hI (Zd_70.out.on hb)
      have B_80 := hI (bch B_71.out HRr.out hb)
      have Zx_81 := hI (Zx_72.out.on hb)
      have Zy_82 := hI (Zy_73.out.on hb)
      have Zp_83 := hI (Zp_74.out.on hb)
      have Zs_84 := hI (Zs_75.out.on hb)
      clear hb Za_67 Zb_68 Zc_69 Zd_70 B_71 Zx_72 Zy_73 Zp_74 Zs_75
      have HU := hI (show (1 : Int) = u from by
       have k := cl_end HP.out.1 HP.out.2.1 M.out.1.2.1 M.out.2.2.1 (zQ6 M.out.1.1 M.out.2.1 HP.out.2.2 HE.out) (Or.inr (of_decide_eq_true hz2))
       have m1 := M.out.1.2.1
       have m2 := M.out.2.2.1
       have e1 := of_decide_eq_false hz1
       have e2 := of_decide_eq_true hz2
       rw [<- k]
       exact (Int.sign_eq_one_of_pos (by omega)).symm)
      go_wp2
      go_ret
      exact ⟨by have h := HU.out; subst h; rfl, by rw [HRr.out]; exact B_80.out⟩
    . have HZy : Hid (decide (ny = 0) = true) := hI ((zG5 Zy_55.out.sl Vy.out).trans hz1)
      have HZs : Hid (decide (ns = 0) = false) := hI ((zG5 Zs_57.out.sl Vs.out).trans hz2)
      obtain ⟨ky0, ky1⟩ := Zy_55.out.cs
      have ly := Zy_55.out.bx.lt
      go_wp2_with fail
      have C := zB2 gy Ay ny cy w49
      rw [HZy.out] at C
      refine C.mono ?_
      clear C
      clear ky0 ky1 ly
      rintro e w58 ⟨rfl, hb⟩
      have Za_58 := hI (Za_49.out.on hb)
      have Zb_59 := hI (Zb_50.out.on hb)
      have Zc_60 := hI (Zc_51.out.on hb)
      have Zd_61 := hI (Zd_52.out.on hb)
      have B_62 := hI (bch B_53.out HRr.out hb)
      have Zx_63 := hI (Zx_54.out.on hb)
      have Zy_64 := hI (Zy_55.out.on hb)
      have Zp_65 := hI (Zp_56.out.on hb)
      have Zs_66 := hI (Zs_57.out.on hb)
      clear hb Za_49 Zb_50 Zc_51 Zd_52 B_53 Zx_54 Zy_55 Zp_56 Zs_57
      obtain ⟨ks0, ks1⟩ := Zs_66.out.cs
      have ls := Zs_66.out.bx.lt
      go_wp2_with fail
      have C := zB2 gs As ns cs w58
      rw [HZs.out] at C
      refine C.mono ?_
      clear C
      clear ks0 ks1 ls
      rintro e w67 ⟨rfl, hb⟩
      have Za_67 := hI (Za_58.out.on hb)
      have Zb_68 := hI (Zb_59.out.on hb)
      have Zc_69 := hI (Zc_60.out.on hb)
      have Zd_70 := hI (Zd_61.out.on hb)
      have B_71 := hI (bch B_62.out HRr.out hb)
      have Zx_72 := hI (Zx_63.out.on hb)
      have Zy_73 := hI (Zy_64.out.on hb)
      have Zp_74 := hI (Zp_65.out.on hb)
      have Zs_75 := hI (Zs_66.out.on hb)
      clear hb Za_58 Zb_59 Zc_60 Zd_61 B_62 Zx_63 Zy_64 Zp_65 Zs_66
      obtain ⟨ky0, ky1⟩ := Zy_73.out.cs
      have ly := Zy_73.out.bx.lt
      go_wp2_with fail
      have C := zB2 gy Ay ny cy w67
      rw [HZy.out] at C
      refine C.mono ?_
      clear C
      clear ky0 ky1 ly
      rintro e w76 ⟨rfl, hb⟩
      have Za_76 := hI (Za_67.out.on hb)
      have Zb_77 := hI (Zb_68.out.on hb)
      have Zc_78 := hI (Zc_69.out.on hb)
      have Zd_79 := hI (Zd_70.out.on hb)
      have B_80 := hI (bch B_71.out HRr.out hb)
      have Zx_81 := hI (Zx_72.out.on hb)
      have Zy_82 := hI (Zy_73.out.on hb)
      have Zp_83 := hI (Zp_74.out.on hb)
      have Zs_84 := hI (Zs_75.out.on hb)
      clear hb Za_67 Zb_68 Zc_69 Zd_70 B_71 Zx_72 Zy_73 Zp_74 Zs_75
      have HU := hI (show (-1 : Int) = u from by
       have k := cl_end HP.out.1 HP.out.2.1 M.out.1.2.1 M.out.2.2.1 (zQ6 M.out.1.1 M.out.2.1 HP.out.2.2 HE.out) (Or.inl (of_decide_eq_true hz1))
       have m1 := M.out.1.2.1
       have m2 := M.out.2.2.1
       have e1 := of_decide_eq_true hz1
       have e2 := of_decide_eq_false hz2
       rw [<- k]
       exact (Int.sign_eq_neg_one_of_neg (by omega)).symm)
      go_wp2
      go_ret
      exact ⟨by have h := HU.out; subst h; rfl, by rw [HRr.out]; exact B_80.out⟩
    . have HZy : Hid (decide (ny = 0) = true) := hI ((zG5 Zy_55.out.sl Vy.out).trans hz1)
      have HZs : Hid (decide (ns = 0) = true) := hI ((zG5 Zs_57.out.sl Vs.out).trans hz2)
      obtain ⟨ky0, ky1⟩ := Zy_55.out.cs
      have ly := Zy_55.out.bx.lt
      go_wp2_with fail
      have C := zB2 gy Ay ny cy w49
      rw [HZy.out] at C
      refine C.mono ?_
      clear C
      clear ky0 ky1 ly
      rintro e w58 ⟨rfl, hb⟩
      have Za_58 := hI (Za_49.out.on hb)
      have Zb_59 := hI (Zb_50.out.on hb)
      have Zc_60 := hI (Zc_51.out.on hb)
      have Zd_61 := hI (Zd_52.out.on hb)
      have B_62 := hI (bch B_53.out HRr.out hb)
      have Zx_63 := hI (Zx_54.out.on hb)
      have Zy_64 := hI (Zy_55.out.on hb)
      have Zp_65 := hI (Zp_56.out.on hb)
      have Zs_66 := hI (Zs_57.out.on hb)
      clear hb Za_49 Zb_50 Zc_51 Zd_52 B_53 Zx_54 Zy_55 Zp_56 Zs_57
      obtain ⟨ks0, ks1⟩ := Zs_66.out.cs
      have ls := Zs_66.out.bx.lt
      go_wp2_with fail
      have C := zB2 gs As ns cs w58
      rw [HZs.out] at C
      refine C.mono ?_
      clear C
      clear ks0 ks1 ls
      rintro e w67 ⟨rfl, hb⟩
      have Za_67 := hI (Za_58.out.on hb)
      have Zb_68 := hI (Zb_59.out.on hb)
      have Zc_69 := hI (Zc_60.out.on hb)
      have Zd_70 := hI (Zd_61.out.on hb)
      have B_71 := hI (bch B_62.out HRr.out hb)
      have Zx_72 := hI (Zx_63.out.on hb)
      have Zy_73 := hI (Zy_64.out.on hb)
      have Zp_74 := hI (Zp_65.out.on hb)
      have Zs_75 := hI (Zs_66.out.on hb)
      clear hb Za_58 Zb_59 Zc_60 Zd_61 B_62 Zx_63 Zy_64 Zp_65 Zs_66
      have HU := hI (show (0 : Int) = u from by
       have k := cl_end HP.out.1 HP.out.2.1 M.out.1.2.1 M.out.2.2.1 (zQ6 M.out.1.1 M.out.2.1 HP.out.2.2 HE.out) (Or.inl (of_decide_eq_true hz1))
       have m1 := M.out.1.2.1
       have m2 := M.out.2.2.1
       have e1 := of_decide_eq_true hz1
       have e2 := of_decide_eq_true hz2
       rw [<- k]
       rw [e1, e2]; rfl)
      go_wp2
      go_ret
      exact ⟨by have h := HU.out; subst h; rfl, by rw [HRr.out]; exact B_71.out⟩
  . have HU := hI (cl_differ M.out.1.1 M.out.2.1 M.out.1.2.1 M.out.1.2.2 M.out.2.2.1 M.out.2.2.2 HP.out.2.2 hne)
    have hcu : c0 = u := HC.out.symm.trans HU.out
    have hc0 : (c0 != 0) = true := by
     rw [bne_iff_ne, <- HC.out]
     intro k
     have := Int.sign_eq_zero_iff_zero.1 k
     omega
    go_wp2
    go_ret
    exact ⟨rfl, by rw [HRr.out]; exact B_53.out⟩
end Go.Proofs.YtphinlongdoedaaGreat
