/-
  Stage 3: UnipolyEvaluates.
-/
import Derived.Test.YtjbnclfbkccieaaGreatDoorBehind2
import Derived.Test.YtjbnclfbkccieaaGreatDoorLwB
import Derived.Test.YtjbnclfbkccieaaGreatDoorPolCf
namespace Go.Proofs.YtjbnclfbkccieaaGreatDoor
open Go.RowKit
set_option linter.unusedSimpArgs false in
set_option linter.unusedVariables false in
set_option maxRecDepth 20000 in
set_option maxHeartbeats 4000000 in
theorem unipolyEvaluates_any (Bp : Option Addr) (mp dp : Nat) (zp : List Int) (Bq : Option Addr) (mq dq : Nat) (zq : List Int) (zn zd : Int) (w : World) (ip : ISl w Bp mp dp zp) (iq : ISl w Bq mq dq zq) (hn1 : -9223372036854775808 ≤ zn) (hn2 : zn ≤ 9223372036854775807) (hd1 : -9223372036854775808 ≤ zd) (hd2 : zd ≤ 9223372036854775807) : Calls Tryz.prog 9 #[.slice Bp mp dp, .slice Bq mq dq, .int .i64 zn, .int .i64 zd] w (Yes w) := by
  have M0 := hI (Lm.nil w)
  obtain ⟨p, hp⟩ : ∃ p, polyL zp 5 = p := ⟨_, rfl⟩
  obtain ⟨q, hq⟩ : ∃ q, polyL zq 5 = q := ⟨_, rfl⟩
  obtain ⟨kn, hkn⟩ : ∃ k : Int, pk zn 61 = k := ⟨_, rfl⟩
  obtain ⟨kd, hkd⟩ : ∃ k : Int, pk zd 12 = k := ⟨_, rfl⟩
  have n1 : 0 ≤ kn := by rw [← hkn]; exact pk_lo zn (by decide)
  have n2 : kn < 61 := by rw [← hkn]; exact pk_hi zn (by decide)
  have d1 : 0 ≤ kd := by rw [← hkd]; exact pk_lo zd (by decide)
  have d2 : kd < 12 := by rw [← hkd]; exact pk_hi zd (by decide)
  have HV := hI (ev_v (p := p) (q := q) (k := kn - 30) (d := 1 + kd) (hp ▸ kn_poly zp 5) (hq ▸ kn_poly zq 5) (by omega) (by omega) (by omega))
  have HKN := hI hkn
  have HKD := hI hkd
  have HB1 := hI (And.intro hn1 hn2)
  have HB2 := hI (And.intro hd1 hd2)
  have HMK := hI (mk_ok (s := kn - 30) (d := 1 + kd) (by omega))
  have Ep := hI hp
  have Ip := hI ip
  have Eq := hI hq
  have Iq := hI iq
  clear hp hq ip iq hkn hkd hn1 hn2 hd1 hd2
  go_enter Tryz.func9, Tryz.ntmps9
  go_wp2_with fail
  refine (sane_any w).mono ?_
  rintro e w1 ⟨rfl, hb⟩
  have M2 := hI (M0.out.on hb)
  clear M0 hb
  go_wp2_with fail
  have C := poly_any Bp mp dp zp 5 w1 (Ip.out.on M2.out.bel) (by decide)
  rw [Ep.out] at C
  refine C.mono ?_
  clear C
  rintro e w3 ⟨Ap, np, cp, rfl, hp, hb⟩
  have M3 := hI ((M2.out.on hb).add (x := .p Ap np cp p) ⟨hp, HV.out.kp.ok (by decide)⟩)
  clear M2 hp hb
  go_wp2_with fail
  have C := poly_any Bq mq dq zq 5 w3 (Iq.out.on M3.out.bel) (by decide)
  rw [Eq.out] at C
  refine C.mono ?_
  clear C
  rintro e w4 ⟨Aq, nq, cq, rfl, hp, hb⟩
  have M4 := hI ((M3.out.on hb).add (x := .p Aq nq cq q) ⟨hp, HV.out.kq.ok (by decide)⟩)
  clear M3 hp hb
  go_wp2_with fail
  have C := pick_any zn 61 w4 HB1.out.1 HB1.out.2 (by decide) (by decide)
  rw [HKN.out] at C
  refine C.mono ?_
  clear C
  rintro e w5 ⟨rfl, rfl⟩
  go_wp2_with fail
  have C := pick_any zd 12 w4 HB2.out.1 HB2.out.2 (by decide) (by decide)
  rw [HKD.out] at C
  refine C.mono ?_
  clear C
  rintro e w6 ⟨rfl, rfl⟩
  go_wp2_with fail
  have C := ratOf_any (kn - 30) (1 + kd) w4 (by omega) (by omega) (by omega) (by omega)
  rw [HMK.out.1, HMK.out.2.1, HMK.out.2.2] at C
  refine C.mono ?_
  clear C
  rintro e w7 ⟨qx, rfl, hq, ho, hod, hb⟩
  have hv : qx.v = some (Rat.divInt (kn - 30) (1 + kd)) := by unfold RVal.v; rw [ho, hod]; exact rv_of _
  clear ho hod
  have M8 := hI (M4.out.on hb)
  clear M4 hb
  have hn := below_new w7 (.cells #[.bool qx.g, .slice qx.A qx.n qx.c, .bool qx.gd, .slice qx.Ad qx.nd qx.cd] 27)
  have M9 := hI ((M8.out.on hn).add (x := .b w7.heap.size qx (Rat.divInt (kn - 30) (1 + kd))) ⟨((Mem.nil w7).newBox hq _ rfl).box 0 rfl, hv⟩)
  clear hn M8 hq hv
  obtain ⟨cx0, cx1, cx2, cx3⟩ := (M9.out.b 0 rfl).1.cs
  go_wp2_with fail
  clear cx0 cx1 cx2 cx3
  have C := Eval_any _ _ _ _ qx _ (w7.alloc (.cells #[.bool qx.g, .slice qx.A qx.n qx.c, .bool qx.gd, .slice qx.Ad qx.nd qx.cd] 27)) (M9.out.p 2 rfl).1 (M9.out.b 0 rfl).1.sl (M9.out.b 0 rfl).2 (M9.out.p 2 rfl).2.1 (M9.out.p 2 rfl).2.2
  rw [HV.out.a] at C
  refine C.mono ?_
  clear C
  rintro e w10 ⟨qa, rfl, hq, hv, hb⟩
  have M11 := hI (M9.out.on hb)
  clear M9 hb
  have hn := below_new w10 (.cells #[.bool qa.g, .slice qa.A qa.n qa.c, .bool qa.gd, .slice qa.Ad qa.nd qa.cd] 27)
  have M12 := hI ((M11.out.on hn).add (x := .b w10.heap.size qa (ev p (Rat.divInt (kn - 30) (1 + kd)))) ⟨((Mem.nil w10).newBox hq _ rfl).box 0 rfl, hv⟩)
  clear hn M11 hq hv
  obtain ⟨cx0, cx1, cx2, cx3⟩ := (M12.out.b 1 rfl).1.cs
  go_wp2_with fail
  clear cx0 cx1 cx2 cx3
  have C := Eval_any _ _ _ _ qx _ (w10.alloc (.cells #[.bool qa.g, .slice qa.A qa.n qa.c, .bool qa.gd, .slice qa.Ad qa.nd qa.cd] 27)) (M12.out.p 2 rfl).1 (M12.out.b 1 rfl).1.sl (M12.out.b 1 rfl).2 (M12.out.p 2 rfl).2.1 (M12.out.p 2 rfl).2.2
  rw [HV.out.b] at C
  refine C.mono ?_
  clear C
  rintro e w13 ⟨qb, rfl, hq, hv, hb⟩
  have M14 := hI (M12.out.on hb)
  clear M12 hb
  have hn := below_new w13 (.cells #[.bool qb.g, .slice qb.A qb.n qb.c, .bool qb.gd, .slice qb.Ad qb.nd qb.cd] 27)
  have M15 := hI ((M14.out.on hn).add (x := .b w13.heap.size qb (ev q (Rat.divInt (kn - 30) (1 + kd)))) ⟨((Mem.nil w13).newBox hq _ rfl).box 0 rfl, hv⟩)
  clear hn M14 hq hv
  go_wp2_with fail
  have C := Add_any _ _ _ _ _ _ _ _ (w13.alloc (.cells #[.bool qb.g, .slice qb.A qb.n qb.c, .bool qb.gd, .slice qb.Ad qb.nd qb.cd] 27)) (M15.out.p 4 rfl).1 (M15.out.p 3 rfl).1 (M15.out.p 4 rfl).2.1 (M15.out.p 3 rfl).2.1 (M15.out.p 4 rfl).2.2 (M15.out.p 3 rfl).2.2
  rw [HV.out.s.1] at C
  refine C.mono ?_
  clear C
  rintro e w16 ⟨As, ns, cs, rfl, hp, hb⟩
  have M16 := hI ((M15.out.on hb).add (x := .p As ns cs (padd p q)) ⟨hp, HV.out.s.2.ok (by decide)⟩)
  clear M15 hp hb
  go_wp2_with fail
  have C := Mul_any _ _ _ _ _ _ _ _ w16 (M16.out.p 5 rfl).1 (M16.out.p 4 rfl).1 (M16.out.p 5 rfl).2.1 (M16.out.p 4 rfl).2.1 (M16.out.p 5 rfl).2.2 (M16.out.p 4 rfl).2.2
  rw [HV.out.t.1] at C
  refine C.mono ?_
  clear C
  rintro e w17 ⟨At, nt, ct, rfl, hp, hb⟩
  have M17 := hI ((M16.out.on hb).add (x := .p At nt ct (pmul p q)) ⟨hp, HV.out.t.2.ok (by decide)⟩)
  clear M16 hp hb
  go_wp2_with fail
  have C := Compose_any _ _ _ _ _ _ _ _ w17 (M17.out.p 6 rfl).1 (M17.out.p 5 rfl).1 (M17.out.p 6 rfl).2.1 (M17.out.p 5 rfl).2.1 (M17.out.p 6 rfl).2.2 (M17.out.p 5 rfl).2.2
  rw [HV.out.u.1] at C
  refine C.mono ?_
  clear C
  rintro e w18 ⟨Au, nu, cu, rfl, hp, hb⟩
  have M18 := hI ((M17.out.on hb).add (x := .p Au nu cu (pcompose p q)) ⟨hp, HV.out.u.2.ok (by decide)⟩)
  clear M17 hp hb
  obtain ⟨cx0, cx1, cx2, cx3⟩ := (M18.out.b 5 rfl).1.cs
  go_wp2_with fail
  clear cx0 cx1 cx2 cx3
  have C := Eval_any _ _ _ _ qx _ w18 (M18.out.p 2 rfl).1 (M18.out.b 5 rfl).1.sl (M18.out.b 5 rfl).2 (M18.out.p 2 rfl).2.1 (M18.out.p 2 rfl).2.2
  rw [HV.out.v] at C
  refine C.mono ?_
  clear C
  rintro e w19 ⟨qv, rfl, hq, hv, hb⟩
  have M20 := hI (M18.out.on hb)
  clear M18 hb
  have hn := below_new w19 (.cells #[.bool qv.g, .slice qv.A qv.n qv.c, .bool qv.gd, .slice qv.Ad qv.nd qv.cd] 27)
  have M21 := hI ((M20.out.on hn).add (x := .b w19.heap.size qv ((ev p (Rat.divInt (kn - 30) (1 + kd))) + (ev q (Rat.divInt (kn - 30) (1 + kd))))) ⟨((Mem.nil w19).newBox hq _ rfl).box 0 rfl, hv⟩)
  clear hn M20 hq hv
  obtain ⟨cx0, cx1, cx2, cx3⟩ := (M21.out.b 6 rfl).1.cs
  go_wp2_with fail
  clear cx0 cx1 cx2 cx3
  have C := Eval_any _ _ _ _ qx _ (w19.alloc (.cells #[.bool qv.g, .slice qv.A qv.n qv.c, .bool qv.gd, .slice qv.Ad qv.nd qv.cd] 27)) (M21.out.p 2 rfl).1 (M21.out.b 6 rfl).1.sl (M21.out.b 6 rfl).2 (M21.out.p 2 rfl).2.1 (M21.out.p 2 rfl).2.2
  rw [HV.out.w] at C
  refine C.mono ?_
  clear C
  rintro e w22 ⟨qw, rfl, hq, hv, hb⟩
  have M23 := hI (M21.out.on hb)
  clear M21 hb
  have hn := below_new w22 (.cells #[.bool qw.g, .slice qw.A qw.n qw.c, .bool qw.gd, .slice qw.Ad qw.nd qw.cd] 27)
  have M24 := hI ((M23.out.on hn).add (x := .b w22.heap.size qw ((ev p (Rat.divInt (kn - 30) (1 + kd))) * (ev q (Rat.divInt (kn - 30) (1 + kd))))) ⟨((Mem.nil w22).newBox hq _ rfl).box 0 rfl, hv⟩)
  clear hn M23 hq hv
  obtain ⟨cx0, cx1, cx2, cx3⟩ := (M24.out.b 7 rfl).1.cs
  go_wp2_with fail
  clear cx0 cx1 cx2 cx3
  have C := Eval_any _ _ _ _ qx _ (w22.alloc (.cells #[.bool qw.g, .slice qw.A qw.n qw.c, .bool qw.gd, .slice qw.Ad qw.nd qw.cd] 27)) (M24.out.p 2 rfl).1 (M24.out.b 7 rfl).1.sl (M24.out.b 7 rfl).2 (M24.out.p 2 rfl).2.1 (M24.out.p 2 rfl).2.2
  rw [HV.out.y] at C
  refine C.mono ?_
  clear C
  rintro e w25 ⟨qy, rfl, hq, hv, hb⟩
  have M26 := hI (M24.out.on hb)
  clear M24 hb
  have hn := below_new w25 (.cells #[.bool qy.g, .slice qy.A qy.n qy.c, .bool qy.gd, .slice qy.Ad qy.nd qy.cd] 27)
  have M27 := hI ((M26.out.on hn).add (x := .b w25.heap.size qy (ev p (ev q (Rat.divInt (kn - 30) (1 + kd))))) ⟨((Mem.nil w25).newBox hq _ rfl).box 0 rfl, hv⟩)
  clear hn M26 hq hv
  obtain ⟨ca0, ca1, ca2, ca3⟩ := (M27.out.b 7 rfl).1.cs
  obtain ⟨cb0, cb1, cb2, cb3⟩ := (M27.out.b 6 rfl).1.cs
  go_wp2_with fail
  clear ca0 ca1 ca2 ca3 cb0 cb1 cb2 cb3
  refine (add_okO (M27.out.b 7 rfl).1.sl (M27.out.b 6 rfl).1.sl (M27.out.b 7 rfl).2 (M27.out.b 6 rfl).2 HV.out.sum).mono ?_
  rintro e w28 ⟨qsum, rfl, hq, hv, hb⟩
  have M29 := hI (M27.out.on hb)
  clear M27 hb
  have hn := below_new w28 (.cells #[.bool qsum.g, .slice qsum.A qsum.n qsum.c, .bool qsum.gd, .slice qsum.Ad qsum.nd qsum.cd] 27)
  have M30 := hI ((M29.out.on hn).add (x := .b w28.heap.size qsum ((ev p (Rat.divInt (kn - 30) (1 + kd))) + (ev q (Rat.divInt (kn - 30) (1 + kd))))) ⟨((Mem.nil w28).newBox hq _ rfl).box 0 rfl, hv⟩)
  clear hn M29 hq hv
  obtain ⟨ca0, ca1, ca2, ca3⟩ := (M30.out.b 8 rfl).1.cs
  obtain ⟨cb0, cb1, cb2, cb3⟩ := (M30.out.b 7 rfl).1.cs
  go_wp2_with fail
  clear ca0 ca1 ca2 ca3 cb0 cb1 cb2 cb3
  refine (mul_okO (M30.out.b 8 rfl).1.sl (M30.out.b 7 rfl).1.sl (M30.out.b 8 rfl).2 (M30.out.b 7 rfl).2 HV.out.prod).mono ?_
  rintro e w31 ⟨qprod, rfl, hq, hv, hb⟩
  have M32 := hI (M30.out.on hb)
  clear M30 hb
  have hn := below_new w31 (.cells #[.bool qprod.g, .slice qprod.A qprod.n qprod.c, .bool qprod.gd, .slice qprod.Ad qprod.nd qprod.cd] 27)
  have M33 := hI ((M32.out.on hn).add (x := .b w31.heap.size qprod ((ev p (Rat.divInt (kn - 30) (1 + kd))) * (ev q (Rat.divInt (kn - 30) (1 + kd))))) ⟨((Mem.nil w31).newBox hq _ rfl).box 0 rfl, hv⟩)
  clear hn M32 hq hv
  obtain ⟨cb0, cb1, cb2, cb3⟩ := (M33.out.b 8 rfl).1.cs
  go_wp2_with fail
  clear cb0 cb1 cb2 cb3
  have C := Eval_any _ _ _ _ qb _ (w31.alloc (.cells #[.bool qprod.g, .slice qprod.A qprod.n qprod.c, .bool qprod.gd, .slice qprod.Ad qprod.nd qprod.cd] 27)) (M33.out.p 12 rfl).1 (M33.out.b 8 rfl).1.sl (M33.out.b 8 rfl).2 (M33.out.p 12 rfl).2.1 (M33.out.p 12 rfl).2.2
  rw [HV.out.inner] at C
  refine C.mono ?_
  clear C
  rintro e w34 ⟨qinner, rfl, hq, hv, hb⟩
  have M35 := hI (M33.out.on hb)
  clear M33 hb
  have hn := below_new w34 (.cells #[.bool qinner.g, .slice qinner.A qinner.n qinner.c, .bool qinner.gd, .slice qinner.Ad qinner.nd qinner.cd] 27)
  have M36 := hI ((M35.out.on hn).add (x := .b w34.heap.size qinner (ev p (ev q (Rat.divInt (kn - 30) (1 + kd))))) ⟨((Mem.nil w34).newBox hq _ rfl).box 0 rfl, hv⟩)
  clear hn M35 hq hv
  obtain ⟨cv0, cv1, cv2, cv3⟩ := (M36.out.b 5 rfl).1.cs
  obtain ⟨csum0, csum1, csum2, csum3⟩ := (M36.out.b 2 rfl).1.cs
  go_wp2_with fail
  clear cv0 cv1 cv2 cv3 csum0 csum1 csum2 csum3
  refine (sameRat_yes _ _ ((ev p (Rat.divInt (kn - 30) (1 + kd))) + (ev q (Rat.divInt (kn - 30) (1 + kd)))) (w34.alloc (.cells #[.bool qinner.g, .slice qinner.A qinner.n qinner.c, .bool qinner.gd, .slice qinner.Ad qinner.nd qinner.cd] 27)) (M36.out.b 5 rfl).1.sl (M36.out.b 2 rfl).1.sl (M36.out.b 5 rfl).2 (M36.out.b 2 rfl).2).mono ?_
  rintro e w37 ⟨rfl, hb⟩
  have M38 := hI (M36.out.on hb)
  clear M36 hb
  obtain ⟨cw0, cw1, cw2, cw3⟩ := (M38.out.b 4 rfl).1.cs
  obtain ⟨cprod0, cprod1, cprod2, cprod3⟩ := (M38.out.b 1 rfl).1.cs
  go_wp2_with fail
  clear cw0 cw1 cw2 cw3 cprod0 cprod1 cprod2 cprod3
  refine (sameRat_yes _ _ ((ev p (Rat.divInt (kn - 30) (1 + kd))) * (ev q (Rat.divInt (kn - 30) (1 + kd)))) w37 (M38.out.b 4 rfl).1.sl (M38.out.b 1 rfl).1.sl (M38.out.b 4 rfl).2 (M38.out.b 1 rfl).2).mono ?_
  rintro e w39 ⟨rfl, hb⟩
  have M40 := hI (M38.out.on hb)
  clear M38 hb
  obtain ⟨cy0, cy1, cy2, cy3⟩ := (M40.out.b 3 rfl).1.cs
  obtain ⟨cinner0, cinner1, cinner2, cinner3⟩ := (M40.out.b 0 rfl).1.cs
  go_wp2_with fail
  clear cy0 cy1 cy2 cy3 cinner0 cinner1 cinner2 cinner3
  refine (sameRat_yes _ _ (ev p (ev q (Rat.divInt (kn - 30) (1 + kd)))) w39 (M40.out.b 3 rfl).1.sl (M40.out.b 0 rfl).1.sl (M40.out.b 3 rfl).2 (M40.out.b 0 rfl).2).mono ?_
  rintro e w41 ⟨rfl, hb⟩
  have M42 := hI (M40.out.on hb)
  clear M40 hb
  obtain ⟨qa, hd, hta⟩ := HV.out.d
  have HD := hI (And.intro (show pdivO p (lin' (kn - 30)) = .ok (qa, ptrim [(ev p ((kn - 30 : Int) : Rat))]) from hd) hta)
  clear hd hta
  go_wp2_with fail
  refine (linear_any (kn - 30) w41 (by omega) (by omega)).mono ?_
  rintro e w43 ⟨Ak, nk, ck, rfl, hp, hb⟩
  have M43 := hI ((M42.out.on hb).add (x := .p Ak nk ck (lin' (kn - 30))) ⟨hp, lin_ok (kn - 30)⟩)
  clear M42 hp hb
  go_wp2_with fail
  have C := DivMod_any _ _ _ _ _ _ _ _ w43 (M43.out.p 14 rfl).1 (M43.out.p 0 rfl).1 (M43.out.p 14 rfl).2.1 (M43.out.p 0 rfl).2.1 (M43.out.p 14 rfl).2.2 (M43.out.p 0 rfl).2.2
  rw [HD.out.1] at C
  refine C.mono ?_
  clear C
  rintro e w44 ⟨Aqa, nqa, cqa, Ar, nr, cr, rfl, hp, hp2, hb⟩
  have hx : Lv.At w44 (.p Aqa nqa cqa qa) := ⟨hp, HD.out.2⟩
  have M44 := hI ((M43.out.on hb).add (x := .p Ar nr cr (ptrim [(ev p ((kn - 30 : Int) : Rat))])) ⟨hp2, Tr.ptrim _, Nat.le_trans (ptrim_le [(ev p ((kn - 30 : Int) : Rat))]) (by simp)⟩)
  clear M43 hp hp2 hb
  have M45 := hI (M44.out.add hx)
  clear hx M44
  go_wp2_with fail
  refine (lnumber_any (kn - 30) w44 (by omega) (by omega)).mono ?_
  rintro e w46 ⟨qk, rfl, hq, hv, hb⟩
  have M46 := hI ((M45.out.on hb).add (x := .q qk ((kn - 30 : Int) : Rat)) ⟨hq, hv⟩)
  clear M45 hq hv hb
  go_wp2_with fail
  have C := Eval_any _ _ _ _ qk _ w46 (M46.out.p 17 rfl).1 (M46.out.q 0 rfl).1 (M46.out.q 0 rfl).2 (M46.out.p 17 rfl).2.1 (M46.out.p 17 rfl).2.2
  rw [HV.out.val] at C
  refine C.mono ?_
  clear C
  rintro e w47 ⟨qz, rfl, hq, hv, hb⟩
  have M48 := hI (M46.out.on hb)
  clear M46 hb
  have hn := below_new w47 (.cells #[.bool qz.g, .slice qz.A qz.n qz.c, .bool qz.gd, .slice qz.Ad qz.nd qz.cd] 27)
  have M49 := hI ((M48.out.on hn).add (x := .b w47.heap.size qz (ev p ((kn - 30 : Int) : Rat))) ⟨((Mem.nil w47).newBox hq _ rfl).box 0 rfl, hv⟩)
  clear hn M48 hq hv
  obtain ⟨cz0, cz1, cz2, cz3⟩ := (M49.out.b 0 rfl).1.cs
  go_wp2_with fail
  clear cz0 cz1 cz2 cz3
  have C := sign_q (M49.out.b 0 rfl).1.sl (M49.out.b 0 rfl).2
  by_cases hz : (ev p ((kn - 30 : Int) : Rat)).num = 0
  · rw [hz, Int.sign_zero] at C
    refine C.mono ?_
    clear C
    rintro e w50 ⟨rfl, hb⟩
    have M51 := hI (M49.out.on hb)
    clear M49 hb
    have hn : nr = 0 := (M51.out.p 3 rfl).1.len.trans (by show (if (ev p ((kn - 30 : Int) : Rat)).num = 0 then ([] : List Rat) else [(ev p ((kn - 30 : Int) : Rat))]).length = 0; rw [if_pos hz]; rfl)
    clear hz
    subst hn
    go_wp2
    go_ret
    exact ⟨rfl, M51.out.bel⟩
  · obtain ⟨sg, hsg⟩ : ∃ s : Int, (ev p ((kn - 30 : Int) : Rat)).num.sign = s := ⟨_, rfl⟩
    rw [hsg] at C
    have hs0 : (sg == 0) = false := by rw [beq_eq_false_iff_ne, ← hsg]; exact fun h => hz (Int.sign_eq_zero_iff_zero.1 h)
    have hr : ptrim [(ev p ((kn - 30 : Int) : Rat))] = [(ev p ((kn - 30 : Int) : Rat))] := by show (if (ev p ((kn - 30 : Int) : Rat)).num = 0 then ([] : List Rat) else [(ev p ((kn - 30 : Int) : Rat))]) = [(ev p ((kn - 30 : Int) : Rat))]; rw [if_neg hz]
    have HR := hI hr
    clear hz hr hsg
    refine C.mono ?_
    clear C
    rintro e w50 ⟨rfl, hb⟩
    have M51 := hI (M49.out.on hb)
    clear M49 hb
    obtain ⟨cz0, cz1, cz2, cz3⟩ := (M51.out.b 0 rfl).1.cs
    go_wp2_with fail
    clear cz0 cz1 cz2 cz3
    have hp := pv_new w50 [qz] [(ev p ((kn - 30 : Int) : Rat))] (fun y k => by rw [List.mem_singleton.1 k]; exact (M51.out.b 0 rfl).1.sl) (Vs.cons (M51.out.b 0 rfl).2 rfl) (by simp)
    have hn := below_new w50 (.cells (qcells [qz]).toArray 27)
    have hq2 := (M51.out.p 3 rfl).1.on hn
    rw [HR.out] at hq2
    have C := same_yes hq2 hp (by simp)
    refine C.mono ?_
    clear C hp hq2
    rintro e w52 ⟨rfl, hb⟩
    have hb2 := below_chain hn (Nat.le_of_lt (Blk.lt (Blk.new w50 _ _))) hb
    have M53 := hI (M51.out.on hb2)
    clear M51 hb hb2 hn
    go_wp2
    go_ret
    exact ⟨rfl, M53.out.bel⟩
end Go.Proofs.YtjbnclfbkccieaaGreatDoor
