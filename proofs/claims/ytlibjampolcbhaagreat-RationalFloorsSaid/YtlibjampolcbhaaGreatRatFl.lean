/-
  Stage 2: RationalFloors, its walk.
-/
import Derived.Test.YtlibjampolcbhaaGreatRatZi
import Derived.Test.YtlibjampolcbhaaGreatRatCm
namespace Go.Proofs.YtlibjampolcbhaaGreat
open Go.RowKit

theorem one_ratF (a : RVal) (w W : World) (h : a.In w) (hW : w.alloc (.cells #[.bool a.g, .slice a.A a.n a.c, .bool a.gd, .slice a.Ad a.nd a.cd] 27) = W) : Below w.heap.size w W ∧ Rb W w.heap.size a := by
  have hn := below_new w (.cells #[.bool a.g, .slice a.A a.n a.c, .bool a.gd, .slice a.Ad a.nd a.cd] 27)
  have hx := Rb.new h
  rw [hW] at hn hx
  exact ⟨hn, hx⟩

set_option maxRecDepth 20000 in
set_option maxHeartbeats 4000000 in
theorem fl_no (a : RVal) (s : Int) (w : World) (h1 : a.In w) (hv : vok a a a 16 = false) :
    Calls Tryz.prog 12 #[.agg #[.bool a.g, .slice a.A a.n a.c, .bool a.gd, .slice a.Ad a.nd a.cd], .int .i64 s] w fun e w' => e = .returned (.bool true) ∧ Below w.heap.size w w' := by
  have HV := Lib.hid hv
  have HS := Lib.hid h1
  clear h1 hv
  go_enter Tryz.func12, Tryz.ntmps12
  go_wp2_with fail
  generalize hW : World.alloc w _ = V
  obtain ⟨hb, ra⟩ := one_ratF a w V HS.out hW
  have B_0 : Hid (Below w.heap.size w V) := Lib.hid (hb)
  have Xa_0 := Lib.hid ra
  clear hb ra hW
  generalize hr : w.heap.size = r at *
  have HRr := Lib.hid hr
  clear hr
  refine (sane V).mono ?_
  rintro e w1 ⟨rfl, hb⟩
  have B_1 := Lib.hid (below_chain B_0.out (by have := B_0.out.size; have := HRr.out; omega) hb)
  have Xa_1 : Hid (Rb w1 r a) := Lib.hid (Xa_0.out.on hb)
  clear hb B_0 Xa_0
  have ka0 := Xa_1.out.c0
  have ka1 := Xa_1.out.c1
  have ka2 := Xa_1.out.c2
  have ka3 := Xa_1.out.c3
  go_wp2_with fail
  have C := val_any a a a 16 w1 Xa_1.out.sl Xa_1.out.sl Xa_1.out.sl
  rw [HV.out] at C
  refine C.mono ?_
  clear C
  clear ka0 ka1 ka2 ka3
  rintro e w2 ⟨rfl, hb⟩
  have B_2 := Lib.hid (below_chain B_1.out (by have := B_1.out.size; have := HRr.out; omega) hb)
  have Xa_2 : Hid (Rb w2 r a) := Lib.hid (Xa_1.out.on hb)
  clear hb B_1 Xa_1
  go_wp2
  go_ret
  exact ⟨rfl, by rw [HRr.out]; exact B_2.out⟩

set_option maxRecDepth 20000 in
set_option maxHeartbeats 4000000 in
theorem fl_low (a : RVal) (s : Int) (w : World) (h1 : a.In w) (hv : vok a a a 16 = true) (hl : decide (s < (-200)) = true) :
    Calls Tryz.prog 12 #[.agg #[.bool a.g, .slice a.A a.n a.c, .bool a.gd, .slice a.Ad a.nd a.cd], .int .i64 s] w fun e w' => e = .returned (.bool true) ∧ Below w.heap.size w w' := by
  have HV := Lib.hid hv
  have HL := Lib.hid hl
  have HS := Lib.hid h1
  clear h1 hv hl
  go_enter Tryz.func12, Tryz.ntmps12
  go_wp2_with fail
  generalize hW : World.alloc w _ = V
  obtain ⟨hb, ra⟩ := one_ratF a w V HS.out hW
  have B_0 : Hid (Below w.heap.size w V) := Lib.hid (hb)
  have Xa_0 := Lib.hid ra
  clear hb ra hW
  generalize hr : w.heap.size = r at *
  have HRr := Lib.hid hr
  clear hr
  refine (sane V).mono ?_
  rintro e w1 ⟨rfl, hb⟩
  have B_1 := Lib.hid (below_chain B_0.out (by have := B_0.out.size; have := HRr.out; omega) hb)
  have Xa_1 : Hid (Rb w1 r a) := Lib.hid (Xa_0.out.on hb)
  clear hb B_0 Xa_0
  have ka0 := Xa_1.out.c0
  have ka1 := Xa_1.out.c1
  have ka2 := Xa_1.out.c2
  have ka3 := Xa_1.out.c3
  go_wp2_with fail
  have C := val_any a a a 16 w1 Xa_1.out.sl Xa_1.out.sl Xa_1.out.sl
  rw [HV.out] at C
  refine C.mono ?_
  clear C
  clear ka0 ka1 ka2 ka3
  rintro e w2 ⟨rfl, hb⟩
  have B_2 := Lib.hid (below_chain B_1.out (by have := B_1.out.size; have := HRr.out; omega) hb)
  have Xa_2 : Hid (Rb w2 r a) := Lib.hid (Xa_1.out.on hb)
  clear hb B_1 Xa_1
  have g1 : decide (s < (-200)) = true := HL.out
  go_wp2
  go_ret
  exact ⟨rfl, by rw [HRr.out]; exact B_2.out⟩

set_option maxRecDepth 20000 in
set_option maxHeartbeats 4000000 in
theorem fl_high (a : RVal) (s : Int) (w : World) (h1 : a.In w) (hv : vok a a a 16 = true) (hl : decide (s < (-200)) = false ∧ decide ((200 : Int) < s) = true) :
    Calls Tryz.prog 12 #[.agg #[.bool a.g, .slice a.A a.n a.c, .bool a.gd, .slice a.Ad a.nd a.cd], .int .i64 s] w fun e w' => e = .returned (.bool true) ∧ Below w.heap.size w w' := by
  have HV := Lib.hid hv
  have HL := Lib.hid hl
  have HS := Lib.hid h1
  clear h1 hv hl
  go_enter Tryz.func12, Tryz.ntmps12
  go_wp2_with fail
  generalize hW : World.alloc w _ = V
  obtain ⟨hb, ra⟩ := one_ratF a w V HS.out hW
  have B_0 : Hid (Below w.heap.size w V) := Lib.hid (hb)
  have Xa_0 := Lib.hid ra
  clear hb ra hW
  generalize hr : w.heap.size = r at *
  have HRr := Lib.hid hr
  clear hr
  refine (sane V).mono ?_
  rintro e w1 ⟨rfl, hb⟩
  have B_1 := Lib.hid (below_chain B_0.out (by have := B_0.out.size; have := HRr.out; omega) hb)
  have Xa_1 : Hid (Rb w1 r a) := Lib.hid (Xa_0.out.on hb)
  clear hb B_0 Xa_0
  have ka0 := Xa_1.out.c0
  have ka1 := Xa_1.out.c1
  have ka2 := Xa_1.out.c2
  have ka3 := Xa_1.out.c3
  go_wp2_with fail
  have C := val_any a a a 16 w1 Xa_1.out.sl Xa_1.out.sl Xa_1.out.sl
  rw [HV.out] at C
  refine C.mono ?_
  clear C
  clear ka0 ka1 ka2 ka3
  rintro e w2 ⟨rfl, hb⟩
  have B_2 := Lib.hid (below_chain B_1.out (by have := B_1.out.size; have := HRr.out; omega) hb)
  have Xa_2 : Hid (Rb w2 r a) := Lib.hid (Xa_1.out.on hb)
  clear hb B_1 Xa_1
  have g1 : decide (s < (-200)) = false := HL.out.1
  have g2 : decide ((200 : Int) < s) = true := HL.out.2
  go_wp2
  go_ret
  exact ⟨rfl, by rw [HRr.out]; exact B_2.out⟩

set_option maxRecDepth 20000 in
set_option maxHeartbeats 4000000 in
theorem fl_yes (a : RVal) (s : Int) (w : World) (h1 : a.In w) (x : Rat) (hx : rv a.o a.od = some x) (zF m1 m2 u1 u2 : Int) (hv : vok a a a 16 = true) (hl : decide (s < (-200)) = false ∧ decide ((200 : Int) < s) = false) (hm : max s 0 = m1 ∧ max (wrap64 (-s)) 0 = m2 ∧ (-9223372036854775808 ≤ m1 ∧ m1 ≤ 9223372036854775807) ∧ (shf 1 m1).natAbs < BIG ∧ (-9223372036854775808 ≤ m2 ∧ m2 ≤ 9223372036854775807) ∧ (shf 1 m2).natAbs < BIG) (hG : shf 1 m2 ≠ 0 ∧ Bd 512 x ∧ Bd 512 (Rat.divInt (shf 1 m1) (shf 1 m2)) ∧ (zF + 1).natAbs < BIG) (hU : Int.sign ((Rat.divInt zF 1).num * (x * Rat.divInt (shf 1 m1) (shf 1 m2)).den - (x * Rat.divInt (shf 1 m1) (shf 1 m2)).num * (Rat.divInt zF 1).den) = u1 ∧ Int.sign ((x * Rat.divInt (shf 1 m1) (shf 1 m2)).num * (Rat.divInt (zF + 1) 1).den - (Rat.divInt (zF + 1) 1).num * (x * Rat.divInt (shf 1 m1) (shf 1 m2)).den) = u2 ∧ decide (u1 ≤ 0) = true ∧ decide (u2 < 0) = true) (hF : ∀ w, a.In w → Calls Tryz.prog 33 #[.agg #[.bool a.g, .slice a.A a.n a.c, .bool a.gd, .slice a.Ad a.nd a.cd], .int .i64 s] w (RetZZ zF w)) :
    Calls Tryz.prog 12 #[.agg #[.bool a.g, .slice a.A a.n a.c, .bool a.gd, .slice a.Ad a.nd a.cd], .int .i64 s] w fun e w' => e = .returned (.bool true) ∧ Below w.heap.size w w' := by
  have Va := Lib.hid hx
  have HV := Lib.hid hv
  have HL := Lib.hid hl
  have HM := Lib.hid hm
  have HG := Lib.hid hG
  have HU := Lib.hid hU
  have HF := Lib.hid hF
  have HS := Lib.hid h1
  clear h1 hx hv hl hm hG hU hF
  go_enter Tryz.func12, Tryz.ntmps12
  go_wp2_with fail
  generalize hW : World.alloc w _ = V
  obtain ⟨hb, ra⟩ := one_ratF a w V HS.out hW
  have B_0 : Hid (Below w.heap.size w V) := Lib.hid (hb)
  have Xa_0 := Lib.hid ra
  clear hb ra hW
  generalize hr : w.heap.size = r at *
  have HRr := Lib.hid hr
  clear hr
  refine (sane V).mono ?_
  rintro e w1 ⟨rfl, hb⟩
  have B_1 := Lib.hid (below_chain B_0.out (by have := B_0.out.size; have := HRr.out; omega) hb)
  have Xa_1 : Hid (Rb w1 r a) := Lib.hid (Xa_0.out.on hb)
  clear hb B_0 Xa_0
  have ka0 := Xa_1.out.c0
  have ka1 := Xa_1.out.c1
  have ka2 := Xa_1.out.c2
  have ka3 := Xa_1.out.c3
  go_wp2_with fail
  have C := val_any a a a 16 w1 Xa_1.out.sl Xa_1.out.sl Xa_1.out.sl
  rw [HV.out] at C
  refine C.mono ?_
  clear C
  clear ka0 ka1 ka2 ka3
  rintro e w2 ⟨rfl, hb⟩
  have B_2 := Lib.hid (below_chain B_1.out (by have := B_1.out.size; have := HRr.out; omega) hb)
  have Xa_2 : Hid (Rb w2 r a) := Lib.hid (Xa_1.out.on hb)
  clear hb B_1 Xa_1
  have g1 : decide (s < (-200)) = false := HL.out.1
  have g2 : decide ((200 : Int) < s) = false := HL.out.2
  have ka0 := Xa_2.out.c0
  have ka1 := Xa_2.out.c1
  have ka2 := Xa_2.out.c2
  have ka3 := Xa_2.out.c3
  go_wp2_with fail
  clear g1 g2
  refine (HF.out w2 Xa_2.out.sl).mono ?_
  clear ka0 ka1 ka2 ka3
  rintro e w3 ⟨gn, An, nn, cn, xsn, rfl, hs, ho, hb⟩
  have B_3 := Lib.hid (below_chain B_2.out (by have := B_2.out.size; have := HRr.out; omega) hb)
  have Xa_3 : Hid (Rb w3 r a) := Lib.hid (Xa_2.out.on hb)
  have Jn_3 : Hid (Sl w3 w3.heap.size An nn cn xsn) := Lib.hid (hs)
  clear hb B_2 Xa_2 hs
  have Vn := Lib.hid ho
  clear ho
  go_wp2_with fail
  generalize hW : World.alloc w3 _ = V4
  have hn := below_new w3 (.cells #[.bool gn, .slice An nn cn] 24)
  have hx : Ba (w3.alloc (.cells #[.bool gn, .slice An nn cn] 24)) w3.heap.size gn An nn cn xsn := ⟨Bx.new _ _ _ _ _, Jn_3.out.on hn⟩
  rw [hW] at hn hx
  have B_4 := Lib.hid (below_chain B_3.out (by have := B_3.out.size; have := HRr.out; omega) hn)
  have Xa_4 : Hid (Rb V4 r a) := Lib.hid (Xa_3.out.on hn)
  have Jn_4 : Hid (Sl V4 V4.heap.size An nn cn xsn) := Lib.hid (Jn_3.out.on hn)
  have Zn_4 := Lib.hid hx
  clear hx hn hW B_3 Xa_3 Jn_3 Jn_4
  generalize w3.heap.size = b1 at *
  refine (of_z 1 V4 (by decide) (by decide)).mono ?_
  rintro e w5 ⟨gi, Ai, ni, ci, xsi, rfl, hs, ho, hb⟩
  have B_5 := Lib.hid (below_chain B_4.out (by have := B_4.out.size; have := HRr.out; omega) hb)
  have Xa_5 : Hid (Rb w5 r a) := Lib.hid (Xa_4.out.on hb)
  have Zn_5 : Hid (Ba w5 b1 gn An nn cn xsn) := Lib.hid (Zn_4.out.on hb)
  have Ji_5 : Hid (Sl w5 w5.heap.size Ai ni ci xsi) := Lib.hid (hs)
  clear hb B_4 Xa_4 Zn_4 hs
  have Vi := Lib.hid ho
  clear ho
  go_wp2_with fail
  rw [HM.out.1]
  refine (shift_z Ji_5.out Vi.out m1 HM.out.2.2.1.1 HM.out.2.2.1.2 HM.out.2.2.2.1).mono ?_
  rintro e w6 ⟨gu, Au, nu, cu, xsu, rfl, hs, ho, hb⟩
  have B_6 := Lib.hid (below_chain B_5.out (by have := B_5.out.size; have := HRr.out; omega) hb)
  have Xa_6 : Hid (Rb w6 r a) := Lib.hid (Xa_5.out.on hb)
  have Zn_6 : Hid (Ba w6 b1 gn An nn cn xsn) := Lib.hid (Zn_5.out.on hb)
  have Ji_6 : Hid (Sl w6 w6.heap.size Ai ni ci xsi) := Lib.hid (Ji_5.out.on hb)
  have Ju_6 : Hid (Sl w6 w6.heap.size Au nu cu xsu) := Lib.hid (hs)
  clear hb B_5 Xa_5 Zn_5 Ji_5 hs
  have Vu := Lib.hid ho
  clear ho
  clear Ji_6
  go_wp2_with fail
  generalize hW : World.alloc w6 _ = V7
  have hn := below_new w6 (.cells #[.bool gu, .slice Au nu cu] 24)
  have hx : Ba (w6.alloc (.cells #[.bool gu, .slice Au nu cu] 24)) w6.heap.size gu Au nu cu xsu := ⟨Bx.new _ _ _ _ _, Ju_6.out.on hn⟩
  rw [hW] at hn hx
  have B_7 := Lib.hid (below_chain B_6.out (by have := B_6.out.size; have := HRr.out; omega) hn)
  have Xa_7 : Hid (Rb V7 r a) := Lib.hid (Xa_6.out.on hn)
  have Zn_7 : Hid (Ba V7 b1 gn An nn cn xsn) := Lib.hid (Zn_6.out.on hn)
  have Ju_7 : Hid (Sl V7 V7.heap.size Au nu cu xsu) := Lib.hid (Ju_6.out.on hn)
  have Zu_7 := Lib.hid hx
  clear hx hn hW B_6 Xa_6 Zn_6 Ju_6 Ju_7
  generalize w6.heap.size = b2 at *
  refine (of_z 1 V7 (by decide) (by decide)).mono ?_
  rintro e w8 ⟨gj, Aj, nj, cj, xsj, rfl, hs, ho, hb⟩
  have B_8 := Lib.hid (below_chain B_7.out (by have := B_7.out.size; have := HRr.out; omega) hb)
  have Xa_8 : Hid (Rb w8 r a) := Lib.hid (Xa_7.out.on hb)
  have Zn_8 : Hid (Ba w8 b1 gn An nn cn xsn) := Lib.hid (Zn_7.out.on hb)
  have Zu_8 : Hid (Ba w8 b2 gu Au nu cu xsu) := Lib.hid (Zu_7.out.on hb)
  have Jj_8 : Hid (Sl w8 w8.heap.size Aj nj cj xsj) := Lib.hid (hs)
  clear hb B_7 Xa_7 Zn_7 Zu_7 hs
  have Vj := Lib.hid ho
  clear ho
  go_wp2_with fail
  rw [HM.out.2.1]
  refine (shift_z Jj_8.out Vj.out m2 HM.out.2.2.2.2.1.1 HM.out.2.2.2.2.1.2 HM.out.2.2.2.2.2).mono ?_
  rintro e w9 ⟨gd, Ad, nd, cd, xsd, rfl, hs, ho, hb⟩
  have B_9 := Lib.hid (below_chain B_8.out (by have := B_8.out.size; have := HRr.out; omega) hb)
  have Xa_9 : Hid (Rb w9 r a) := Lib.hid (Xa_8.out.on hb)
  have Zn_9 : Hid (Ba w9 b1 gn An nn cn xsn) := Lib.hid (Zn_8.out.on hb)
  have Zu_9 : Hid (Ba w9 b2 gu Au nu cu xsu) := Lib.hid (Zu_8.out.on hb)
  have Jj_9 : Hid (Sl w9 w9.heap.size Aj nj cj xsj) := Lib.hid (Jj_8.out.on hb)
  have Jd_9 : Hid (Sl w9 w9.heap.size Ad nd cd xsd) := Lib.hid (hs)
  clear hb B_8 Xa_8 Zn_8 Zu_8 Jj_8 hs
  have Vd := Lib.hid ho
  clear ho
  clear Jj_9
  have ku0 := ((Zu_9.out.on (below_new w9 (.cells #[.bool gd, .slice Ad nd cd] 24)))).bx.c0
  have ku1 := ((Zu_9.out.on (below_new w9 (.cells #[.bool gd, .slice Ad nd cd] 24)))).bx.c1
  go_wp2_with fail
  generalize hW : World.alloc w9 _ = V10
  have hn := below_new w9 (.cells #[.bool gd, .slice Ad nd cd] 24)
  have hx : Ba (w9.alloc (.cells #[.bool gd, .slice Ad nd cd] 24)) w9.heap.size gd Ad nd cd xsd := ⟨Bx.new _ _ _ _ _, Jd_9.out.on hn⟩
  rw [hW] at hn hx
  have B_10 := Lib.hid (below_chain B_9.out (by have := B_9.out.size; have := HRr.out; omega) hn)
  have Xa_10 : Hid (Rb V10 r a) := Lib.hid (Xa_9.out.on hn)
  have Zn_10 : Hid (Ba V10 b1 gn An nn cn xsn) := Lib.hid (Zn_9.out.on hn)
  have Zu_10 : Hid (Ba V10 b2 gu Au nu cu xsu) := Lib.hid (Zu_9.out.on hn)
  have Jd_10 : Hid (Sl V10 V10.heap.size Ad nd cd xsd) := Lib.hid (Jd_9.out.on hn)
  have Zd_10 := Lib.hid hx
  clear hx hn hW B_9 Xa_9 Zn_9 Zu_9 Jd_9 Jd_10
  generalize w9.heap.size = b3 at *
  refine (make_z Zu_10.out.sl Zd_10.out.sl Vu.out Vd.out HG.out.1).mono ?_
  clear ku0 ku1
  rintro e w11 ⟨tc, rfl, hi, hv, hb⟩
  have B_11 := Lib.hid (below_chain B_10.out (by have := B_10.out.size; have := HRr.out; omega) hb)
  have Xa_11 : Hid (Rb w11 r a) := Lib.hid (Xa_10.out.on hb)
  have Zn_11 : Hid (Ba w11 b1 gn An nn cn xsn) := Lib.hid (Zn_10.out.on hb)
  have Zu_11 : Hid (Ba w11 b2 gu Au nu cu xsu) := Lib.hid (Zu_10.out.on hb)
  have Zd_11 : Hid (Ba w11 b3 gd Ad nd cd xsd) := Lib.hid (Zd_10.out.on hb)
  have Ic_11 : Hid (tc.In w11) := Lib.hid (hi)
  clear hb B_10 Xa_10 Zn_10 Zu_10 Zd_10 hi
  have Vc := Lib.hid hv
  clear hv
  have ka0 := (Xa_11.out.on (below_new w11 (.cells #[.bool tc.g, .slice tc.A tc.n tc.c, .bool tc.gd, .slice tc.Ad tc.nd tc.cd] 27))).c0
  have ka1 := (Xa_11.out.on (below_new w11 (.cells #[.bool tc.g, .slice tc.A tc.n tc.c, .bool tc.gd, .slice tc.Ad tc.nd tc.cd] 27))).c1
  have ka2 := (Xa_11.out.on (below_new w11 (.cells #[.bool tc.g, .slice tc.A tc.n tc.c, .bool tc.gd, .slice tc.Ad tc.nd tc.cd] 27))).c2
  have ka3 := (Xa_11.out.on (below_new w11 (.cells #[.bool tc.g, .slice tc.A tc.n tc.c, .bool tc.gd, .slice tc.Ad tc.nd tc.cd] 27))).c3
  go_wp2_with fail
  generalize hW : World.alloc w11 _ = V12
  have hn := below_new w11 (.cells #[.bool tc.g, .slice tc.A tc.n tc.c, .bool tc.gd, .slice tc.Ad tc.nd tc.cd] 27)
  have hx := Rb.new Ic_11.out
  rw [hW] at hn hx
  have B_12 := Lib.hid (below_chain B_11.out (by have := B_11.out.size; have := HRr.out; omega) hn)
  have Xa_12 : Hid (Rb V12 r a) := Lib.hid (Xa_11.out.on hn)
  have Zn_12 : Hid (Ba V12 b1 gn An nn cn xsn) := Lib.hid (Zn_11.out.on hn)
  have Zu_12 : Hid (Ba V12 b2 gu Au nu cu xsu) := Lib.hid (Zu_11.out.on hn)
  have Zd_12 : Hid (Ba V12 b3 gd Ad nd cd xsd) := Lib.hid (Zd_11.out.on hn)
  have Ic_12 : Hid (tc.In V12) := Lib.hid (Ic_11.out.on hn)
  have Xc_12 := Lib.hid hx
  clear hx hn hW B_11 Xa_11 Zn_11 Zu_11 Zd_11 Ic_11 Ic_12
  generalize w11.heap.size = b4 at *
  refine (mul_v Xa_12.out.sl Xc_12.out.sl Va.out Vc.out HG.out.2.1 HG.out.2.2.1 (by decide)).mono ?_
  clear ka0 ka1 ka2 ka3
  rintro e w13 ⟨tx, rfl, hi, hv, hb⟩
  have B_13 := Lib.hid (below_chain B_12.out (by have := B_12.out.size; have := HRr.out; omega) hb)
  have Xa_13 : Hid (Rb w13 r a) := Lib.hid (Xa_12.out.on hb)
  have Zn_13 : Hid (Ba w13 b1 gn An nn cn xsn) := Lib.hid (Zn_12.out.on hb)
  have Zu_13 : Hid (Ba w13 b2 gu Au nu cu xsu) := Lib.hid (Zu_12.out.on hb)
  have Zd_13 : Hid (Ba w13 b3 gd Ad nd cd xsd) := Lib.hid (Zd_12.out.on hb)
  have Xc_13 : Hid (Rb w13 b4 tc) := Lib.hid (Xc_12.out.on hb)
  have Ix_13 : Hid (tx.In w13) := Lib.hid (hi)
  clear hb B_12 Xa_12 Zn_12 Zu_12 Zd_12 Xc_12 hi
  have Vx := Lib.hid hv
  clear hv
  go_upto_region 9 with fail
  generalize hW : World.alloc w13 _ = V14
  have hn := below_new w13 (.cells #[.bool tx.g, .slice tx.A tx.n tx.c, .bool tx.gd, .slice tx.Ad tx.nd tx.cd] 27)
  have hx := Rb.new Ix_13.out
  rw [hW] at hn hx
  have B_14 := Lib.hid (below_chain B_13.out (by have := B_13.out.size; have := HRr.out; omega) hn)
  have Xa_14 : Hid (Rb V14 r a) := Lib.hid (Xa_13.out.on hn)
  have Zn_14 : Hid (Ba V14 b1 gn An nn cn xsn) := Lib.hid (Zn_13.out.on hn)
  have Zu_14 : Hid (Ba V14 b2 gu Au nu cu xsu) := Lib.hid (Zu_13.out.on hn)
  have Zd_14 : Hid (Ba V14 b3 gd Ad nd cd xsd) := Lib.hid (Zd_13.out.on hn)
  have Xc_14 : Hid (Rb V14 b4 tc) := Lib.hid (Xc_13.out.on hn)
  have Ix_14 : Hid (tx.In V14) := Lib.hid (Ix_13.out.on hn)
  have Xx_14 := Lib.hid hx
  clear hx hn hW B_13 Xa_13 Zn_13 Zu_13 Zd_13 Xc_13 Ix_13 Ix_14
  generalize w13.heap.size = b5 at *
  clear Xa_14 Xc_14 Zu_14 Zd_14
  go_cut [16, 17] (fun p s wx => IMid V14.heap.size V14.drew (zF + 1) p s wx)
  case first =>
    have x0 := Zn_14.out.drewZ
    have B : Below V14.heap.size V14.drew V14.drew := Below.refl _ _
    have o0 := Zn_14.out.bx.c0
    have o1 := Zn_14.out.bx.c1
    have nx := Nat.ne_of_lt Zn_14.out.bx.lt
    have m0 := World.new_ne _ _ o0
    have p0 := x0.bx.c0
    have p1 := x0.bx.c1
    have q0 := World.new_ne _ _ p0
    have q1 := World.new_ne _ _ p1
    have G0 := Lib.hid nx
    clear nx
    go_region_held3 (fun w' => w'.cell? ⟨b1, 0, none⟩ = some (.bool gn) ∧ w'.cell? ⟨b1, 1, none⟩ = some (.slice An nn cn))
      (first | exact ⟨p0, p1⟩ | go_keep)
      (first
        | (go_at_call 49
           refine (of_z 1 _ (by decide) (by decide)).mono ?_
           rintro e v1 ⟨gO, AO, nO, cO, xsO, rfl, hsO, hoO, hbn⟩
           have FO := Lib.hid hoO
           clear hoO
           first
           | (have hb1 : Below V14.drew.heap.size V14.drew v1 := ⟨hbn.os, hbn.tape, hbn.output, hbn.size, hbn.block⟩
              have x1 := x0.on hb1
              have D1 := below_chain B (Nat.le_refl _) hb1)
           | (have hb1 : Below (V14.drew.alloc (.cells #[.bool false, .slice none 0 0] 24)).heap.size (V14.drew.alloc (.cells #[.bool false, .slice none 0 0] 24)) v1 := ⟨hbn.os, hbn.tape, hbn.output, hbn.size, hbn.block⟩
              have bn : Bx v1 V14.heap.size false none 0 0 := (Bx.new V14.drew false none 0 0).below hb1 (by simp)
              have x1 := (x0.on (below_new _ _)).on hb1
              have D1 := below_chain (below_chain B (Nat.le_refl _) (below_new _ _)) (by simp) hb1)
           have nx1 := Nat.ne_of_lt x1.bx.lt
           have ge1 : V14.heap.size ≤ v1.heap.size := D1.size
           have G1 := Lib.hid (And.intro nx1 ge1)
           clear hbn hb1 p0 p1 q0 q1 o0 o1 m0 B nx1 ge1
           have p0 := x1.bx.c0
           have p1 := x1.bx.c1
           have q0 := World.new_ne _ _ p0
           have q1 := World.new_ne _ _ p1)
        | (go_at_call 50
           first
           | (have C := add_z (g := gn) (g' := gO) x1.sl hsO Vn.out FO.out HG.out.2.2.2
              refine C.mono ?_
              clear C
              rintro e v2 ⟨g9, A9, n9, c9, xs9, rfl, hs9, ho9, hbn⟩
              have x2 := x1.on hbn
              have D2 := below_chain D1 G1.out.2 hbn
              have nq := G0.out.symm
              try replace bn := bn.below hbn bn.lt)
           | (have be := below_new v1 (.cells #[.bool false, .slice none 0 0] 24)
              have bn := Bx.new v1 false none 0 0
              have C := add_z (g := gn) (g' := gO) (x1.on be).sl (hsO.on be) Vn.out FO.out HG.out.2.2.2
              refine C.mono ?_
              clear C
              rintro e v2 ⟨g9, A9, n9, c9, xs9, rfl, hs9, ho9, hbn⟩
              have x2 := (x1.on be).on hbn
              have D2 := below_chain (below_chain D1 G1.out.2 be) (Nat.le_trans G1.out.2 be.size) hbn
              have nq := G1.out.1.symm
              replace bn := bn.below hbn bn.lt
              clear be)
           have F9 := Lib.hid ho9
           clear p0 p1 q0 q1 hbn ho9
           have nx2 := Nat.ne_of_lt x2.bx.lt
           have ge2 : V14.heap.size ≤ v2.heap.size := D2.size
           have G2 := Lib.hid (And.intro nx2 ge2)
           clear nx2 ge2
           have p0 := x2.bx.c0
           have p1 := x2.bx.c1
           have q0 := World.new_ne _ _ p0
           have q1 := World.new_ne _ _ p1
           try
             have t0 := bn.c0
             have t1 := bn.c1
             have u0f := bn.f 0
             have u1f := bn.f 1
             have bb := Lib.hid bn
             clear bn))
    all_goals (go_wp2_with fail; go_meet; first
      | exact iMid_new D2 G2.out.2 hs9 F9.out
      | exact iMid_old bb.out D2 (Nat.le_refl _) hs9 F9.out
      | exact iMid_old bb.out D2 G1.out.2 hs9 F9.out)
  case rest =>
  have B_15 := Lib.hid (B_14.out.drew)
  have Zn_15 : Hid (Ba V14.drew b1 gn An nn cn xsn) := Lib.hid (⟨Zn_14.out.bx.drew, Zn_14.out.sl.drew⟩)
  have Xx_15 : Hid (Rb V14.drew b5 tx) := Lib.hid (Xx_14.out.drew)
  clear B_14 Zn_14 Xx_14
  obtain ⟨b6, ge, Ae, ne, ce, xse, rfl, rfl, hx, ho, hb⟩ := hcut
  have B_16 := Lib.hid (below_chain B_15.out (by have := B_15.out.size; have := HRr.out; omega) hb)
  have Zn_16 : Hid (Ba wc b1 gn An nn cn xsn) := Lib.hid (Zn_15.out.on hb)
  have Xx_16 : Hid (Rb wc b5 tx) := Lib.hid (Xx_15.out.on hb)
  have Ve := Lib.hid ho
  have Ze_16 := Lib.hid hx
  clear hx ho hb B_15 Zn_15 Xx_15
  obtain ⟨w16, rfl⟩ : ∃ x : World, x = wc := ⟨_, rfl⟩
  go_upto_region 10 with fail
  go_cut [18, 19] (fun p s wx => RMid w16.heap.size w16.drew (Rat.divInt zF 1) p s wx)
  case first =>
    have x0 := Zn_16.out.drewZ
    have B : Below w16.heap.size w16.drew w16.drew := Below.refl _ _
    have o0 := Zn_16.out.bx.c0
    have o1 := Zn_16.out.bx.c1
    have nx := Nat.ne_of_lt Zn_16.out.bx.lt
    have m0 := World.new_ne _ _ o0
    have p0 := x0.bx.c0
    have p1 := x0.bx.c1
    have q0 := World.new_ne _ _ p0
    have q1 := World.new_ne _ _ p1
    have G0 := Lib.hid nx
    clear nx
    go_region_held3 (fun w' => w'.cell? ⟨b1, 0, none⟩ = some (.bool gn) ∧ w'.cell? ⟨b1, 1, none⟩ = some (.slice An nn cn))
      (first | exact ⟨p0, p1⟩ | go_keep)
      (first
        | (go_at_call 49
           refine (of_z 1 _ (by decide) (by decide)).mono ?_
           rintro e v1 ⟨gO, AO, nO, cO, xsO, rfl, hsO, hoO, hbn⟩
           have FO := Lib.hid hoO
           clear hoO
           first
           | (have hb1 : Below w16.drew.heap.size w16.drew v1 := ⟨hbn.os, hbn.tape, hbn.output, hbn.size, hbn.block⟩
              have x1 := x0.on hb1
              have D1 := below_chain B (Nat.le_refl _) hb1)
           | (have hb1 : Below (w16.drew.alloc (.cells #[.bool false, .slice none 0 0, .bool false, .slice none 0 0] 27)).heap.size (w16.drew.alloc (.cells #[.bool false, .slice none 0 0, .bool false, .slice none 0 0] 27)) v1 := ⟨hbn.os, hbn.tape, hbn.output, hbn.size, hbn.block⟩
              have bn : Rb v1 w16.heap.size RVal.nil := (Rb.new (q := RVal.nil) (RVal.nil_in w16.drew)).on hb1
              have x1 := (x0.on (below_new _ _)).on hb1
              have D1 := below_chain (below_chain B (Nat.le_refl _) (below_new _ _)) (by simp) hb1)
           have nx1 := Nat.ne_of_lt x1.bx.lt
           have ge1 : w16.heap.size ≤ v1.heap.size := D1.size
           have G1 := Lib.hid (And.intro nx1 ge1)
           clear hbn hb1 p0 p1 q0 q1 o0 o1 m0 B nx1 ge1
           have p0 := x1.bx.c0
           have p1 := x1.bx.c1
           have q0 := World.new_ne _ _ p0
           have q1 := World.new_ne _ _ p1)
        | (go_at_call 16
           first
           | (have C := make_z (g := gn) (g' := gO) x1.sl hsO Vn.out FO.out (by decide)
              refine C.mono ?_
              clear C
              rintro e v2 ⟨q9, rfl, hs9, ho9, hbn⟩
              have x2 := x1.on hbn
              have D2 := below_chain D1 G1.out.2 hbn
              have nq := G0.out.symm
              try replace bn := bn.on hbn)
           | (have be := below_new v1 (.cells #[.bool false, .slice none 0 0, .bool false, .slice none 0 0] 27)
              have bn : Rb (v1.alloc (.cells #[.bool false, .slice none 0 0, .bool false, .slice none 0 0] 27)) v1.heap.size RVal.nil := Rb.new (q := RVal.nil) (RVal.nil_in v1)
              have C := make_z (g := gn) (g' := gO) (x1.on be).sl (hsO.on be) Vn.out FO.out (by decide)
              refine C.mono ?_
              clear C
              rintro e v2 ⟨q9, rfl, hs9, ho9, hbn⟩
              have x2 := (x1.on be).on hbn
              have D2 := below_chain (below_chain D1 G1.out.2 be) (Nat.le_trans G1.out.2 be.size) hbn
              have nq := G1.out.1.symm
              replace bn := bn.on hbn
              clear be)
           have F9 := Lib.hid ho9
           clear p0 p1 q0 q1 hbn ho9
           have nx2 := Nat.ne_of_lt x2.bx.lt
           have ge2 : w16.heap.size ≤ v2.heap.size := D2.size
           have G2 := Lib.hid (And.intro nx2 ge2)
           clear nx2 ge2
           have p0 := x2.bx.c0
           have p1 := x2.bx.c1
           have q0 := World.new_ne _ _ p0
           have q1 := World.new_ne _ _ p1
           try
             have t0 := bn.c0
             have t1 := bn.c1
             have t2 := bn.c2
             have t3 := bn.c3
             have u0f := bn.f 0
             have u1f := bn.f 1
             have u2f := bn.f 2
             have u3f := bn.f 3
             have bb := Lib.hid bn
             clear bn))
    all_goals (go_wp2_with fail; go_meet; first
      | exact rMid_new D2 G2.out.2 hs9 F9.out
      | exact rMid_old bb.out D2 (Nat.le_refl _) hs9 F9.out
      | exact rMid_old bb.out D2 G1.out.2 hs9 F9.out)
  case rest =>
  have B_17 := Lib.hid (B_16.out.drew)
  have Zn_17 : Hid (Ba w16.drew b1 gn An nn cn xsn) := Lib.hid (⟨Zn_16.out.bx.drew, Zn_16.out.sl.drew⟩)
  have Xx_17 : Hid (Rb w16.drew b5 tx) := Lib.hid (Xx_16.out.drew)
  have Ze_17 : Hid (Ba w16.drew b6 ge Ae ne ce xse) := Lib.hid (⟨Ze_16.out.bx.drew, Ze_16.out.sl.drew⟩)
  clear B_16 Zn_16 Xx_16 Ze_16
  obtain ⟨b7, tl, rfl, rfl, hx, ho, hb⟩ := hcut
  have B_18 := Lib.hid (below_chain B_17.out (by have := B_17.out.size; have := HRr.out; omega) hb)
  have Zn_18 : Hid (Ba wc b1 gn An nn cn xsn) := Lib.hid (Zn_17.out.on hb)
  have Xx_18 : Hid (Rb wc b5 tx) := Lib.hid (Xx_17.out.on hb)
  have Ze_18 : Hid (Ba wc b6 ge Ae ne ce xse) := Lib.hid (Ze_17.out.on hb)
  have Vl := Lib.hid ho
  have Xl_18 := Lib.hid hx
  clear hx ho hb B_17 Zn_17 Xx_17 Ze_17
  obtain ⟨w18, rfl⟩ : ∃ x : World, x = wc := ⟨_, rfl⟩
  go_upto_region 11 with fail
  go_cut [20, 21] (fun p s wx => RMid w18.heap.size w18.drew (Rat.divInt (zF + 1) 1) p s wx)
  case first =>
    have x0 := Ze_18.out.drewZ
    have B : Below w18.heap.size w18.drew w18.drew := Below.refl _ _
    have o0 := Ze_18.out.bx.c0
    have o1 := Ze_18.out.bx.c1
    have nx := Nat.ne_of_lt Ze_18.out.bx.lt
    have m0 := World.new_ne _ _ o0
    have p0 := x0.bx.c0
    have p1 := x0.bx.c1
    have q0 := World.new_ne _ _ p0
    have q1 := World.new_ne _ _ p1
    have G0 := Lib.hid nx
    clear nx
    go_region_held3 (fun w' => w'.cell? ⟨b6, 0, none⟩ = some (.bool ge) ∧ w'.cell? ⟨b6, 1, none⟩ = some (.slice Ae ne ce))
      (first | exact ⟨p0, p1⟩ | go_keep)
      (first
        | (go_at_call 49
           refine (of_z 1 _ (by decide) (by decide)).mono ?_
           rintro e v1 ⟨gO, AO, nO, cO, xsO, rfl, hsO, hoO, hbn⟩
           have FO := Lib.hid hoO
           clear hoO
           first
           | (have hb1 : Below w18.drew.heap.size w18.drew v1 := ⟨hbn.os, hbn.tape, hbn.output, hbn.size, hbn.block⟩
              have x1 := x0.on hb1
              have D1 := below_chain B (Nat.le_refl _) hb1)
           | (have hb1 : Below (w18.drew.alloc (.cells #[.bool false, .slice none 0 0, .bool false, .slice none 0 0] 27)).heap.size (w18.drew.alloc (.cells #[.bool false, .slice none 0 0, .bool false, .slice none 0 0] 27)) v1 := ⟨hbn.os, hbn.tape, hbn.output, hbn.size, hbn.block⟩
              have bn : Rb v1 w18.heap.size RVal.nil := (Rb.new (q := RVal.nil) (RVal.nil_in w18.drew)).on hb1
              have x1 := (x0.on (below_new _ _)).on hb1
              have D1 := below_chain (below_chain B (Nat.le_refl _) (below_new _ _)) (by simp) hb1)
           have nx1 := Nat.ne_of_lt x1.bx.lt
           have ge1 : w18.heap.size ≤ v1.heap.size := D1.size
           have G1 := Lib.hid (And.intro nx1 ge1)
           clear hbn hb1 p0 p1 q0 q1 o0 o1 m0 B nx1 ge1
           have p0 := x1.bx.c0
           have p1 := x1.bx.c1
           have q0 := World.new_ne _ _ p0
           have q1 := World.new_ne _ _ p1)
        | (go_at_call 16
           first
           | (have C := make_z (g := ge) (g' := gO) x1.sl hsO Ve.out FO.out (by decide)
              refine C.mono ?_
              clear C
              rintro e v2 ⟨q9, rfl, hs9, ho9, hbn⟩
              have x2 := x1.on hbn
              have D2 := below_chain D1 G1.out.2 hbn
              have nq := G0.out.symm
              try replace bn := bn.on hbn)
           | (have be := below_new v1 (.cells #[.bool false, .slice none 0 0, .bool false, .slice none 0 0] 27)
              have bn : Rb (v1.alloc (.cells #[.bool false, .slice none 0 0, .bool false, .slice none 0 0] 27)) v1.heap.size RVal.nil := Rb.new (q := RVal.nil) (RVal.nil_in v1)
              have C := make_z (g := ge) (g' := gO) (x1.on be).sl (hsO.on be) Ve.out FO.out (by decide)
              refine C.mono ?_
              clear C
              rintro e v2 ⟨q9, rfl, hs9, ho9, hbn⟩
              have x2 := (x1.on be).on hbn
              have D2 := below_chain (below_chain D1 G1.out.2 be) (Nat.le_trans G1.out.2 be.size) hbn
              have nq := G1.out.1.symm
              replace bn := bn.on hbn
              clear be)
           have F9 := Lib.hid ho9
           clear p0 p1 q0 q1 hbn ho9
           have nx2 := Nat.ne_of_lt x2.bx.lt
           have ge2 : w18.heap.size ≤ v2.heap.size := D2.size
           have G2 := Lib.hid (And.intro nx2 ge2)
           clear nx2 ge2
           have p0 := x2.bx.c0
           have p1 := x2.bx.c1
           have q0 := World.new_ne _ _ p0
           have q1 := World.new_ne _ _ p1
           try
             have t0 := bn.c0
             have t1 := bn.c1
             have t2 := bn.c2
             have t3 := bn.c3
             have u0f := bn.f 0
             have u1f := bn.f 1
             have u2f := bn.f 2
             have u3f := bn.f 3
             have bb := Lib.hid bn
             clear bn))
    all_goals (go_wp2_with fail; go_meet; first
      | exact rMid_new D2 G2.out.2 hs9 F9.out
      | exact rMid_old bb.out D2 (Nat.le_refl _) hs9 F9.out
      | exact rMid_old bb.out D2 G1.out.2 hs9 F9.out)
  case rest =>
  have B_19 := Lib.hid (B_18.out.drew)
  have Zn_19 : Hid (Ba w18.drew b1 gn An nn cn xsn) := Lib.hid (⟨Zn_18.out.bx.drew, Zn_18.out.sl.drew⟩)
  have Xx_19 : Hid (Rb w18.drew b5 tx) := Lib.hid (Xx_18.out.drew)
  have Ze_19 : Hid (Ba w18.drew b6 ge Ae ne ce xse) := Lib.hid (⟨Ze_18.out.bx.drew, Ze_18.out.sl.drew⟩)
  have Xl_19 : Hid (Rb w18.drew b7 tl) := Lib.hid (Xl_18.out.drew)
  clear B_18 Zn_18 Xx_18 Ze_18 Xl_18
  obtain ⟨b8, th, rfl, rfl, hx, ho, hb⟩ := hcut
  have B_20 := Lib.hid (below_chain B_19.out (by have := B_19.out.size; have := HRr.out; omega) hb)
  have Zn_20 : Hid (Ba wc b1 gn An nn cn xsn) := Lib.hid (Zn_19.out.on hb)
  have Xx_20 : Hid (Rb wc b5 tx) := Lib.hid (Xx_19.out.on hb)
  have Ze_20 : Hid (Ba wc b6 ge Ae ne ce xse) := Lib.hid (Ze_19.out.on hb)
  have Xl_20 : Hid (Rb wc b7 tl) := Lib.hid (Xl_19.out.on hb)
  have Vh := Lib.hid ho
  have Xh_20 := Lib.hid hx
  clear hx ho hb B_19 Zn_19 Xx_19 Ze_19 Xl_19
  obtain ⟨w20, rfl⟩ : ∃ x : World, x = wc := ⟨_, rfl⟩
  clear Zn_20 Ze_20
  have kl0 := Xl_20.out.c0
  have kl1 := Xl_20.out.c1
  have kl2 := Xl_20.out.c2
  have kl3 := Xl_20.out.c3
  have kx0 := Xx_20.out.c0
  have kx1 := Xx_20.out.c1
  have kx2 := Xx_20.out.c2
  have kx3 := Xx_20.out.c3
  go_wp2_with fail
  refine (cmp_q Xl_20.out.sl Xx_20.out.sl Vl.out Vx.out u1 HU.out.1).mono ?_
  clear kl0 kl1 kl2 kl3 kx0 kx1 kx2 kx3
  rintro e w21 ⟨rfl, hb⟩
  have B_21 := Lib.hid (below_chain B_20.out (by have := B_20.out.size; have := HRr.out; omega) hb)
  have Xx_21 : Hid (Rb w21 b5 tx) := Lib.hid (Xx_20.out.on hb)
  have Xl_21 : Hid (Rb w21 b7 tl) := Lib.hid (Xl_20.out.on hb)
  have Xh_21 : Hid (Rb w21 b8 th) := Lib.hid (Xh_20.out.on hb)
  clear hb B_20 Xx_20 Xl_20 Xh_20
  have kx0 := Xx_21.out.c0
  have kx1 := Xx_21.out.c1
  have kx2 := Xx_21.out.c2
  have kx3 := Xx_21.out.c3
  have kh0 := Xh_21.out.c0
  have kh1 := Xh_21.out.c1
  have kh2 := Xh_21.out.c2
  have kh3 := Xh_21.out.c3
  go_wp2_with fail
  refine (cmp_q Xx_21.out.sl Xh_21.out.sl Vx.out Vh.out u2 HU.out.2.1).mono ?_
  clear kx0 kx1 kx2 kx3 kh0 kh1 kh2 kh3
  rintro e w22 ⟨rfl, hb⟩
  have B_22 := Lib.hid (below_chain B_21.out (by have := B_21.out.size; have := HRr.out; omega) hb)
  have Xx_22 : Hid (Rb w22 b5 tx) := Lib.hid (Xx_21.out.on hb)
  have Xl_22 : Hid (Rb w22 b7 tl) := Lib.hid (Xl_21.out.on hb)
  have Xh_22 : Hid (Rb w22 b8 th) := Lib.hid (Xh_21.out.on hb)
  clear hb B_21 Xx_21 Xl_21 Xh_21
  have g3 : decide (u1 ≤ 0) = true := HU.out.2.2.1
  have g4 : decide (u2 < 0) = true := HU.out.2.2.2
  go_wp2
  go_ret
  exact ⟨rfl, by rw [HRr.out]; exact B_22.out⟩

end Go.Proofs.YtlibjampolcbhaaGreat
