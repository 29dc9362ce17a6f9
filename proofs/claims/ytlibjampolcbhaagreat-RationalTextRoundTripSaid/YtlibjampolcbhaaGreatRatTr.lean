/-
  Stage 2: RationalTextRoundTrip, its walk.
-/
import Derived.Test.YtlibjampolcbhaaGreatRatTx
import Derived.Test.YtlibjampolcbhaaGreatRatSqA
namespace Go.Proofs.YtlibjampolcbhaaGreat
open Go.RowKit

theorem one_ratT (a : RVal) (w W : World) (h : a.In w) (hW : w.alloc (.cells #[.bool a.g, .slice a.A a.n a.c, .bool a.gd, .slice a.Ad a.nd a.cd] 27) = W) : Below w.heap.size w W ∧ Rb W w.heap.size a := by
  have hn := below_new w (.cells #[.bool a.g, .slice a.A a.n a.c, .bool a.gd, .slice a.Ad a.nd a.cd] 27)
  have hx := Rb.new h
  rw [hW] at hn hx
  exact ⟨hn, hx⟩

set_option maxRecDepth 20000 in
set_option maxHeartbeats 4000000 in
theorem tr_no (a : RVal) (s : ByteArray) (w : World) (h1 : a.In w) (hv : vok a a a 64 = false) :
    Calls Tryz.prog 13 #[.agg #[.bool a.g, .slice a.A a.n a.c, .bool a.gd, .slice a.Ad a.nd a.cd], .string s] w fun e w' => e = .returned (.bool true) ∧ Below w.heap.size w w' := by
  have HV := Lib.hid hv
  have HS := Lib.hid h1
  clear h1 hv
  go_enter Tryz.func13, Tryz.ntmps13
  go_wp2_with fail
  generalize hW : World.alloc w _ = V
  obtain ⟨hb, ra⟩ := one_ratT a w V HS.out hW
  have B_0 : Hid (Below w.heap.size w V) := Lib.hid (hb)
  have Xa_0 := Lib.hid ra
  clear hb ra hW
  generalize hr : w.heap.size = r at *
  have HRr := Lib.hid hr
  clear hr
  refine (sane V).mono ?_
  rintro e w1 ⟨rfl, hb⟩
  have B_1 := Lib.hid (below_chain B_0.out (by have := B_0.out.size; have := HRr.out; omega) hb)
  have Xa_1 : Hid (Rb w1 r a) := Lib.hid (Xa_0.out.on hb)
  clear hb B_0 Xa_0
  have ka0 := Xa_1.out.c0
  have ka1 := Xa_1.out.c1
  have ka2 := Xa_1.out.c2
  have ka3 := Xa_1.out.c3
  go_wp2_with fail
  have C := val_any a a a 64 w1 Xa_1.out.sl Xa_1.out.sl Xa_1.out.sl
  rw [HV.out] at C
  refine C.mono ?_
  clear C
  clear ka0 ka1 ka2 ka3
  rintro e w2 ⟨rfl, hb⟩
  have B_2 := Lib.hid (below_chain B_1.out (by have := B_1.out.size; have := HRr.out; omega) hb)
  have Xa_2 : Hid (Rb w2 r a) := Lib.hid (Xa_1.out.on hb)
  clear hb B_1 Xa_1
  go_wp2
  go_ret
  exact ⟨rfl, by rw [HRr.out]; exact B_2.out⟩

set_option maxRecDepth 20000 in
set_option maxHeartbeats 4000000 in
theorem tr_long (a : RVal) (s : ByteArray) (w : World) (h1 : a.In w) (hv : vok a a a 64 = true) (hl : decide ((1000 : Int) < (s.size : Int)) = true) :
    Calls Tryz.prog 13 #[.agg #[.bool a.g, .slice a.A a.n a.c, .bool a.gd, .slice a.Ad a.nd a.cd], .string s] w fun e w' => e = .returned (.bool true) ∧ Below w.heap.size w w' := by
  have HV := Lib.hid hv
  have HL := Lib.hid hl
  have HS := Lib.hid h1
  clear h1 hv hl
  go_enter Tryz.func13, Tryz.ntmps13
  go_wp2_with fail
  generalize hW : World.alloc w _ = V
  obtain ⟨hb, ra⟩ := one_ratT a w V HS.out hW
  have B_0 : Hid (Below w.heap.size w V) := Lib.hid (hb)
  have Xa_0 := Lib.hid ra
  clear hb ra hW
  generalize hr : w.heap.size = r at *
  have HRr := Lib.hid hr
  clear hr
  refine (sane V).mono ?_
  rintro e w1 ⟨rfl, hb⟩
  have B_1 := Lib.hid (below_chain B_0.out (by have := B_0.out.size; have := HRr.out; omega) hb)
  have Xa_1 : Hid (Rb w1 r a) := Lib.hid (Xa_0.out.on hb)
  clear hb B_0 Xa_0
  have ka0 := Xa_1.out.c0
  have ka1 := Xa_1.out.c1
  have ka2 := Xa_1.out.c2
  have ka3 := Xa_1.out.c3
  go_wp2_with fail
  have C := val_any a a a 64 w1 Xa_1.out.sl Xa_1.out.sl Xa_1.out.sl
  rw [HV.out] at C
  refine C.mono ?_
  clear C
  clear ka0 ka1 ka2 ka3
  rintro e w2 ⟨rfl, hb⟩
  have B_2 := Lib.hid (below_chain B_1.out (by have := B_1.out.size; have := HRr.out; omega) hb)
  have Xa_2 : Hid (Rb w2 r a) := Lib.hid (Xa_1.out.on hb)
  clear hb B_1 Xa_1
  have g1 : decide ((1000 : Int) < (s.size : Int)) = true := HL.out
  go_wp2
  go_ret
  exact ⟨rfl, by rw [HRr.out]; exact B_2.out⟩

set_option maxRecDepth 20000 in
set_option maxHeartbeats 4000000 in
theorem tr_bad (a : RVal) (s : ByteArray) (w : World) (h1 : a.In w) (x : Rat) (hx : rv a.o a.od = some x) (l : List UInt8) (hv : vok a a a 64 = true) (hl : decide ((1000 : Int) < (s.size : Int)) = false) (hT : ∀ w, a.In w → Calls Tryz.prog 42 #[.agg #[.bool a.g, .slice a.A a.n a.c, .bool a.gd, .slice a.Ad a.nd a.cd]] w (RetTx l 0 w)) (hP : ∀ w, Calls Tryz.prog 44 #[.string ⟨l.toArray⟩] w (RetV x w)) (E : Int) (hQ : (∀ w, Calls Tryz.prog 44 #[.string s] w (RetR 0 0 E w)) ∧ (E != 0) = true) :
    Calls Tryz.prog 13 #[.agg #[.bool a.g, .slice a.A a.n a.c, .bool a.gd, .slice a.Ad a.nd a.cd], .string s] w fun e w' => e = .returned (.bool true) ∧ Below w.heap.size w w' := by
  have Va := Lib.hid hx
  have HV := Lib.hid hv
  have HL := Lib.hid hl
  have HT := Lib.hid hT
  have HP := Lib.hid hP
  have HQ := Lib.hid hQ
  have HS := Lib.hid h1
  clear h1 hx hv hl hT hP hQ
  go_enter Tryz.func13, Tryz.ntmps13
  go_wp2_with fail
  generalize hW : World.alloc w _ = V
  obtain ⟨hb, ra⟩ := one_ratT a w V HS.out hW
  have B_0 : Hid (Below w.heap.size w V) := Lib.hid (hb)
  have Xa_0 := Lib.hid ra
  clear hb ra hW
  generalize hr : w.heap.size = r at *
  have HRr := Lib.hid hr
  clear hr
  refine (sane V).mono ?_
  rintro e w1 ⟨rfl, hb⟩
  have B_1 := Lib.hid (below_chain B_0.out (by have := B_0.out.size; have := HRr.out; omega) hb)
  have Xa_1 : Hid (Rb w1 r a) := Lib.hid (Xa_0.out.on hb)
  clear hb B_0 Xa_0
  have ka0 := Xa_1.out.c0
  have ka1 := Xa_1.out.c1
  have ka2 := Xa_1.out.c2
  have ka3 := Xa_1.out.c3
  go_wp2_with fail
  have C := val_any a a a 64 w1 Xa_1.out.sl Xa_1.out.sl Xa_1.out.sl
  rw [HV.out] at C
  refine C.mono ?_
  clear C
  clear ka0 ka1 ka2 ka3
  rintro e w2 ⟨rfl, hb⟩
  have B_2 := Lib.hid (below_chain B_1.out (by have := B_1.out.size; have := HRr.out; omega) hb)
  have Xa_2 : Hid (Rb w2 r a) := Lib.hid (Xa_1.out.on hb)
  clear hb B_1 Xa_1
  have g1 : decide ((1000 : Int) < (s.size : Int)) = false := HL.out
  have ka0 := Xa_2.out.c0
  have ka1 := Xa_2.out.c1
  have ka2 := Xa_2.out.c2
  have ka3 := Xa_2.out.c3
  go_wp2_with fail
  clear g1
  refine (HT.out w2 Xa_2.out.sl).mono ?_
  clear ka0 ka1 ka2 ka3
  rintro e w3 ⟨rfl, hb⟩
  have B_3 := Lib.hid (below_chain B_2.out (by have := B_2.out.size; have := HRr.out; omega) hb)
  have Xa_3 : Hid (Rb w3 r a) := Lib.hid (Xa_2.out.on hb)
  clear hb B_2 Xa_2
  go_wp2_with fail
  refine (HP.out w3).mono ?_
  rintro e w4 ⟨tp, rfl, hi, hv, hb⟩
  have B_4 := Lib.hid (below_chain B_3.out (by have := B_3.out.size; have := HRr.out; omega) hb)
  have Xa_4 : Hid (Rb w4 r a) := Lib.hid (Xa_3.out.on hb)
  have Ip_4 : Hid (tp.In w4) := Lib.hid (hi)
  clear hb B_3 Xa_3 hi
  have Vp := Lib.hid hv
  clear hv
  have ka0 := (Xa_4.out.on (below_new w4 (.cells #[.bool tp.g, .slice tp.A tp.n tp.c, .bool tp.gd, .slice tp.Ad tp.nd tp.cd] 27))).c0
  have ka1 := (Xa_4.out.on (below_new w4 (.cells #[.bool tp.g, .slice tp.A tp.n tp.c, .bool tp.gd, .slice tp.Ad tp.nd tp.cd] 27))).c1
  have ka2 := (Xa_4.out.on (below_new w4 (.cells #[.bool tp.g, .slice tp.A tp.n tp.c, .bool tp.gd, .slice tp.Ad tp.nd tp.cd] 27))).c2
  have ka3 := (Xa_4.out.on (below_new w4 (.cells #[.bool tp.g, .slice tp.A tp.n tp.c, .bool tp.gd, .slice tp.Ad tp.nd tp.cd] 27))).c3
  go_wp2_with fail
  generalize hW : World.alloc w4 _ = V5
  have hn := below_new w4 (.cells #[.bool tp.g, .slice tp.A tp.n tp.c, .bool tp.gd, .slice tp.Ad tp.nd tp.cd] 27)
  have hx := Rb.new Ip_4.out
  rw [hW] at hn hx
  have B_5 := Lib.hid (below_chain B_4.out (by have := B_4.out.size; have := HRr.out; omega) hn)
  have Xa_5 : Hid (Rb V5 r a) := Lib.hid (Xa_4.out.on hn)
  have Ip_5 : Hid (tp.In V5) := Lib.hid (Ip_4.out.on hn)
  have Xp_5 := Lib.hid hx
  clear hx hn hW B_4 Xa_4 Ip_4 Ip_5
  generalize w4.heap.size = b1 at *
  refine (same_v Xp_5.out.sl Xa_5.out.sl Vp.out Va.out rfl).mono ?_
  clear ka0 ka1 ka2 ka3
  rintro e w6 ⟨rfl, hb⟩
  have B_6 := Lib.hid (below_chain B_5.out (by have := B_5.out.size; have := HRr.out; omega) hb)
  have Xa_6 : Hid (Rb w6 r a) := Lib.hid (Xa_5.out.on hb)
  have Xp_6 : Hid (Rb w6 b1 tp) := Lib.hid (Xp_5.out.on hb)
  clear hb B_5 Xa_5 Xp_5
  go_wp2_with fail
  refine (HQ.out.1 w6).mono ?_
  rintro e w7 ⟨ty, rfl, hi, hv, hv2, hb⟩
  have B_7 := Lib.hid (below_chain B_6.out (by have := B_6.out.size; have := HRr.out; omega) hb)
  have Xa_7 : Hid (Rb w7 r a) := Lib.hid (Xa_6.out.on hb)
  have Xp_7 : Hid (Rb w7 b1 tp) := Lib.hid (Xp_6.out.on hb)
  have Iy_7 : Hid (ty.In w7) := Lib.hid (hi)
  clear hb B_6 Xa_6 Xp_6 hi
  clear hv hv2
  have g2 : (E != 0) = true := HQ.out.2
  go_wp2_with fail
  generalize hW : World.alloc w7 _ = V8
  have hn := below_new w7 (.cells #[.bool ty.g, .slice ty.A ty.n ty.c, .bool ty.gd, .slice ty.Ad ty.nd ty.cd] 27)
  have hx := Rb.new Iy_7.out
  rw [hW] at hn hx
  have B_8 := Lib.hid (below_chain B_7.out (by have := B_7.out.size; have := HRr.out; omega) hn)
  have Xa_8 : Hid (Rb V8 r a) := Lib.hid (Xa_7.out.on hn)
  have Xp_8 : Hid (Rb V8 b1 tp) := Lib.hid (Xp_7.out.on hn)
  have Iy_8 : Hid (ty.In V8) := Lib.hid (Iy_7.out.on hn)
  have Xy_8 := Lib.hid hx
  clear hx hn hW B_7 Xa_7 Xp_7 Iy_7 Iy_8
  generalize w7.heap.size = b2 at *
  go_wp2
  go_ret
  exact ⟨rfl, by rw [HRr.out]; exact B_8.out⟩

set_option maxRecDepth 20000 in
set_option maxHeartbeats 4000000 in
theorem tr_good (a : RVal) (s : ByteArray) (w : World) (h1 : a.In w) (x : Rat) (hx : rv a.o a.od = some x) (l : List UInt8) (hv : vok a a a 64 = true) (hl : decide ((1000 : Int) < (s.size : Int)) = false) (hT : ∀ w, a.In w → Calls Tryz.prog 42 #[.agg #[.bool a.g, .slice a.A a.n a.c, .bool a.gd, .slice a.Ad a.nd a.cd]] w (RetTx l 0 w)) (hP : ∀ w, Calls Tryz.prog 44 #[.string ⟨l.toArray⟩] w (RetV x w)) (y : Rat) (hQ : (∀ w, Calls Tryz.prog 44 #[.string s] w (RetV y w)) ∧ ∀ (q : RVal) (w : World), q.In w → rv q.o q.od = some y → Calls Tryz.prog 42 #[.agg #[.bool q.g, .slice q.A q.n q.c, .bool q.gd, .slice q.Ad q.nd q.cd]] w fun e w' => e = .returned (.tuple #[.string s, .int .i64 0]) ∧ Below w.heap.size w w') :
    Calls Tryz.prog 13 #[.agg #[.bool a.g, .slice a.A a.n a.c, .bool a.gd, .slice a.Ad a.nd a.cd], .string s] w fun e w' => e = .returned (.bool true) ∧ Below w.heap.size w w' := by
  have Va := Lib.hid hx
  have HV := Lib.hid hv
  have HL := Lib.hid hl
  have HT := Lib.hid hT
  have HP := Lib.hid hP
  have HQ := Lib.hid hQ
  have HS := Lib.hid h1
  clear h1 hx hv hl hT hP hQ
  go_enter Tryz.func13, Tryz.ntmps13
  go_wp2_with fail
  generalize hW : World.alloc w _ = V
  obtain ⟨hb, ra⟩ := one_ratT a w V HS.out hW
  have B_0 : Hid (Below w.heap.size w V) := Lib.hid (hb)
  have Xa_0 := Lib.hid ra
  clear hb ra hW
  generalize hr : w.heap.size = r at *
  have HRr := Lib.hid hr
  clear hr
  refine (sane V).mono ?_
  rintro e w1 ⟨rfl, hb⟩
  have B_1 := Lib.hid (below_chain B_0.out (by have := B_0.out.size; have := HRr.out; omega) hb)
  have Xa_1 : Hid (Rb w1 r a) := Lib.hid (Xa_0.out.on hb)
  clear hb B_0 Xa_0
  have ka0 := Xa_1.out.c0
  have ka1 := Xa_1.out.c1
  have ka2 := Xa_1.out.c2
  have ka3 := Xa_1.out.c3
  go_wp2_with fail
  have C := val_any a a a 64 w1 Xa_1.out.sl Xa_1.out.sl Xa_1.out.sl
  rw [HV.out] at C
  refine C.mono ?_
  clear C
  clear ka0 ka1 ka2 ka3
  rintro e w2 ⟨rfl, hb⟩
  have B_2 := Lib.hid (below_chain B_1.out (by have := B_1.out.size; have := HRr.out; omega) hb)
  have Xa_2 : Hid (Rb w2 r a) := Lib.hid (Xa_1.out.on hb)
  clear hb B_1 Xa_1
  have g1 : decide ((1000 : Int) < (s.size : Int)) = false := HL.out
  have ka0 := Xa_2.out.c0
  have ka1 := Xa_2.out.c1
  have ka2 := Xa_2.out.c2
  have ka3 := Xa_2.out.c3
  go_wp2_with fail
  clear g1
  refine (HT.out w2 Xa_2.out.sl).mono ?_
  clear ka0 ka1 ka2 ka3
  rintro e w3 ⟨rfl, hb⟩
  have B_3 := Lib.hid (below_chain B_2.out (by have := B_2.out.size; have := HRr.out; omega) hb)
  have Xa_3 : Hid (Rb w3 r a) := Lib.hid (Xa_2.out.on hb)
  clear hb B_2 Xa_2
  go_wp2_with fail
  refine (HP.out w3).mono ?_
  rintro e w4 ⟨tp, rfl, hi, hv, hb⟩
  have B_4 := Lib.hid (below_chain B_3.out (by have := B_3.out.size; have := HRr.out; omega) hb)
  have Xa_4 : Hid (Rb w4 r a) := Lib.hid (Xa_3.out.on hb)
  have Ip_4 : Hid (tp.In w4) := Lib.hid (hi)
  clear hb B_3 Xa_3 hi
  have Vp := Lib.hid hv
  clear hv
  have ka0 := (Xa_4.out.on (below_new w4 (.cells #[.bool tp.g, .slice tp.A tp.n tp.c, .bool tp.gd, .slice tp.Ad tp.nd tp.cd] 27))).c0
  have ka1 := (Xa_4.out.on (below_new w4 (.cells #[.bool tp.g, .slice tp.A tp.n tp.c, .bool tp.gd, .slice tp.Ad tp.nd tp.cd] 27))).c1
  have ka2 := (Xa_4.out.on (below_new w4 (.cells #[.bool tp.g, .slice tp.A tp.n tp.c, .bool tp.gd, .slice tp.Ad tp.nd tp.cd] 27))).c2
  have ka3 := (Xa_4.out.on (below_new w4 (.cells #[.bool tp.g, .slice tp.A tp.n tp.c, .bool tp.gd, .slice tp.Ad tp.nd tp.cd] 27))).c3
  go_wp2_with fail
  generalize hW : World.alloc w4 _ = V5
  have hn := below_new w4 (.cells #[.bool tp.g, .slice tp.A tp.n tp.c, .bool tp.gd, .slice tp.Ad tp.nd tp.cd] 27)
  have hx := Rb.new Ip_4.out
  rw [hW] at hn hx
  have B_5 := Lib.hid (below_chain B_4.out (by have := B_4.out.size; have := HRr.out; omega) hn)
  have Xa_5 : Hid (Rb V5 r a) := Lib.hid (Xa_4.out.on hn)
  have Ip_5 : Hid (tp.In V5) := Lib.hid (Ip_4.out.on hn)
  have Xp_5 := Lib.hid hx
  clear hx hn hW B_4 Xa_4 Ip_4 Ip_5
  generalize w4.heap.size = b1 at *
  refine (same_v Xp_5.out.sl Xa_5.out.sl Vp.out Va.out rfl).mono ?_
  clear ka0 ka1 ka2 ka3
  rintro e w6 ⟨rfl, hb⟩
  have B_6 := Lib.hid (below_chain B_5.out (by have := B_5.out.size; have := HRr.out; omega) hb)
  have Xa_6 : Hid (Rb w6 r a) := Lib.hid (Xa_5.out.on hb)
  have Xp_6 : Hid (Rb w6 b1 tp) := Lib.hid (Xp_5.out.on hb)
  clear hb B_5 Xa_5 Xp_5
  go_wp2_with fail
  refine (HQ.out.1 w6).mono ?_
  rintro e w7 ⟨ty, rfl, hi, hv, hb⟩
  have B_7 := Lib.hid (below_chain B_6.out (by have := B_6.out.size; have := HRr.out; omega) hb)
  have Xa_7 : Hid (Rb w7 r a) := Lib.hid (Xa_6.out.on hb)
  have Xp_7 : Hid (Rb w7 b1 tp) := Lib.hid (Xp_6.out.on hb)
  have Iy_7 : Hid (ty.In w7) := Lib.hid (hi)
  clear hb B_6 Xa_6 Xp_6 hi
  have Vy := Lib.hid hv
  clear hv
  go_wp2_with fail
  generalize hW : World.alloc w7 _ = V8
  have hn := below_new w7 (.cells #[.bool ty.g, .slice ty.A ty.n ty.c, .bool ty.gd, .slice ty.Ad ty.nd ty.cd] 27)
  have hx := Rb.new Iy_7.out
  rw [hW] at hn hx
  have B_8 := Lib.hid (below_chain B_7.out (by have := B_7.out.size; have := HRr.out; omega) hn)
  have Xa_8 : Hid (Rb V8 r a) := Lib.hid (Xa_7.out.on hn)
  have Xp_8 : Hid (Rb V8 b1 tp) := Lib.hid (Xp_7.out.on hn)
  have Iy_8 : Hid (ty.In V8) := Lib.hid (Iy_7.out.on hn)
  have Xy_8 := Lib.hid hx
  clear hx hn hW B_7 Xa_7 Xp_7 Iy_7 Iy_8
  generalize w7.heap.size = b2 at *
  refine (HQ.out.2 ty V8 Xy_8.out.sl Vy.out).mono ?_
  rintro e w9 ⟨rfl, hb⟩
  have B_9 := Lib.hid (below_chain B_8.out (by have := B_8.out.size; have := HRr.out; omega) hb)
  have Xa_9 : Hid (Rb w9 r a) := Lib.hid (Xa_8.out.on hb)
  have Xp_9 : Hid (Rb w9 b1 tp) := Lib.hid (Xp_8.out.on hb)
  have Xy_9 : Hid (Rb w9 b2 ty) := Lib.hid (Xy_8.out.on hb)
  clear hb B_8 Xa_8 Xp_8 Xy_8
  have ky0 := Xy_9.out.c0
  have ky1 := Xy_9.out.c1
  have ky2 := Xy_9.out.c2
  have ky3 := Xy_9.out.c3
  go_wp2_with fail
  have C := ratValid_r Xy_9.out.sl
  rw [isSome_of Vy.out] at C
  refine C.mono ?_
  clear C
  clear ky0 ky1 ky2 ky3
  rintro e w10 ⟨rfl, hb⟩
  have B_10 := Lib.hid (below_chain B_9.out (by have := B_9.out.size; have := HRr.out; omega) hb)
  have Xa_10 : Hid (Rb w10 r a) := Lib.hid (Xa_9.out.on hb)
  have Xp_10 : Hid (Rb w10 b1 tp) := Lib.hid (Xp_9.out.on hb)
  have Xy_10 : Hid (Rb w10 b2 ty) := Lib.hid (Xy_9.out.on hb)
  clear hb B_9 Xa_9 Xp_9 Xy_9
  go_wp2
  go_ret
  exact ⟨rfl, by rw [HRr.out]; exact B_10.out⟩

theorem rtx_len {x : Rat} (h1 : x.num.natAbs < BIG) (h2 : x.den < BIG) : (rtx x).length ≤ 4001 := by
  have a := decT_len h1
  have b := decT_len (z := (x.den : Int)) (by rw [Int.natAbs_natCast]; exact h2)
  unfold rtx
  by_cases h : x.den = 1
  · rw [if_pos h]; omega
  · rw [if_neg h, List.length_append, List.length_cons]; omega
theorem rationalTextRoundTrip_any (a : RVal) (s : ByteArray) (w : World) (h1 : a.In w) :
    Calls Tryz.prog 13 #[.agg #[.bool a.g, .slice a.A a.n a.c, .bool a.gd, .slice a.Ad a.nd a.cd], .string s] w fun e w' => e = .returned (.bool true) ∧ Below w.heap.size w w' := by
  rcases hv : vok a a a 64 with _ | _
  · exact tr_no a s w h1 hv
  · rcases hl : decide ((1000 : Int) < (s.size : Int)) with _ | _
    · have hl' := of_decide_eq_false hl
      obtain ⟨x, _, _, hx, _, _, bx, _, _⟩ := vok_yes h1 h1 h1 hv
      have bx : Bd 2048 x := bx
      have n1 : x.num.natAbs < BIG := big_le bx.num (by decide)
      have n2 : x.den < BIG := by have := big_le bx.den (by decide : 2048 ≤ 4096); rwa [Int.natAbs_natCast] at this
      have hT : ∀ w, a.In w → Calls Tryz.prog 42 #[.agg #[.bool a.g, .slice a.A a.n a.c, .bool a.gd, .slice a.Ad a.nd a.cd]] w (RetTx (rtx x) 0 w) := fun w h => text_q h hx
      have hP : ∀ w, Calls Tryz.prog 44 #[.string ⟨(rtx x).toArray⟩] w (RetV x w) := fun w => by
        have k := rpr_rtx n1 n2
        have hs : (⟨(rtx x).toArray⟩ : ByteArray).size ≤ 140737488351232 := by
          show (rtx x).toArray.size ≤ _
          rw [List.size_toArray]
          have := rtx_len n1 n2
          omega
        refine (parse_r ⟨(rtx x).toArray⟩ w hs).mono fun e w' h => ?_
        show RetV x w e w'
        rw [show (⟨(rtx x).toArray⟩ : ByteArray).data.toList = rtx x from rfl, k.1] at h
        exact h.v k.2.1 k.2.2
      have hs : s.size ≤ 140737488351232 := by omega
      by_cases hE : rprE s.data.toList = 0
      · obtain ⟨y, hy, hr⟩ := rtx_rpr hE
        have s1 := rv_some hy
        refine tr_good a s w h1 x hx (rtx x) hv hl hT hP y ⟨fun w => ?_, fun q w hq hz => ?_⟩
        · refine (parse_r s w hs).mono fun e w' h => ?_
          rw [hE] at h
          exact h.v (Option.some.inj s1.1) (Option.some.inj s1.2)
        · refine (text_q hq hz).mono fun e w' h => ?_
          have h : e = .returned (.tuple #[.string ⟨(rtx y).toArray⟩, .int .i64 0]) ∧ Below w.heap.size w w' := h
          rw [hr] at h
          simpa using h
      · refine tr_bad a s w h1 x hx (rtx x) hv hl hT hP (rprE s.data.toList) ⟨fun w => ?_, by rw [bne_iff_ne]; exact hE⟩
        refine (parse_r s w hs).mono fun e w' h => ?_
        unfold rprN rprD at h
        rw [if_neg hE, if_neg hE] at h
        exact h
    · exact tr_long a s w h1 hv hl
end Go.Proofs.YtlibjampolcbhaaGreat