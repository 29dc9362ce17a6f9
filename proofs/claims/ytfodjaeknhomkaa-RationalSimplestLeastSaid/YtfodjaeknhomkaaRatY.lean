/-
  Stage 2: the laws' sanity holds.
-/
import Derived.Test.YtfodjaeknhomkaaRatW
namespace Go.Proofs.Ytfodjaeknhomkaa
open Go.RowKit
structure SaneW (w0 : World) (b1 b3 b7 b9 : Nat) (t1 t3 t9 : RVal) (g : Bool) (A : Option Addr) (n c : Nat) (xs : List Nat) (w : World) : Prop where
  f1 : Rb w b1 t1
  f2 : Rb w b3 t3
  f3 : Ba w b7 g A n c xs
  f4 : Rb w b9 t9
  f5 : Below w0.heap.size w0 w
theorem SaneW.on {w0 w w' : World} {b1 b3 b7 b9 : Nat} {t1 t3 t9 : RVal} {g : Bool} {A : Option Addr} {n c : Nat} {xs : List Nat} (h : SaneW w0 b1 b3 b7 b9 t1 t3 t9 g A n c xs w) (hb : Below w.heap.size w w') : SaneW w0 b1 b3 b7 b9 t1 t3 t9 g A n c xs w' :=
  ⟨h.f1.on hb, h.f2.on hb, h.f3.on hb, h.f4.on hb, below_chain h.f5 h.f5.size hb⟩
set_option maxRecDepth 20000 in
set_option maxHeartbeats 4000000 in
theorem sane (w : World) : Calls Try.prog 4 #[] w fun e w' => e = .returned (.bool true) ∧ Below w.heap.size w w' := by
  have B0 := Lib.hid (Below.refl w.heap.size w)
  go_enter Try.func4, Try.ntmps4
  go_wp2_with fail
  refine (of_c (1) (2) _ (by decide) (by decide) (by decide) (by decide)).mono ?_
  rintro e w1 ⟨pb1, rfl, hi, hopb1, hdpb1, hb⟩
  have B1 := Lib.hid (below_chain B0.out B0.out.size hb)
  have ipb1_1 : Hid (pb1.In w1) := Lib.hid hi
  clear hb B0 hi
  have Opb1 := Lib.hid (And.intro hopb1 hdpb1)
  clear hopb1 hdpb1
  go_wp2_with fail
  refine (of_c (1) (3) _ (by decide) (by decide) (by decide) (by decide)).mono ?_
  rintro e w2 ⟨qb1, rfl, hi, hoqb1, hdqb1, hb⟩
  have B2 := Lib.hid (below_chain B1.out B1.out.size hb)
  have ipb1_2 : Hid (pb1.In w2) := Lib.hid (ipb1_1.out.on hb)
  have iqb1_2 : Hid (qb1.In w2) := Lib.hid hi
  clear hb B1 ipb1_1 hi
  have Oqb1 := Lib.hid (And.intro hoqb1 hdqb1)
  clear hoqb1 hdqb1
  go_wp2_with fail
  refine (add_c ipb1_2.out iqb1_2.out Opb1.out.1 Opb1.out.2 Oqb1.out.1 Oqb1.out.2).mono ?_
  rintro e w3 ⟨tb1, rfl, hi, hot, hdt, hb⟩
  have B3 := Lib.hid (below_chain B2.out B2.out.size hb)
  have ipb1_3 : Hid (pb1.In w3) := Lib.hid (ipb1_2.out.on hb)
  have iqb1_3 : Hid (qb1.In w3) := Lib.hid (iqb1_2.out.on hb)
  have itb1_3 : Hid (tb1.In w3) := Lib.hid hi
  clear hb B2 ipb1_2 iqb1_2 hi
  have Otb1 := Lib.hid (And.intro hot hdt)
  clear hot hdt
  clear ipb1_3 iqb1_3
  go_wp2_with fail
  generalize hW : World.alloc w3 _ = V4
  have hn := below_new w3 (.cells #[.bool tb1.g, .slice tb1.A tb1.n tb1.c, .bool tb1.gd, .slice tb1.Ad tb1.nd tb1.cd] 28)
  have hx := Rb.new itb1_3.out
  rw [hW] at hn hx
  have B4 := Lib.hid (below_chain B3.out B3.out.size hn)
  have itb1_4 : Hid (tb1.In V4) := Lib.hid (itb1_3.out.on hn)
  have xb1_4 := Lib.hid hx
  clear hx hn hW B3 itb1_3
  generalize w3.heap.size = b1 at *
  clear itb1_4
  refine (of_c (3) (4) _ (by decide) (by decide) (by decide) (by decide)).mono ?_
  rintro e w5 ⟨pb3, rfl, hi, hopb3, hdpb3, hb⟩
  have B5 := Lib.hid (below_chain B4.out B4.out.size hb)
  have xb1_5 : Hid (Rb w5 b1 tb1) := Lib.hid (xb1_4.out.on hb)
  have ipb3_5 : Hid (pb3.In w5) := Lib.hid hi
  clear hb B4 xb1_4 hi
  have Opb3 := Lib.hid (And.intro hopb3 hdpb3)
  clear hopb3 hdpb3
  go_wp2_with fail
  refine (of_c (-1) (2) _ (by decide) (by decide) (by decide) (by decide)).mono ?_
  rintro e w6 ⟨qb3, rfl, hi, hoqb3, hdqb3, hb⟩
  have B6 := Lib.hid (below_chain B5.out B5.out.size hb)
  have xb1_6 : Hid (Rb w6 b1 tb1) := Lib.hid (xb1_5.out.on hb)
  have ipb3_6 : Hid (pb3.In w6) := Lib.hid (ipb3_5.out.on hb)
  have iqb3_6 : Hid (qb3.In w6) := Lib.hid hi
  clear hb B5 xb1_5 ipb3_5 hi
  have Oqb3 := Lib.hid (And.intro hoqb3 hdqb3)
  clear hoqb3 hdqb3
  go_wp2_with fail
  refine (div_c ipb3_6.out iqb3_6.out Opb3.out.1 Opb3.out.2 Oqb3.out.1 Oqb3.out.2).mono ?_
  rintro e w7 ⟨tb3, rfl, hi, hot, hdt, hb⟩
  have B7 := Lib.hid (below_chain B6.out B6.out.size hb)
  have xb1_7 : Hid (Rb w7 b1 tb1) := Lib.hid (xb1_6.out.on hb)
  have ipb3_7 : Hid (pb3.In w7) := Lib.hid (ipb3_6.out.on hb)
  have iqb3_7 : Hid (qb3.In w7) := Lib.hid (iqb3_6.out.on hb)
  have itb3_7 : Hid (tb3.In w7) := Lib.hid hi
  clear hb B6 xb1_6 ipb3_6 iqb3_6 hi
  have Otb3 := Lib.hid (And.intro hot hdt)
  clear hot hdt
  clear ipb3_7 iqb3_7
  go_wp2_with fail
  generalize hW : World.alloc w7 _ = V8
  have hn := below_new w7 (.cells #[.bool tb3.g, .slice tb3.A tb3.n tb3.c, .bool tb3.gd, .slice tb3.Ad tb3.nd tb3.cd] 28)
  have hx := Rb.new itb3_7.out
  rw [hW] at hn hx
  have B8 := Lib.hid (below_chain B7.out B7.out.size hn)
  have xb1_8 : Hid (Rb V8 b1 tb1) := Lib.hid (xb1_7.out.on hn)
  have itb3_8 : Hid (tb3.In V8) := Lib.hid (itb3_7.out.on hn)
  have xb3_8 := Lib.hid hx
  clear hx hn hW B7 xb1_7 itb3_7
  generalize w7.heap.size = b3 at *
  clear itb3_8
  refine (of_c (3) (4) _ (by decide) (by decide) (by decide) (by decide)).mono ?_
  rintro e w9 ⟨pb5, rfl, hi, hopb5, hdpb5, hb⟩
  have B9 := Lib.hid (below_chain B8.out B8.out.size hb)
  have xb1_9 : Hid (Rb w9 b1 tb1) := Lib.hid (xb1_8.out.on hb)
  have xb3_9 : Hid (Rb w9 b3 tb3) := Lib.hid (xb3_8.out.on hb)
  have ipb5_9 : Hid (pb5.In w9) := Lib.hid hi
  clear hb B8 xb1_8 xb3_8 hi
  have Opb5 := Lib.hid (And.intro hopb5 hdpb5)
  clear hopb5 hdpb5
  go_wp2_with fail
  refine (of_c (0) (1) _ (by decide) (by decide) (by decide) (by decide)).mono ?_
  rintro e w10 ⟨qb5, rfl, hi, hoqb5, hdqb5, hb⟩
  have B10 := Lib.hid (below_chain B9.out B9.out.size hb)
  have xb1_10 : Hid (Rb w10 b1 tb1) := Lib.hid (xb1_9.out.on hb)
  have xb3_10 : Hid (Rb w10 b3 tb3) := Lib.hid (xb3_9.out.on hb)
  have ipb5_10 : Hid (pb5.In w10) := Lib.hid (ipb5_9.out.on hb)
  have iqb5_10 : Hid (qb5.In w10) := Lib.hid hi
  clear hb B9 xb1_9 xb3_9 ipb5_9 hi
  have Oqb5 := Lib.hid (And.intro hoqb5 hdqb5)
  clear hoqb5 hdqb5
  go_wp2_with fail
  refine (div_c0 ipb5_10.out iqb5_10.out Opb5.out.1 Opb5.out.2 Oqb5.out.1 Oqb5.out.2).mono ?_
  rintro e w11 ⟨tb5, rfl, hi, hot, hdt, hb⟩
  have B11 := Lib.hid (below_chain B10.out B10.out.size hb)
  have xb1_11 : Hid (Rb w11 b1 tb1) := Lib.hid (xb1_10.out.on hb)
  have xb3_11 : Hid (Rb w11 b3 tb3) := Lib.hid (xb3_10.out.on hb)
  have ipb5_11 : Hid (pb5.In w11) := Lib.hid (ipb5_10.out.on hb)
  have iqb5_11 : Hid (qb5.In w11) := Lib.hid (iqb5_10.out.on hb)
  have itb5_11 : Hid (tb5.In w11) := Lib.hid hi
  clear hb B10 xb1_10 xb3_10 ipb5_10 iqb5_10 hi
  have Otb5 := Lib.hid (And.intro hot hdt)
  clear hot hdt
  clear ipb5_11 iqb5_11
  go_wp2_with fail
  generalize hW : World.alloc w11 _ = V12
  have hn := below_new w11 (.cells #[.bool tb5.g, .slice tb5.A tb5.n tb5.c, .bool tb5.gd, .slice tb5.Ad tb5.nd tb5.cd] 28)
  have hx := Rb.new itb5_11.out
  rw [hW] at hn hx
  have B12 := Lib.hid (below_chain B11.out B11.out.size hn)
  have xb1_12 : Hid (Rb V12 b1 tb1) := Lib.hid (xb1_11.out.on hn)
  have xb3_12 : Hid (Rb V12 b3 tb3) := Lib.hid (xb3_11.out.on hn)
  have itb5_12 : Hid (tb5.In V12) := Lib.hid (itb5_11.out.on hn)
  clear hx hn hW B11 xb1_11 xb3_11 itb5_11
  clear itb5_12
  refine (of_c (-7) (2) _ (by decide) (by decide) (by decide) (by decide)).mono ?_
  rintro e w13 ⟨p7, rfl, hi, hop7, hdp7, hb⟩
  have B13 := Lib.hid (below_chain B12.out B12.out.size hb)
  have xb1_13 : Hid (Rb w13 b1 tb1) := Lib.hid (xb1_12.out.on hb)
  have xb3_13 : Hid (Rb w13 b3 tb3) := Lib.hid (xb3_12.out.on hb)
  have ip7_13 : Hid (p7.In w13) := Lib.hid hi
  clear hb B12 xb1_12 xb3_12 hi
  have Op7 := Lib.hid (And.intro hop7 hdp7)
  clear hop7 hdp7
  go_wp2_with fail
  refine (floor_c ip7_13.out Op7.out.1 Op7.out.2).mono ?_
  rintro e w14 ⟨g7, A7, n7, c7, xs7, rfl, hi, hot, hb⟩
  have B14 := Lib.hid (below_chain B13.out B13.out.size hb)
  have xb1_14 : Hid (Rb w14 b1 tb1) := Lib.hid (xb1_13.out.on hb)
  have xb3_14 : Hid (Rb w14 b3 tb3) := Lib.hid (xb3_13.out.on hb)
  have ip7_14 : Hid (p7.In w14) := Lib.hid (ip7_13.out.on hb)
  have s7_14 : Hid (Sl w14 w14.heap.size A7 n7 c7 xs7) := Lib.hid hi
  clear hb B13 xb1_13 xb3_13 ip7_13 hi
  have O7 := Lib.hid hot
  clear hot
  clear ip7_14
  go_wp2_with fail
  generalize hW : World.alloc w14 _ = V7
  have hn := below_new w14 (.cells #[.bool g7, .slice A7 n7 c7] 26)
  have hx := Bx.new w14 g7 A7 n7 c7
  rw [hW] at hn hx
  have B15 := Lib.hid (below_chain B14.out B14.out.size hn)
  have xb1_15 : Hid (Rb V7 b1 tb1) := Lib.hid (xb1_14.out.on hn)
  have xb3_15 : Hid (Rb V7 b3 tb3) := Lib.hid (xb3_14.out.on hn)
  have s7_15 : Hid (Sl V7 V7.heap.size A7 n7 c7 xs7) := Lib.hid (s7_14.out.on hn)
  have x7 : Hid (Ba V7 w14.heap.size g7 A7 n7 c7 xs7) := Lib.hid ⟨hx, s7_15.out⟩
  clear hx hn hW B14 xb1_14 xb3_14 s7_14
  clear s7_15
  generalize w14.heap.size = b7 at *
  refine (of_c (9) (4) _ (by decide) (by decide) (by decide) (by decide)).mono ?_
  rintro e w16 ⟨p9, rfl, hi, hop9, hdp9, hb⟩
  have B16 := Lib.hid (below_chain B15.out B15.out.size hb)
  have xb1_16 : Hid (Rb w16 b1 tb1) := Lib.hid (xb1_15.out.on hb)
  have xb3_16 : Hid (Rb w16 b3 tb3) := Lib.hid (xb3_15.out.on hb)
  have x7_16 : Hid (Ba w16 b7 g7 A7 n7 c7 xs7) := Lib.hid (x7.out.on hb)
  have ip9_16 : Hid (p9.In w16) := Lib.hid hi
  clear hb B15 xb1_15 xb3_15 x7 hi
  have Op9 := Lib.hid (And.intro hop9 hdp9)
  clear hop9 hdp9
  go_wp2_with fail
  refine (sqrt_c ip9_16.out Op9.out.1 Op9.out.2).mono ?_
  rintro e w17 ⟨tb9, rfl, hi, hot, hdt, hb⟩
  have B17 := Lib.hid (below_chain B16.out B16.out.size hb)
  have xb1_17 : Hid (Rb w17 b1 tb1) := Lib.hid (xb1_16.out.on hb)
  have xb3_17 : Hid (Rb w17 b3 tb3) := Lib.hid (xb3_16.out.on hb)
  have x7_17 : Hid (Ba w17 b7 g7 A7 n7 c7 xs7) := Lib.hid (x7_16.out.on hb)
  have ip9_17 : Hid (p9.In w17) := Lib.hid (ip9_16.out.on hb)
  have itb9_17 : Hid (tb9.In w17) := Lib.hid hi
  clear hb B16 xb1_16 xb3_16 x7_16 ip9_16 hi
  have Otb9 := Lib.hid (And.intro hot hdt)
  clear hot hdt
  clear ip9_17
  go_wp2_with fail
  generalize hW : World.alloc w17 _ = V18
  have hn := below_new w17 (.cells #[.bool tb9.g, .slice tb9.A tb9.n tb9.c, .bool tb9.gd, .slice tb9.Ad tb9.nd tb9.cd] 28)
  have hx := Rb.new itb9_17.out
  rw [hW] at hn hx
  have B18 := Lib.hid (below_chain B17.out B17.out.size hn)
  have xb1_18 : Hid (Rb V18 b1 tb1) := Lib.hid (xb1_17.out.on hn)
  have xb3_18 : Hid (Rb V18 b3 tb3) := Lib.hid (xb3_17.out.on hn)
  have x7_18 : Hid (Ba V18 b7 g7 A7 n7 c7 xs7) := Lib.hid (x7_17.out.on hn)
  have itb9_18 : Hid (tb9.In V18) := Lib.hid (itb9_17.out.on hn)
  have xb9_18 := Lib.hid hx
  clear hx hn hW B17 xb1_17 xb3_17 x7_17 itb9_17
  generalize w17.heap.size = b9 at *
  clear itb9_18
  refine (of_c (1) (3) _ (by decide) (by decide) (by decide) (by decide)).mono ?_
  rintro e w19 ⟨pb12, rfl, hi, hopb12, hdpb12, hb⟩
  have B19 := Lib.hid (below_chain B18.out B18.out.size hb)
  have xb1_19 : Hid (Rb w19 b1 tb1) := Lib.hid (xb1_18.out.on hb)
  have xb3_19 : Hid (Rb w19 b3 tb3) := Lib.hid (xb3_18.out.on hb)
  have x7_19 : Hid (Ba w19 b7 g7 A7 n7 c7 xs7) := Lib.hid (x7_18.out.on hb)
  have xb9_19 : Hid (Rb w19 b9 tb9) := Lib.hid (xb9_18.out.on hb)
  have ipb12_19 : Hid (pb12.In w19) := Lib.hid hi
  clear hb B18 xb1_18 xb3_18 x7_18 xb9_18 hi
  have Opb12 := Lib.hid (And.intro hopb12 hdpb12)
  clear hopb12 hdpb12
  go_wp2_with fail
  refine (of_c (1) (2) _ (by decide) (by decide) (by decide) (by decide)).mono ?_
  rintro e w20 ⟨qb12, rfl, hi, hoqb12, hdqb12, hb⟩
  have B20 := Lib.hid (below_chain B19.out B19.out.size hb)
  have xb1_20 : Hid (Rb w20 b1 tb1) := Lib.hid (xb1_19.out.on hb)
  have xb3_20 : Hid (Rb w20 b3 tb3) := Lib.hid (xb3_19.out.on hb)
  have x7_20 : Hid (Ba w20 b7 g7 A7 n7 c7 xs7) := Lib.hid (x7_19.out.on hb)
  have xb9_20 : Hid (Rb w20 b9 tb9) := Lib.hid (xb9_19.out.on hb)
  have ipb12_20 : Hid (pb12.In w20) := Lib.hid (ipb12_19.out.on hb)
  have iqb12_20 : Hid (qb12.In w20) := Lib.hid hi
  clear hb B19 xb1_19 xb3_19 x7_19 xb9_19 ipb12_19 hi
  have Oqb12 := Lib.hid (And.intro hoqb12 hdqb12)
  clear hoqb12 hdqb12
  go_wp2_with fail
  refine (simplest_third _ _ _ ipb12_20.out iqb12_20.out Opb12.out.1 Opb12.out.2 Oqb12.out.1 Oqb12.out.2).mono ?_
  rintro e w21 ⟨tb12, rfl, hi, hot, hdt, hb⟩
  have B21 := Lib.hid (below_chain B20.out B20.out.size hb)
  have xb1_21 : Hid (Rb w21 b1 tb1) := Lib.hid (xb1_20.out.on hb)
  have xb3_21 : Hid (Rb w21 b3 tb3) := Lib.hid (xb3_20.out.on hb)
  have x7_21 : Hid (Ba w21 b7 g7 A7 n7 c7 xs7) := Lib.hid (x7_20.out.on hb)
  have xb9_21 : Hid (Rb w21 b9 tb9) := Lib.hid (xb9_20.out.on hb)
  have ipb12_21 : Hid (pb12.In w21) := Lib.hid (ipb12_20.out.on hb)
  have iqb12_21 : Hid (qb12.In w21) := Lib.hid (iqb12_20.out.on hb)
  have itb12_21 : Hid (tb12.In w21) := Lib.hid hi
  clear hb B20 xb1_20 xb3_20 x7_20 xb9_20 ipb12_20 iqb12_20 hi
  have Otb12 := Lib.hid (And.intro hot hdt)
  clear hot hdt
  clear ipb12_21 iqb12_21
  go_wp2_with fail
  generalize hW : World.alloc w21 _ = V22
  have hn := below_new w21 (.cells #[.bool tb12.g, .slice tb12.A tb12.n tb12.c, .bool tb12.gd, .slice tb12.Ad tb12.nd tb12.cd] 28)
  have hx := Rb.new itb12_21.out
  rw [hW] at hn hx
  have B22 := Lib.hid (below_chain B21.out B21.out.size hn)
  have xb1_22 : Hid (Rb V22 b1 tb1) := Lib.hid (xb1_21.out.on hn)
  have xb3_22 : Hid (Rb V22 b3 tb3) := Lib.hid (xb3_21.out.on hn)
  have x7_22 : Hid (Ba V22 b7 g7 A7 n7 c7 xs7) := Lib.hid (x7_21.out.on hn)
  have xb9_22 : Hid (Rb V22 b9 tb9) := Lib.hid (xb9_21.out.on hn)
  have itb12_22 : Hid (tb12.In V22) := Lib.hid (itb12_21.out.on hn)
  have xb12_22 := Lib.hid hx
  clear hx hn hW B21 xb1_21 xb3_21 x7_21 xb9_21 itb12_21
  generalize w21.heap.size = b12 at *
  clear itb12_22
  refine (of_c (-3) (4) _ (by decide) (by decide) (by decide) (by decide)).mono ?_
  rintro e w23 ⟨p14, rfl, hi, hop14, hdp14, hb⟩
  have B23 := Lib.hid (below_chain B22.out B22.out.size hb)
  have xb1_23 : Hid (Rb w23 b1 tb1) := Lib.hid (xb1_22.out.on hb)
  have xb3_23 : Hid (Rb w23 b3 tb3) := Lib.hid (xb3_22.out.on hb)
  have x7_23 : Hid (Ba w23 b7 g7 A7 n7 c7 xs7) := Lib.hid (x7_22.out.on hb)
  have xb9_23 : Hid (Rb w23 b9 tb9) := Lib.hid (xb9_22.out.on hb)
  have xb12_23 : Hid (Rb w23 b12 tb12) := Lib.hid (xb12_22.out.on hb)
  have ip14_23 : Hid (p14.In w23) := Lib.hid hi
  clear hb B22 xb1_22 xb3_22 x7_22 xb9_22 xb12_22 hi
  have Op14 := Lib.hid (And.intro hop14 hdp14)
  clear hop14 hdp14
  go_wp2_with fail
  refine (text_c1 ip14_23.out Op14.out.1 Op14.out.2).mono ?_
  rintro e w24 ⟨rfl, hb⟩
  have B24 := Lib.hid (below_chain B23.out B23.out.size hb)
  have xb1_24 : Hid (Rb w24 b1 tb1) := Lib.hid (xb1_23.out.on hb)
  have xb3_24 : Hid (Rb w24 b3 tb3) := Lib.hid (xb3_23.out.on hb)
  have x7_24 : Hid (Ba w24 b7 g7 A7 n7 c7 xs7) := Lib.hid (x7_23.out.on hb)
  have xb9_24 : Hid (Rb w24 b9 tb9) := Lib.hid (xb9_23.out.on hb)
  have xb12_24 : Hid (Rb w24 b12 tb12) := Lib.hid (xb12_23.out.on hb)
  have ip14_24 : Hid (p14.In w24) := Lib.hid (ip14_23.out.on hb)
  clear hb B23 xb1_23 xb3_23 x7_23 xb9_23 xb12_23 ip14_23
  clear ip14_24
  go_wp2_with fail
  refine (parse_c _).mono ?_
  rintro e w25 ⟨t16, rfl, hi, hot, hdt, hb⟩
  have B25 := Lib.hid (below_chain B24.out B24.out.size hb)
  have xb1_25 : Hid (Rb w25 b1 tb1) := Lib.hid (xb1_24.out.on hb)
  have xb3_25 : Hid (Rb w25 b3 tb3) := Lib.hid (xb3_24.out.on hb)
  have x7_25 : Hid (Ba w25 b7 g7 A7 n7 c7 xs7) := Lib.hid (x7_24.out.on hb)
  have xb9_25 : Hid (Rb w25 b9 tb9) := Lib.hid (xb9_24.out.on hb)
  have xb12_25 : Hid (Rb w25 b12 tb12) := Lib.hid (xb12_24.out.on hb)
  have it16_25 : Hid (t16.In w25) := Lib.hid hi
  clear hb B24 xb1_24 xb3_24 x7_24 xb9_24 xb12_24 hi
  clear hot hdt
  have K := xb12_25.out
  have kb0 := (K.on (below_new _ (.cells #[.bool t16.g, .slice t16.A t16.n t16.c, .bool t16.gd, .slice t16.Ad t16.nd t16.cd] 28))).c0
  have kb1 := (K.on (below_new _ (.cells #[.bool t16.g, .slice t16.A t16.n t16.c, .bool t16.gd, .slice t16.Ad t16.nd t16.cd] 28))).c1
  have kb2 := (K.on (below_new _ (.cells #[.bool t16.g, .slice t16.A t16.n t16.c, .bool t16.gd, .slice t16.Ad t16.nd t16.cd] 28))).c2
  have kb3 := (K.on (below_new _ (.cells #[.bool t16.g, .slice t16.A t16.n t16.c, .bool t16.gd, .slice t16.Ad t16.nd t16.cd] 28))).c3
  clear K
  go_wp2_with fail
  generalize hW : World.alloc w25 _ = V26
  have hn := below_new w25 (.cells #[.bool t16.g, .slice t16.A t16.n t16.c, .bool t16.gd, .slice t16.Ad t16.nd t16.cd] 28)
  have hx := Rb.new it16_25.out
  rw [hW] at hn hx
  have B26 := Lib.hid (below_chain B25.out B25.out.size hn)
  have xb1_26 : Hid (Rb V26 b1 tb1) := Lib.hid (xb1_25.out.on hn)
  have xb3_26 : Hid (Rb V26 b3 tb3) := Lib.hid (xb3_25.out.on hn)
  have x7_26 : Hid (Ba V26 b7 g7 A7 n7 c7 xs7) := Lib.hid (x7_25.out.on hn)
  have xb9_26 : Hid (Rb V26 b9 tb9) := Lib.hid (xb9_25.out.on hn)
  have xb12_26 : Hid (Rb V26 b12 tb12) := Lib.hid (xb12_25.out.on hn)
  have it16_26 : Hid (t16.In V26) := Lib.hid (it16_25.out.on hn)
  clear hx hn hW B25 xb1_25 xb3_25 x7_25 xb9_25 xb12_25 it16_25
  clear it16_26
  clear kb0 kb1 kb2 kb3
  refine (text_c2 xb12_26.out.sl Otb12.out.1 Otb12.out.2).mono ?_
  rintro e w27 ⟨rfl, hb⟩
  have B27 := Lib.hid (below_chain B26.out B26.out.size hb)
  have xb1_27 : Hid (Rb w27 b1 tb1) := Lib.hid (xb1_26.out.on hb)
  have xb3_27 : Hid (Rb w27 b3 tb3) := Lib.hid (xb3_26.out.on hb)
  have x7_27 : Hid (Ba w27 b7 g7 A7 n7 c7 xs7) := Lib.hid (x7_26.out.on hb)
  have xb9_27 : Hid (Rb w27 b9 tb9) := Lib.hid (xb9_26.out.on hb)
  have xb12_27 : Hid (Rb w27 b12 tb12) := Lib.hid (xb12_26.out.on hb)
  clear hb B26 xb1_26 xb3_26 x7_26 xb9_26 xb12_26
  go_wp2_with fail
  have S0 : Hid (SaneW w b1 b3 b7 b9 tb1 tb3 tb9 g7 A7 n7 c7 xs7 w27.drew) := Lib.hid ⟨xb1_27.out.drew, xb3_27.out.drew, ⟨x7_27.out.bx.drew, x7_27.out.sl.drew⟩, xb9_27.out.drew, B27.out.drew⟩
  have ka0 := xb1_27.out.c0
  have ka1 := xb1_27.out.c1
  have ka2 := xb1_27.out.c2
  have ka3 := xb1_27.out.c3
  have kb0 := xb3_27.out.c0
  have kb1 := xb3_27.out.c1
  have kb2 := xb3_27.out.c2
  have kb3 := xb3_27.out.c3
  have kd0 := xb9_27.out.c0
  have kd1 := xb9_27.out.c1
  have kd2 := xb9_27.out.c2
  have kd3 := xb9_27.out.c3
  have kc0 := x7_27.out.bx.c0
  have kc1 := x7_27.out.bx.c1
  dsimp only [List.append]
  go_region_held3 (fun w' => w'.cell? ⟨b1, 0, none⟩ = some (.bool tb1.g) ∧ w'.cell? ⟨b1, 1, none⟩ = some (.slice tb1.A tb1.n tb1.c) ∧ w'.cell? ⟨b1, 2, none⟩ = some (.bool tb1.gd) ∧ w'.cell? ⟨b1, 3, none⟩ = some (.slice tb1.Ad tb1.nd tb1.cd) ∧ w'.cell? ⟨b3, 0, none⟩ = some (.bool tb3.g) ∧ w'.cell? ⟨b3, 1, none⟩ = some (.slice tb3.A tb3.n tb3.c) ∧ w'.cell? ⟨b3, 2, none⟩ = some (.bool tb3.gd) ∧ w'.cell? ⟨b3, 3, none⟩ = some (.slice tb3.Ad tb3.nd tb3.cd) ∧ w'.cell? ⟨b9, 0, none⟩ = some (.bool tb9.g) ∧ w'.cell? ⟨b9, 1, none⟩ = some (.slice tb9.A tb9.n tb9.c) ∧ w'.cell? ⟨b9, 2, none⟩ = some (.bool tb9.gd) ∧ w'.cell? ⟨b9, 3, none⟩ = some (.slice tb9.Ad tb9.nd tb9.cd) ∧ w'.cell? ⟨b7, 0, none⟩ = some (.bool g7) ∧ w'.cell? ⟨b7, 1, none⟩ = some (.slice A7 n7 c7)) (go_keep)
    (first
      | (go_at_call 15; have C := same_q tb9 z7 v7 S7.out.f4.sl Z7.out.1 _ _ Otb9.out.1 Otb9.out.2 Z7.out.2.1 Z7.out.2.2; (with_reducible refine C.mono ?_); clear C; rintro e v8 ⟨rfl, hb⟩; have S8 := Lib.hid (S7.out.on hb); clear hb ka0 ka1 ka2 ka3 kb0 kb1 kb2 kb3 kd0 kd1 kd2 kd3 kc0 kc1; have ka0 := S8.out.f1.c0; have ka1 := S8.out.f1.c1; have ka2 := S8.out.f1.c2; have ka3 := S8.out.f1.c3; have kb0 := S8.out.f2.c0; have kb1 := S8.out.f2.c1; have kb2 := S8.out.f2.c2; have kb3 := S8.out.f2.c3; have kd0 := S8.out.f4.c0; have kd1 := S8.out.f4.c1; have kd2 := S8.out.f4.c2; have kd3 := S8.out.f4.c3; have kc0 := S8.out.f3.bx.c0; have kc1 := S8.out.f3.bx.c1)
      | (go_at_call 6; have C := of_c (3) (2) v6 (by decide) (by decide) (by decide) (by decide); (with_reducible refine C.mono ?_); clear C; rintro e v7 ⟨z7, rfl, hi, hoz, hdz, hb⟩; have S7 := Lib.hid (S6.out.on hb); have Z7 := Lib.hid (And.intro hi (And.intro hoz hdz)); clear hi hoz hdz; clear hb ka0 ka1 ka2 ka3 kb0 kb1 kb2 kb3 kd0 kd1 kd2 kd3 kc0 kc1; have ka0 := S7.out.f1.c0; have ka1 := S7.out.f1.c1; have ka2 := S7.out.f1.c2; have ka3 := S7.out.f1.c3; have kb0 := S7.out.f2.c0; have kb1 := S7.out.f2.c1; have kb2 := S7.out.f2.c2; have kb3 := S7.out.f2.c3; have kd0 := S7.out.f4.c0; have kd1 := S7.out.f4.c1; have kd2 := S7.out.f4.c2; have kd3 := S7.out.f4.c3; have kc0 := S7.out.f3.bx.c0; have kc1 := S7.out.f3.bx.c1)
      | (go_at_call 16; have C := ints_yes _ _ _ _ _ _ _ _ _ _ v5 S5.out.f3.sl Z5.out.1 (ov_same S5.out.f3.sl Z5.out.1 O7.out Z5.out.2).1 (ov_same S5.out.f3.sl Z5.out.1 O7.out Z5.out.2).2; (with_reducible refine C.mono ?_); clear C; rintro e v6 ⟨rfl, hb⟩; have S6 := Lib.hid (S5.out.on hb); clear hb ka0 ka1 ka2 ka3 kb0 kb1 kb2 kb3 kd0 kd1 kd2 kd3 kc0 kc1; have ka0 := S6.out.f1.c0; have ka1 := S6.out.f1.c1; have ka2 := S6.out.f1.c2; have ka3 := S6.out.f1.c3; have kb0 := S6.out.f2.c0; have kb1 := S6.out.f2.c1; have kb2 := S6.out.f2.c2; have kb3 := S6.out.f2.c3; have kd0 := S6.out.f4.c0; have kd1 := S6.out.f4.c1; have kd2 := S6.out.f4.c2; have kd3 := S6.out.f4.c3; have kc0 := S6.out.f3.bx.c0; have kc1 := S6.out.f3.bx.c1)
      | (go_at_call 17; have C := int_c (-4) v4 (by decide); (with_reducible refine C.mono ?_); clear C; rintro e v5 ⟨g8, A8, n8, c8, xs8, rfl, hi, hoz, hb⟩; have S5 := Lib.hid (S4.out.on hb); have Z5 := Lib.hid (And.intro hi hoz); clear hi hoz; clear hb ka0 ka1 ka2 ka3 kb0 kb1 kb2 kb3 kd0 kd1 kd2 kd3 kc0 kc1; have ka0 := S5.out.f1.c0; have ka1 := S5.out.f1.c1; have ka2 := S5.out.f1.c2; have ka3 := S5.out.f1.c3; have kb0 := S5.out.f2.c0; have kb1 := S5.out.f2.c1; have kb2 := S5.out.f2.c2; have kb3 := S5.out.f2.c3; have kd0 := S5.out.f4.c0; have kd1 := S5.out.f4.c1; have kd2 := S5.out.f4.c2; have kd3 := S5.out.f4.c3; have kc0 := S5.out.f3.bx.c0; have kc1 := S5.out.f3.bx.c1)
      | (go_at_call 15; have C := same_q tb3 z3 v3 S3.out.f2.sl Z3.out.1 _ _ Otb3.out.1 Otb3.out.2 Z3.out.2.1 Z3.out.2.2; (with_reducible refine C.mono ?_); clear C; rintro e v4 ⟨rfl, hb⟩; have S4 := Lib.hid (S3.out.on hb); clear hb ka0 ka1 ka2 ka3 kb0 kb1 kb2 kb3 kd0 kd1 kd2 kd3 kc0 kc1; have ka0 := S4.out.f1.c0; have ka1 := S4.out.f1.c1; have ka2 := S4.out.f1.c2; have ka3 := S4.out.f1.c3; have kb0 := S4.out.f2.c0; have kb1 := S4.out.f2.c1; have kb2 := S4.out.f2.c2; have kb3 := S4.out.f2.c3; have kd0 := S4.out.f4.c0; have kd1 := S4.out.f4.c1; have kd2 := S4.out.f4.c2; have kd3 := S4.out.f4.c3; have kc0 := S4.out.f3.bx.c0; have kc1 := S4.out.f3.bx.c1)
      | (go_at_call 6; have C := of_c (-3) (2) v2 (by decide) (by decide) (by decide) (by decide); (with_reducible refine C.mono ?_); clear C; rintro e v3 ⟨z3, rfl, hi, hoz, hdz, hb⟩; have S3 := Lib.hid (S2.out.on hb); have Z3 := Lib.hid (And.intro hi (And.intro hoz hdz)); clear hi hoz hdz; clear hb ka0 ka1 ka2 ka3 kb0 kb1 kb2 kb3 kd0 kd1 kd2 kd3 kc0 kc1; have ka0 := S3.out.f1.c0; have ka1 := S3.out.f1.c1; have ka2 := S3.out.f1.c2; have ka3 := S3.out.f1.c3; have kb0 := S3.out.f2.c0; have kb1 := S3.out.f2.c1; have kb2 := S3.out.f2.c2; have kb3 := S3.out.f2.c3; have kd0 := S3.out.f4.c0; have kd1 := S3.out.f4.c1; have kd2 := S3.out.f4.c2; have kd3 := S3.out.f4.c3; have kc0 := S3.out.f3.bx.c0; have kc1 := S3.out.f3.bx.c1)
      | (go_at_call 15; have C := same_q tb1 z1 v1 S1.out.f1.sl Z1.out.1 _ _ Otb1.out.1 Otb1.out.2 Z1.out.2.1 Z1.out.2.2; (with_reducible refine C.mono ?_); clear C; rintro e v2 ⟨rfl, hb⟩; have S2 := Lib.hid (S1.out.on hb); clear hb ka0 ka1 ka2 ka3 kb0 kb1 kb2 kb3 kd0 kd1 kd2 kd3 kc0 kc1; have ka0 := S2.out.f1.c0; have ka1 := S2.out.f1.c1; have ka2 := S2.out.f1.c2; have ka3 := S2.out.f1.c3; have kb0 := S2.out.f2.c0; have kb1 := S2.out.f2.c1; have kb2 := S2.out.f2.c2; have kb3 := S2.out.f2.c3; have kd0 := S2.out.f4.c0; have kd1 := S2.out.f4.c1; have kd2 := S2.out.f4.c2; have kd3 := S2.out.f4.c3; have kc0 := S2.out.f3.bx.c0; have kc1 := S2.out.f3.bx.c1)
      | (go_at_call 6; have C := of_c (5) (6) w27.drew (by decide) (by decide) (by decide) (by decide); (with_reducible refine C.mono ?_); clear C; rintro e v1 ⟨z1, rfl, hi, hoz, hdz, hb⟩; have S1 := Lib.hid (S0.out.on hb); have Z1 := Lib.hid (And.intro hi (And.intro hoz hdz)); clear hi hoz hdz; clear hb ka0 ka1 ka2 ka3 kb0 kb1 kb2 kb3 kd0 kd1 kd2 kd3 kc0 kc1; have ka0 := S1.out.f1.c0; have ka1 := S1.out.f1.c1; have ka2 := S1.out.f1.c2; have ka3 := S1.out.f1.c3; have kb0 := S1.out.f2.c0; have kb1 := S1.out.f2.c1; have kb2 := S1.out.f2.c2; have kb3 := S1.out.f2.c3; have kd0 := S1.out.f4.c0; have kd1 := S1.out.f4.c1; have kd2 := S1.out.f4.c2; have kd3 := S1.out.f4.c3; have kc0 := S1.out.f3.bx.c0; have kc1 := S1.out.f3.bx.c1))
  go_wp2
  go_ret
  exact ⟨rfl, S8.out.f5⟩
end Go.Proofs.Ytfodjaeknhomkaa
