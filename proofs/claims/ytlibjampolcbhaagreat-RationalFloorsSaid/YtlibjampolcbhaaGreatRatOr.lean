/-
  Stage 2: RationalOrder, its walk.
-/
import Derived.Test.YtlibjampolcbhaaGreatRatCm
import Derived.Test.YtlibjampolcbhaaGreatRatLb
namespace Go.Proofs.YtlibjampolcbhaaGreat
open Go.RowKit

/-- The order of two rationals in integers. -/
theorem csgn (x y : Rat) : Int.sign (x.num * y.den - y.num * x.den) = (x - y).num.sign := by
  have hd : 0 < (x.den : Int) * y.den := by have := x.den_pos; have := y.den_pos; exact Int.mul_pos (by omega) (by omega)
  have m := mk_num (x.num * y.den - y.num * x.den) ((x.den : Int) * y.den) (by omega)
  rw [rat_sub, Int.sign_eq_one_of_pos hd, Int.one_mul] at m
  have hg : 0 < gcdZ (x.num * y.den - y.num * x.den) ((x.den : Int) * y.den) := by
    have := m.2.2.2.2
    unfold gcdZ at *
    omega
  have e := Int.ediv_mul_cancel m.1
  rw [m.2.2.1] at e
  rw [← e, Int.sign_mul, Int.sign_eq_one_of_pos hg, Int.mul_one]
theorem sign_three (z : Int) : z.sign = -1 ∧ z < 0 ∨ z.sign = 0 ∧ z = 0 ∨ z.sign = 1 ∧ 0 < z := by
  rcases Int.lt_trichotomy z 0 with h | h | h
  · exact Or.inl ⟨Int.sign_eq_neg_one_of_neg h, h⟩
  · exact Or.inr (Or.inl ⟨by rw [h]; rfl, h⟩)
  · exact Or.inr (Or.inr ⟨Int.sign_eq_one_of_pos h, h⟩)
theorem num_zero {x : Rat} (h : x.num = 0) : x = 0 := Rat.num_eq_zero.1 h
theorem num_add_nonneg {x y : Rat} (h : 0 ≤ x.num) (k : 0 ≤ y.num) : 0 ≤ (x + y).num := Rat.num_nonneg.2 (Rat.add_nonneg (Rat.num_nonneg.1 h) (Rat.num_nonneg.1 k))
theorem num_add_pos {x y : Rat} (h : 0 < x.num) (k : 0 ≤ y.num) : 0 < (x + y).num := by
  rcases Int.lt_or_eq_of_le (num_add_nonneg (Int.le_of_lt h) k) with e | e
  · exact e
  · have z := num_zero e.symm
    have e2 : x = -y := by grind
    have e3 : x.num = -y.num := by rw [e2]; rfl
    omega

set_option maxRecDepth 20000 in
set_option maxHeartbeats 4000000 in
theorem ord_no (a b c : RVal) (w : World) (h1 : a.In w) (h2 : b.In w) (h3 : c.In w) (hv : vok a b c 32 = false) :
    Calls Tryz.prog 10 #[.agg #[.bool a.g, .slice a.A a.n a.c, .bool a.gd, .slice a.Ad a.nd a.cd], .agg #[.bool b.g, .slice b.A b.n b.c, .bool b.gd, .slice b.Ad b.nd b.cd], .agg #[.bool c.g, .slice c.A c.n c.c, .bool c.gd, .slice c.Ad c.nd c.cd]] w fun e w' => e = .returned (.bool true) ∧ Below w.heap.size w w' := by
  have HV := Lib.hid hv
  have HS := Lib.hid (And.intro h1 (And.intro h2 h3))
  clear h1 h2 h3 hv
  go_enter Tryz.func10, Tryz.ntmps10
  go_wp2_with fail
  generalize hW : World.alloc (World.alloc (World.alloc w _) _) _ = V
  obtain ⟨hb, ra, rb, rc⟩ := three_rats a b c w V HS.out.1 HS.out.2.1 HS.out.2.2 hW
  have B_0 : Hid (Below w.heap.size w V) := Lib.hid (hb)
  have Xa_0 := Lib.hid ra
  have Xb_0 := Lib.hid rb
  have Xc_0 := Lib.hid rc
  clear hb ra rb rc hW
  generalize hr : w.heap.size = r at *
  have HRr := Lib.hid hr
  clear hr
  refine (sane V).mono ?_
  rintro e w1 ⟨rfl, hb⟩
  have B_1 := Lib.hid (below_chain B_0.out (by have := B_0.out.size; have := HRr.out; omega) hb)
  have Xa_1 : Hid (Rb w1 r a) := Lib.hid (Xa_0.out.on hb)
  have Xb_1 : Hid (Rb w1 (r + 1) b) := Lib.hid (Xb_0.out.on hb)
  have Xc_1 : Hid (Rb w1 (r + 1 + 1) c) := Lib.hid (Xc_0.out.on hb)
  clear hb B_0 Xa_0 Xb_0 Xc_0
  have ka0 := Xa_1.out.c0
  have ka1 := Xa_1.out.c1
  have ka2 := Xa_1.out.c2
  have ka3 := Xa_1.out.c3
  have kb0 := Xb_1.out.c0
  have kb1 := Xb_1.out.c1
  have kb2 := Xb_1.out.c2
  have kb3 := Xb_1.out.c3
  have kc0 := Xc_1.out.c0
  have kc1 := Xc_1.out.c1
  have kc2 := Xc_1.out.c2
  have kc3 := Xc_1.out.c3
  go_wp2_with fail
  have C := val_any a b c 32 w1 Xa_1.out.sl Xb_1.out.sl Xc_1.out.sl
  rw [HV.out] at C
  refine C.mono ?_
  clear C
  clear ka0 ka1 ka2 ka3 kb0 kb1 kb2 kb3 kc0 kc1 kc2 kc3
  rintro e w2 ⟨rfl, hb⟩
  have B_2 := Lib.hid (below_chain B_1.out (by have := B_1.out.size; have := HRr.out; omega) hb)
  have Xa_2 : Hid (Rb w2 r a) := Lib.hid (Xa_1.out.on hb)
  have Xb_2 : Hid (Rb w2 (r + 1) b) := Lib.hid (Xb_1.out.on hb)
  have Xc_2 : Hid (Rb w2 (r + 1 + 1) c) := Lib.hid (Xc_1.out.on hb)
  clear hb B_1 Xa_1 Xb_1 Xc_1
  go_wp2
  go_ret
  exact ⟨rfl, by rw [HRr.out]; exact B_2.out⟩

set_option maxRecDepth 20000 in
set_option maxHeartbeats 4000000 in
theorem ord_lt (a b c : RVal) (w : World) (h1 : a.In w) (h2 : b.In w) (h3 : c.In w) (x y z : Rat) (hx : rv a.o a.od = some x) (hy : rv b.o b.od = some y) (hz : rv c.o c.od = some z) (hB : Bd 1024 x ∧ Bd 1024 y ∧ Bd 1024 z) (hv : vok a b c 32 = true) (u : Int) (v : Int) (hc : Int.sign (x.num * y.den - y.num * x.den) = (-1) ∧ Int.sign (y.num * x.den - x.num * y.den) = 1 ∧ Int.sign (y.num * z.den - z.num * y.den) = u ∧ Int.sign (x.num * z.den - z.num * x.den) = v ∧ (x - y).num.sign = (-1) ∧ Int.sign ((x + z).num * (y + z).den - (y + z).num * (x + z).den) = (-1)) :
    Calls Tryz.prog 10 #[.agg #[.bool a.g, .slice a.A a.n a.c, .bool a.gd, .slice a.Ad a.nd a.cd], .agg #[.bool b.g, .slice b.A b.n b.c, .bool b.gd, .slice b.Ad b.nd b.cd], .agg #[.bool c.g, .slice c.A c.n c.c, .bool c.gd, .slice c.Ad c.nd c.cd]] w fun e w' => e = .returned (.bool true) ∧ Below w.heap.size w w' := by
  have Va := Lib.hid hx
  have Vb := Lib.hid hy
  have Vc := Lib.hid hz
  have HB := Lib.hid hB
  have HV := Lib.hid hv
  have HC := Lib.hid hc
  have HS := Lib.hid (And.intro h1 (And.intro h2 h3))
  clear h1 h2 h3 hx hy hz hB hv hc
  go_enter Tryz.func10, Tryz.ntmps10
  go_wp2_with fail
  generalize hW : World.alloc (World.alloc (World.alloc w _) _) _ = V
  obtain ⟨hb, ra, rb, rc⟩ := three_rats a b c w V HS.out.1 HS.out.2.1 HS.out.2.2 hW
  have B_0 : Hid (Below w.heap.size w V) := Lib.hid (hb)
  have Xa_0 := Lib.hid ra
  have Xb_0 := Lib.hid rb
  have Xc_0 := Lib.hid rc
  clear hb ra rb rc hW
  generalize hr : w.heap.size = r at *
  have HRr := Lib.hid hr
  clear hr
  refine (sane V).mono ?_
  rintro e w1 ⟨rfl, hb⟩
  have B_1 := Lib.hid (below_chain B_0.out (by have := B_0.out.size; have := HRr.out; omega) hb)
  have Xa_1 : Hid (Rb w1 r a) := Lib.hid (Xa_0.out.on hb)
  have Xb_1 : Hid (Rb w1 (r + 1) b) := Lib.hid (Xb_0.out.on hb)
  have Xc_1 : Hid (Rb w1 (r + 1 + 1) c) := Lib.hid (Xc_0.out.on hb)
  clear hb B_0 Xa_0 Xb_0 Xc_0
  have ka0 := Xa_1.out.c0
  have ka1 := Xa_1.out.c1
  have ka2 := Xa_1.out.c2
  have ka3 := Xa_1.out.c3
  have kb0 := Xb_1.out.c0
  have kb1 := Xb_1.out.c1
  have kb2 := Xb_1.out.c2
  have kb3 := Xb_1.out.c3
  have kc0 := Xc_1.out.c0
  have kc1 := Xc_1.out.c1
  have kc2 := Xc_1.out.c2
  have kc3 := Xc_1.out.c3
  go_wp2_with fail
  have C := val_any a b c 32 w1 Xa_1.out.sl Xb_1.out.sl Xc_1.out.sl
  rw [HV.out] at C
  refine C.mono ?_
  clear C
  clear ka0 ka1 ka2 ka3 kb0 kb1 kb2 kb3 kc0 kc1 kc2 kc3
  rintro e w2 ⟨rfl, hb⟩
  have B_2 := Lib.hid (below_chain B_1.out (by have := B_1.out.size; have := HRr.out; omega) hb)
  have Xa_2 : Hid (Rb w2 r a) := Lib.hid (Xa_1.out.on hb)
  have Xb_2 : Hid (Rb w2 (r + 1) b) := Lib.hid (Xb_1.out.on hb)
  have Xc_2 : Hid (Rb w2 (r + 1 + 1) c) := Lib.hid (Xc_1.out.on hb)
  clear hb B_1 Xa_1 Xb_1 Xc_1
  have ka0 := Xa_2.out.c0
  have ka1 := Xa_2.out.c1
  have ka2 := Xa_2.out.c2
  have ka3 := Xa_2.out.c3
  have kb0 := Xb_2.out.c0
  have kb1 := Xb_2.out.c1
  have kb2 := Xb_2.out.c2
  have kb3 := Xb_2.out.c3
  go_wp2_with fail
  refine (cmp_q Xa_2.out.sl Xb_2.out.sl Va.out Vb.out (-1) HC.out.1).mono ?_
  clear ka0 ka1 ka2 ka3 kb0 kb1 kb2 kb3
  rintro e w3 ⟨rfl, hb⟩
  have B_3 := Lib.hid (below_chain B_2.out (by have := B_2.out.size; have := HRr.out; omega) hb)
  have Xa_3 : Hid (Rb w3 r a) := Lib.hid (Xa_2.out.on hb)
  have Xb_3 : Hid (Rb w3 (r + 1) b) := Lib.hid (Xb_2.out.on hb)
  have Xc_3 : Hid (Rb w3 (r + 1 + 1) c) := Lib.hid (Xc_2.out.on hb)
  clear hb B_2 Xa_2 Xb_2 Xc_2
  have kb0 := Xb_3.out.c0
  have kb1 := Xb_3.out.c1
  have kb2 := Xb_3.out.c2
  have kb3 := Xb_3.out.c3
  have ka0 := Xa_3.out.c0
  have ka1 := Xa_3.out.c1
  have ka2 := Xa_3.out.c2
  have ka3 := Xa_3.out.c3
  go_wp2_with fail
  refine (cmp_q Xb_3.out.sl Xa_3.out.sl Vb.out Va.out 1 HC.out.2.1).mono ?_
  clear kb0 kb1 kb2 kb3 ka0 ka1 ka2 ka3
  rintro e w4 ⟨rfl, hb⟩
  have B_4 := Lib.hid (below_chain B_3.out (by have := B_3.out.size; have := HRr.out; omega) hb)
  have Xa_4 : Hid (Rb w4 r a) := Lib.hid (Xa_3.out.on hb)
  have Xb_4 : Hid (Rb w4 (r + 1) b) := Lib.hid (Xb_3.out.on hb)
  have Xc_4 : Hid (Rb w4 (r + 1 + 1) c) := Lib.hid (Xc_3.out.on hb)
  clear hb B_3 Xa_3 Xb_3 Xc_3
  have kb0 := Xb_4.out.c0
  have kb1 := Xb_4.out.c1
  have kb2 := Xb_4.out.c2
  have kb3 := Xb_4.out.c3
  have kc0 := Xc_4.out.c0
  have kc1 := Xc_4.out.c1
  have kc2 := Xc_4.out.c2
  have kc3 := Xc_4.out.c3
  go_wp2_with fail
  refine (cmp_q Xb_4.out.sl Xc_4.out.sl Vb.out Vc.out u HC.out.2.2.1).mono ?_
  clear kb0 kb1 kb2 kb3 kc0 kc1 kc2 kc3
  rintro e w5 ⟨rfl, hb⟩
  have B_5 := Lib.hid (below_chain B_4.out (by have := B_4.out.size; have := HRr.out; omega) hb)
  have Xa_5 : Hid (Rb w5 r a) := Lib.hid (Xa_4.out.on hb)
  have Xb_5 : Hid (Rb w5 (r + 1) b) := Lib.hid (Xb_4.out.on hb)
  have Xc_5 : Hid (Rb w5 (r + 1 + 1) c) := Lib.hid (Xc_4.out.on hb)
  clear hb B_4 Xa_4 Xb_4 Xc_4
  have ka0 := Xa_5.out.c0
  have ka1 := Xa_5.out.c1
  have ka2 := Xa_5.out.c2
  have ka3 := Xa_5.out.c3
  have kc0 := Xc_5.out.c0
  have kc1 := Xc_5.out.c1
  have kc2 := Xc_5.out.c2
  have kc3 := Xc_5.out.c3
  go_wp2_with fail
  refine (cmp_q Xa_5.out.sl Xc_5.out.sl Va.out Vc.out v HC.out.2.2.2.1).mono ?_
  clear ka0 ka1 ka2 ka3 kc0 kc1 kc2 kc3
  rintro e w6 ⟨rfl, hb⟩
  have B_6 := Lib.hid (below_chain B_5.out (by have := B_5.out.size; have := HRr.out; omega) hb)
  have Xa_6 : Hid (Rb w6 r a) := Lib.hid (Xa_5.out.on hb)
  have Xb_6 : Hid (Rb w6 (r + 1) b) := Lib.hid (Xb_5.out.on hb)
  have Xc_6 : Hid (Rb w6 (r + 1 + 1) c) := Lib.hid (Xc_5.out.on hb)
  clear hb B_5 Xa_5 Xb_5 Xc_5
  have ka0 := Xa_6.out.c0
  have ka1 := Xa_6.out.c1
  have ka2 := Xa_6.out.c2
  have ka3 := Xa_6.out.c3
  have kb0 := Xb_6.out.c0
  have kb1 := Xb_6.out.c1
  have kb2 := Xb_6.out.c2
  have kb3 := Xb_6.out.c3
  go_wp2_with fail
  refine (sub_v Xa_6.out.sl Xb_6.out.sl Va.out Vb.out HB.out.1 HB.out.2.1 (by decide)).mono ?_
  clear ka0 ka1 ka2 ka3 kb0 kb1 kb2 kb3
  rintro e w7 ⟨td, rfl, hi, hv, hb⟩
  have B_7 := Lib.hid (below_chain B_6.out (by have := B_6.out.size; have := HRr.out; omega) hb)
  have Xa_7 : Hid (Rb w7 r a) := Lib.hid (Xa_6.out.on hb)
  have Xb_7 : Hid (Rb w7 (r + 1) b) := Lib.hid (Xb_6.out.on hb)
  have Xc_7 : Hid (Rb w7 (r + 1 + 1) c) := Lib.hid (Xc_6.out.on hb)
  have Id_7 : Hid (td.In w7) := Lib.hid (hi)
  clear hb B_6 Xa_6 Xb_6 Xc_6 hi
  have Vd := Lib.hid hv
  clear hv
  go_wp2_with fail
  generalize hW : World.alloc w7 _ = V8
  have hn := below_new w7 (.cells #[.bool td.g, .slice td.A td.n td.c, .bool td.gd, .slice td.Ad td.nd td.cd] 27)
  have hx := Rb.new Id_7.out
  rw [hW] at hn hx
  have B_8 := Lib.hid (below_chain B_7.out (by have := B_7.out.size; have := HRr.out; omega) hn)
  have Xa_8 : Hid (Rb V8 r a) := Lib.hid (Xa_7.out.on hn)
  have Xb_8 : Hid (Rb V8 (r + 1) b) := Lib.hid (Xb_7.out.on hn)
  have Xc_8 : Hid (Rb V8 (r + 1 + 1) c) := Lib.hid (Xc_7.out.on hn)
  have Id_8 : Hid (td.In V8) := Lib.hid (Id_7.out.on hn)
  have Xd_8 := Lib.hid hx
  clear hx hn hW B_7 Xa_7 Xb_7 Xc_7 Id_7 Id_8
  generalize w7.heap.size = b1 at *
  refine (sign_q Xd_8.out.sl Vd.out).mono ?_
  rintro e w9 ⟨rfl, hb⟩
  have B_9 := Lib.hid (below_chain B_8.out (by have := B_8.out.size; have := HRr.out; omega) hb)
  have Xa_9 : Hid (Rb w9 r a) := Lib.hid (Xa_8.out.on hb)
  have Xb_9 : Hid (Rb w9 (r + 1) b) := Lib.hid (Xb_8.out.on hb)
  have Xc_9 : Hid (Rb w9 (r + 1 + 1) c) := Lib.hid (Xc_8.out.on hb)
  have Xd_9 : Hid (Rb w9 b1 td) := Lib.hid (Xd_8.out.on hb)
  clear hb B_8 Xa_8 Xb_8 Xc_8 Xd_8
  rw [HC.out.2.2.2.2.1]
  clear Xd_9
  have ka0 := Xa_9.out.c0
  have ka1 := Xa_9.out.c1
  have ka2 := Xa_9.out.c2
  have ka3 := Xa_9.out.c3
  have kc0 := Xc_9.out.c0
  have kc1 := Xc_9.out.c1
  have kc2 := Xc_9.out.c2
  have kc3 := Xc_9.out.c3
  go_wp2_with fail
  refine (add_v Xa_9.out.sl Xc_9.out.sl Va.out Vc.out HB.out.1 HB.out.2.2 (by decide)).mono ?_
  clear ka0 ka1 ka2 ka3 kc0 kc1 kc2 kc3
  rintro e w10 ⟨tx, rfl, hi, hv, hb⟩
  have B_10 := Lib.hid (below_chain B_9.out (by have := B_9.out.size; have := HRr.out; omega) hb)
  have Xa_10 : Hid (Rb w10 r a) := Lib.hid (Xa_9.out.on hb)
  have Xb_10 : Hid (Rb w10 (r + 1) b) := Lib.hid (Xb_9.out.on hb)
  have Xc_10 : Hid (Rb w10 (r + 1 + 1) c) := Lib.hid (Xc_9.out.on hb)
  have Ix_10 : Hid (tx.In w10) := Lib.hid (hi)
  clear hb B_9 Xa_9 Xb_9 Xc_9 hi
  have Vx := Lib.hid hv
  clear hv
  have kb0 := (Xb_10.out.on (below_new w10 (.cells #[.bool tx.g, .slice tx.A tx.n tx.c, .bool tx.gd, .slice tx.Ad tx.nd tx.cd] 27))).c0
  have kb1 := (Xb_10.out.on (below_new w10 (.cells #[.bool tx.g, .slice tx.A tx.n tx.c, .bool tx.gd, .slice tx.Ad tx.nd tx.cd] 27))).c1
  have kb2 := (Xb_10.out.on (below_new w10 (.cells #[.bool tx.g, .slice tx.A tx.n tx.c, .bool tx.gd, .slice tx.Ad tx.nd tx.cd] 27))).c2
  have kb3 := (Xb_10.out.on (below_new w10 (.cells #[.bool tx.g, .slice tx.A tx.n tx.c, .bool tx.gd, .slice tx.Ad tx.nd tx.cd] 27))).c3
  have kc0 := (Xc_10.out.on (below_new w10 (.cells #[.bool tx.g, .slice tx.A tx.n tx.c, .bool tx.gd, .slice tx.Ad tx.nd tx.cd] 27))).c0
  have kc1 := (Xc_10.out.on (below_new w10 (.cells #[.bool tx.g, .slice tx.A tx.n tx.c, .bool tx.gd, .slice tx.Ad tx.nd tx.cd] 27))).c1
  have kc2 := (Xc_10.out.on (below_new w10 (.cells #[.bool tx.g, .slice tx.A tx.n tx.c, .bool tx.gd, .slice tx.Ad tx.nd tx.cd] 27))).c2
  have kc3 := (Xc_10.out.on (below_new w10 (.cells #[.bool tx.g, .slice tx.A tx.n tx.c, .bool tx.gd, .slice tx.Ad tx.nd tx.cd] 27))).c3
  go_wp2_with fail
  generalize hW : World.alloc w10 _ = V11
  have hn := below_new w10 (.cells #[.bool tx.g, .slice tx.A tx.n tx.c, .bool tx.gd, .slice tx.Ad tx.nd tx.cd] 27)
  have hx := Rb.new Ix_10.out
  rw [hW] at hn hx
  have B_11 := Lib.hid (below_chain B_10.out (by have := B_10.out.size; have := HRr.out; omega) hn)
  have Xa_11 : Hid (Rb V11 r a) := Lib.hid (Xa_10.out.on hn)
  have Xb_11 : Hid (Rb V11 (r + 1) b) := Lib.hid (Xb_10.out.on hn)
  have Xc_11 : Hid (Rb V11 (r + 1 + 1) c) := Lib.hid (Xc_10.out.on hn)
  have Ix_11 : Hid (tx.In V11) := Lib.hid (Ix_10.out.on hn)
  have Xx_11 := Lib.hid hx
  clear hx hn hW B_10 Xa_10 Xb_10 Xc_10 Ix_10 Ix_11
  generalize w10.heap.size = b2 at *
  refine (add_v Xb_11.out.sl Xc_11.out.sl Vb.out Vc.out HB.out.2.1 HB.out.2.2 (by decide)).mono ?_
  clear kb0 kb1 kb2 kb3 kc0 kc1 kc2 kc3
  rintro e w12 ⟨ty, rfl, hi, hv, hb⟩
  have B_12 := Lib.hid (below_chain B_11.out (by have := B_11.out.size; have := HRr.out; omega) hb)
  have Xa_12 : Hid (Rb w12 r a) := Lib.hid (Xa_11.out.on hb)
  have Xb_12 : Hid (Rb w12 (r + 1) b) := Lib.hid (Xb_11.out.on hb)
  have Xc_12 : Hid (Rb w12 (r + 1 + 1) c) := Lib.hid (Xc_11.out.on hb)
  have Xx_12 : Hid (Rb w12 b2 tx) := Lib.hid (Xx_11.out.on hb)
  have Iy_12 : Hid (ty.In w12) := Lib.hid (hi)
  clear hb B_11 Xa_11 Xb_11 Xc_11 Xx_11 hi
  have Vy := Lib.hid hv
  clear hv
  have kx0 := (Xx_12.out.on (below_new w12 (.cells #[.bool ty.g, .slice ty.A ty.n ty.c, .bool ty.gd, .slice ty.Ad ty.nd ty.cd] 27))).c0
  have kx1 := (Xx_12.out.on (below_new w12 (.cells #[.bool ty.g, .slice ty.A ty.n ty.c, .bool ty.gd, .slice ty.Ad ty.nd ty.cd] 27))).c1
  have kx2 := (Xx_12.out.on (below_new w12 (.cells #[.bool ty.g, .slice ty.A ty.n ty.c, .bool ty.gd, .slice ty.Ad ty.nd ty.cd] 27))).c2
  have kx3 := (Xx_12.out.on (below_new w12 (.cells #[.bool ty.g, .slice ty.A ty.n ty.c, .bool ty.gd, .slice ty.Ad ty.nd ty.cd] 27))).c3
  go_wp2_with fail
  generalize hW : World.alloc w12 _ = V13
  have hn := below_new w12 (.cells #[.bool ty.g, .slice ty.A ty.n ty.c, .bool ty.gd, .slice ty.Ad ty.nd ty.cd] 27)
  have hx := Rb.new Iy_12.out
  rw [hW] at hn hx
  have B_13 := Lib.hid (below_chain B_12.out (by have := B_12.out.size; have := HRr.out; omega) hn)
  have Xa_13 : Hid (Rb V13 r a) := Lib.hid (Xa_12.out.on hn)
  have Xb_13 : Hid (Rb V13 (r + 1) b) := Lib.hid (Xb_12.out.on hn)
  have Xc_13 : Hid (Rb V13 (r + 1 + 1) c) := Lib.hid (Xc_12.out.on hn)
  have Xx_13 : Hid (Rb V13 b2 tx) := Lib.hid (Xx_12.out.on hn)
  have Iy_13 : Hid (ty.In V13) := Lib.hid (Iy_12.out.on hn)
  have Xy_13 := Lib.hid hx
  clear hx hn hW B_12 Xa_12 Xb_12 Xc_12 Xx_12 Iy_12 Iy_13
  generalize w12.heap.size = b3 at *
  refine (cmp_q Xx_13.out.sl Xy_13.out.sl Vx.out Vy.out (-1) HC.out.2.2.2.2.2).mono ?_
  clear kx0 kx1 kx2 kx3
  rintro e w14 ⟨rfl, hb⟩
  have B_14 := Lib.hid (below_chain B_13.out (by have := B_13.out.size; have := HRr.out; omega) hb)
  have Xa_14 : Hid (Rb w14 r a) := Lib.hid (Xa_13.out.on hb)
  have Xb_14 : Hid (Rb w14 (r + 1) b) := Lib.hid (Xb_13.out.on hb)
  have Xc_14 : Hid (Rb w14 (r + 1 + 1) c) := Lib.hid (Xc_13.out.on hb)
  have Xx_14 : Hid (Rb w14 b2 tx) := Lib.hid (Xx_13.out.on hb)
  have Xy_14 : Hid (Rb w14 b3 ty) := Lib.hid (Xy_13.out.on hb)
  clear hb B_13 Xa_13 Xb_13 Xc_13 Xx_13 Xy_13
  go_wp2
  go_ret
  exact ⟨rfl, by rw [HRr.out]; exact B_14.out⟩

set_option maxRecDepth 20000 in
set_option maxHeartbeats 4000000 in
theorem ord_eqlt (a b c : RVal) (w : World) (h1 : a.In w) (h2 : b.In w) (h3 : c.In w) (x y z : Rat) (hx : rv a.o a.od = some x) (hy : rv b.o b.od = some y) (hz : rv c.o c.od = some z) (hB : Bd 1024 x ∧ Bd 1024 y ∧ Bd 1024 z) (hv : vok a b c 32 = true) (v : Int) (hc : Int.sign (x.num * y.den - y.num * x.den) = 0 ∧ Int.sign (y.num * x.den - x.num * y.den) = 0 ∧ Int.sign (y.num * z.den - z.num * y.den) = (-1) ∧ Int.sign (x.num * z.den - z.num * x.den) = v ∧ (x - y).num.sign = 0 ∧ Int.sign ((x + z).num * (y + z).den - (y + z).num * (x + z).den) = 0) :
    Calls Tryz.prog 10 #[.agg #[.bool a.g, .slice a.A a.n a.c, .bool a.gd, .slice a.Ad a.nd a.cd], .agg #[.bool b.g, .slice b.A b.n b.c, .bool b.gd, .slice b.Ad b.nd b.cd], .agg #[.bool c.g, .slice c.A c.n c.c, .bool c.gd, .slice c.Ad c.nd c.cd]] w fun e w' => e = .returned (.bool true) ∧ Below w.heap.size w w' := by
  have Va := Lib.hid hx
  have Vb := Lib.hid hy
  have Vc := Lib.hid hz
  have HB := Lib.hid hB
  have HV := Lib.hid hv
  have HC := Lib.hid hc
  have HS := Lib.hid (And.intro h1 (And.intro h2 h3))
  clear h1 h2 h3 hx hy hz hB hv hc
  go_enter Tryz.func10, Tryz.ntmps10
  go_wp2_with fail
  generalize hW : World.alloc (World.alloc (World.alloc w _) _) _ = V
  obtain ⟨hb, ra, rb, rc⟩ := three_rats a b c w V HS.out.1 HS.out.2.1 HS.out.2.2 hW
  have B_0 : Hid (Below w.heap.size w V) := Lib.hid (hb)
  have Xa_0 := Lib.hid ra
  have Xb_0 := Lib.hid rb
  have Xc_0 := Lib.hid rc
  clear hb ra rb rc hW
  generalize hr : w.heap.size = r at *
  have HRr := Lib.hid hr
  clear hr
  refine (sane V).mono ?_
  rintro e w1 ⟨rfl, hb⟩
  have B_1 := Lib.hid (below_chain B_0.out (by have := B_0.out.size; have := HRr.out; omega) hb)
  have Xa_1 : Hid (Rb w1 r a) := Lib.hid (Xa_0.out.on hb)
  have Xb_1 : Hid (Rb w1 (r + 1) b) := Lib.hid (Xb_0.out.on hb)
  have Xc_1 : Hid (Rb w1 (r + 1 + 1) c) := Lib.hid (Xc_0.out.on hb)
  clear hb B_0 Xa_0 Xb_0 Xc_0
  have ka0 := Xa_1.out.c0
  have ka1 := Xa_1.out.c1
  have ka2 := Xa_1.out.c2
  have ka3 := Xa_1.out.c3
  have kb0 := Xb_1.out.c0
  have kb1 := Xb_1.out.c1
  have kb2 := Xb_1.out.c2
  have kb3 := Xb_1.out.c3
  have kc0 := Xc_1.out.c0
  have kc1 := Xc_1.out.c1
  have kc2 := Xc_1.out.c2
  have kc3 := Xc_1.out.c3
  go_wp2_with fail
  have C := val_any a b c 32 w1 Xa_1.out.sl Xb_1.out.sl Xc_1.out.sl
  rw [HV.out] at C
  refine C.mono ?_
  clear C
  clear ka0 ka1 ka2 ka3 kb0 kb1 kb2 kb3 kc0 kc1 kc2 kc3
  rintro e w2 ⟨rfl, hb⟩
  have B_2 := Lib.hid (below_chain B_1.out (by have := B_1.out.size; have := HRr.out; omega) hb)
  have Xa_2 : Hid (Rb w2 r a) := Lib.hid (Xa_1.out.on hb)
  have Xb_2 : Hid (Rb w2 (r + 1) b) := Lib.hid (Xb_1.out.on hb)
  have Xc_2 : Hid (Rb w2 (r + 1 + 1) c) := Lib.hid (Xc_1.out.on hb)
  clear hb B_1 Xa_1 Xb_1 Xc_1
  have ka0 := Xa_2.out.c0
  have ka1 := Xa_2.out.c1
  have ka2 := Xa_2.out.c2
  have ka3 := Xa_2.out.c3
  have kb0 := Xb_2.out.c0
  have kb1 := Xb_2.out.c1
  have kb2 := Xb_2.out.c2
  have kb3 := Xb_2.out.c3
  go_wp2_with fail
  refine (cmp_q Xa_2.out.sl Xb_2.out.sl Va.out Vb.out 0 HC.out.1).mono ?_
  clear ka0 ka1 ka2 ka3 kb0 kb1 kb2 kb3
  rintro e w3 ⟨rfl, hb⟩
  have B_3 := Lib.hid (below_chain B_2.out (by have := B_2.out.size; have := HRr.out; omega) hb)
  have Xa_3 : Hid (Rb w3 r a) := Lib.hid (Xa_2.out.on hb)
  have Xb_3 : Hid (Rb w3 (r + 1) b) := Lib.hid (Xb_2.out.on hb)
  have Xc_3 : Hid (Rb w3 (r + 1 + 1) c) := Lib.hid (Xc_2.out.on hb)
  clear hb B_2 Xa_2 Xb_2 Xc_2
  have kb0 := Xb_3.out.c0
  have kb1 := Xb_3.out.c1
  have kb2 := Xb_3.out.c2
  have kb3 := Xb_3.out.c3
  have ka0 := Xa_3.out.c0
  have ka1 := Xa_3.out.c1
  have ka2 := Xa_3.out.c2
  have ka3 := Xa_3.out.c3
  go_wp2_with fail
  refine (cmp_q Xb_3.out.sl Xa_3.out.sl Vb.out Va.out 0 HC.out.2.1).mono ?_
  clear kb0 kb1 kb2 kb3 ka0 ka1 ka2 ka3
  rintro e w4 ⟨rfl, hb⟩
  have B_4 := Lib.hid (below_chain B_3.out (by have := B_3.out.size; have := HRr.out; omega) hb)
  have Xa_4 : Hid (Rb w4 r a) := Lib.hid (Xa_3.out.on hb)
  have Xb_4 : Hid (Rb w4 (r + 1) b) := Lib.hid (Xb_3.out.on hb)
  have Xc_4 : Hid (Rb w4 (r + 1 + 1) c) := Lib.hid (Xc_3.out.on hb)
  clear hb B_3 Xa_3 Xb_3 Xc_3
  have kb0 := Xb_4.out.c0
  have kb1 := Xb_4.out.c1
  have kb2 := Xb_4.out.c2
  have kb3 := Xb_4.out.c3
  have kc0 := Xc_4.out.c0
  have kc1 := Xc_4.out.c1
  have kc2 := Xc_4.out.c2
  have kc3 := Xc_4.out.c3
  go_wp2_with fail
  refine (cmp_q Xb_4.out.sl Xc_4.out.sl Vb.out Vc.out (-1) HC.out.2.2.1).mono ?_
  clear kb0 kb1 kb2 kb3 kc0 kc1 kc2 kc3
  rintro e w5 ⟨rfl, hb⟩
  have B_5 := Lib.hid (below_chain B_4.out (by have := B_4.out.size; have := HRr.out; omega) hb)
  have Xa_5 : Hid (Rb w5 r a) := Lib.hid (Xa_4.out.on hb)
  have Xb_5 : Hid (Rb w5 (r + 1) b) := Lib.hid (Xb_4.out.on hb)
  have Xc_5 : Hid (Rb w5 (r + 1 + 1) c) := Lib.hid (Xc_4.out.on hb)
  clear hb B_4 Xa_4 Xb_4 Xc_4
  have ka0 := Xa_5.out.c0
  have ka1 := Xa_5.out.c1
  have ka2 := Xa_5.out.c2
  have ka3 := Xa_5.out.c3
  have kc0 := Xc_5.out.c0
  have kc1 := Xc_5.out.c1
  have kc2 := Xc_5.out.c2
  have kc3 := Xc_5.out.c3
  go_wp2_with fail
  refine (cmp_q Xa_5.out.sl Xc_5.out.sl Va.out Vc.out v HC.out.2.2.2.1).mono ?_
  clear ka0 ka1 ka2 ka3 kc0 kc1 kc2 kc3
  rintro e w6 ⟨rfl, hb⟩
  have B_6 := Lib.hid (below_chain B_5.out (by have := B_5.out.size; have := HRr.out; omega) hb)
  have Xa_6 : Hid (Rb w6 r a) := Lib.hid (Xa_5.out.on hb)
  have Xb_6 : Hid (Rb w6 (r + 1) b) := Lib.hid (Xb_5.out.on hb)
  have Xc_6 : Hid (Rb w6 (r + 1 + 1) c) := Lib.hid (Xc_5.out.on hb)
  clear hb B_5 Xa_5 Xb_5 Xc_5
  have ka0 := Xa_6.out.c0
  have ka1 := Xa_6.out.c1
  have ka2 := Xa_6.out.c2
  have ka3 := Xa_6.out.c3
  have kb0 := Xb_6.out.c0
  have kb1 := Xb_6.out.c1
  have kb2 := Xb_6.out.c2
  have kb3 := Xb_6.out.c3
  go_wp2_with fail
  refine (sub_v Xa_6.out.sl Xb_6.out.sl Va.out Vb.out HB.out.1 HB.out.2.1 (by decide)).mono ?_
  clear ka0 ka1 ka2 ka3 kb0 kb1 kb2 kb3
  rintro e w7 ⟨td, rfl, hi, hv, hb⟩
  have B_7 := Lib.hid (below_chain B_6.out (by have := B_6.out.size; have := HRr.out; omega) hb)
  have Xa_7 : Hid (Rb w7 r a) := Lib.hid (Xa_6.out.on hb)
  have Xb_7 : Hid (Rb w7 (r + 1) b) := Lib.hid (Xb_6.out.on hb)
  have Xc_7 : Hid (Rb w7 (r + 1 + 1) c) := Lib.hid (Xc_6.out.on hb)
  have Id_7 : Hid (td.In w7) := Lib.hid (hi)
  clear hb B_6 Xa_6 Xb_6 Xc_6 hi
  have Vd := Lib.hid hv
  clear hv
  go_wp2_with fail
  generalize hW : World.alloc w7 _ = V8
  have hn := below_new w7 (.cells #[.bool td.g, .slice td.A td.n td.c, .bool td.gd, .slice td.Ad td.nd td.cd] 27)
  have hx := Rb.new Id_7.out
  rw [hW] at hn hx
  have B_8 := Lib.hid (below_chain B_7.out (by have := B_7.out.size; have := HRr.out; omega) hn)
  have Xa_8 : Hid (Rb V8 r a) := Lib.hid (Xa_7.out.on hn)
  have Xb_8 : Hid (Rb V8 (r + 1) b) := Lib.hid (Xb_7.out.on hn)
  have Xc_8 : Hid (Rb V8 (r + 1 + 1) c) := Lib.hid (Xc_7.out.on hn)
  have Id_8 : Hid (td.In V8) := Lib.hid (Id_7.out.on hn)
  have Xd_8 := Lib.hid hx
  clear hx hn hW B_7 Xa_7 Xb_7 Xc_7 Id_7 Id_8
  generalize w7.heap.size = b1 at *
  refine (sign_q Xd_8.out.sl Vd.out).mono ?_
  rintro e w9 ⟨rfl, hb⟩
  have B_9 := Lib.hid (below_chain B_8.out (by have := B_8.out.size; have := HRr.out; omega) hb)
  have Xa_9 : Hid (Rb w9 r a) := Lib.hid (Xa_8.out.on hb)
  have Xb_9 : Hid (Rb w9 (r + 1) b) := Lib.hid (Xb_8.out.on hb)
  have Xc_9 : Hid (Rb w9 (r + 1 + 1) c) := Lib.hid (Xc_8.out.on hb)
  have Xd_9 : Hid (Rb w9 b1 td) := Lib.hid (Xd_8.out.on hb)
  clear hb B_8 Xa_8 Xb_8 Xc_8 Xd_8
  rw [HC.out.2.2.2.2.1]
  clear Xd_9
  have ka0 := Xa_9.out.c0
  have ka1 := Xa_9.out.c1
  have ka2 := Xa_9.out.c2
  have ka3 := Xa_9.out.c3
  have kc0 := Xc_9.out.c0
  have kc1 := Xc_9.out.c1
  have kc2 := Xc_9.out.c2
  have kc3 := Xc_9.out.c3
  go_wp2_with fail
  refine (add_v Xa_9.out.sl Xc_9.out.sl Va.out Vc.out HB.out.1 HB.out.2.2 (by decide)).mono ?_
  clear ka0 ka1 ka2 ka3 kc0 kc1 kc2 kc3
  rintro e w10 ⟨tx, rfl, hi, hv, hb⟩
  have B_10 := Lib.hid (below_chain B_9.out (by have := B_9.out.size; have := HRr.out; omega) hb)
  have Xa_10 : Hid (Rb w10 r a) := Lib.hid (Xa_9.out.on hb)
  have Xb_10 : Hid (Rb w10 (r + 1) b) := Lib.hid (Xb_9.out.on hb)
  have Xc_10 : Hid (Rb w10 (r + 1 + 1) c) := Lib.hid (Xc_9.out.on hb)
  have Ix_10 : Hid (tx.In w10) := Lib.hid (hi)
  clear hb B_9 Xa_9 Xb_9 Xc_9 hi
  have Vx := Lib.hid hv
  clear hv
  have kb0 := (Xb_10.out.on (below_new w10 (.cells #[.bool tx.g, .slice tx.A tx.n tx.c, .bool tx.gd, .slice tx.Ad tx.nd tx.cd] 27))).c0
  have kb1 := (Xb_10.out.on (below_new w10 (.cells #[.bool tx.g, .slice tx.A tx.n tx.c, .bool tx.gd, .slice tx.Ad tx.nd tx.cd] 27))).c1
  have kb2 := (Xb_10.out.on (below_new w10 (.cells #[.bool tx.g, .slice tx.A tx.n tx.c, .bool tx.gd, .slice tx.Ad tx.nd tx.cd] 27))).c2
  have kb3 := (Xb_10.out.on (below_new w10 (.cells #[.bool tx.g, .slice tx.A tx.n tx.c, .bool tx.gd, .slice tx.Ad tx.nd tx.cd] 27))).c3
  have kc0 := (Xc_10.out.on (below_new w10 (.cells #[.bool tx.g, .slice tx.A tx.n tx.c, .bool tx.gd, .slice tx.Ad tx.nd tx.cd] 27))).c0
  have kc1 := (Xc_10.out.on (below_new w10 (.cells #[.bool tx.g, .slice tx.A tx.n tx.c, .bool tx.gd, .slice tx.Ad tx.nd tx.cd] 27))).c1
  have kc2 := (Xc_10.out.on (below_new w10 (.cells #[.bool tx.g, .slice tx.A tx.n tx.c, .bool tx.gd, .slice tx.Ad tx.nd tx.cd] 27))).c2
  have kc3 := (Xc_10.out.on (below_new w10 (.cells #[.bool tx.g, .slice tx.A tx.n tx.c, .bool tx.gd, .slice tx.Ad tx.nd tx.cd] 27))).c3
  go_wp2_with fail
  generalize hW : World.alloc w10 _ = V11
  have hn := below_new w10 (.cells #[.bool tx.g, .slice tx.A tx.n tx.c, .bool tx.gd, .slice tx.Ad tx.nd tx.cd] 27)
  have hx := Rb.new Ix_10.out
  rw [hW] at hn hx
  have B_11 := Lib.hid (below_chain B_10.out (by have := B_10.out.size; have := HRr.out; omega) hn)
  have Xa_11 : Hid (Rb V11 r a) := Lib.hid (Xa_10.out.on hn)
  have Xb_11 : Hid (Rb V11 (r + 1) b) := Lib.hid (Xb_10.out.on hn)
  have Xc_11 : Hid (Rb V11 (r + 1 + 1) c) := Lib.hid (Xc_10.out.on hn)
  have Ix_11 : Hid (tx.In V11) := Lib.hid (Ix_10.out.on hn)
  have Xx_11 := Lib.hid hx
  clear hx hn hW B_10 Xa_10 Xb_10 Xc_10 Ix_10 Ix_11
  generalize w10.heap.size = b2 at *
  refine (add_v Xb_11.out.sl Xc_11.out.sl Vb.out Vc.out HB.out.2.1 HB.out.2.2 (by decide)).mono ?_
  clear kb0 kb1 kb2 kb3 kc0 kc1 kc2 kc3
  rintro e w12 ⟨ty, rfl, hi, hv, hb⟩
  have B_12 := Lib.hid (below_chain B_11.out (by have := B_11.out.size; have := HRr.out; omega) hb)
  have Xa_12 : Hid (Rb w12 r a) := Lib.hid (Xa_11.out.on hb)
  have Xb_12 : Hid (Rb w12 (r + 1) b) := Lib.hid (Xb_11.out.on hb)
  have Xc_12 : Hid (Rb w12 (r + 1 + 1) c) := Lib.hid (Xc_11.out.on hb)
  have Xx_12 : Hid (Rb w12 b2 tx) := Lib.hid (Xx_11.out.on hb)
  have Iy_12 : Hid (ty.In w12) := Lib.hid (hi)
  clear hb B_11 Xa_11 Xb_11 Xc_11 Xx_11 hi
  have Vy := Lib.hid hv
  clear hv
  have kx0 := (Xx_12.out.on (below_new w12 (.cells #[.bool ty.g, .slice ty.A ty.n ty.c, .bool ty.gd, .slice ty.Ad ty.nd ty.cd] 27))).c0
  have kx1 := (Xx_12.out.on (below_new w12 (.cells #[.bool ty.g, .slice ty.A ty.n ty.c, .bool ty.gd, .slice ty.Ad ty.nd ty.cd] 27))).c1
  have kx2 := (Xx_12.out.on (below_new w12 (.cells #[.bool ty.g, .slice ty.A ty.n ty.c, .bool ty.gd, .slice ty.Ad ty.nd ty.cd] 27))).c2
  have kx3 := (Xx_12.out.on (below_new w12 (.cells #[.bool ty.g, .slice ty.A ty.n ty.c, .bool ty.gd, .slice ty.Ad ty.nd ty.cd] 27))).c3
  go_wp2_with fail
  generalize hW : World.alloc w12 _ = V13
  have hn := below_new w12 (.cells #[.bool ty.g, .slice ty.A ty.n ty.c, .bool ty.gd, .slice ty.Ad ty.nd ty.cd] 27)
  have hx := Rb.new Iy_12.out
  rw [hW] at hn hx
  have B_13 := Lib.hid (below_chain B_12.out (by have := B_12.out.size; have := HRr.out; omega) hn)
  have Xa_13 : Hid (Rb V13 r a) := Lib.hid (Xa_12.out.on hn)
  have Xb_13 : Hid (Rb V13 (r + 1) b) := Lib.hid (Xb_12.out.on hn)
  have Xc_13 : Hid (Rb V13 (r + 1 + 1) c) := Lib.hid (Xc_12.out.on hn)
  have Xx_13 : Hid (Rb V13 b2 tx) := Lib.hid (Xx_12.out.on hn)
  have Iy_13 : Hid (ty.In V13) := Lib.hid (Iy_12.out.on hn)
  have Xy_13 := Lib.hid hx
  clear hx hn hW B_12 Xa_12 Xb_12 Xc_12 Xx_12 Iy_12 Iy_13
  generalize w12.heap.size = b3 at *
  refine (cmp_q Xx_13.out.sl Xy_13.out.sl Vx.out Vy.out 0 HC.out.2.2.2.2.2).mono ?_
  clear kx0 kx1 kx2 kx3
  rintro e w14 ⟨rfl, hb⟩
  have B_14 := Lib.hid (below_chain B_13.out (by have := B_13.out.size; have := HRr.out; omega) hb)
  have Xa_14 : Hid (Rb w14 r a) := Lib.hid (Xa_13.out.on hb)
  have Xb_14 : Hid (Rb w14 (r + 1) b) := Lib.hid (Xb_13.out.on hb)
  have Xc_14 : Hid (Rb w14 (r + 1 + 1) c) := Lib.hid (Xc_13.out.on hb)
  have Xx_14 : Hid (Rb w14 b2 tx) := Lib.hid (Xx_13.out.on hb)
  have Xy_14 : Hid (Rb w14 b3 ty) := Lib.hid (Xy_13.out.on hb)
  clear hb B_13 Xa_13 Xb_13 Xc_13 Xx_13 Xy_13
  go_wp2
  go_ret
  exact ⟨rfl, by rw [HRr.out]; exact B_14.out⟩

set_option maxRecDepth 20000 in
set_option maxHeartbeats 4000000 in
theorem ord_eqeq (a b c : RVal) (w : World) (h1 : a.In w) (h2 : b.In w) (h3 : c.In w) (x y z : Rat) (hx : rv a.o a.od = some x) (hy : rv b.o b.od = some y) (hz : rv c.o c.od = some z) (hB : Bd 1024 x ∧ Bd 1024 y ∧ Bd 1024 z) (hv : vok a b c 32 = true) (hc : Int.sign (x.num * y.den - y.num * x.den) = 0 ∧ Int.sign (y.num * x.den - x.num * y.den) = 0 ∧ Int.sign (y.num * z.den - z.num * y.den) = 0 ∧ Int.sign (x.num * z.den - z.num * x.den) = 0 ∧ (x - y).num.sign = 0 ∧ Int.sign ((x + z).num * (y + z).den - (y + z).num * (x + z).den) = 0) :
    Calls Tryz.prog 10 #[.agg #[.bool a.g, .slice a.A a.n a.c, .bool a.gd, .slice a.Ad a.nd a.cd], .agg #[.bool b.g, .slice b.A b.n b.c, .bool b.gd, .slice b.Ad b.nd b.cd], .agg #[.bool c.g, .slice c.A c.n c.c, .bool c.gd, .slice c.Ad c.nd c.cd]] w fun e w' => e = .returned (.bool true) ∧ Below w.heap.size w w' := by
  have Va := Lib.hid hx
  have Vb := Lib.hid hy
  have Vc := Lib.hid hz
  have HB := Lib.hid hB
  have HV := Lib.hid hv
  have HC := Lib.hid hc
  have HS := Lib.hid (And.intro h1 (And.intro h2 h3))
  clear h1 h2 h3 hx hy hz hB hv hc
  go_enter Tryz.func10, Tryz.ntmps10
  go_wp2_with fail
  generalize hW : World.alloc (World.alloc (World.alloc w _) _) _ = V
  obtain ⟨hb, ra, rb, rc⟩ := three_rats a b c w V HS.out.1 HS.out.2.1 HS.out.2.2 hW
  have B_0 : Hid (Below w.heap.size w V) := Lib.hid (hb)
  have Xa_0 := Lib.hid ra
  have Xb_0 := Lib.hid rb
  have Xc_0 := Lib.hid rc
  clear hb ra rb rc hW
  generalize hr : w.heap.size = r at *
  have HRr := Lib.hid hr
  clear hr
  refine (sane V).mono ?_
  rintro e w1 ⟨rfl, hb⟩
  have B_1 := Lib.hid (below_chain B_0.out (by have := B_0.out.size; have := HRr.out; omega) hb)
  have Xa_1 : Hid (Rb w1 r a) := Lib.hid (Xa_0.out.on hb)
  have Xb_1 : Hid (Rb w1 (r + 1) b) := Lib.hid (Xb_0.out.on hb)
  have Xc_1 : Hid (Rb w1 (r + 1 + 1) c) := Lib.hid (Xc_0.out.on hb)
  clear hb B_0 Xa_0 Xb_0 Xc_0
  have ka0 := Xa_1.out.c0
  have ka1 := Xa_1.out.c1
  have ka2 := Xa_1.out.c2
  have ka3 := Xa_1.out.c3
  have kb0 := Xb_1.out.c0
  have kb1 := Xb_1.out.c1
  have kb2 := Xb_1.out.c2
  have kb3 := Xb_1.out.c3
  have kc0 := Xc_1.out.c0
  have kc1 := Xc_1.out.c1
  have kc2 := Xc_1.out.c2
  have kc3 := Xc_1.out.c3
  go_wp2_with fail
  have C := val_any a b c 32 w1 Xa_1.out.sl Xb_1.out.sl Xc_1.out.sl
  rw [HV.out] at C
  refine C.mono ?_
  clear C
  clear ka0 ka1 ka2 ka3 kb0 kb1 kb2 kb3 kc0 kc1 kc2 kc3
  rintro e w2 ⟨rfl, hb⟩
  have B_2 := Lib.hid (below_chain B_1.out (by have := B_1.out.size; have := HRr.out; omega) hb)
  have Xa_2 : Hid (Rb w2 r a) := Lib.hid (Xa_1.out.on hb)
  have Xb_2 : Hid (Rb w2 (r + 1) b) := Lib.hid (Xb_1.out.on hb)
  have Xc_2 : Hid (Rb w2 (r + 1 + 1) c) := Lib.hid (Xc_1.out.on hb)
  clear hb B_1 Xa_1 Xb_1 Xc_1
  have ka0 := Xa_2.out.c0
  have ka1 := Xa_2.out.c1
  have ka2 := Xa_2.out.c2
  have ka3 := Xa_2.out.c3
  have kb0 := Xb_2.out.c0
  have kb1 := Xb_2.out.c1
  have kb2 := Xb_2.out.c2
  have kb3 := Xb_2.out.c3
  go_wp2_with fail
  refine (cmp_q Xa_2.out.sl Xb_2.out.sl Va.out Vb.out 0 HC.out.1).mono ?_
  clear ka0 ka1 ka2 ka3 kb0 kb1 kb2 kb3
  rintro e w3 ⟨rfl, hb⟩
  have B_3 := Lib.hid (below_chain B_2.out (by have := B_2.out.size; have := HRr.out; omega) hb)
  have Xa_3 : Hid (Rb w3 r a) := Lib.hid (Xa_2.out.on hb)
  have Xb_3 : Hid (Rb w3 (r + 1) b) := Lib.hid (Xb_2.out.on hb)
  have Xc_3 : Hid (Rb w3 (r + 1 + 1) c) := Lib.hid (Xc_2.out.on hb)
  clear hb B_2 Xa_2 Xb_2 Xc_2
  have kb0 := Xb_3.out.c0
  have kb1 := Xb_3.out.c1
  have kb2 := Xb_3.out.c2
  have kb3 := Xb_3.out.c3
  have ka0 := Xa_3.out.c0
  have ka1 := Xa_3.out.c1
  have ka2 := Xa_3.out.c2
  have ka3 := Xa_3.out.c3
  go_wp2_with fail
  refine (cmp_q Xb_3.out.sl Xa_3.out.sl Vb.out Va.out 0 HC.out.2.1).mono ?_
  clear kb0 kb1 kb2 kb3 ka0 ka1 ka2 ka3
  rintro e w4 ⟨rfl, hb⟩
  have B_4 := Lib.hid (below_chain B_3.out (by have := B_3.out.size; have := HRr.out; omega) hb)
  have Xa_4 : Hid (Rb w4 r a) := Lib.hid (Xa_3.out.on hb)
  have Xb_4 : Hid (Rb w4 (r + 1) b) := Lib.hid (Xb_3.out.on hb)
  have Xc_4 : Hid (Rb w4 (r + 1 + 1) c) := Lib.hid (Xc_3.out.on hb)
  clear hb B_3 Xa_3 Xb_3 Xc_3
  have kb0 := Xb_4.out.c0
  have kb1 := Xb_4.out.c1
  have kb2 := Xb_4.out.c2
  have kb3 := Xb_4.out.c3
  have kc0 := Xc_4.out.c0
  have kc1 := Xc_4.out.c1
  have kc2 := Xc_4.out.c2
  have kc3 := Xc_4.out.c3
  go_wp2_with fail
  refine (cmp_q Xb_4.out.sl Xc_4.out.sl Vb.out Vc.out 0 HC.out.2.2.1).mono ?_
  clear kb0 kb1 kb2 kb3 kc0 kc1 kc2 kc3
  rintro e w5 ⟨rfl, hb⟩
  have B_5 := Lib.hid (below_chain B_4.out (by have := B_4.out.size; have := HRr.out; omega) hb)
  have Xa_5 : Hid (Rb w5 r a) := Lib.hid (Xa_4.out.on hb)
  have Xb_5 : Hid (Rb w5 (r + 1) b) := Lib.hid (Xb_4.out.on hb)
  have Xc_5 : Hid (Rb w5 (r + 1 + 1) c) := Lib.hid (Xc_4.out.on hb)
  clear hb B_4 Xa_4 Xb_4 Xc_4
  have ka0 := Xa_5.out.c0
  have ka1 := Xa_5.out.c1
  have ka2 := Xa_5.out.c2
  have ka3 := Xa_5.out.c3
  have kc0 := Xc_5.out.c0
  have kc1 := Xc_5.out.c1
  have kc2 := Xc_5.out.c2
  have kc3 := Xc_5.out.c3
  go_wp2_with fail
  refine (cmp_q Xa_5.out.sl Xc_5.out.sl Va.out Vc.out 0 HC.out.2.2.2.1).mono ?_
  clear ka0 ka1 ka2 ka3 kc0 kc1 kc2 kc3
  rintro e w6 ⟨rfl, hb⟩
  have B_6 := Lib.hid (below_chain B_5.out (by have := B_5.out.size; have := HRr.out; omega) hb)
  have Xa_6 : Hid (Rb w6 r a) := Lib.hid (Xa_5.out.on hb)
  have Xb_6 : Hid (Rb w6 (r + 1) b) := Lib.hid (Xb_5.out.on hb)
  have Xc_6 : Hid (Rb w6 (r + 1 + 1) c) := Lib.hid (Xc_5.out.on hb)
  clear hb B_5 Xa_5 Xb_5 Xc_5
  have ka0 := Xa_6.out.c0
  have ka1 := Xa_6.out.c1
  have ka2 := Xa_6.out.c2
  have ka3 := Xa_6.out.c3
  have kb0 := Xb_6.out.c0
  have kb1 := Xb_6.out.c1
  have kb2 := Xb_6.out.c2
  have kb3 := Xb_6.out.c3
  go_wp2_with fail
  refine (sub_v Xa_6.out.sl Xb_6.out.sl Va.out Vb.out HB.out.1 HB.out.2.1 (by decide)).mono ?_
  clear ka0 ka1 ka2 ka3 kb0 kb1 kb2 kb3
  rintro e w7 ⟨td, rfl, hi, hv, hb⟩
  have B_7 := Lib.hid (below_chain B_6.out (by have := B_6.out.size; have := HRr.out; omega) hb)
  have Xa_7 : Hid (Rb w7 r a) := Lib.hid (Xa_6.out.on hb)
  have Xb_7 : Hid (Rb w7 (r + 1) b) := Lib.hid (Xb_6.out.on hb)
  have Xc_7 : Hid (Rb w7 (r + 1 + 1) c) := Lib.hid (Xc_6.out.on hb)
  have Id_7 : Hid (td.In w7) := Lib.hid (hi)
  clear hb B_6 Xa_6 Xb_6 Xc_6 hi
  have Vd := Lib.hid hv
  clear hv
  go_wp2_with fail
  generalize hW : World.alloc w7 _ = V8
  have hn := below_new w7 (.cells #[.bool td.g, .slice td.A td.n td.c, .bool td.gd, .slice td.Ad td.nd td.cd] 27)
  have hx := Rb.new Id_7.out
  rw [hW] at hn hx
  have B_8 := Lib.hid (below_chain B_7.out (by have := B_7.out.size; have := HRr.out; omega) hn)
  have Xa_8 : Hid (Rb V8 r a) := Lib.hid (Xa_7.out.on hn)
  have Xb_8 : Hid (Rb V8 (r + 1) b) := Lib.hid (Xb_7.out.on hn)
  have Xc_8 : Hid (Rb V8 (r + 1 + 1) c) := Lib.hid (Xc_7.out.on hn)
  have Id_8 : Hid (td.In V8) := Lib.hid (Id_7.out.on hn)
  have Xd_8 := Lib.hid hx
  clear hx hn hW B_7 Xa_7 Xb_7 Xc_7 Id_7 Id_8
  generalize w7.heap.size = b1 at *
  refine (sign_q Xd_8.out.sl Vd.out).mono ?_
  rintro e w9 ⟨rfl, hb⟩
  have B_9 := Lib.hid (below_chain B_8.out (by have := B_8.out.size; have := HRr.out; omega) hb)
  have Xa_9 : Hid (Rb w9 r a) := Lib.hid (Xa_8.out.on hb)
  have Xb_9 : Hid (Rb w9 (r + 1) b) := Lib.hid (Xb_8.out.on hb)
  have Xc_9 : Hid (Rb w9 (r + 1 + 1) c) := Lib.hid (Xc_8.out.on hb)
  have Xd_9 : Hid (Rb w9 b1 td) := Lib.hid (Xd_8.out.on hb)
  clear hb B_8 Xa_8 Xb_8 Xc_8 Xd_8
  rw [HC.out.2.2.2.2.1]
  clear Xd_9
  have ka0 := Xa_9.out.c0
  have ka1 := Xa_9.out.c1
  have ka2 := Xa_9.out.c2
  have ka3 := Xa_9.out.c3
  have kc0 := Xc_9.out.c0
  have kc1 := Xc_9.out.c1
  have kc2 := Xc_9.out.c2
  have kc3 := Xc_9.out.c3
  go_wp2_with fail
  refine (add_v Xa_9.out.sl Xc_9.out.sl Va.out Vc.out HB.out.1 HB.out.2.2 (by decide)).mono ?_
  clear ka0 ka1 ka2 ka3 kc0 kc1 kc2 kc3
  rintro e w10 ⟨tx, rfl, hi, hv, hb⟩
  have B_10 := Lib.hid (below_chain B_9.out (by have := B_9.out.size; have := HRr.out; omega) hb)
  have Xa_10 : Hid (Rb w10 r a) := Lib.hid (Xa_9.out.on hb)
  have Xb_10 : Hid (Rb w10 (r + 1) b) := Lib.hid (Xb_9.out.on hb)
  have Xc_10 : Hid (Rb w10 (r + 1 + 1) c) := Lib.hid (Xc_9.out.on hb)
  have Ix_10 : Hid (tx.In w10) := Lib.hid (hi)
  clear hb B_9 Xa_9 Xb_9 Xc_9 hi
  have Vx := Lib.hid hv
  clear hv
  have kb0 := (Xb_10.out.on (below_new w10 (.cells #[.bool tx.g, .slice tx.A tx.n tx.c, .bool tx.gd, .slice tx.Ad tx.nd tx.cd] 27))).c0
  have kb1 := (Xb_10.out.on (below_new w10 (.cells #[.bool tx.g, .slice tx.A tx.n tx.c, .bool tx.gd, .slice tx.Ad tx.nd tx.cd] 27))).c1
  have kb2 := (Xb_10.out.on (below_new w10 (.cells #[.bool tx.g, .slice tx.A tx.n tx.c, .bool tx.gd, .slice tx.Ad tx.nd tx.cd] 27))).c2
  have kb3 := (Xb_10.out.on (below_new w10 (.cells #[.bool tx.g, .slice tx.A tx.n tx.c, .bool tx.gd, .slice tx.Ad tx.nd tx.cd] 27))).c3
  have kc0 := (Xc_10.out.on (below_new w10 (.cells #[.bool tx.g, .slice tx.A tx.n tx.c, .bool tx.gd, .slice tx.Ad tx.nd tx.cd] 27))).c0
  have kc1 := (Xc_10.out.on (below_new w10 (.cells #[.bool tx.g, .slice tx.A tx.n tx.c, .bool tx.gd, .slice tx.Ad tx.nd tx.cd] 27))).c1
  have kc2 := (Xc_10.out.on (below_new w10 (.cells #[.bool tx.g, .slice tx.A tx.n tx.c, .bool tx.gd, .slice tx.Ad tx.nd tx.cd] 27))).c2
  have kc3 := (Xc_10.out.on (below_new w10 (.cells #[.bool tx.g, .slice tx.A tx.n tx.c, .bool tx.gd, .slice tx.Ad tx.nd tx.cd] 27))).c3
  go_wp2_with fail
  generalize hW : World.alloc w10 _ = V11
  have hn := below_new w10 (.cells #[.bool tx.g, .slice tx.A tx.n tx.c, .bool tx.gd, .slice tx.Ad tx.nd tx.cd] 27)
  have hx := Rb.new Ix_10.out
  rw [hW] at hn hx
  have B_11 := Lib.hid (below_chain B_10.out (by have := B_10.out.size; have := HRr.out; omega) hn)
  have Xa_11 : Hid (Rb V11 r a) := Lib.hid (Xa_10.out.on hn)
  have Xb_11 : Hid (Rb V11 (r + 1) b) := Lib.hid (Xb_10.out.on hn)
  have Xc_11 : Hid (Rb V11 (r + 1 + 1) c) := Lib.hid (Xc_10.out.on hn)
  have Ix_11 : Hid (tx.In V11) := Lib.hid (Ix_10.out.on hn)
  have Xx_11 := Lib.hid hx
  clear hx hn hW B_10 Xa_10 Xb_10 Xc_10 Ix_10 Ix_11
  generalize w10.heap.size = b2 at *
  refine (add_v Xb_11.out.sl Xc_11.out.sl Vb.out Vc.out HB.out.2.1 HB.out.2.2 (by decide)).mono ?_
  clear kb0 kb1 kb2 kb3 kc0 kc1 kc2 kc3
  rintro e w12 ⟨ty, rfl, hi, hv, hb⟩
  have B_12 := Lib.hid (below_chain B_11.out (by have := B_11.out.size; have := HRr.out; omega) hb)
  have Xa_12 : Hid (Rb w12 r a) := Lib.hid (Xa_11.out.on hb)
  have Xb_12 : Hid (Rb w12 (r + 1) b) := Lib.hid (Xb_11.out.on hb)
  have Xc_12 : Hid (Rb w12 (r + 1 + 1) c) := Lib.hid (Xc_11.out.on hb)
  have Xx_12 : Hid (Rb w12 b2 tx) := Lib.hid (Xx_11.out.on hb)
  have Iy_12 : Hid (ty.In w12) := Lib.hid (hi)
  clear hb B_11 Xa_11 Xb_11 Xc_11 Xx_11 hi
  have Vy := Lib.hid hv
  clear hv
  have kx0 := (Xx_12.out.on (below_new w12 (.cells #[.bool ty.g, .slice ty.A ty.n ty.c, .bool ty.gd, .slice ty.Ad ty.nd ty.cd] 27))).c0
  have kx1 := (Xx_12.out.on (below_new w12 (.cells #[.bool ty.g, .slice ty.A ty.n ty.c, .bool ty.gd, .slice ty.Ad ty.nd ty.cd] 27))).c1
  have kx2 := (Xx_12.out.on (below_new w12 (.cells #[.bool ty.g, .slice ty.A ty.n ty.c, .bool ty.gd, .slice ty.Ad ty.nd ty.cd] 27))).c2
  have kx3 := (Xx_12.out.on (below_new w12 (.cells #[.bool ty.g, .slice ty.A ty.n ty.c, .bool ty.gd, .slice ty.Ad ty.nd ty.cd] 27))).c3
  go_wp2_with fail
  generalize hW : World.alloc w12 _ = V13
  have hn := below_new w12 (.cells #[.bool ty.g, .slice ty.A ty.n ty.c, .bool ty.gd, .slice ty.Ad ty.nd ty.cd] 27)
  have hx := Rb.new Iy_12.out
  rw [hW] at hn hx
  have B_13 := Lib.hid (below_chain B_12.out (by have := B_12.out.size; have := HRr.out; omega) hn)
  have Xa_13 : Hid (Rb V13 r a) := Lib.hid (Xa_12.out.on hn)
  have Xb_13 : Hid (Rb V13 (r + 1) b) := Lib.hid (Xb_12.out.on hn)
  have Xc_13 : Hid (Rb V13 (r + 1 + 1) c) := Lib.hid (Xc_12.out.on hn)
  have Xx_13 : Hid (Rb V13 b2 tx) := Lib.hid (Xx_12.out.on hn)
  have Iy_13 : Hid (ty.In V13) := Lib.hid (Iy_12.out.on hn)
  have Xy_13 := Lib.hid hx
  clear hx hn hW B_12 Xa_12 Xb_12 Xc_12 Xx_12 Iy_12 Iy_13
  generalize w12.heap.size = b3 at *
  refine (cmp_q Xx_13.out.sl Xy_13.out.sl Vx.out Vy.out 0 HC.out.2.2.2.2.2).mono ?_
  clear kx0 kx1 kx2 kx3
  rintro e w14 ⟨rfl, hb⟩
  have B_14 := Lib.hid (below_chain B_13.out (by have := B_13.out.size; have := HRr.out; omega) hb)
  have Xa_14 : Hid (Rb w14 r a) := Lib.hid (Xa_13.out.on hb)
  have Xb_14 : Hid (Rb w14 (r + 1) b) := Lib.hid (Xb_13.out.on hb)
  have Xc_14 : Hid (Rb w14 (r + 1 + 1) c) := Lib.hid (Xc_13.out.on hb)
  have Xx_14 : Hid (Rb w14 b2 tx) := Lib.hid (Xx_13.out.on hb)
  have Xy_14 : Hid (Rb w14 b3 ty) := Lib.hid (Xy_13.out.on hb)
  clear hb B_13 Xa_13 Xb_13 Xc_13 Xx_13 Xy_13
  go_wp2
  go_ret
  exact ⟨rfl, by rw [HRr.out]; exact B_14.out⟩

set_option maxRecDepth 20000 in
set_option maxHeartbeats 4000000 in
theorem ord_eqgt (a b c : RVal) (w : World) (h1 : a.In w) (h2 : b.In w) (h3 : c.In w) (x y z : Rat) (hx : rv a.o a.od = some x) (hy : rv b.o b.od = some y) (hz : rv c.o c.od = some z) (hB : Bd 1024 x ∧ Bd 1024 y ∧ Bd 1024 z) (hv : vok a b c 32 = true) (hc : Int.sign (x.num * y.den - y.num * x.den) = 0 ∧ Int.sign (y.num * x.den - x.num * y.den) = 0 ∧ Int.sign (y.num * z.den - z.num * y.den) = 1 ∧ Int.sign (x.num * z.den - z.num * x.den) = 1 ∧ (x - y).num.sign = 0 ∧ Int.sign ((x + z).num * (y + z).den - (y + z).num * (x + z).den) = 0) :
    Calls Tryz.prog 10 #[.agg #[.bool a.g, .slice a.A a.n a.c, .bool a.gd, .slice a.Ad a.nd a.cd], .agg #[.bool b.g, .slice b.A b.n b.c, .bool b.gd, .slice b.Ad b.nd b.cd], .agg #[.bool c.g, .slice c.A c.n c.c, .bool c.gd, .slice c.Ad c.nd c.cd]] w fun e w' => e = .returned (.bool true) ∧ Below w.heap.size w w' := by
  have Va := Lib.hid hx
  have Vb := Lib.hid hy
  have Vc := Lib.hid hz
  have HB := Lib.hid hB
  have HV := Lib.hid hv
  have HC := Lib.hid hc
  have HS := Lib.hid (And.intro h1 (And.intro h2 h3))
  clear h1 h2 h3 hx hy hz hB hv hc
  go_enter Tryz.func10, Tryz.ntmps10
  go_wp2_with fail
  generalize hW : World.alloc (World.alloc (World.alloc w _) _) _ = V
  obtain ⟨hb, ra, rb, rc⟩ := three_rats a b c w V HS.out.1 HS.out.2.1 HS.out.2.2 hW
  have B_0 : Hid (Below w.heap.size w V) := Lib.hid (hb)
  have Xa_0 := Lib.hid ra
  have Xb_0 := Lib.hid rb
  have Xc_0 := Lib.hid rc
  clear hb ra rb rc hW
  generalize hr : w.heap.size = r at *
  have HRr := Lib.hid hr
  clear hr
  refine (sane V).mono ?_
  rintro e w1 ⟨rfl, hb⟩
  have B_1 := Lib.hid (below_chain B_0.out (by have := B_0.out.size; have := HRr.out; omega) hb)
  have Xa_1 : Hid (Rb w1 r a) := Lib.hid (Xa_0.out.on hb)
  have Xb_1 : Hid (Rb w1 (r + 1) b) := Lib.hid (Xb_0.out.on hb)
  have Xc_1 : Hid (Rb w1 (r + 1 + 1) c) := Lib.hid (Xc_0.out.on hb)
  clear hb B_0 Xa_0 Xb_0 Xc_0
  have ka0 := Xa_1.out.c0
  have ka1 := Xa_1.out.c1
  have ka2 := Xa_1.out.c2
  have ka3 := Xa_1.out.c3
  have kb0 := Xb_1.out.c0
  have kb1 := Xb_1.out.c1
  have kb2 := Xb_1.out.c2
  have kb3 := Xb_1.out.c3
  have kc0 := Xc_1.out.c0
  have kc1 := Xc_1.out.c1
  have kc2 := Xc_1.out.c2
  have kc3 := Xc_1.out.c3
  go_wp2_with fail
  have C := val_any a b c 32 w1 Xa_1.out.sl Xb_1.out.sl Xc_1.out.sl
  rw [HV.out] at C
  refine C.mono ?_
  clear C
  clear ka0 ka1 ka2 ka3 kb0 kb1 kb2 kb3 kc0 kc1 kc2 kc3
  rintro e w2 ⟨rfl, hb⟩
  have B_2 := Lib.hid (below_chain B_1.out (by have := B_1.out.size; have := HRr.out; omega) hb)
  have Xa_2 : Hid (Rb w2 r a) := Lib.hid (Xa_1.out.on hb)
  have Xb_2 : Hid (Rb w2 (r + 1) b) := Lib.hid (Xb_1.out.on hb)
  have Xc_2 : Hid (Rb w2 (r + 1 + 1) c) := Lib.hid (Xc_1.out.on hb)
  clear hb B_1 Xa_1 Xb_1 Xc_1
  have ka0 := Xa_2.out.c0
  have ka1 := Xa_2.out.c1
  have ka2 := Xa_2.out.c2
  have ka3 := Xa_2.out.c3
  have kb0 := Xb_2.out.c0
  have kb1 := Xb_2.out.c1
  have kb2 := Xb_2.out.c2
  have kb3 := Xb_2.out.c3
  go_wp2_with fail
  refine (cmp_q Xa_2.out.sl Xb_2.out.sl Va.out Vb.out 0 HC.out.1).mono ?_
  clear ka0 ka1 ka2 ka3 kb0 kb1 kb2 kb3
  rintro e w3 ⟨rfl, hb⟩
  have B_3 := Lib.hid (below_chain B_2.out (by have := B_2.out.size; have := HRr.out; omega) hb)
  have Xa_3 : Hid (Rb w3 r a) := Lib.hid (Xa_2.out.on hb)
  have Xb_3 : Hid (Rb w3 (r + 1) b) := Lib.hid (Xb_2.out.on hb)
  have Xc_3 : Hid (Rb w3 (r + 1 + 1) c) := Lib.hid (Xc_2.out.on hb)
  clear hb B_2 Xa_2 Xb_2 Xc_2
  have kb0 := Xb_3.out.c0
  have kb1 := Xb_3.out.c1
  have kb2 := Xb_3.out.c2
  have kb3 := Xb_3.out.c3
  have ka0 := Xa_3.out.c0
  have ka1 := Xa_3.out.c1
  have ka2 := Xa_3.out.c2
  have ka3 := Xa_3.out.c3
  go_wp2_with fail
  refine (cmp_q Xb_3.out.sl Xa_3.out.sl Vb.out Va.out 0 HC.out.2.1).mono ?_
  clear kb0 kb1 kb2 kb3 ka0 ka1 ka2 ka3
  rintro e w4 ⟨rfl, hb⟩
  have B_4 := Lib.hid (below_chain B_3.out (by have := B_3.out.size; have := HRr.out; omega) hb)
  have Xa_4 : Hid (Rb w4 r a) := Lib.hid (Xa_3.out.on hb)
  have Xb_4 : Hid (Rb w4 (r + 1) b) := Lib.hid (Xb_3.out.on hb)
  have Xc_4 : Hid (Rb w4 (r + 1 + 1) c) := Lib.hid (Xc_3.out.on hb)
  clear hb B_3 Xa_3 Xb_3 Xc_3
  have kb0 := Xb_4.out.c0
  have kb1 := Xb_4.out.c1
  have kb2 := Xb_4.out.c2
  have kb3 := Xb_4.out.c3
  have kc0 := Xc_4.out.c0
  have kc1 := Xc_4.out.c1
  have kc2 := Xc_4.out.c2
  have kc3 := Xc_4.out.c3
  go_wp2_with fail
  refine (cmp_q Xb_4.out.sl Xc_4.out.sl Vb.out Vc.out 1 HC.out.2.2.1).mono ?_
  clear kb0 kb1 kb2 kb3 kc0 kc1 kc2 kc3
  rintro e w5 ⟨rfl, hb⟩
  have B_5 := Lib.hid (below_chain B_4.out (by have := B_4.out.size; have := HRr.out; omega) hb)
  have Xa_5 : Hid (Rb w5 r a) := Lib.hid (Xa_4.out.on hb)
  have Xb_5 : Hid (Rb w5 (r + 1) b) := Lib.hid (Xb_4.out.on hb)
  have Xc_5 : Hid (Rb w5 (r + 1 + 1) c) := Lib.hid (Xc_4.out.on hb)
  clear hb B_4 Xa_4 Xb_4 Xc_4
  have ka0 := Xa_5.out.c0
  have ka1 := Xa_5.out.c1
  have ka2 := Xa_5.out.c2
  have ka3 := Xa_5.out.c3
  have kc0 := Xc_5.out.c0
  have kc1 := Xc_5.out.c1
  have kc2 := Xc_5.out.c2
  have kc3 := Xc_5.out.c3
  go_wp2_with fail
  refine (cmp_q Xa_5.out.sl Xc_5.out.sl Va.out Vc.out 1 HC.out.2.2.2.1).mono ?_
  clear ka0 ka1 ka2 ka3 kc0 kc1 kc2 kc3
  rintro e w6 ⟨rfl, hb⟩
  have B_6 := Lib.hid (below_chain B_5.out (by have := B_5.out.size; have := HRr.out; omega) hb)
  have Xa_6 : Hid (Rb w6 r a) := Lib.hid (Xa_5.out.on hb)
  have Xb_6 : Hid (Rb w6 (r + 1) b) := Lib.hid (Xb_5.out.on hb)
  have Xc_6 : Hid (Rb w6 (r + 1 + 1) c) := Lib.hid (Xc_5.out.on hb)
  clear hb B_5 Xa_5 Xb_5 Xc_5
  have ka0 := Xa_6.out.c0
  have ka1 := Xa_6.out.c1
  have ka2 := Xa_6.out.c2
  have ka3 := Xa_6.out.c3
  have kb0 := Xb_6.out.c0
  have kb1 := Xb_6.out.c1
  have kb2 := Xb_6.out.c2
  have kb3 := Xb_6.out.c3
  go_wp2_with fail
  refine (sub_v Xa_6.out.sl Xb_6.out.sl Va.out Vb.out HB.out.1 HB.out.2.1 (by decide)).mono ?_
  clear ka0 ka1 ka2 ka3 kb0 kb1 kb2 kb3
  rintro e w7 ⟨td, rfl, hi, hv, hb⟩
  have B_7 := Lib.hid (below_chain B_6.out (by have := B_6.out.size; have := HRr.out; omega) hb)
  have Xa_7 : Hid (Rb w7 r a) := Lib.hid (Xa_6.out.on hb)
  have Xb_7 : Hid (Rb w7 (r + 1) b) := Lib.hid (Xb_6.out.on hb)
  have Xc_7 : Hid (Rb w7 (r + 1 + 1) c) := Lib.hid (Xc_6.out.on hb)
  have Id_7 : Hid (td.In w7) := Lib.hid (hi)
  clear hb B_6 Xa_6 Xb_6 Xc_6 hi
  have Vd := Lib.hid hv
  clear hv
  go_wp2_with fail
  generalize hW : World.alloc w7 _ = V8
  have hn := below_new w7 (.cells #[.bool td.g, .slice td.A td.n td.c, .bool td.gd, .slice td.Ad td.nd td.cd] 27)
  have hx := Rb.new Id_7.out
  rw [hW] at hn hx
  have B_8 := Lib.hid (below_chain B_7.out (by have := B_7.out.size; have := HRr.out; omega) hn)
  have Xa_8 : Hid (Rb V8 r a) := Lib.hid (Xa_7.out.on hn)
  have Xb_8 : Hid (Rb V8 (r + 1) b) := Lib.hid (Xb_7.out.on hn)
  have Xc_8 : Hid (Rb V8 (r + 1 + 1) c) := Lib.hid (Xc_7.out.on hn)
  have Id_8 : Hid (td.In V8) := Lib.hid (Id_7.out.on hn)
  have Xd_8 := Lib.hid hx
  clear hx hn hW B_7 Xa_7 Xb_7 Xc_7 Id_7 Id_8
  generalize w7.heap.size = b1 at *
  refine (sign_q Xd_8.out.sl Vd.out).mono ?_
  rintro e w9 ⟨rfl, hb⟩
  have B_9 := Lib.hid (below_chain B_8.out (by have := B_8.out.size; have := HRr.out; omega) hb)
  have Xa_9 : Hid (Rb w9 r a) := Lib.hid (Xa_8.out.on hb)
  have Xb_9 : Hid (Rb w9 (r + 1) b) := Lib.hid (Xb_8.out.on hb)
  have Xc_9 : Hid (Rb w9 (r + 1 + 1) c) := Lib.hid (Xc_8.out.on hb)
  have Xd_9 : Hid (Rb w9 b1 td) := Lib.hid (Xd_8.out.on hb)
  clear hb B_8 Xa_8 Xb_8 Xc_8 Xd_8
  rw [HC.out.2.2.2.2.1]
  clear Xd_9
  have ka0 := Xa_9.out.c0
  have ka1 := Xa_9.out.c1
  have ka2 := Xa_9.out.c2
  have ka3 := Xa_9.out.c3
  have kc0 := Xc_9.out.c0
  have kc1 := Xc_9.out.c1
  have kc2 := Xc_9.out.c2
  have kc3 := Xc_9.out.c3
  go_wp2_with fail
  refine (add_v Xa_9.out.sl Xc_9.out.sl Va.out Vc.out HB.out.1 HB.out.2.2 (by decide)).mono ?_
  clear ka0 ka1 ka2 ka3 kc0 kc1 kc2 kc3
  rintro e w10 ⟨tx, rfl, hi, hv, hb⟩
  have B_10 := Lib.hid (below_chain B_9.out (by have := B_9.out.size; have := HRr.out; omega) hb)
  have Xa_10 : Hid (Rb w10 r a) := Lib.hid (Xa_9.out.on hb)
  have Xb_10 : Hid (Rb w10 (r + 1) b) := Lib.hid (Xb_9.out.on hb)
  have Xc_10 : Hid (Rb w10 (r + 1 + 1) c) := Lib.hid (Xc_9.out.on hb)
  have Ix_10 : Hid (tx.In w10) := Lib.hid (hi)
  clear hb B_9 Xa_9 Xb_9 Xc_9 hi
  have Vx := Lib.hid hv
  clear hv
  have kb0 := (Xb_10.out.on (below_new w10 (.cells #[.bool tx.g, .slice tx.A tx.n tx.c, .bool tx.gd, .slice tx.Ad tx.nd tx.cd] 27))).c0
  have kb1 := (Xb_10.out.on (below_new w10 (.cells #[.bool tx.g, .slice tx.A tx.n tx.c, .bool tx.gd, .slice tx.Ad tx.nd tx.cd] 27))).c1
  have kb2 := (Xb_10.out.on (below_new w10 (.cells #[.bool tx.g, .slice tx.A tx.n tx.c, .bool tx.gd, .slice tx.Ad tx.nd tx.cd] 27))).c2
  have kb3 := (Xb_10.out.on (below_new w10 (.cells #[.bool tx.g, .slice tx.A tx.n tx.c, .bool tx.gd, .slice tx.Ad tx.nd tx.cd] 27))).c3
  have kc0 := (Xc_10.out.on (below_new w10 (.cells #[.bool tx.g, .slice tx.A tx.n tx.c, .bool tx.gd, .slice tx.Ad tx.nd tx.cd] 27))).c0
  have kc1 := (Xc_10.out.on (below_new w10 (.cells #[.bool tx.g, .slice tx.A tx.n tx.c, .bool tx.gd, .slice tx.Ad tx.nd tx.cd] 27))).c1
  have kc2 := (Xc_10.out.on (below_new w10 (.cells #[.bool tx.g, .slice tx.A tx.n tx.c, .bool tx.gd, .slice tx.Ad tx.nd tx.cd] 27))).c2
  have kc3 := (Xc_10.out.on (below_new w10 (.cells #[.bool tx.g, .slice tx.A tx.n tx.c, .bool tx.gd, .slice tx.Ad tx.nd tx.cd] 27))).c3
  go_wp2_with fail
  generalize hW : World.alloc w10 _ = V11
  have hn := below_new w10 (.cells #[.bool tx.g, .slice tx.A tx.n tx.c, .bool tx.gd, .slice tx.Ad tx.nd tx.cd] 27)
  have hx := Rb.new Ix_10.out
  rw [hW] at hn hx
  have B_11 := Lib.hid (below_chain B_10.out (by have := B_10.out.size; have := HRr.out; omega) hn)
  have Xa_11 : Hid (Rb V11 r a) := Lib.hid (Xa_10.out.on hn)
  have Xb_11 : Hid (Rb V11 (r + 1) b) := Lib.hid (Xb_10.out.on hn)
  have Xc_11 : Hid (Rb V11 (r + 1 + 1) c) := Lib.hid (Xc_10.out.on hn)
  have Ix_11 : Hid (tx.In V11) := Lib.hid (Ix_10.out.on hn)
  have Xx_11 := Lib.hid hx
  clear hx hn hW B_10 Xa_10 Xb_10 Xc_10 Ix_10 Ix_11
  generalize w10.heap.size = b2 at *
  refine (add_v Xb_11.out.sl Xc_11.out.sl Vb.out Vc.out HB.out.2.1 HB.out.2.2 (by decide)).mono ?_
  clear kb0 kb1 kb2 kb3 kc0 kc1 kc2 kc3
  rintro e w12 ⟨ty, rfl, hi, hv, hb⟩
  have B_12 := Lib.hid (below_chain B_11.out (by have := B_11.out.size; have := HRr.out; omega) hb)
  have Xa_12 : Hid (Rb w12 r a) := Lib.hid (Xa_11.out.on hb)
  have Xb_12 : Hid (Rb w12 (r + 1) b) := Lib.hid (Xb_11.out.on hb)
  have Xc_12 : Hid (Rb w12 (r + 1 + 1) c) := Lib.hid (Xc_11.out.on hb)
  have Xx_12 : Hid (Rb w12 b2 tx) := Lib.hid (Xx_11.out.on hb)
  have Iy_12 : Hid (ty.In w12) := Lib.hid (hi)
  clear hb B_11 Xa_11 Xb_11 Xc_11 Xx_11 hi
  have Vy := Lib.hid hv
  clear hv
  have kx0 := (Xx_12.out.on (below_new w12 (.cells #[.bool ty.g, .slice ty.A ty.n ty.c, .bool ty.gd, .slice ty.Ad ty.nd ty.cd] 27))).c0
  have kx1 := (Xx_12.out.on (below_new w12 (.cells #[.bool ty.g, .slice ty.A ty.n ty.c, .bool ty.gd, .slice ty.Ad ty.nd ty.cd] 27))).c1
  have kx2 := (Xx_12.out.on (below_new w12 (.cells #[.bool ty.g, .slice ty.A ty.n ty.c, .bool ty.gd, .slice ty.Ad ty.nd ty.cd] 27))).c2
  have kx3 := (Xx_12.out.on (below_new w12 (.cells #[.bool ty.g, .slice ty.A ty.n ty.c, .bool ty.gd, .slice ty.Ad ty.nd ty.cd] 27))).c3
  go_wp2_with fail
  generalize hW : World.alloc w12 _ = V13
  have hn := below_new w12 (.cells #[.bool ty.g, .slice ty.A ty.n ty.c, .bool ty.gd, .slice ty.Ad ty.nd ty.cd] 27)
  have hx := Rb.new Iy_12.out
  rw [hW] at hn hx
  have B_13 := Lib.hid (below_chain B_12.out (by have := B_12.out.size; have := HRr.out; omega) hn)
  have Xa_13 : Hid (Rb V13 r a) := Lib.hid (Xa_12.out.on hn)
  have Xb_13 : Hid (Rb V13 (r + 1) b) := Lib.hid (Xb_12.out.on hn)
  have Xc_13 : Hid (Rb V13 (r + 1 + 1) c) := Lib.hid (Xc_12.out.on hn)
  have Xx_13 : Hid (Rb V13 b2 tx) := Lib.hid (Xx_12.out.on hn)
  have Iy_13 : Hid (ty.In V13) := Lib.hid (Iy_12.out.on hn)
  have Xy_13 := Lib.hid hx
  clear hx hn hW B_12 Xa_12 Xb_12 Xc_12 Xx_12 Iy_12 Iy_13
  generalize w12.heap.size = b3 at *
  refine (cmp_q Xx_13.out.sl Xy_13.out.sl Vx.out Vy.out 0 HC.out.2.2.2.2.2).mono ?_
  clear kx0 kx1 kx2 kx3
  rintro e w14 ⟨rfl, hb⟩
  have B_14 := Lib.hid (below_chain B_13.out (by have := B_13.out.size; have := HRr.out; omega) hb)
  have Xa_14 : Hid (Rb w14 r a) := Lib.hid (Xa_13.out.on hb)
  have Xb_14 : Hid (Rb w14 (r + 1) b) := Lib.hid (Xb_13.out.on hb)
  have Xc_14 : Hid (Rb w14 (r + 1 + 1) c) := Lib.hid (Xc_13.out.on hb)
  have Xx_14 : Hid (Rb w14 b2 tx) := Lib.hid (Xx_13.out.on hb)
  have Xy_14 : Hid (Rb w14 b3 ty) := Lib.hid (Xy_13.out.on hb)
  clear hb B_13 Xa_13 Xb_13 Xc_13 Xx_13 Xy_13
  go_wp2
  go_ret
  exact ⟨rfl, by rw [HRr.out]; exact B_14.out⟩

set_option maxRecDepth 20000 in
set_option maxHeartbeats 4000000 in
theorem ord_gtlt (a b c : RVal) (w : World) (h1 : a.In w) (h2 : b.In w) (h3 : c.In w) (x y z : Rat) (hx : rv a.o a.od = some x) (hy : rv b.o b.od = some y) (hz : rv c.o c.od = some z) (hB : Bd 1024 x ∧ Bd 1024 y ∧ Bd 1024 z) (hv : vok a b c 32 = true) (v : Int) (hc : Int.sign (x.num * y.den - y.num * x.den) = 1 ∧ Int.sign (y.num * x.den - x.num * y.den) = (-1) ∧ Int.sign (y.num * z.den - z.num * y.den) = (-1) ∧ Int.sign (x.num * z.den - z.num * x.den) = v ∧ (x - y).num.sign = 1 ∧ Int.sign ((x + z).num * (y + z).den - (y + z).num * (x + z).den) = 1) :
    Calls Tryz.prog 10 #[.agg #[.bool a.g, .slice a.A a.n a.c, .bool a.gd, .slice a.Ad a.nd a.cd], .agg #[.bool b.g, .slice b.A b.n b.c, .bool b.gd, .slice b.Ad b.nd b.cd], .agg #[.bool c.g, .slice c.A c.n c.c, .bool c.gd, .slice c.Ad c.nd c.cd]] w fun e w' => e = .returned (.bool true) ∧ Below w.heap.size w w' := by
  have Va := Lib.hid hx
  have Vb := Lib.hid hy
  have Vc := Lib.hid hz
  have HB := Lib.hid hB
  have HV := Lib.hid hv
  have HC := Lib.hid hc
  have HS := Lib.hid (And.intro h1 (And.intro h2 h3))
  clear h1 h2 h3 hx hy hz hB hv hc
  go_enter Tryz.func10, Tryz.ntmps10
  go_wp2_with fail
  generalize hW : World.alloc (World.alloc (World.alloc w _) _) _ = V
  obtain ⟨hb, ra, rb, rc⟩ := three_rats a b c w V HS.out.1 HS.out.2.1 HS.out.2.2 hW
  have B_0 : Hid (Below w.heap.size w V) := Lib.hid (hb)
  have Xa_0 := Lib.hid ra
  have Xb_0 := Lib.hid rb
  have Xc_0 := Lib.hid rc
  clear hb ra rb rc hW
  generalize hr : w.heap.size = r at *
  have HRr := Lib.hid hr
  clear hr
  refine (sane V).mono ?_
  rintro e w1 ⟨rfl, hb⟩
  have B_1 := Lib.hid (below_chain B_0.out (by have := B_0.out.size; have := HRr.out; omega) hb)
  have Xa_1 : Hid (Rb w1 r a) := Lib.hid (Xa_0.out.on hb)
  have Xb_1 : Hid (Rb w1 (r + 1) b) := Lib.hid (Xb_0.out.on hb)
  have Xc_1 : Hid (Rb w1 (r + 1 + 1) c) := Lib.hid (Xc_0.out.on hb)
  clear hb B_0 Xa_0 Xb_0 Xc_0
  have ka0 := Xa_1.out.c0
  have ka1 := Xa_1.out.c1
  have ka2 := Xa_1.out.c2
  have ka3 := Xa_1.out.c3
  have kb0 := Xb_1.out.c0
  have kb1 := Xb_1.out.c1
  have kb2 := Xb_1.out.c2
  have kb3 := Xb_1.out.c3
  have kc0 := Xc_1.out.c0
  have kc1 := Xc_1.out.c1
  have kc2 := Xc_1.out.c2
  have kc3 := Xc_1.out.c3
  go_wp2_with fail
  have C := val_any a b c 32 w1 Xa_1.out.sl Xb_1.out.sl Xc_1.out.sl
  rw [HV.out] at C
  refine C.mono ?_
  clear C
  clear ka0 ka1 ka2 ka3 kb0 kb1 kb2 kb3 kc0 kc1 kc2 kc3
  rintro e w2 ⟨rfl, hb⟩
  have B_2 := Lib.hid (below_chain B_1.out (by have := B_1.out.size; have := HRr.out; omega) hb)
  have Xa_2 : Hid (Rb w2 r a) := Lib.hid (Xa_1.out.on hb)
  have Xb_2 : Hid (Rb w2 (r + 1) b) := Lib.hid (Xb_1.out.on hb)
  have Xc_2 : Hid (Rb w2 (r + 1 + 1) c) := Lib.hid (Xc_1.out.on hb)
  clear hb B_1 Xa_1 Xb_1 Xc_1
  have ka0 := Xa_2.out.c0
  have ka1 := Xa_2.out.c1
  have ka2 := Xa_2.out.c2
  have ka3 := Xa_2.out.c3
  have kb0 := Xb_2.out.c0
  have kb1 := Xb_2.out.c1
  have kb2 := Xb_2.out.c2
  have kb3 := Xb_2.out.c3
  go_wp2_with fail
  refine (cmp_q Xa_2.out.sl Xb_2.out.sl Va.out Vb.out 1 HC.out.1).mono ?_
  clear ka0 ka1 ka2 ka3 kb0 kb1 kb2 kb3
  rintro e w3 ⟨rfl, hb⟩
  have B_3 := Lib.hid (below_chain B_2.out (by have := B_2.out.size; have := HRr.out; omega) hb)
  have Xa_3 : Hid (Rb w3 r a) := Lib.hid (Xa_2.out.on hb)
  have Xb_3 : Hid (Rb w3 (r + 1) b) := Lib.hid (Xb_2.out.on hb)
  have Xc_3 : Hid (Rb w3 (r + 1 + 1) c) := Lib.hid (Xc_2.out.on hb)
  clear hb B_2 Xa_2 Xb_2 Xc_2
  have kb0 := Xb_3.out.c0
  have kb1 := Xb_3.out.c1
  have kb2 := Xb_3.out.c2
  have kb3 := Xb_3.out.c3
  have ka0 := Xa_3.out.c0
  have ka1 := Xa_3.out.c1
  have ka2 := Xa_3.out.c2
  have ka3 := Xa_3.out.c3
  go_wp2_with fail
  refine (cmp_q Xb_3.out.sl Xa_3.out.sl Vb.out Va.out (-1) HC.out.2.1).mono ?_
  clear kb0 kb1 kb2 kb3 ka0 ka1 ka2 ka3
  rintro e w4 ⟨rfl, hb⟩
  have B_4 := Lib.hid (below_chain B_3.out (by have := B_3.out.size; have := HRr.out; omega) hb)
  have Xa_4 : Hid (Rb w4 r a) := Lib.hid (Xa_3.out.on hb)
  have Xb_4 : Hid (Rb w4 (r + 1) b) := Lib.hid (Xb_3.out.on hb)
  have Xc_4 : Hid (Rb w4 (r + 1 + 1) c) := Lib.hid (Xc_3.out.on hb)
  clear hb B_3 Xa_3 Xb_3 Xc_3
  have kb0 := Xb_4.out.c0
  have kb1 := Xb_4.out.c1
  have kb2 := Xb_4.out.c2
  have kb3 := Xb_4.out.c3
  have kc0 := Xc_4.out.c0
  have kc1 := Xc_4.out.c1
  have kc2 := Xc_4.out.c2
  have kc3 := Xc_4.out.c3
  go_wp2_with fail
  refine (cmp_q Xb_4.out.sl Xc_4.out.sl Vb.out Vc.out (-1) HC.out.2.2.1).mono ?_
  clear kb0 kb1 kb2 kb3 kc0 kc1 kc2 kc3
  rintro e w5 ⟨rfl, hb⟩
  have B_5 := Lib.hid (below_chain B_4.out (by have := B_4.out.size; have := HRr.out; omega) hb)
  have Xa_5 : Hid (Rb w5 r a) := Lib.hid (Xa_4.out.on hb)
  have Xb_5 : Hid (Rb w5 (r + 1) b) := Lib.hid (Xb_4.out.on hb)
  have Xc_5 : Hid (Rb w5 (r + 1 + 1) c) := Lib.hid (Xc_4.out.on hb)
  clear hb B_4 Xa_4 Xb_4 Xc_4
  have ka0 := Xa_5.out.c0
  have ka1 := Xa_5.out.c1
  have ka2 := Xa_5.out.c2
  have ka3 := Xa_5.out.c3
  have kc0 := Xc_5.out.c0
  have kc1 := Xc_5.out.c1
  have kc2 := Xc_5.out.c2
  have kc3 := Xc_5.out.c3
  go_wp2_with fail
  refine (cmp_q Xa_5.out.sl Xc_5.out.sl Va.out Vc.out v HC.out.2.2.2.1).mono ?_
  clear ka0 ka1 ka2 ka3 kc0 kc1 kc2 kc3
  rintro e w6 ⟨rfl, hb⟩
  have B_6 := Lib.hid (below_chain B_5.out (by have := B_5.out.size; have := HRr.out; omega) hb)
  have Xa_6 : Hid (Rb w6 r a) := Lib.hid (Xa_5.out.on hb)
  have Xb_6 : Hid (Rb w6 (r + 1) b) := Lib.hid (Xb_5.out.on hb)
  have Xc_6 : Hid (Rb w6 (r + 1 + 1) c) := Lib.hid (Xc_5.out.on hb)
  clear hb B_5 Xa_5 Xb_5 Xc_5
  have ka0 := Xa_6.out.c0
  have ka1 := Xa_6.out.c1
  have ka2 := Xa_6.out.c2
  have ka3 := Xa_6.out.c3
  have kb0 := Xb_6.out.c0
  have kb1 := Xb_6.out.c1
  have kb2 := Xb_6.out.c2
  have kb3 := Xb_6.out.c3
  go_wp2_with fail
  refine (sub_v Xa_6.out.sl Xb_6.out.sl Va.out Vb.out HB.out.1 HB.out.2.1 (by decide)).mono ?_
  clear ka0 ka1 ka2 ka3 kb0 kb1 kb2 kb3
  rintro e w7 ⟨td, rfl, hi, hv, hb⟩
  have B_7 := Lib.hid (below_chain B_6.out (by have := B_6.out.size; have := HRr.out; omega) hb)
  have Xa_7 : Hid (Rb w7 r a) := Lib.hid (Xa_6.out.on hb)
  have Xb_7 : Hid (Rb w7 (r + 1) b) := Lib.hid (Xb_6.out.on hb)
  have Xc_7 : Hid (Rb w7 (r + 1 + 1) c) := Lib.hid (Xc_6.out.on hb)
  have Id_7 : Hid (td.In w7) := Lib.hid (hi)
  clear hb B_6 Xa_6 Xb_6 Xc_6 hi
  have Vd := Lib.hid hv
  clear hv
  go_wp2_with fail
  generalize hW : World.alloc w7 _ = V8
  have hn := below_new w7 (.cells #[.bool td.g, .slice td.A td.n td.c, .bool td.gd, .slice td.Ad td.nd td.cd] 27)
  have hx := Rb.new Id_7.out
  rw [hW] at hn hx
  have B_8 := Lib.hid (below_chain B_7.out (by have := B_7.out.size; have := HRr.out; omega) hn)
  have Xa_8 : Hid (Rb V8 r a) := Lib.hid (Xa_7.out.on hn)
  have Xb_8 : Hid (Rb V8 (r + 1) b) := Lib.hid (Xb_7.out.on hn)
  have Xc_8 : Hid (Rb V8 (r + 1 + 1) c) := Lib.hid (Xc_7.out.on hn)
  have Id_8 : Hid (td.In V8) := Lib.hid (Id_7.out.on hn)
  have Xd_8 := Lib.hid hx
  clear hx hn hW B_7 Xa_7 Xb_7 Xc_7 Id_7 Id_8
  generalize w7.heap.size = b1 at *
  refine (sign_q Xd_8.out.sl Vd.out).mono ?_
  rintro e w9 ⟨rfl, hb⟩
  have B_9 := Lib.hid (below_chain B_8.out (by have := B_8.out.size; have := HRr.out; omega) hb)
  have Xa_9 : Hid (Rb w9 r a) := Lib.hid (Xa_8.out.on hb)
  have Xb_9 : Hid (Rb w9 (r + 1) b) := Lib.hid (Xb_8.out.on hb)
  have Xc_9 : Hid (Rb w9 (r + 1 + 1) c) := Lib.hid (Xc_8.out.on hb)
  have Xd_9 : Hid (Rb w9 b1 td) := Lib.hid (Xd_8.out.on hb)
  clear hb B_8 Xa_8 Xb_8 Xc_8 Xd_8
  rw [HC.out.2.2.2.2.1]
  clear Xd_9
  have ka0 := Xa_9.out.c0
  have ka1 := Xa_9.out.c1
  have ka2 := Xa_9.out.c2
  have ka3 := Xa_9.out.c3
  have kc0 := Xc_9.out.c0
  have kc1 := Xc_9.out.c1
  have kc2 := Xc_9.out.c2
  have kc3 := Xc_9.out.c3
  go_wp2_with fail
  refine (add_v Xa_9.out.sl Xc_9.out.sl Va.out Vc.out HB.out.1 HB.out.2.2 (by decide)).mono ?_
  clear ka0 ka1 ka2 ka3 kc0 kc1 kc2 kc3
  rintro e w10 ⟨tx, rfl, hi, hv, hb⟩
  have B_10 := Lib.hid (below_chain B_9.out (by have := B_9.out.size; have := HRr.out; omega) hb)
  have Xa_10 : Hid (Rb w10 r a) := Lib.hid (Xa_9.out.on hb)
  have Xb_10 : Hid (Rb w10 (r + 1) b) := Lib.hid (Xb_9.out.on hb)
  have Xc_10 : Hid (Rb w10 (r + 1 + 1) c) := Lib.hid (Xc_9.out.on hb)
  have Ix_10 : Hid (tx.In w10) := Lib.hid (hi)
  clear hb B_9 Xa_9 Xb_9 Xc_9 hi
  have Vx := Lib.hid hv
  clear hv
  have kb0 := (Xb_10.out.on (below_new w10 (.cells #[.bool tx.g, .slice tx.A tx.n tx.c, .bool tx.gd, .slice tx.Ad tx.nd tx.cd] 27))).c0
  have kb1 := (Xb_10.out.on (below_new w10 (.cells #[.bool tx.g, .slice tx.A tx.n tx.c, .bool tx.gd, .slice tx.Ad tx.nd tx.cd] 27))).c1
  have kb2 := (Xb_10.out.on (below_new w10 (.cells #[.bool tx.g, .slice tx.A tx.n tx.c, .bool tx.gd, .slice tx.Ad tx.nd tx.cd] 27))).c2
  have kb3 := (Xb_10.out.on (below_new w10 (.cells #[.bool tx.g, .slice tx.A tx.n tx.c, .bool tx.gd, .slice tx.Ad tx.nd tx.cd] 27))).c3
  have kc0 := (Xc_10.out.on (below_new w10 (.cells #[.bool tx.g, .slice tx.A tx.n tx.c, .bool tx.gd, .slice tx.Ad tx.nd tx.cd] 27))).c0
  have kc1 := (Xc_10.out.on (below_new w10 (.cells #[.bool tx.g, .slice tx.A tx.n tx.c, .bool tx.gd, .slice tx.Ad tx.nd tx.cd] 27))).c1
  have kc2 := (Xc_10.out.on (below_new w10 (.cells #[.bool tx.g, .slice tx.A tx.n tx.c, .bool tx.gd, .slice tx.Ad tx.nd tx.cd] 27))).c2
  have kc3 := (Xc_10.out.on (below_new w10 (.cells #[.bool tx.g, .slice tx.A tx.n tx.c, .bool tx.gd, .slice tx.Ad tx.nd tx.cd] 27))).c3
  go_wp2_with fail
  generalize hW : World.alloc w10 _ = V11
  have hn := below_new w10 (.cells #[.bool tx.g, .slice tx.A tx.n tx.c, .bool tx.gd, .slice tx.Ad tx.nd tx.cd] 27)
  have hx := Rb.new Ix_10.out
  rw [hW] at hn hx
  have B_11 := Lib.hid (below_chain B_10.out (by have := B_10.out.size; have := HRr.out; omega) hn)
  have Xa_11 : Hid (Rb V11 r a) := Lib.hid (Xa_10.out.on hn)
  have Xb_11 : Hid (Rb V11 (r + 1) b) := Lib.hid (Xb_10.out.on hn)
  have Xc_11 : Hid (Rb V11 (r + 1 + 1) c) := Lib.hid (Xc_10.out.on hn)
  have Ix_11 : Hid (tx.In V11) := Lib.hid (Ix_10.out.on hn)
  have Xx_11 := Lib.hid hx
  clear hx hn hW B_10 Xa_10 Xb_10 Xc_10 Ix_10 Ix_11
  generalize w10.heap.size = b2 at *
  refine (add_v Xb_11.out.sl Xc_11.out.sl Vb.out Vc.out HB.out.2.1 HB.out.2.2 (by decide)).mono ?_
  clear kb0 kb1 kb2 kb3 kc0 kc1 kc2 kc3
  rintro e w12 ⟨ty, rfl, hi, hv, hb⟩
  have B_12 := Lib.hid (below_chain B_11.out (by have := B_11.out.size; have := HRr.out; omega) hb)
  have Xa_12 : Hid (Rb w12 r a) := Lib.hid (Xa_11.out.on hb)
  have Xb_12 : Hid (Rb w12 (r + 1) b) := Lib.hid (Xb_11.out.on hb)
  have Xc_12 : Hid (Rb w12 (r + 1 + 1) c) := Lib.hid (Xc_11.out.on hb)
  have Xx_12 : Hid (Rb w12 b2 tx) := Lib.hid (Xx_11.out.on hb)
  have Iy_12 : Hid (ty.In w12) := Lib.hid (hi)
  clear hb B_11 Xa_11 Xb_11 Xc_11 Xx_11 hi
  have Vy := Lib.hid hv
  clear hv
  have kx0 := (Xx_12.out.on (below_new w12 (.cells #[.bool ty.g, .slice ty.A ty.n ty.c, .bool ty.gd, .slice ty.Ad ty.nd ty.cd] 27))).c0
  have kx1 := (Xx_12.out.on (below_new w12 (.cells #[.bool ty.g, .slice ty.A ty.n ty.c, .bool ty.gd, .slice ty.Ad ty.nd ty.cd] 27))).c1
  have kx2 := (Xx_12.out.on (below_new w12 (.cells #[.bool ty.g, .slice ty.A ty.n ty.c, .bool ty.gd, .slice ty.Ad ty.nd ty.cd] 27))).c2
  have kx3 := (Xx_12.out.on (below_new w12 (.cells #[.bool ty.g, .slice ty.A ty.n ty.c, .bool ty.gd, .slice ty.Ad ty.nd ty.cd] 27))).c3
  go_wp2_with fail
  generalize hW : World.alloc w12 _ = V13
  have hn := below_new w12 (.cells #[.bool ty.g, .slice ty.A ty.n ty.c, .bool ty.gd, .slice ty.Ad ty.nd ty.cd] 27)
  have hx := Rb.new Iy_12.out
  rw [hW] at hn hx
  have B_13 := Lib.hid (below_chain B_12.out (by have := B_12.out.size; have := HRr.out; omega) hn)
  have Xa_13 : Hid (Rb V13 r a) := Lib.hid (Xa_12.out.on hn)
  have Xb_13 : Hid (Rb V13 (r + 1) b) := Lib.hid (Xb_12.out.on hn)
  have Xc_13 : Hid (Rb V13 (r + 1 + 1) c) := Lib.hid (Xc_12.out.on hn)
  have Xx_13 : Hid (Rb V13 b2 tx) := Lib.hid (Xx_12.out.on hn)
  have Iy_13 : Hid (ty.In V13) := Lib.hid (Iy_12.out.on hn)
  have Xy_13 := Lib.hid hx
  clear hx hn hW B_12 Xa_12 Xb_12 Xc_12 Xx_12 Iy_12 Iy_13
  generalize w12.heap.size = b3 at *
  refine (cmp_q Xx_13.out.sl Xy_13.out.sl Vx.out Vy.out 1 HC.out.2.2.2.2.2).mono ?_
  clear kx0 kx1 kx2 kx3
  rintro e w14 ⟨rfl, hb⟩
  have B_14 := Lib.hid (below_chain B_13.out (by have := B_13.out.size; have := HRr.out; omega) hb)
  have Xa_14 : Hid (Rb w14 r a) := Lib.hid (Xa_13.out.on hb)
  have Xb_14 : Hid (Rb w14 (r + 1) b) := Lib.hid (Xb_13.out.on hb)
  have Xc_14 : Hid (Rb w14 (r + 1 + 1) c) := Lib.hid (Xc_13.out.on hb)
  have Xx_14 : Hid (Rb w14 b2 tx) := Lib.hid (Xx_13.out.on hb)
  have Xy_14 : Hid (Rb w14 b3 ty) := Lib.hid (Xy_13.out.on hb)
  clear hb B_13 Xa_13 Xb_13 Xc_13 Xx_13 Xy_13
  go_wp2
  go_ret
  exact ⟨rfl, by rw [HRr.out]; exact B_14.out⟩

set_option maxRecDepth 20000 in
set_option maxHeartbeats 4000000 in
theorem ord_gteq (a b c : RVal) (w : World) (h1 : a.In w) (h2 : b.In w) (h3 : c.In w) (x y z : Rat) (hx : rv a.o a.od = some x) (hy : rv b.o b.od = some y) (hz : rv c.o c.od = some z) (hB : Bd 1024 x ∧ Bd 1024 y ∧ Bd 1024 z) (hv : vok a b c 32 = true) (hc : Int.sign (x.num * y.den - y.num * x.den) = 1 ∧ Int.sign (y.num * x.den - x.num * y.den) = (-1) ∧ Int.sign (y.num * z.den - z.num * y.den) = 0 ∧ Int.sign (x.num * z.den - z.num * x.den) = 1 ∧ (x - y).num.sign = 1 ∧ Int.sign ((x + z).num * (y + z).den - (y + z).num * (x + z).den) = 1) :
    Calls Tryz.prog 10 #[.agg #[.bool a.g, .slice a.A a.n a.c, .bool a.gd, .slice a.Ad a.nd a.cd], .agg #[.bool b.g, .slice b.A b.n b.c, .bool b.gd, .slice b.Ad b.nd b.cd], .agg #[.bool c.g, .slice c.A c.n c.c, .bool c.gd, .slice c.Ad c.nd c.cd]] w fun e w' => e = .returned (.bool true) ∧ Below w.heap.size w w' := by
  have Va := Lib.hid hx
  have Vb := Lib.hid hy
  have Vc := Lib.hid hz
  have HB := Lib.hid hB
  have HV := Lib.hid hv
  have HC := Lib.hid hc
  have HS := Lib.hid (And.intro h1 (And.intro h2 h3))
  clear h1 h2 h3 hx hy hz hB hv hc
  go_enter Tryz.func10, Tryz.ntmps10
  go_wp2_with fail
  generalize hW : World.alloc (World.alloc (World.alloc w _) _) _ = V
  obtain ⟨hb, ra, rb, rc⟩ := three_rats a b c w V HS.out.1 HS.out.2.1 HS.out.2.2 hW
  have B_0 : Hid (Below w.heap.size w V) := Lib.hid (hb)
  have Xa_0 := Lib.hid ra
  have Xb_0 := Lib.hid rb
  have Xc_0 := Lib.hid rc
  clear hb ra rb rc hW
  generalize hr : w.heap.size = r at *
  have HRr := Lib.hid hr
  clear hr
  refine (sane V).mono ?_
  rintro e w1 ⟨rfl, hb⟩
  have B_1 := Lib.hid (below_chain B_0.out (by have := B_0.out.size; have := HRr.out; omega) hb)
  have Xa_1 : Hid (Rb w1 r a) := Lib.hid (Xa_0.out.on hb)
  have Xb_1 : Hid (Rb w1 (r + 1) b) := Lib.hid (Xb_0.out.on hb)
  have Xc_1 : Hid (Rb w1 (r + 1 + 1) c) := Lib.hid (Xc_0.out.on hb)
  clear hb B_0 Xa_0 Xb_0 Xc_0
  have ka0 := Xa_1.out.c0
  have ka1 := Xa_1.out.c1
  have ka2 := Xa_1.out.c2
  have ka3 := Xa_1.out.c3
  have kb0 := Xb_1.out.c0
  have kb1 := Xb_1.out.c1
  have kb2 := Xb_1.out.c2
  have kb3 := Xb_1.out.c3
  have kc0 := Xc_1.out.c0
  have kc1 := Xc_1.out.c1
  have kc2 := Xc_1.out.c2
  have kc3 := Xc_1.out.c3
  go_wp2_with fail
  have C := val_any a b c 32 w1 Xa_1.out.sl Xb_1.out.sl Xc_1.out.sl
  rw [HV.out] at C
  refine C.mono ?_
  clear C
  clear ka0 ka1 ka2 ka3 kb0 kb1 kb2 kb3 kc0 kc1 kc2 kc3
  rintro e w2 ⟨rfl, hb⟩
  have B_2 := Lib.hid (below_chain B_1.out (by have := B_1.out.size; have := HRr.out; omega) hb)
  have Xa_2 : Hid (Rb w2 r a) := Lib.hid (Xa_1.out.on hb)
  have Xb_2 : Hid (Rb w2 (r + 1) b) := Lib.hid (Xb_1.out.on hb)
  have Xc_2 : Hid (Rb w2 (r + 1 + 1) c) := Lib.hid (Xc_1.out.on hb)
  clear hb B_1 Xa_1 Xb_1 Xc_1
  have ka0 := Xa_2.out.c0
  have ka1 := Xa_2.out.c1
  have ka2 := Xa_2.out.c2
  have ka3 := Xa_2.out.c3
  have kb0 := Xb_2.out.c0
  have kb1 := Xb_2.out.c1
  have kb2 := Xb_2.out.c2
  have kb3 := Xb_2.out.c3
  go_wp2_with fail
  refine (cmp_q Xa_2.out.sl Xb_2.out.sl Va.out Vb.out 1 HC.out.1).mono ?_
  clear ka0 ka1 ka2 ka3 kb0 kb1 kb2 kb3
  rintro e w3 ⟨rfl, hb⟩
  have B_3 := Lib.hid (below_chain B_2.out (by have := B_2.out.size; have := HRr.out; omega) hb)
  have Xa_3 : Hid (Rb w3 r a) := Lib.hid (Xa_2.out.on hb)
  have Xb_3 : Hid (Rb w3 (r + 1) b) := Lib.hid (Xb_2.out.on hb)
  have Xc_3 : Hid (Rb w3 (r + 1 + 1) c) := Lib.hid (Xc_2.out.on hb)
  clear hb B_2 Xa_2 Xb_2 Xc_2
  have kb0 := Xb_3.out.c0
  have kb1 := Xb_3.out.c1
  have kb2 := Xb_3.out.c2
  have kb3 := Xb_3.out.c3
  have ka0 := Xa_3.out.c0
  have ka1 := Xa_3.out.c1
  have ka2 := Xa_3.out.c2
  have ka3 := Xa_3.out.c3
  go_wp2_with fail
  refine (cmp_q Xb_3.out.sl Xa_3.out.sl Vb.out Va.out (-1) HC.out.2.1).mono ?_
  clear kb0 kb1 kb2 kb3 ka0 ka1 ka2 ka3
  rintro e w4 ⟨rfl, hb⟩
  have B_4 := Lib.hid (below_chain B_3.out (by have := B_3.out.size; have := HRr.out; omega) hb)
  have Xa_4 : Hid (Rb w4 r a) := Lib.hid (Xa_3.out.on hb)
  have Xb_4 : Hid (Rb w4 (r + 1) b) := Lib.hid (Xb_3.out.on hb)
  have Xc_4 : Hid (Rb w4 (r + 1 + 1) c) := Lib.hid (Xc_3.out.on hb)
  clear hb B_3 Xa_3 Xb_3 Xc_3
  have kb0 := Xb_4.out.c0
  have kb1 := Xb_4.out.c1
  have kb2 := Xb_4.out.c2
  have kb3 := Xb_4.out.c3
  have kc0 := Xc_4.out.c0
  have kc1 := Xc_4.out.c1
  have kc2 := Xc_4.out.c2
  have kc3 := Xc_4.out.c3
  go_wp2_with fail
  refine (cmp_q Xb_4.out.sl Xc_4.out.sl Vb.out Vc.out 0 HC.out.2.2.1).mono ?_
  clear kb0 kb1 kb2 kb3 kc0 kc1 kc2 kc3
  rintro e w5 ⟨rfl, hb⟩
  have B_5 := Lib.hid (below_chain B_4.out (by have := B_4.out.size; have := HRr.out; omega) hb)
  have Xa_5 : Hid (Rb w5 r a) := Lib.hid (Xa_4.out.on hb)
  have Xb_5 : Hid (Rb w5 (r + 1) b) := Lib.hid (Xb_4.out.on hb)
  have Xc_5 : Hid (Rb w5 (r + 1 + 1) c) := Lib.hid (Xc_4.out.on hb)
  clear hb B_4 Xa_4 Xb_4 Xc_4
  have ka0 := Xa_5.out.c0
  have ka1 := Xa_5.out.c1
  have ka2 := Xa_5.out.c2
  have ka3 := Xa_5.out.c3
  have kc0 := Xc_5.out.c0
  have kc1 := Xc_5.out.c1
  have kc2 := Xc_5.out.c2
  have kc3 := Xc_5.out.c3
  go_wp2_with fail
  refine (cmp_q Xa_5.out.sl Xc_5.out.sl Va.out Vc.out 1 HC.out.2.2.2.1).mono ?_
  clear ka0 ka1 ka2 ka3 kc0 kc1 kc2 kc3
  rintro e w6 ⟨rfl, hb⟩
  have B_6 := Lib.hid (below_chain B_5.out (by have := B_5.out.size; have := HRr.out; omega) hb)
  have Xa_6 : Hid (Rb w6 r a) := Lib.hid (Xa_5.out.on hb)
  have Xb_6 : Hid (Rb w6 (r + 1) b) := Lib.hid (Xb_5.out.on hb)
  have Xc_6 : Hid (Rb w6 (r + 1 + 1) c) := Lib.hid (Xc_5.out.on hb)
  clear hb B_5 Xa_5 Xb_5 Xc_5
  have ka0 := Xa_6.out.c0
  have ka1 := Xa_6.out.c1
  have ka2 := Xa_6.out.c2
  have ka3 := Xa_6.out.c3
  have kb0 := Xb_6.out.c0
  have kb1 := Xb_6.out.c1
  have kb2 := Xb_6.out.c2
  have kb3 := Xb_6.out.c3
  go_wp2_with fail
  refine (sub_v Xa_6.out.sl Xb_6.out.sl Va.out Vb.out HB.out.1 HB.out.2.1 (by decide)).mono ?_
  clear ka0 ka1 ka2 ka3 kb0 kb1 kb2 kb3
  rintro e w7 ⟨td, rfl, hi, hv, hb⟩
  have B_7 := Lib.hid (below_chain B_6.out (by have := B_6.out.size; have := HRr.out; omega) hb)
  have Xa_7 : Hid (Rb w7 r a) := Lib.hid (Xa_6.out.on hb)
  have Xb_7 : Hid (Rb w7 (r + 1) b) := Lib.hid (Xb_6.out.on hb)
  have Xc_7 : Hid (Rb w7 (r + 1 + 1) c) := Lib.hid (Xc_6.out.on hb)
  have Id_7 : Hid (td.In w7) := Lib.hid (hi)
  clear hb B_6 Xa_6 Xb_6 Xc_6 hi
  have Vd := Lib.hid hv
  clear hv
  go_wp2_with fail
  generalize hW : World.alloc w7 _ = V8
  have hn := below_new w7 (.cells #[.bool td.g, .slice td.A td.n td.c, .bool td.gd, .slice td.Ad td.nd td.cd] 27)
  have hx := Rb.new Id_7.out
  rw [hW] at hn hx
  have B_8 := Lib.hid (below_chain B_7.out (by have := B_7.out.size; have := HRr.out; omega) hn)
  have Xa_8 : Hid (Rb V8 r a) := Lib.hid (Xa_7.out.on hn)
  have Xb_8 : Hid (Rb V8 (r + 1) b) := Lib.hid (Xb_7.out.on hn)
  have Xc_8 : Hid (Rb V8 (r + 1 + 1) c) := Lib.hid (Xc_7.out.on hn)
  have Id_8 : Hid (td.In V8) := Lib.hid (Id_7.out.on hn)
  have Xd_8 := Lib.hid hx
  clear hx hn hW B_7 Xa_7 Xb_7 Xc_7 Id_7 Id_8
  generalize w7.heap.size = b1 at *
  refine (sign_q Xd_8.out.sl Vd.out).mono ?_
  rintro e w9 ⟨rfl, hb⟩
  have B_9 := Lib.hid (below_chain B_8.out (by have := B_8.out.size; have := HRr.out; omega) hb)
  have Xa_9 : Hid (Rb w9 r a) := Lib.hid (Xa_8.out.on hb)
  have Xb_9 : Hid (Rb w9 (r + 1) b) := Lib.hid (Xb_8.out.on hb)
  have Xc_9 : Hid (Rb w9 (r + 1 + 1) c) := Lib.hid (Xc_8.out.on hb)
  have Xd_9 : Hid (Rb w9 b1 td) := Lib.hid (Xd_8.out.on hb)
  clear hb B_8 Xa_8 Xb_8 Xc_8 Xd_8
  rw [HC.out.2.2.2.2.1]
  clear Xd_9
  have ka0 := Xa_9.out.c0
  have ka1 := Xa_9.out.c1
  have ka2 := Xa_9.out.c2
  have ka3 := Xa_9.out.c3
  have kc0 := Xc_9.out.c0
  have kc1 := Xc_9.out.c1
  have kc2 := Xc_9.out.c2
  have kc3 := Xc_9.out.c3
  go_wp2_with fail
  refine (add_v Xa_9.out.sl Xc_9.out.sl Va.out Vc.out HB.out.1 HB.out.2.2 (by decide)).mono ?_
  clear ka0 ka1 ka2 ka3 kc0 kc1 kc2 kc3
  rintro e w10 ⟨tx, rfl, hi, hv, hb⟩
  have B_10 := Lib.hid (below_chain B_9.out (by have := B_9.out.size; have := HRr.out; omega) hb)
  have Xa_10 : Hid (Rb w10 r a) := Lib.hid (Xa_9.out.on hb)
  have Xb_10 : Hid (Rb w10 (r + 1) b) := Lib.hid (Xb_9.out.on hb)
  have Xc_10 : Hid (Rb w10 (r + 1 + 1) c) := Lib.hid (Xc_9.out.on hb)
  have Ix_10 : Hid (tx.In w10) := Lib.hid (hi)
  clear hb B_9 Xa_9 Xb_9 Xc_9 hi
  have Vx := Lib.hid hv
  clear hv
  have kb0 := (Xb_10.out.on (below_new w10 (.cells #[.bool tx.g, .slice tx.A tx.n tx.c, .bool tx.gd, .slice tx.Ad tx.nd tx.cd] 27))).c0
  have kb1 := (Xb_10.out.on (below_new w10 (.cells #[.bool tx.g, .slice tx.A tx.n tx.c, .bool tx.gd, .slice tx.Ad tx.nd tx.cd] 27))).c1
  have kb2 := (Xb_10.out.on (below_new w10 (.cells #[.bool tx.g, .slice tx.A tx.n tx.c, .bool tx.gd, .slice tx.Ad tx.nd tx.cd] 27))).c2
  have kb3 := (Xb_10.out.on (below_new w10 (.cells #[.bool tx.g, .slice tx.A tx.n tx.c, .bool tx.gd, .slice tx.Ad tx.nd tx.cd] 27))).c3
  have kc0 := (Xc_10.out.on (below_new w10 (.cells #[.bool tx.g, .slice tx.A tx.n tx.c, .bool tx.gd, .slice tx.Ad tx.nd tx.cd] 27))).c0
  have kc1 := (Xc_10.out.on (below_new w10 (.cells #[.bool tx.g, .slice tx.A tx.n tx.c, .bool tx.gd, .slice tx.Ad tx.nd tx.cd] 27))).c1
  have kc2 := (Xc_10.out.on (below_new w10 (.cells #[.bool tx.g, .slice tx.A tx.n tx.c, .bool tx.gd, .slice tx.Ad tx.nd tx.cd] 27))).c2
  have kc3 := (Xc_10.out.on (below_new w10 (.cells #[.bool tx.g, .slice tx.A tx.n tx.c, .bool tx.gd, .slice tx.Ad tx.nd tx.cd] 27))).c3
  go_wp2_with fail
  generalize hW : World.alloc w10 _ = V11
  have hn := below_new w10 (.cells #[.bool tx.g, .slice tx.A tx.n tx.c, .bool tx.gd, .slice tx.Ad tx.nd tx.cd] 27)
  have hx := Rb.new Ix_10.out
  rw [hW] at hn hx
  have B_11 := Lib.hid (below_chain B_10.out (by have := B_10.out.size; have := HRr.out; omega) hn)
  have Xa_11 : Hid (Rb V11 r a) := Lib.hid (Xa_10.out.on hn)
  have Xb_11 : Hid (Rb V11 (r + 1) b) := Lib.hid (Xb_10.out.on hn)
  have Xc_11 : Hid (Rb V11 (r + 1 + 1) c) := Lib.hid (Xc_10.out.on hn)
  have Ix_11 : Hid (tx.In V11) := Lib.hid (Ix_10.out.on hn)
  have Xx_11 := Lib.hid hx
  clear hx hn hW B_10 Xa_10 Xb_10 Xc_10 Ix_10 Ix_11
  generalize w10.heap.size = b2 at *
  refine (add_v Xb_11.out.sl Xc_11.out.sl Vb.out Vc.out HB.out.2.1 HB.out.2.2 (by decide)).mono ?_
  clear kb0 kb1 kb2 kb3 kc0 kc1 kc2 kc3
  rintro e w12 ⟨ty, rfl, hi, hv, hb⟩
  have B_12 := Lib.hid (below_chain B_11.out (by have := B_11.out.size; have := HRr.out; omega) hb)
  have Xa_12 : Hid (Rb w12 r a) := Lib.hid (Xa_11.out.on hb)
  have Xb_12 : Hid (Rb w12 (r + 1) b) := Lib.hid (Xb_11.out.on hb)
  have Xc_12 : Hid (Rb w12 (r + 1 + 1) c) := Lib.hid (Xc_11.out.on hb)
  have Xx_12 : Hid (Rb w12 b2 tx) := Lib.hid (Xx_11.out.on hb)
  have Iy_12 : Hid (ty.In w12) := Lib.hid (hi)
  clear hb B_11 Xa_11 Xb_11 Xc_11 Xx_11 hi
  have Vy := Lib.hid hv
  clear hv
  have kx0 := (Xx_12.out.on (below_new w12 (.cells #[.bool ty.g, .slice ty.A ty.n ty.c, .bool ty.gd, .slice ty.Ad ty.nd ty.cd] 27))).c0
  have kx1 := (Xx_12.out.on (below_new w12 (.cells #[.bool ty.g, .slice ty.A ty.n ty.c, .bool ty.gd, .slice ty.Ad ty.nd ty.cd] 27))).c1
  have kx2 := (Xx_12.out.on (below_new w12 (.cells #[.bool ty.g, .slice ty.A ty.n ty.c, .bool ty.gd, .slice ty.Ad ty.nd ty.cd] 27))).c2
  have kx3 := (Xx_12.out.on (below_new w12 (.cells #[.bool ty.g, .slice ty.A ty.n ty.c, .bool ty.gd, .slice ty.Ad ty.nd ty.cd] 27))).c3
  go_wp2_with fail
  generalize hW : World.alloc w12 _ = V13
  have hn := below_new w12 (.cells #[.bool ty.g, .slice ty.A ty.n ty.c, .bool ty.gd, .slice ty.Ad ty.nd ty.cd] 27)
  have hx := Rb.new Iy_12.out
  rw [hW] at hn hx
  have B_13 := Lib.hid (below_chain B_12.out (by have := B_12.out.size; have := HRr.out; omega) hn)
  have Xa_13 : Hid (Rb V13 r a) := Lib.hid (Xa_12.out.on hn)
  have Xb_13 : Hid (Rb V13 (r + 1) b) := Lib.hid (Xb_12.out.on hn)
  have Xc_13 : Hid (Rb V13 (r + 1 + 1) c) := Lib.hid (Xc_12.out.on hn)
  have Xx_13 : Hid (Rb V13 b2 tx) := Lib.hid (Xx_12.out.on hn)
  have Iy_13 : Hid (ty.In V13) := Lib.hid (Iy_12.out.on hn)
  have Xy_13 := Lib.hid hx
  clear hx hn hW B_12 Xa_12 Xb_12 Xc_12 Xx_12 Iy_12 Iy_13
  generalize w12.heap.size = b3 at *
  refine (cmp_q Xx_13.out.sl Xy_13.out.sl Vx.out Vy.out 1 HC.out.2.2.2.2.2).mono ?_
  clear kx0 kx1 kx2 kx3
  rintro e w14 ⟨rfl, hb⟩
  have B_14 := Lib.hid (below_chain B_13.out (by have := B_13.out.size; have := HRr.out; omega) hb)
  have Xa_14 : Hid (Rb w14 r a) := Lib.hid (Xa_13.out.on hb)
  have Xb_14 : Hid (Rb w14 (r + 1) b) := Lib.hid (Xb_13.out.on hb)
  have Xc_14 : Hid (Rb w14 (r + 1 + 1) c) := Lib.hid (Xc_13.out.on hb)
  have Xx_14 : Hid (Rb w14 b2 tx) := Lib.hid (Xx_13.out.on hb)
  have Xy_14 : Hid (Rb w14 b3 ty) := Lib.hid (Xy_13.out.on hb)
  clear hb B_13 Xa_13 Xb_13 Xc_13 Xx_13 Xy_13
  go_wp2
  go_ret
  exact ⟨rfl, by rw [HRr.out]; exact B_14.out⟩

set_option maxRecDepth 20000 in
set_option maxHeartbeats 4000000 in
theorem ord_gtgt (a b c : RVal) (w : World) (h1 : a.In w) (h2 : b.In w) (h3 : c.In w) (x y z : Rat) (hx : rv a.o a.od = some x) (hy : rv b.o b.od = some y) (hz : rv c.o c.od = some z) (hB : Bd 1024 x ∧ Bd 1024 y ∧ Bd 1024 z) (hv : vok a b c 32 = true) (hc : Int.sign (x.num * y.den - y.num * x.den) = 1 ∧ Int.sign (y.num * x.den - x.num * y.den) = (-1) ∧ Int.sign (y.num * z.den - z.num * y.den) = 1 ∧ Int.sign (x.num * z.den - z.num * x.den) = 1 ∧ (x - y).num.sign = 1 ∧ Int.sign ((x + z).num * (y + z).den - (y + z).num * (x + z).den) = 1) :
    Calls Tryz.prog 10 #[.agg #[.bool a.g, .slice a.A a.n a.c, .bool a.gd, .slice a.Ad a.nd a.cd], .agg #[.bool b.g, .slice b.A b.n b.c, .bool b.gd, .slice b.Ad b.nd b.cd], .agg #[.bool c.g, .slice c.A c.n c.c, .bool c.gd, .slice c.Ad c.nd c.cd]] w fun e w' => e = .returned (.bool true) ∧ Below w.heap.size w w' := by
  have Va := Lib.hid hx
  have Vb := Lib.hid hy
  have Vc := Lib.hid hz
  have HB := Lib.hid hB
  have HV := Lib.hid hv
  have HC := Lib.hid hc
  have HS := Lib.hid (And.intro h1 (And.intro h2 h3))
  clear h1 h2 h3 hx hy hz hB hv hc
  go_enter Tryz.func10, Tryz.ntmps10
  go_wp2_with fail
  generalize hW : World.alloc (World.alloc (World.alloc w _) _) _ = V
  obtain ⟨hb, ra, rb, rc⟩ := three_rats a b c w V HS.out.1 HS.out.2.1 HS.out.2.2 hW
  have B_0 : Hid (Below w.heap.size w V) := Lib.hid (hb)
  have Xa_0 := Lib.hid ra
  have Xb_0 := Lib.hid rb
  have Xc_0 := Lib.hid rc
  clear hb ra rb rc hW
  generalize hr : w.heap.size = r at *
  have HRr := Lib.hid hr
  clear hr
  refine (sane V).mono ?_
  rintro e w1 ⟨rfl, hb⟩
  have B_1 := Lib.hid (below_chain B_0.out (by have := B_0.out.size; have := HRr.out; omega) hb)
  have Xa_1 : Hid (Rb w1 r a) := Lib.hid (Xa_0.out.on hb)
  have Xb_1 : Hid (Rb w1 (r + 1) b) := Lib.hid (Xb_0.out.on hb)
  have Xc_1 : Hid (Rb w1 (r + 1 + 1) c) := Lib.hid (Xc_0.out.on hb)
  clear hb B_0 Xa_0 Xb_0 Xc_0
  have ka0 := Xa_1.out.c0
  have ka1 := Xa_1.out.c1
  have ka2 := Xa_1.out.c2
  have ka3 := Xa_1.out.c3
  have kb0 := Xb_1.out.c0
  have kb1 := Xb_1.out.c1
  have kb2 := Xb_1.out.c2
  have kb3 := Xb_1.out.c3
  have kc0 := Xc_1.out.c0
  have kc1 := Xc_1.out.c1
  have kc2 := Xc_1.out.c2
  have kc3 := Xc_1.out.c3
  go_wp2_with fail
  have C := val_any a b c 32 w1 Xa_1.out.sl Xb_1.out.sl Xc_1.out.sl
  rw [HV.out] at C
  refine C.mono ?_
  clear C
  clear ka0 ka1 ka2 ka3 kb0 kb1 kb2 kb3 kc0 kc1 kc2 kc3
  rintro e w2 ⟨rfl, hb⟩
  have B_2 := Lib.hid (below_chain B_1.out (by have := B_1.out.size; have := HRr.out; omega) hb)
  have Xa_2 : Hid (Rb w2 r a) := Lib.hid (Xa_1.out.on hb)
  have Xb_2 : Hid (Rb w2 (r + 1) b) := Lib.hid (Xb_1.out.on hb)
  have Xc_2 : Hid (Rb w2 (r + 1 + 1) c) := Lib.hid (Xc_1.out.on hb)
  clear hb B_1 Xa_1 Xb_1 Xc_1
  have ka0 := Xa_2.out.c0
  have ka1 := Xa_2.out.c1
  have ka2 := Xa_2.out.c2
  have ka3 := Xa_2.out.c3
  have kb0 := Xb_2.out.c0
  have kb1 := Xb_2.out.c1
  have kb2 := Xb_2.out.c2
  have kb3 := Xb_2.out.c3
  go_wp2_with fail
  refine (cmp_q Xa_2.out.sl Xb_2.out.sl Va.out Vb.out 1 HC.out.1).mono ?_
  clear ka0 ka1 ka2 ka3 kb0 kb1 kb2 kb3
  rintro e w3 ⟨rfl, hb⟩
  have B_3 := Lib.hid (below_chain B_2.out (by have := B_2.out.size; have := HRr.out; omega) hb)
  have Xa_3 : Hid (Rb w3 r a) := Lib.hid (Xa_2.out.on hb)
  have Xb_3 : Hid (Rb w3 (r + 1) b) := Lib.hid (Xb_2.out.on hb)
  have Xc_3 : Hid (Rb w3 (r + 1 + 1) c) := Lib.hid (Xc_2.out.on hb)
  clear hb B_2 Xa_2 Xb_2 Xc_2
  have kb0 := Xb_3.out.c0
  have kb1 := Xb_3.out.c1
  have kb2 := Xb_3.out.c2
  have kb3 := Xb_3.out.c3
  have ka0 := Xa_3.out.c0
  have ka1 := Xa_3.out.c1
  have ka2 := Xa_3.out.c2
  have ka3 := Xa_3.out.c3
  go_wp2_with fail
  refine (cmp_q Xb_3.out.sl Xa_3.out.sl Vb.out Va.out (-1) HC.out.2.1).mono ?_
  clear kb0 kb1 kb2 kb3 ka0 ka1 ka2 ka3
  rintro e w4 ⟨rfl, hb⟩
  have B_4 := Lib.hid (below_chain B_3.out (by have := B_3.out.size; have := HRr.out; omega) hb)
  have Xa_4 : Hid (Rb w4 r a) := Lib.hid (Xa_3.out.on hb)
  have Xb_4 : Hid (Rb w4 (r + 1) b) := Lib.hid (Xb_3.out.on hb)
  have Xc_4 : Hid (Rb w4 (r + 1 + 1) c) := Lib.hid (Xc_3.out.on hb)
  clear hb B_3 Xa_3 Xb_3 Xc_3
  have kb0 := Xb_4.out.c0
  have kb1 := Xb_4.out.c1
  have kb2 := Xb_4.out.c2
  have kb3 := Xb_4.out.c3
  have kc0 := Xc_4.out.c0
  have kc1 := Xc_4.out.c1
  have kc2 := Xc_4.out.c2
  have kc3 := Xc_4.out.c3
  go_wp2_with fail
  refine (cmp_q Xb_4.out.sl Xc_4.out.sl Vb.out Vc.out 1 HC.out.2.2.1).mono ?_
  clear kb0 kb1 kb2 kb3 kc0 kc1 kc2 kc3
  rintro e w5 ⟨rfl, hb⟩
  have B_5 := Lib.hid (below_chain B_4.out (by have := B_4.out.size; have := HRr.out; omega) hb)
  have Xa_5 : Hid (Rb w5 r a) := Lib.hid (Xa_4.out.on hb)
  have Xb_5 : Hid (Rb w5 (r + 1) b) := Lib.hid (Xb_4.out.on hb)
  have Xc_5 : Hid (Rb w5 (r + 1 + 1) c) := Lib.hid (Xc_4.out.on hb)
  clear hb B_4 Xa_4 Xb_4 Xc_4
  have ka0 := Xa_5.out.c0
  have ka1 := Xa_5.out.c1
  have ka2 := Xa_5.out.c2
  have ka3 := Xa_5.out.c3
  have kc0 := Xc_5.out.c0
  have kc1 := Xc_5.out.c1
  have kc2 := Xc_5.out.c2
  have kc3 := Xc_5.out.c3
  go_wp2_with fail
  refine (cmp_q Xa_5.out.sl Xc_5.out.sl Va.out Vc.out 1 HC.out.2.2.2.1).mono ?_
  clear ka0 ka1 ka2 ka3 kc0 kc1 kc2 kc3
  rintro e w6 ⟨rfl, hb⟩
  have B_6 := Lib.hid (below_chain B_5.out (by have := B_5.out.size; have := HRr.out; omega) hb)
  have Xa_6 : Hid (Rb w6 r a) := Lib.hid (Xa_5.out.on hb)
  have Xb_6 : Hid (Rb w6 (r + 1) b) := Lib.hid (Xb_5.out.on hb)
  have Xc_6 : Hid (Rb w6 (r + 1 + 1) c) := Lib.hid (Xc_5.out.on hb)
  clear hb B_5 Xa_5 Xb_5 Xc_5
  have ka0 := Xa_6.out.c0
  have ka1 := Xa_6.out.c1
  have ka2 := Xa_6.out.c2
  have ka3 := Xa_6.out.c3
  have kb0 := Xb_6.out.c0
  have kb1 := Xb_6.out.c1
  have kb2 := Xb_6.out.c2
  have kb3 := Xb_6.out.c3
  go_wp2_with fail
  refine (sub_v Xa_6.out.sl Xb_6.out.sl Va.out Vb.out HB.out.1 HB.out.2.1 (by decide)).mono ?_
  clear ka0 ka1 ka2 ka3 kb0 kb1 kb2 kb3
  rintro e w7 ⟨td, rfl, hi, hv, hb⟩
  have B_7 := Lib.hid (below_chain B_6.out (by have := B_6.out.size; have := HRr.out; omega) hb)
  have Xa_7 : Hid (Rb w7 r a) := Lib.hid (Xa_6.out.on hb)
  have Xb_7 : Hid (Rb w7 (r + 1) b) := Lib.hid (Xb_6.out.on hb)
  have Xc_7 : Hid (Rb w7 (r + 1 + 1) c) := Lib.hid (Xc_6.out.on hb)
  have Id_7 : Hid (td.In w7) := Lib.hid (hi)
  clear hb B_6 Xa_6 Xb_6 Xc_6 hi
  have Vd := Lib.hid hv
  clear hv
  go_wp2_with fail
  generalize hW : World.alloc w7 _ = V8
  have hn := below_new w7 (.cells #[.bool td.g, .slice td.A td.n td.c, .bool td.gd, .slice td.Ad td.nd td.cd] 27)
  have hx := Rb.new Id_7.out
  rw [hW] at hn hx
  have B_8 := Lib.hid (below_chain B_7.out (by have := B_7.out.size; have := HRr.out; omega) hn)
  have Xa_8 : Hid (Rb V8 r a) := Lib.hid (Xa_7.out.on hn)
  have Xb_8 : Hid (Rb V8 (r + 1) b) := Lib.hid (Xb_7.out.on hn)
  have Xc_8 : Hid (Rb V8 (r + 1 + 1) c) := Lib.hid (Xc_7.out.on hn)
  have Id_8 : Hid (td.In V8) := Lib.hid (Id_7.out.on hn)
  have Xd_8 := Lib.hid hx
  clear hx hn hW B_7 Xa_7 Xb_7 Xc_7 Id_7 Id_8
  generalize w7.heap.size = b1 at *
  refine (sign_q Xd_8.out.sl Vd.out).mono ?_
  rintro e w9 ⟨rfl, hb⟩
  have B_9 := Lib.hid (below_chain B_8.out (by have := B_8.out.size; have := HRr.out; omega) hb)
  have Xa_9 : Hid (Rb w9 r a) := Lib.hid (Xa_8.out.on hb)
  have Xb_9 : Hid (Rb w9 (r + 1) b) := Lib.hid (Xb_8.out.on hb)
  have Xc_9 : Hid (Rb w9 (r + 1 + 1) c) := Lib.hid (Xc_8.out.on hb)
  have Xd_9 : Hid (Rb w9 b1 td) := Lib.hid (Xd_8.out.on hb)
  clear hb B_8 Xa_8 Xb_8 Xc_8 Xd_8
  rw [HC.out.2.2.2.2.1]
  clear Xd_9
  have ka0 := Xa_9.out.c0
  have ka1 := Xa_9.out.c1
  have ka2 := Xa_9.out.c2
  have ka3 := Xa_9.out.c3
  have kc0 := Xc_9.out.c0
  have kc1 := Xc_9.out.c1
  have kc2 := Xc_9.out.c2
  have kc3 := Xc_9.out.c3
  go_wp2_with fail
  refine (add_v Xa_9.out.sl Xc_9.out.sl Va.out Vc.out HB.out.1 HB.out.2.2 (by decide)).mono ?_
  clear ka0 ka1 ka2 ka3 kc0 kc1 kc2 kc3
  rintro e w10 ⟨tx, rfl, hi, hv, hb⟩
  have B_10 := Lib.hid (below_chain B_9.out (by have := B_9.out.size; have := HRr.out; omega) hb)
  have Xa_10 : Hid (Rb w10 r a) := Lib.hid (Xa_9.out.on hb)
  have Xb_10 : Hid (Rb w10 (r + 1) b) := Lib.hid (Xb_9.out.on hb)
  have Xc_10 : Hid (Rb w10 (r + 1 + 1) c) := Lib.hid (Xc_9.out.on hb)
  have Ix_10 : Hid (tx.In w10) := Lib.hid (hi)
  clear hb B_9 Xa_9 Xb_9 Xc_9 hi
  have Vx := Lib.hid hv
  clear hv
  have kb0 := (Xb_10.out.on (below_new w10 (.cells #[.bool tx.g, .slice tx.A tx.n tx.c, .bool tx.gd, .slice tx.Ad tx.nd tx.cd] 27))).c0
  have kb1 := (Xb_10.out.on (below_new w10 (.cells #[.bool tx.g, .slice tx.A tx.n tx.c, .bool tx.gd, .slice tx.Ad tx.nd tx.cd] 27))).c1
  have kb2 := (Xb_10.out.on (below_new w10 (.cells #[.bool tx.g, .slice tx.A tx.n tx.c, .bool tx.gd, .slice tx.Ad tx.nd tx.cd] 27))).c2
  have kb3 := (Xb_10.out.on (below_new w10 (.cells #[.bool tx.g, .slice tx.A tx.n tx.c, .bool tx.gd, .slice tx.Ad tx.nd tx.cd] 27))).c3
  have kc0 := (Xc_10.out.on (below_new w10 (.cells #[.bool tx.g, .slice tx.A tx.n tx.c, .bool tx.gd, .slice tx.Ad tx.nd tx.cd] 27))).c0
  have kc1 := (Xc_10.out.on (below_new w10 (.cells #[.bool tx.g, .slice tx.A tx.n tx.c, .bool tx.gd, .slice tx.Ad tx.nd tx.cd] 27))).c1
  have kc2 := (Xc_10.out.on (below_new w10 (.cells #[.bool tx.g, .slice tx.A tx.n tx.c, .bool tx.gd, .slice tx.Ad tx.nd tx.cd] 27))).c2
  have kc3 := (Xc_10.out.on (below_new w10 (.cells #[.bool tx.g, .slice tx.A tx.n tx.c, .bool tx.gd, .slice tx.Ad tx.nd tx.cd] 27))).c3
  go_wp2_with fail
  generalize hW : World.alloc w10 _ = V11
  have hn := below_new w10 (.cells #[.bool tx.g, .slice tx.A tx.n tx.c, .bool tx.gd, .slice tx.Ad tx.nd tx.cd] 27)
  have hx := Rb.new Ix_10.out
  rw [hW] at hn hx
  have B_11 := Lib.hid (below_chain B_10.out (by have := B_10.out.size; have := HRr.out; omega) hn)
  have Xa_11 : Hid (Rb V11 r a) := Lib.hid (Xa_10.out.on hn)
  have Xb_11 : Hid (Rb V11 (r + 1) b) := Lib.hid (Xb_10.out.on hn)
  have Xc_11 : Hid (Rb V11 (r + 1 + 1) c) := Lib.hid (Xc_10.out.on hn)
  have Ix_11 : Hid (tx.In V11) := Lib.hid (Ix_10.out.on hn)
  have Xx_11 := Lib.hid hx
  clear hx hn hW B_10 Xa_10 Xb_10 Xc_10 Ix_10 Ix_11
  generalize w10.heap.size = b2 at *
  refine (add_v Xb_11.out.sl Xc_11.out.sl Vb.out Vc.out HB.out.2.1 HB.out.2.2 (by decide)).mono ?_
  clear kb0 kb1 kb2 kb3 kc0 kc1 kc2 kc3
  rintro e w12 ⟨ty, rfl, hi, hv, hb⟩
  have B_12 := Lib.hid (below_chain B_11.out (by have := B_11.out.size; have := HRr.out; omega) hb)
  have Xa_12 : Hid (Rb w12 r a) := Lib.hid (Xa_11.out.on hb)
  have Xb_12 : Hid (Rb w12 (r + 1) b) := Lib.hid (Xb_11.out.on hb)
  have Xc_12 : Hid (Rb w12 (r + 1 + 1) c) := Lib.hid (Xc_11.out.on hb)
  have Xx_12 : Hid (Rb w12 b2 tx) := Lib.hid (Xx_11.out.on hb)
  have Iy_12 : Hid (ty.In w12) := Lib.hid (hi)
  clear hb B_11 Xa_11 Xb_11 Xc_11 Xx_11 hi
  have Vy := Lib.hid hv
  clear hv
  have kx0 := (Xx_12.out.on (below_new w12 (.cells #[.bool ty.g, .slice ty.A ty.n ty.c, .bool ty.gd, .slice ty.Ad ty.nd ty.cd] 27))).c0
  have kx1 := (Xx_12.out.on (below_new w12 (.cells #[.bool ty.g, .slice ty.A ty.n ty.c, .bool ty.gd, .slice ty.Ad ty.nd ty.cd] 27))).c1
  have kx2 := (Xx_12.out.on (below_new w12 (.cells #[.bool ty.g, .slice ty.A ty.n ty.c, .bool ty.gd, .slice ty.Ad ty.nd ty.cd] 27))).c2
  have kx3 := (Xx_12.out.on (below_new w12 (.cells #[.bool ty.g, .slice ty.A ty.n ty.c, .bool ty.gd, .slice ty.Ad ty.nd ty.cd] 27))).c3
  go_wp2_with fail
  generalize hW : World.alloc w12 _ = V13
  have hn := below_new w12 (.cells #[.bool ty.g, .slice ty.A ty.n ty.c, .bool ty.gd, .slice ty.Ad ty.nd ty.cd] 27)
  have hx := Rb.new Iy_12.out
  rw [hW] at hn hx
  have B_13 := Lib.hid (below_chain B_12.out (by have := B_12.out.size; have := HRr.out; omega) hn)
  have Xa_13 : Hid (Rb V13 r a) := Lib.hid (Xa_12.out.on hn)
  have Xb_13 : Hid (Rb V13 (r + 1) b) := Lib.hid (Xb_12.out.on hn)
  have Xc_13 : Hid (Rb V13 (r + 1 + 1) c) := Lib.hid (Xc_12.out.on hn)
  have Xx_13 : Hid (Rb V13 b2 tx) := Lib.hid (Xx_12.out.on hn)
  have Iy_13 : Hid (ty.In V13) := Lib.hid (Iy_12.out.on hn)
  have Xy_13 := Lib.hid hx
  clear hx hn hW B_12 Xa_12 Xb_12 Xc_12 Xx_12 Iy_12 Iy_13
  generalize w12.heap.size = b3 at *
  refine (cmp_q Xx_13.out.sl Xy_13.out.sl Vx.out Vy.out 1 HC.out.2.2.2.2.2).mono ?_
  clear kx0 kx1 kx2 kx3
  rintro e w14 ⟨rfl, hb⟩
  have B_14 := Lib.hid (below_chain B_13.out (by have := B_13.out.size; have := HRr.out; omega) hb)
  have Xa_14 : Hid (Rb w14 r a) := Lib.hid (Xa_13.out.on hb)
  have Xb_14 : Hid (Rb w14 (r + 1) b) := Lib.hid (Xb_13.out.on hb)
  have Xc_14 : Hid (Rb w14 (r + 1 + 1) c) := Lib.hid (Xc_13.out.on hb)
  have Xx_14 : Hid (Rb w14 b2 tx) := Lib.hid (Xx_13.out.on hb)
  have Xy_14 : Hid (Rb w14 b3 ty) := Lib.hid (Xy_13.out.on hb)
  clear hb B_13 Xa_13 Xb_13 Xc_13 Xx_13 Xy_13
  go_wp2
  go_ret
  exact ⟨rfl, by rw [HRr.out]; exact B_14.out⟩

theorem rationalOrder_any (a b c : RVal) (w : World) (h1 : a.In w) (h2 : b.In w) (h3 : c.In w) :
    Calls Tryz.prog 10 #[.agg #[.bool a.g, .slice a.A a.n a.c, .bool a.gd, .slice a.Ad a.nd a.cd], .agg #[.bool b.g, .slice b.A b.n b.c, .bool b.gd, .slice b.Ad b.nd b.cd], .agg #[.bool c.g, .slice c.A c.n c.c, .bool c.gd, .slice c.Ad c.nd c.cd]] w fun e w' => e = .returned (.bool true) ∧ Below w.heap.size w w' := by
  rcases hv : vok a b c 32 with _ | _
  · exact ord_no a b c w h1 h2 h3 hv
  · obtain ⟨x, y, z, hx, hy, hz, bx, by', bz⟩ := vok_yes h1 h2 h3 hv
    have hB : Bd 1024 x ∧ Bd 1024 y ∧ Bd 1024 z := ⟨bx, by', bz⟩
    have e1 : (x + z) - (y + z) = x - y := by grind
    have e2 : y - x = -(x - y) := by grind
    have e3 : x - z = (x - y) + (y - z) := by grind
    have e4 : x - z = (y - z) + (x - y) := by grind
    have c1 := csgn x y
    have c2 := csgn y x
    have c3 := csgn y z
    have c4 := csgn x z
    have c5 := csgn (x + z) (y + z)
    rw [e1] at c5
    rw [e2, Rat.neg_num, Int.sign_neg] at c2
    rcases sign_three (x - y).num with ⟨s1, p1⟩ | ⟨s1, p1⟩ | ⟨s1, p1⟩
    · rw [s1] at c1 c2 c5
      exact ord_lt a b c w h1 h2 h3 x y z hx hy hz hB hv _ _ ⟨c1, c2, c3, c4, s1, c5⟩
    · rw [s1] at c1 c2 c5
      rcases sign_three (y - z).num with ⟨s2, p2⟩ | ⟨s2, p2⟩ | ⟨s2, p2⟩
      · rw [s2] at c3
        exact ord_eqlt a b c w h1 h2 h3 x y z hx hy hz hB hv _ ⟨c1, c2, c3, c4, s1, c5⟩
      · have e0 : x - z = 0 := by have k1 := num_zero p1; have k2 := num_zero p2; grind
        have n : (x - z).num.sign = 0 := by rw [e0]; rfl
        rw [s2] at c3
        rw [n] at c4
        exact ord_eqeq a b c w h1 h2 h3 x y z hx hy hz hB hv ⟨c1, c2, c3, c4, s1, c5⟩
      · have n : (x - z).num.sign = 1 := by rw [e4]; exact Int.sign_eq_one_of_pos (num_add_pos p2 (by omega))
        rw [s2] at c3
        rw [n] at c4
        exact ord_eqgt a b c w h1 h2 h3 x y z hx hy hz hB hv ⟨c1, c2, c3, c4, s1, c5⟩
    · rw [s1] at c1 c2 c5
      rcases sign_three (y - z).num with ⟨s2, p2⟩ | ⟨s2, p2⟩ | ⟨s2, p2⟩
      · rw [s2] at c3
        exact ord_gtlt a b c w h1 h2 h3 x y z hx hy hz hB hv _ ⟨c1, c2, c3, c4, s1, c5⟩
      · have n : (x - z).num.sign = 1 := by rw [e3]; exact Int.sign_eq_one_of_pos (num_add_pos p1 (by omega))
        rw [s2] at c3
        rw [n] at c4
        exact ord_gteq a b c w h1 h2 h3 x y z hx hy hz hB hv ⟨c1, c2, c3, c4, s1, c5⟩
      · have n : (x - z).num.sign = 1 := by rw [e3]; exact Int.sign_eq_one_of_pos (num_add_pos p1 (by omega))
        rw [s2] at c3
        rw [n] at c4
        exact ord_gtgt a b c w h1 h2 h3 x y z hx hy hz hB hv ⟨c1, c2, c3, c4, s1, c5⟩
end Go.Proofs.YtlibjampolcbhaaGreat