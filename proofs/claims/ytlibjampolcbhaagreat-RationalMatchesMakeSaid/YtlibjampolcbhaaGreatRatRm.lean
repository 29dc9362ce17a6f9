/-
  Stage 2: RationalMatchesMake, its walk.
-/
import Derived.Test.YtlibjampolcbhaaGreatRatRb
import Derived.Test.YtlibjampolcbhaaGreatRatO
import Derived.Test.YtlibjampolcbhaaGreatRatY
namespace Go.Proofs.YtlibjampolcbhaaGreat
open Go.RowKit

set_option linter.unusedSimpArgs false in
set_option maxRecDepth 20000 in
set_option maxHeartbeats 2000000 in
theorem make_false (ga : Bool) (Aa : Option Addr) (na ca : Nat) (xsa : List Nat) (gb : Bool) (Ab : Option Addr) (nb cb : Nat) (xsb : List Nat) (n d : Int) (w : World) (ha : Sl w w.heap.size Aa na ca xsa) (hb : Sl w w.heap.size Ab nb cb xsb) (z zd er y yd ey : Int) (h1 : (∀ w : World, Sl w w.heap.size Aa na ca xsa → Sl w w.heap.size Ab nb cb xsb → Calls Tryz.prog 16 #[.agg #[.bool ga, .slice Aa na ca], .agg #[.bool gb, .slice Ab nb cb]] w (RetR z zd er w)) ∧ ∀ w : World, Sl w w.heap.size Aa na ca xsa → Sl w w.heap.size Ab nb cb xsb → Calls Tryz.prog 17 #[.agg #[.bool ga, .slice Aa na ca], .agg #[.bool gb, .slice Ab nb cb]] w (RetR z zd er w)) (h2 : (∀ w : World, Calls Tryz.prog 18 #[.int .i64 n, .int .i64 d] w (RetR y yd ey w)) ∧ ∀ w : World, Calls Tryz.prog 19 #[.int .i64 n, .int .i64 d] w (RetR y yd ey w)) (hv : (rv (⟨ga, Aa, na, ca, xsa, gb, Ab, nb, cb, xsb⟩ : RVal).o (⟨ga, Aa, na, ca, xsa, gb, Ab, nb, cb, xsb⟩ : RVal).od).isSome = false) (hne : ∀ e : Int, (e == e) = true) :
    Calls Tryz.prog 3 #[.agg #[.bool ga, .slice Aa na ca], .agg #[.bool gb, .slice Ab nb cb], .int .i64 n, .int .i64 d] w fun e w' => e = .returned (.bool true) ∧ Below w.heap.size w w' := by
  have H1 := hI h1
  have H2 := hI h2
  have HV := hI hv
  have HN := hI hne
  clear h1 h2 hv hne
  have Ja_0 := hI ha
  clear ha
  have Jb_0 := hI hb
  clear hb
  have B_0 : Hid (Below w.heap.size w w) := hI (Below.refl _ _)
  go_enter Tryz.func3, Tryz.ntmps3
  go_wp2_with fail
  generalize hW : World.alloc w _ = W1
  have hn := below_new w (.cells #[.bool ga, .slice Aa na ca] 24)
  rw [hW] at hn
  have hz : W1.heap.size = w.heap.size + 1 := by rw [← hW]; simp
  have hx : Ba W1 w.heap.size ga Aa na ca xsa := by rw [← hW]; exact ⟨Bx.new w _ _ _ _, Ja_0.out.on (below_new _ _)⟩
  have Jb_1 := hI (Jb_0.out.on hn)
  have B_2 := hI (below_chain B_0.out B_0.out.size hn)
  generalize hr : w.heap.size = r at *
  have HRr := hI hr
  clear hr
  have Za_3 : Hid (Ba W1 r ga Aa na ca xsa) := hI hx
  have HT3 := hz
  clear hn hx hz hW Jb_0 B_0 Ja_0
  generalize hW : World.alloc W1 _ = W4
  have hn := below_new W1 (.cells #[.bool gb, .slice Ab nb cb] 24)
  rw [hW] at hn
  have hx : Ba W4 W1.heap.size gb Ab nb cb xsb := by rw [← hW]; exact ⟨Bx.new W1 _ _ _ _, Jb_1.out.on (below_new _ _)⟩
  have hlt : r < W1.heap.size := Za_3.out.bx.lt
  have B_4 := hI (bch B_2.out HRr.out hn)
  have Za_5 := hI (Za_3.out.on hn)
  rw [HT3] at hx hlt
  have Zb_6 : Hid (Ba W4 (r + 1) gb Ab nb cb xsb) := hI hx
  clear hn hx hW hlt B_2 Za_3 Jb_1
  clear HT3
  refine (sane W4).mono ?_
  rintro e w7 ⟨rfl, hb⟩
  have B_7 := hI (bch B_4.out HRr.out hb)
  have Za_8 := hI (Za_5.out.on hb)
  have Zb_9 := hI (Zb_6.out.on hb)
  clear hb B_4 Za_5 Zb_6
  have Iab_10 : Hid ((⟨ga, Aa, na, ca, xsa, gb, Ab, nb, cb, xsb⟩ : RVal).In w7) := hI ⟨Za_8.out.sl, Zb_9.out.sl⟩
  obtain ⟨ka0, ka1⟩ := Za_8.out.cs
  have la := Za_8.out.bx.lt
  obtain ⟨kb0, kb1⟩ := Zb_9.out.cs
  have lb := Zb_9.out.bx.lt
  obtain ⟨va0, va1⟩ := (Za_8.out.on (below_new w7 (.cells #[.bool ga, .slice Aa na ca, .bool gb, .slice Ab nb cb] 27))).cs
  obtain ⟨vb0, vb1⟩ := (Zb_9.out.on (below_new w7 (.cells #[.bool ga, .slice Aa na ca, .bool gb, .slice Ab nb cb] 27))).cs
  go_wp2_with fail
  generalize hW : World.alloc w7 _ = W11
  have hn := below_new w7 (.cells #[.bool ga, .slice Aa na ca, .bool gb, .slice Ab nb cb] 27)
  rw [hW] at hn
  have hx : Rb W11 w7.heap.size (⟨ga, Aa, na, ca, xsa, gb, Ab, nb, cb, xsb⟩ : RVal) := by rw [← hW]; exact Rb.new (q := (⟨ga, Aa, na, ca, xsa, gb, Ab, nb, cb, xsb⟩ : RVal)) Iab_10.out
  have hlt : (r + 1) < w7.heap.size := Zb_9.out.bx.lt
  have B_11 := hI (bch B_7.out HRr.out hn)
  have Za_12 := hI (Za_8.out.on hn)
  have Zb_13 := hI (Zb_9.out.on hn)
  generalize hbb : w7.heap.size = b1 at *
  clear hbb
  have Xr_14 : Hid (Rb W11 b1 (⟨ga, Aa, na, ca, xsa, gb, Ab, nb, cb, xsb⟩ : RVal)) := hI hx
  have O14 := hI hlt
  clear hn hx hW hlt B_7 Za_8 Zb_9 Iab_10
  refine (H1.out.1 W11 Za_12.out.sl Zb_13.out.sl).mono ?_
  clear ka0 ka1 la kb0 kb1 lb va0 va1 vb0 vb1
  rintro e w15 ⟨tm, rfl, hi, hv, hv2, hb⟩
  have B_15 := hI (bch B_11.out HRr.out hb)
  have Za_16 := hI (Za_12.out.on hb)
  have Zb_17 := hI (Zb_13.out.on hb)
  have Xr_18 := hI (Xr_14.out.on hb)
  have Im_19 : Hid (tm.In w15) := hI hi
  clear hb B_11 Za_12 Zb_13 Xr_14 hi
  have Vm := hI (And.intro hv hv2)
  clear hv hv2
  obtain ⟨ka0, ka1⟩ := (Za_16.out.on (below_new w15 (.cells #[.bool tm.g, .slice tm.A tm.n tm.c, .bool tm.gd, .slice tm.Ad tm.nd tm.cd] 27))).cs
  have la := Za_16.out.bx.lt
  obtain ⟨kb0, kb1⟩ := (Zb_17.out.on (below_new w15 (.cells #[.bool tm.g, .slice tm.A tm.n tm.c, .bool tm.gd, .slice tm.Ad tm.nd tm.cd] 27))).cs
  have lb := Zb_17.out.bx.lt
  go_wp2_with fail
  generalize hW : World.alloc w15 _ = W20
  have hn := below_new w15 (.cells #[.bool tm.g, .slice tm.A tm.n tm.c, .bool tm.gd, .slice tm.Ad tm.nd tm.cd] 27)
  rw [hW] at hn
  have hx : Rb W20 w15.heap.size tm := by rw [← hW]; exact Rb.new (q := tm) Im_19.out
  have hlt : b1 < w15.heap.size := Xr_18.out.lt
  have B_20 := hI (bch B_15.out HRr.out hn)
  have Za_21 := hI (Za_16.out.on hn)
  have Zb_22 := hI (Zb_17.out.on hn)
  have Xr_23 := hI (Xr_18.out.on hn)
  generalize hbb : w15.heap.size = b2 at *
  clear hbb
  have Xm_24 : Hid (Rb W20 b2 tm) := hI hx
  have O24 := hI hlt
  clear hn hx hW hlt B_15 Za_16 Zb_17 Xr_18 Im_19
  refine (H1.out.2 W20 Za_21.out.sl Zb_22.out.sl).mono ?_
  clear ka0 ka1 la kb0 kb1 lb
  rintro e w25 ⟨tk, rfl, hi, hv, hv2, hb⟩
  have B_25 := hI (bch B_20.out HRr.out hb)
  have Za_26 := hI (Za_21.out.on hb)
  have Zb_27 := hI (Zb_22.out.on hb)
  have Xr_28 := hI (Xr_23.out.on hb)
  have Xm_29 := hI (Xm_24.out.on hb)
  have Ik_30 : Hid (tk.In w25) := hI hi
  clear hb B_20 Za_21 Zb_22 Xr_23 Xm_24 hi
  have Vk := hI (And.intro hv hv2)
  clear hv hv2
  go_wp2_with fail
  generalize hW : World.alloc w25 _ = W31
  have hn := below_new w25 (.cells #[.bool tk.g, .slice tk.A tk.n tk.c, .bool tk.gd, .slice tk.Ad tk.nd tk.cd] 27)
  rw [hW] at hn
  have hx : Rb W31 w25.heap.size tk := by rw [← hW]; exact Rb.new (q := tk) Ik_30.out
  have hlt : b2 < w25.heap.size := Xm_29.out.lt
  have B_31 := hI (bch B_25.out HRr.out hn)
  have Za_32 := hI (Za_26.out.on hn)
  have Zb_33 := hI (Zb_27.out.on hn)
  have Xr_34 := hI (Xr_28.out.on hn)
  have Xm_35 := hI (Xm_29.out.on hn)
  generalize hbb : w25.heap.size = b3 at *
  clear hbb
  have Xk_36 : Hid (Rb W31 b3 tk) := hI hx
  have O36 := hI hlt
  clear hn hx hW hlt B_25 Za_26 Zb_27 Xr_28 Xm_29 Ik_30
  refine (H2.out.1 W31).mono ?_
  rintro e w37 ⟨tf, rfl, hi, hv, hv2, hb⟩
  have B_37 := hI (bch B_31.out HRr.out hb)
  have Za_38 := hI (Za_32.out.on hb)
  have Zb_39 := hI (Zb_33.out.on hb)
  have Xr_40 := hI (Xr_34.out.on hb)
  have Xm_41 := hI (Xm_35.out.on hb)
  have Xk_42 := hI (Xk_36.out.on hb)
  have If_43 : Hid (tf.In w37) := hI hi
  clear hb B_31 Za_32 Zb_33 Xr_34 Xm_35 Xk_36 hi
  have Vf := hI (And.intro hv hv2)
  clear hv hv2
  clear Za_38 Zb_39
  go_wp2_with fail
  generalize hW : World.alloc w37 _ = W44
  have hn := below_new w37 (.cells #[.bool tf.g, .slice tf.A tf.n tf.c, .bool tf.gd, .slice tf.Ad tf.nd tf.cd] 27)
  rw [hW] at hn
  have hx : Rb W44 w37.heap.size tf := by rw [← hW]; exact Rb.new (q := tf) If_43.out
  have hlt : b3 < w37.heap.size := Xk_42.out.lt
  have B_44 := hI (bch B_37.out HRr.out hn)
  have Xr_45 := hI (Xr_40.out.on hn)
  have Xm_46 := hI (Xm_41.out.on hn)
  have Xk_47 := hI (Xk_42.out.on hn)
  generalize hbb : w37.heap.size = b4 at *
  clear hbb
  have Xf_48 : Hid (Rb W44 b4 tf) := hI hx
  have O48 := hI hlt
  clear hn hx hW hlt B_37 Xr_40 Xm_41 Xk_42 If_43
  refine (H2.out.2 W44).mono ?_
  rintro e w49 ⟨tu, rfl, hi, hv, hv2, hb⟩
  have B_49 := hI (bch B_44.out HRr.out hb)
  have Xr_50 := hI (Xr_45.out.on hb)
  have Xm_51 := hI (Xm_46.out.on hb)
  have Xk_52 := hI (Xk_47.out.on hb)
  have Xf_53 := hI (Xf_48.out.on hb)
  have Iu_54 : Hid (tu.In w49) := hI hi
  clear hb B_44 Xr_45 Xm_46 Xk_47 Xf_48 hi
  have Vu := hI (And.intro hv hv2)
  clear hv hv2
  go_upto_region 7 with fail
  generalize hW : World.alloc w49 _ = W55
  have hn := below_new w49 (.cells #[.bool tu.g, .slice tu.A tu.n tu.c, .bool tu.gd, .slice tu.Ad tu.nd tu.cd] 27)
  rw [hW] at hn
  have hx : Rb W55 w49.heap.size tu := by rw [← hW]; exact Rb.new (q := tu) Iu_54.out
  have hlt : b4 < w49.heap.size := Xf_53.out.lt
  have B_55 := hI (bch B_49.out HRr.out hn)
  have Xr_56 := hI (Xr_50.out.on hn)
  have Xm_57 := hI (Xm_51.out.on hn)
  have Xk_58 := hI (Xk_52.out.on hn)
  have Xf_59 := hI (Xf_53.out.on hn)
  generalize hbb : w49.heap.size = b5 at *
  clear hbb
  have Xu_60 : Hid (Rb W55 b5 tu) := hI hx
  have O60 := hI hlt
  clear hn hx hW hlt B_49 Xr_50 Xm_51 Xk_52 Xf_53 Iu_54
  have q1 := HN.out er
  have q2 := HN.out ey
  obtain ⟨kr0, kr1, kr2, kr3⟩ := Xr_56.out.cs
  dsimp only at kr0 kr1 kr2 kr3
  have lr := Xr_56.out.lt
  obtain ⟨km0, km1, km2, km3⟩ := Xm_57.out.cs
  have lm := Xm_57.out.lt
  obtain ⟨kk0, kk1, kk2, kk3⟩ := Xk_58.out.cs
  have lk := Xk_58.out.lt
  obtain ⟨kf0, kf1, kf2, kf3⟩ := Xf_59.out.cs
  have lf := Xf_59.out.lt
  obtain ⟨ku0, ku1, ku2, ku3⟩ := Xu_60.out.cs
  have lu := Xu_60.out.lt
  have B_61 := hI (B_55.out.drew)
  have Xr_62 := hI (Xr_56.out.drew)
  have Xm_63 := hI (Xm_57.out.drew)
  have Xk_64 := hI (Xk_58.out.drew)
  have Xf_65 := hI (Xf_59.out.drew)
  have Xu_66 := hI (Xu_60.out.drew)
  go_region_held3 (fun w' => w'.cell? ⟨b1, 0, none⟩ = some (.bool ga) ∧ w'.cell? ⟨b1, 1, none⟩ = some (.slice Aa na ca) ∧ w'.cell? ⟨b1, 2, none⟩ = some (.bool gb) ∧ w'.cell? ⟨b1, 3, none⟩ = some (.slice Ab nb cb) ∧ w'.cell? ⟨b2, 0, none⟩ = some (.bool tm.g) ∧ w'.cell? ⟨b2, 1, none⟩ = some (.slice tm.A tm.n tm.c) ∧ w'.cell? ⟨b2, 2, none⟩ = some (.bool tm.gd) ∧ w'.cell? ⟨b2, 3, none⟩ = some (.slice tm.Ad tm.nd tm.cd) ∧ w'.cell? ⟨b3, 0, none⟩ = some (.bool tk.g) ∧ w'.cell? ⟨b3, 1, none⟩ = some (.slice tk.A tk.n tk.c) ∧ w'.cell? ⟨b3, 2, none⟩ = some (.bool tk.gd) ∧ w'.cell? ⟨b3, 3, none⟩ = some (.slice tk.Ad tk.nd tk.cd) ∧ w'.cell? ⟨b4, 0, none⟩ = some (.bool tf.g) ∧ w'.cell? ⟨b4, 1, none⟩ = some (.slice tf.A tf.n tf.c) ∧ w'.cell? ⟨b4, 2, none⟩ = some (.bool tf.gd) ∧ w'.cell? ⟨b4, 3, none⟩ = some (.slice tf.Ad tf.nd tf.cd) ∧ w'.cell? ⟨b5, 0, none⟩ = some (.bool tu.g) ∧ w'.cell? ⟨b5, 1, none⟩ = some (.slice tu.A tu.n tu.c) ∧ w'.cell? ⟨b5, 2, none⟩ = some (.bool tu.gd) ∧ w'.cell? ⟨b5, 3, none⟩ = some (.slice tu.Ad tu.nd tu.cd)) (go_keep)
    (first
      | (go_at_call 22; have C := same_q _ _ _ Xf_83.out.sl Xu_84.out.sl _ _ Vf.out.1 Vf.out.2 Vu.out.1 Vu.out.2; (with_reducible refine C.mono ?_); clear C; rintro e w85 ⟨rfl, hb⟩; have B_85 := hI (bch B_79.out HRr.out hb); have Xr_86 := hI (Xr_80.out.on hb); have Xm_87 := hI (Xm_81.out.on hb); have Xk_88 := hI (Xk_82.out.on hb); have Xf_89 := hI (Xf_83.out.on hb); have Xu_90 := hI (Xu_84.out.on hb); clear hb B_79 Xr_80 Xm_81 Xk_82 Xf_83 Xu_84 kr0 kr1 kr2 kr3 lr km0 km1 km2 km3 lm kk0 kk1 kk2 kk3 lk kf0 kf1 kf2 kf3 lf ku0 ku1 ku2 ku3 lu; obtain ⟨kr0, kr1, kr2, kr3⟩ := Xr_86.out.cs; dsimp only at kr0 kr1 kr2 kr3; have lr := Xr_86.out.lt; obtain ⟨km0, km1, km2, km3⟩ := Xm_87.out.cs; have lm := Xm_87.out.lt; obtain ⟨kk0, kk1, kk2, kk3⟩ := Xk_88.out.cs; have lk := Xk_88.out.lt; obtain ⟨kf0, kf1, kf2, kf3⟩ := Xf_89.out.cs; have lf := Xf_89.out.lt; obtain ⟨ku0, ku1, ku2, ku3⟩ := Xu_90.out.cs; have lu := Xu_90.out.lt)
      | (go_at_call 22; have C := same_q _ _ _ Xm_75.out.sl Xk_76.out.sl _ _ Vm.out.1 Vm.out.2 Vk.out.1 Vk.out.2; (with_reducible refine C.mono ?_); clear C; rintro e w79 ⟨rfl, hb⟩; have B_79 := hI (bch B_73.out HRr.out hb); have Xr_80 := hI (Xr_74.out.on hb); have Xm_81 := hI (Xm_75.out.on hb); have Xk_82 := hI (Xk_76.out.on hb); have Xf_83 := hI (Xf_77.out.on hb); have Xu_84 := hI (Xu_78.out.on hb); clear hb B_73 Xr_74 Xm_75 Xk_76 Xf_77 Xu_78 kr0 kr1 kr2 kr3 lr km0 km1 km2 km3 lm kk0 kk1 kk2 kk3 lk kf0 kf1 kf2 kf3 lf ku0 ku1 ku2 ku3 lu; obtain ⟨kr0, kr1, kr2, kr3⟩ := Xr_80.out.cs; dsimp only at kr0 kr1 kr2 kr3; have lr := Xr_80.out.lt; obtain ⟨km0, km1, km2, km3⟩ := Xm_81.out.cs; have lm := Xm_81.out.lt; obtain ⟨kk0, kk1, kk2, kk3⟩ := Xk_82.out.cs; have lk := Xk_82.out.lt; obtain ⟨kf0, kf1, kf2, kf3⟩ := Xf_83.out.cs; have lf := Xf_83.out.lt; obtain ⟨ku0, ku1, ku2, ku3⟩ := Xu_84.out.cs; have lu := Xu_84.out.lt)
      | (go_at_call 21; have C := rvalid2 Xr_68.out.sl; rw [HV.out] at C; (with_reducible refine C.mono ?_); clear C; rintro e w73 ⟨rfl, hb⟩; have B_73 := hI (bch B_67.out HRr.out hb); have Xr_74 := hI (Xr_68.out.on hb); have Xm_75 := hI (Xm_69.out.on hb); have Xk_76 := hI (Xk_70.out.on hb); have Xf_77 := hI (Xf_71.out.on hb); have Xu_78 := hI (Xu_72.out.on hb); clear hb B_67 Xr_68 Xm_69 Xk_70 Xf_71 Xu_72 kr0 kr1 kr2 kr3 lr km0 km1 km2 km3 lm kk0 kk1 kk2 kk3 lk kf0 kf1 kf2 kf3 lf ku0 ku1 ku2 ku3 lu; obtain ⟨kr0, kr1, kr2, kr3⟩ := Xr_74.out.cs; dsimp only at kr0 kr1 kr2 kr3; have lr := Xr_74.out.lt; obtain ⟨km0, km1, km2, km3⟩ := Xm_75.out.cs; have lm := Xm_75.out.lt; obtain ⟨kk0, kk1, kk2, kk3⟩ := Xk_76.out.cs; have lk := Xk_76.out.lt; obtain ⟨kf0, kf1, kf2, kf3⟩ := Xf_77.out.cs; have lf := Xf_77.out.lt; obtain ⟨ku0, ku1, ku2, ku3⟩ := Xu_78.out.cs; have lu := Xu_78.out.lt)
      | (go_at_call 20; have C := ratValid_r Xr_62.out.sl; rw [HV.out] at C; (with_reducible refine C.mono ?_); clear C; rintro e w67 ⟨rfl, hb⟩; have B_67 := hI (bch B_61.out HRr.out hb); have Xr_68 := hI (Xr_62.out.on hb); have Xm_69 := hI (Xm_63.out.on hb); have Xk_70 := hI (Xk_64.out.on hb); have Xf_71 := hI (Xf_65.out.on hb); have Xu_72 := hI (Xu_66.out.on hb); clear hb B_61 Xr_62 Xm_63 Xk_64 Xf_65 Xu_66 kr0 kr1 kr2 kr3 lr km0 km1 km2 km3 lm kk0 kk1 kk2 kk3 lk kf0 kf1 kf2 kf3 lf ku0 ku1 ku2 ku3 lu; obtain ⟨kr0, kr1, kr2, kr3⟩ := Xr_68.out.cs; dsimp only at kr0 kr1 kr2 kr3; have lr := Xr_68.out.lt; obtain ⟨km0, km1, km2, km3⟩ := Xm_69.out.cs; have lm := Xm_69.out.lt; obtain ⟨kk0, kk1, kk2, kk3⟩ := Xk_70.out.cs; have lk := Xk_70.out.lt; obtain ⟨kf0, kf1, kf2, kf3⟩ := Xf_71.out.cs; have lf := Xf_71.out.lt; obtain ⟨ku0, ku1, ku2, ku3⟩ := Xu_72.out.cs; have lu := Xu_72.out.lt))
  skip
  clear kr0 kr1 kr2 kr3 lr km0 km1 km2 km3 lm kk0 kk1 kk2 kk3 lk kf0 kf1 kf2 kf3 lf ku0 ku1 ku2 ku3 lu
  clear q1 q2
  go_wp2
  go_ret
  exact ⟨rfl, (by rw [HRr.out]; exact B_85.out)⟩

set_option linter.unusedSimpArgs false in
set_option maxRecDepth 20000 in
set_option maxHeartbeats 2000000 in
theorem make_true (ga : Bool) (Aa : Option Addr) (na ca : Nat) (xsa : List Nat) (gb : Bool) (Ab : Option Addr) (nb cb : Nat) (xsb : List Nat) (n d : Int) (w : World) (ha : Sl w w.heap.size Aa na ca xsa) (hb : Sl w w.heap.size Ab nb cb xsb) (z zd er y yd ey : Int) (h1 : (∀ w : World, Sl w w.heap.size Aa na ca xsa → Sl w w.heap.size Ab nb cb xsb → Calls Tryz.prog 16 #[.agg #[.bool ga, .slice Aa na ca], .agg #[.bool gb, .slice Ab nb cb]] w (RetR z zd er w)) ∧ ∀ w : World, Sl w w.heap.size Aa na ca xsa → Sl w w.heap.size Ab nb cb xsb → Calls Tryz.prog 17 #[.agg #[.bool ga, .slice Aa na ca], .agg #[.bool gb, .slice Ab nb cb]] w (RetR z zd er w)) (h2 : (∀ w : World, Calls Tryz.prog 18 #[.int .i64 n, .int .i64 d] w (RetR y yd ey w)) ∧ ∀ w : World, Calls Tryz.prog 19 #[.int .i64 n, .int .i64 d] w (RetR y yd ey w)) (hv : (rv (⟨ga, Aa, na, ca, xsa, gb, Ab, nb, cb, xsb⟩ : RVal).o (⟨ga, Aa, na, ca, xsa, gb, Ab, nb, cb, xsb⟩ : RVal).od).isSome = true) (hne : ∀ e : Int, (e == e) = true) :
    Calls Tryz.prog 3 #[.agg #[.bool ga, .slice Aa na ca], .agg #[.bool gb, .slice Ab nb cb], .int .i64 n, .int .i64 d] w fun e w' => e = .returned (.bool true) ∧ Below w.heap.size w w' := by
  have H1 := hI h1
  have H2 := hI h2
  have HV := hI hv
  have HN := hI hne
  clear h1 h2 hv hne
  have Ja_0 := hI ha
  clear ha
  have Jb_0 := hI hb
  clear hb
  have B_0 : Hid (Below w.heap.size w w) := hI (Below.refl _ _)
  go_enter Tryz.func3, Tryz.ntmps3
  go_wp2_with fail
  generalize hW : World.alloc w _ = W1
  have hn := below_new w (.cells #[.bool ga, .slice Aa na ca] 24)
  rw [hW] at hn
  have hz : W1.heap.size = w.heap.size + 1 := by rw [← hW]; simp
  have hx : Ba W1 w.heap.size ga Aa na ca xsa := by rw [← hW]; exact ⟨Bx.new w _ _ _ _, Ja_0.out.on (below_new _ _)⟩
  have Jb_1 := hI (Jb_0.out.on hn)
  have B_2 := hI (below_chain B_0.out B_0.out.size hn)
  generalize hr : w.heap.size = r at *
  have HRr := hI hr
  clear hr
  have Za_3 : Hid (Ba W1 r ga Aa na ca xsa) := hI hx
  have HT3 := hz
  clear hn hx hz hW Jb_0 B_0 Ja_0
  generalize hW : World.alloc W1 _ = W4
  have hn := below_new W1 (.cells #[.bool gb, .slice Ab nb cb] 24)
  rw [hW] at hn
  have hx : Ba W4 W1.heap.size gb Ab nb cb xsb := by rw [← hW]; exact ⟨Bx.new W1 _ _ _ _, Jb_1.out.on (below_new _ _)⟩
  have hlt : r < W1.heap.size := Za_3.out.bx.lt
  have B_4 := hI (bch B_2.out HRr.out hn)
  have Za_5 := hI (Za_3.out.on hn)
  rw [HT3] at hx hlt
  have Zb_6 : Hid (Ba W4 (r + 1) gb Ab nb cb xsb) := hI hx
  clear hn hx hW hlt B_2 Za_3 Jb_1
  clear HT3
  refine (sane W4).mono ?_
  rintro e w7 ⟨rfl, hb⟩
  have B_7 := hI (bch B_4.out HRr.out hb)
  have Za_8 := hI (Za_5.out.on hb)
  have Zb_9 := hI (Zb_6.out.on hb)
  clear hb B_4 Za_5 Zb_6
  have Iab_10 : Hid ((⟨ga, Aa, na, ca, xsa, gb, Ab, nb, cb, xsb⟩ : RVal).In w7) := hI ⟨Za_8.out.sl, Zb_9.out.sl⟩
  obtain ⟨ka0, ka1⟩ := Za_8.out.cs
  have la := Za_8.out.bx.lt
  obtain ⟨kb0, kb1⟩ := Zb_9.out.cs
  have lb := Zb_9.out.bx.lt
  obtain ⟨va0, va1⟩ := (Za_8.out.on (below_new w7 (.cells #[.bool ga, .slice Aa na ca, .bool gb, .slice Ab nb cb] 27))).cs
  obtain ⟨vb0, vb1⟩ := (Zb_9.out.on (below_new w7 (.cells #[.bool ga, .slice Aa na ca, .bool gb, .slice Ab nb cb] 27))).cs
  go_wp2_with fail
  generalize hW : World.alloc w7 _ = W11
  have hn := below_new w7 (.cells #[.bool ga, .slice Aa na ca, .bool gb, .slice Ab nb cb] 27)
  rw [hW] at hn
  have hx : Rb W11 w7.heap.size (⟨ga, Aa, na, ca, xsa, gb, Ab, nb, cb, xsb⟩ : RVal) := by rw [← hW]; exact Rb.new (q := (⟨ga, Aa, na, ca, xsa, gb, Ab, nb, cb, xsb⟩ : RVal)) Iab_10.out
  have hlt : (r + 1) < w7.heap.size := Zb_9.out.bx.lt
  have B_11 := hI (bch B_7.out HRr.out hn)
  have Za_12 := hI (Za_8.out.on hn)
  have Zb_13 := hI (Zb_9.out.on hn)
  generalize hbb : w7.heap.size = b1 at *
  clear hbb
  have Xr_14 : Hid (Rb W11 b1 (⟨ga, Aa, na, ca, xsa, gb, Ab, nb, cb, xsb⟩ : RVal)) := hI hx
  have O14 := hI hlt
  clear hn hx hW hlt B_7 Za_8 Zb_9 Iab_10
  refine (H1.out.1 W11 Za_12.out.sl Zb_13.out.sl).mono ?_
  clear ka0 ka1 la kb0 kb1 lb va0 va1 vb0 vb1
  rintro e w15 ⟨tm, rfl, hi, hv, hv2, hb⟩
  have B_15 := hI (bch B_11.out HRr.out hb)
  have Za_16 := hI (Za_12.out.on hb)
  have Zb_17 := hI (Zb_13.out.on hb)
  have Xr_18 := hI (Xr_14.out.on hb)
  have Im_19 : Hid (tm.In w15) := hI hi
  clear hb B_11 Za_12 Zb_13 Xr_14 hi
  have Vm := hI (And.intro hv hv2)
  clear hv hv2
  obtain ⟨ka0, ka1⟩ := (Za_16.out.on (below_new w15 (.cells #[.bool tm.g, .slice tm.A tm.n tm.c, .bool tm.gd, .slice tm.Ad tm.nd tm.cd] 27))).cs
  have la := Za_16.out.bx.lt
  obtain ⟨kb0, kb1⟩ := (Zb_17.out.on (below_new w15 (.cells #[.bool tm.g, .slice tm.A tm.n tm.c, .bool tm.gd, .slice tm.Ad tm.nd tm.cd] 27))).cs
  have lb := Zb_17.out.bx.lt
  go_wp2_with fail
  generalize hW : World.alloc w15 _ = W20
  have hn := below_new w15 (.cells #[.bool tm.g, .slice tm.A tm.n tm.c, .bool tm.gd, .slice tm.Ad tm.nd tm.cd] 27)
  rw [hW] at hn
  have hx : Rb W20 w15.heap.size tm := by rw [← hW]; exact Rb.new (q := tm) Im_19.out
  have hlt : b1 < w15.heap.size := Xr_18.out.lt
  have B_20 := hI (bch B_15.out HRr.out hn)
  have Za_21 := hI (Za_16.out.on hn)
  have Zb_22 := hI (Zb_17.out.on hn)
  have Xr_23 := hI (Xr_18.out.on hn)
  generalize hbb : w15.heap.size = b2 at *
  clear hbb
  have Xm_24 : Hid (Rb W20 b2 tm) := hI hx
  have O24 := hI hlt
  clear hn hx hW hlt B_15 Za_16 Zb_17 Xr_18 Im_19
  refine (H1.out.2 W20 Za_21.out.sl Zb_22.out.sl).mono ?_
  clear ka0 ka1 la kb0 kb1 lb
  rintro e w25 ⟨tk, rfl, hi, hv, hv2, hb⟩
  have B_25 := hI (bch B_20.out HRr.out hb)
  have Za_26 := hI (Za_21.out.on hb)
  have Zb_27 := hI (Zb_22.out.on hb)
  have Xr_28 := hI (Xr_23.out.on hb)
  have Xm_29 := hI (Xm_24.out.on hb)
  have Ik_30 : Hid (tk.In w25) := hI hi
  clear hb B_20 Za_21 Zb_22 Xr_23 Xm_24 hi
  have Vk := hI (And.intro hv hv2)
  clear hv hv2
  go_wp2_with fail
  generalize hW : World.alloc w25 _ = W31
  have hn := below_new w25 (.cells #[.bool tk.g, .slice tk.A tk.n tk.c, .bool tk.gd, .slice tk.Ad tk.nd tk.cd] 27)
  rw [hW] at hn
  have hx : Rb W31 w25.heap.size tk := by rw [← hW]; exact Rb.new (q := tk) Ik_30.out
  have hlt : b2 < w25.heap.size := Xm_29.out.lt
  have B_31 := hI (bch B_25.out HRr.out hn)
  have Za_32 := hI (Za_26.out.on hn)
  have Zb_33 := hI (Zb_27.out.on hn)
  have Xr_34 := hI (Xr_28.out.on hn)
  have Xm_35 := hI (Xm_29.out.on hn)
  generalize hbb : w25.heap.size = b3 at *
  clear hbb
  have Xk_36 : Hid (Rb W31 b3 tk) := hI hx
  have O36 := hI hlt
  clear hn hx hW hlt B_25 Za_26 Zb_27 Xr_28 Xm_29 Ik_30
  refine (H2.out.1 W31).mono ?_
  rintro e w37 ⟨tf, rfl, hi, hv, hv2, hb⟩
  have B_37 := hI (bch B_31.out HRr.out hb)
  have Za_38 := hI (Za_32.out.on hb)
  have Zb_39 := hI (Zb_33.out.on hb)
  have Xr_40 := hI (Xr_34.out.on hb)
  have Xm_41 := hI (Xm_35.out.on hb)
  have Xk_42 := hI (Xk_36.out.on hb)
  have If_43 : Hid (tf.In w37) := hI hi
  clear hb B_31 Za_32 Zb_33 Xr_34 Xm_35 Xk_36 hi
  have Vf := hI (And.intro hv hv2)
  clear hv hv2
  clear Za_38 Zb_39
  go_wp2_with fail
  generalize hW : World.alloc w37 _ = W44
  have hn := below_new w37 (.cells #[.bool tf.g, .slice tf.A tf.n tf.c, .bool tf.gd, .slice tf.Ad tf.nd tf.cd] 27)
  rw [hW] at hn
  have hx : Rb W44 w37.heap.size tf := by rw [← hW]; exact Rb.new (q := tf) If_43.out
  have hlt : b3 < w37.heap.size := Xk_42.out.lt
  have B_44 := hI (bch B_37.out HRr.out hn)
  have Xr_45 := hI (Xr_40.out.on hn)
  have Xm_46 := hI (Xm_41.out.on hn)
  have Xk_47 := hI (Xk_42.out.on hn)
  generalize hbb : w37.heap.size = b4 at *
  clear hbb
  have Xf_48 : Hid (Rb W44 b4 tf) := hI hx
  have O48 := hI hlt
  clear hn hx hW hlt B_37 Xr_40 Xm_41 Xk_42 If_43
  refine (H2.out.2 W44).mono ?_
  rintro e w49 ⟨tu, rfl, hi, hv, hv2, hb⟩
  have B_49 := hI (bch B_44.out HRr.out hb)
  have Xr_50 := hI (Xr_45.out.on hb)
  have Xm_51 := hI (Xm_46.out.on hb)
  have Xk_52 := hI (Xk_47.out.on hb)
  have Xf_53 := hI (Xf_48.out.on hb)
  have Iu_54 : Hid (tu.In w49) := hI hi
  clear hb B_44 Xr_45 Xm_46 Xk_47 Xf_48 hi
  have Vu := hI (And.intro hv hv2)
  clear hv hv2
  go_upto_region 7 with fail
  generalize hW : World.alloc w49 _ = W55
  have hn := below_new w49 (.cells #[.bool tu.g, .slice tu.A tu.n tu.c, .bool tu.gd, .slice tu.Ad tu.nd tu.cd] 27)
  rw [hW] at hn
  have hx : Rb W55 w49.heap.size tu := by rw [← hW]; exact Rb.new (q := tu) Iu_54.out
  have hlt : b4 < w49.heap.size := Xf_53.out.lt
  have B_55 := hI (bch B_49.out HRr.out hn)
  have Xr_56 := hI (Xr_50.out.on hn)
  have Xm_57 := hI (Xm_51.out.on hn)
  have Xk_58 := hI (Xk_52.out.on hn)
  have Xf_59 := hI (Xf_53.out.on hn)
  generalize hbb : w49.heap.size = b5 at *
  clear hbb
  have Xu_60 : Hid (Rb W55 b5 tu) := hI hx
  have O60 := hI hlt
  clear hn hx hW hlt B_49 Xr_50 Xm_51 Xk_52 Xf_53 Iu_54
  have q1 := HN.out er
  have q2 := HN.out ey
  obtain ⟨kr0, kr1, kr2, kr3⟩ := Xr_56.out.cs
  dsimp only at kr0 kr1 kr2 kr3
  have lr := Xr_56.out.lt
  obtain ⟨km0, km1, km2, km3⟩ := Xm_57.out.cs
  have lm := Xm_57.out.lt
  obtain ⟨kk0, kk1, kk2, kk3⟩ := Xk_58.out.cs
  have lk := Xk_58.out.lt
  obtain ⟨kf0, kf1, kf2, kf3⟩ := Xf_59.out.cs
  have lf := Xf_59.out.lt
  obtain ⟨ku0, ku1, ku2, ku3⟩ := Xu_60.out.cs
  have lu := Xu_60.out.lt
  have B_61 := hI (B_55.out.drew)
  have Xr_62 := hI (Xr_56.out.drew)
  have Xm_63 := hI (Xm_57.out.drew)
  have Xk_64 := hI (Xk_58.out.drew)
  have Xf_65 := hI (Xf_59.out.drew)
  have Xu_66 := hI (Xu_60.out.drew)
  go_region_held3 (fun w' => w'.cell? ⟨b1, 0, none⟩ = some (.bool ga) ∧ w'.cell? ⟨b1, 1, none⟩ = some (.slice Aa na ca) ∧ w'.cell? ⟨b1, 2, none⟩ = some (.bool gb) ∧ w'.cell? ⟨b1, 3, none⟩ = some (.slice Ab nb cb) ∧ w'.cell? ⟨b2, 0, none⟩ = some (.bool tm.g) ∧ w'.cell? ⟨b2, 1, none⟩ = some (.slice tm.A tm.n tm.c) ∧ w'.cell? ⟨b2, 2, none⟩ = some (.bool tm.gd) ∧ w'.cell? ⟨b2, 3, none⟩ = some (.slice tm.Ad tm.nd tm.cd) ∧ w'.cell? ⟨b3, 0, none⟩ = some (.bool tk.g) ∧ w'.cell? ⟨b3, 1, none⟩ = some (.slice tk.A tk.n tk.c) ∧ w'.cell? ⟨b3, 2, none⟩ = some (.bool tk.gd) ∧ w'.cell? ⟨b3, 3, none⟩ = some (.slice tk.Ad tk.nd tk.cd) ∧ w'.cell? ⟨b4, 0, none⟩ = some (.bool tf.g) ∧ w'.cell? ⟨b4, 1, none⟩ = some (.slice tf.A tf.n tf.c) ∧ w'.cell? ⟨b4, 2, none⟩ = some (.bool tf.gd) ∧ w'.cell? ⟨b4, 3, none⟩ = some (.slice tf.Ad tf.nd tf.cd) ∧ w'.cell? ⟨b5, 0, none⟩ = some (.bool tu.g) ∧ w'.cell? ⟨b5, 1, none⟩ = some (.slice tu.A tu.n tu.c) ∧ w'.cell? ⟨b5, 2, none⟩ = some (.bool tu.gd) ∧ w'.cell? ⟨b5, 3, none⟩ = some (.slice tu.Ad tu.nd tu.cd)) (go_keep)
    (first
      | (go_at_call 22; have C := same_q _ _ _ Xf_83.out.sl Xu_84.out.sl _ _ Vf.out.1 Vf.out.2 Vu.out.1 Vu.out.2; (with_reducible refine C.mono ?_); clear C; rintro e w85 ⟨rfl, hb⟩; have B_85 := hI (bch B_79.out HRr.out hb); have Xr_86 := hI (Xr_80.out.on hb); have Xm_87 := hI (Xm_81.out.on hb); have Xk_88 := hI (Xk_82.out.on hb); have Xf_89 := hI (Xf_83.out.on hb); have Xu_90 := hI (Xu_84.out.on hb); clear hb B_79 Xr_80 Xm_81 Xk_82 Xf_83 Xu_84 kr0 kr1 kr2 kr3 lr km0 km1 km2 km3 lm kk0 kk1 kk2 kk3 lk kf0 kf1 kf2 kf3 lf ku0 ku1 ku2 ku3 lu; obtain ⟨kr0, kr1, kr2, kr3⟩ := Xr_86.out.cs; dsimp only at kr0 kr1 kr2 kr3; have lr := Xr_86.out.lt; obtain ⟨km0, km1, km2, km3⟩ := Xm_87.out.cs; have lm := Xm_87.out.lt; obtain ⟨kk0, kk1, kk2, kk3⟩ := Xk_88.out.cs; have lk := Xk_88.out.lt; obtain ⟨kf0, kf1, kf2, kf3⟩ := Xf_89.out.cs; have lf := Xf_89.out.lt; obtain ⟨ku0, ku1, ku2, ku3⟩ := Xu_90.out.cs; have lu := Xu_90.out.lt)
      | (go_at_call 22; have C := same_q _ _ _ Xm_75.out.sl Xk_76.out.sl _ _ Vm.out.1 Vm.out.2 Vk.out.1 Vk.out.2; (with_reducible refine C.mono ?_); clear C; rintro e w79 ⟨rfl, hb⟩; have B_79 := hI (bch B_73.out HRr.out hb); have Xr_80 := hI (Xr_74.out.on hb); have Xm_81 := hI (Xm_75.out.on hb); have Xk_82 := hI (Xk_76.out.on hb); have Xf_83 := hI (Xf_77.out.on hb); have Xu_84 := hI (Xu_78.out.on hb); clear hb B_73 Xr_74 Xm_75 Xk_76 Xf_77 Xu_78 kr0 kr1 kr2 kr3 lr km0 km1 km2 km3 lm kk0 kk1 kk2 kk3 lk kf0 kf1 kf2 kf3 lf ku0 ku1 ku2 ku3 lu; obtain ⟨kr0, kr1, kr2, kr3⟩ := Xr_80.out.cs; dsimp only at kr0 kr1 kr2 kr3; have lr := Xr_80.out.lt; obtain ⟨km0, km1, km2, km3⟩ := Xm_81.out.cs; have lm := Xm_81.out.lt; obtain ⟨kk0, kk1, kk2, kk3⟩ := Xk_82.out.cs; have lk := Xk_82.out.lt; obtain ⟨kf0, kf1, kf2, kf3⟩ := Xf_83.out.cs; have lf := Xf_83.out.lt; obtain ⟨ku0, ku1, ku2, ku3⟩ := Xu_84.out.cs; have lu := Xu_84.out.lt)
      | (go_at_call 21; have C := rvalid2 Xr_68.out.sl; rw [HV.out] at C; (with_reducible refine C.mono ?_); clear C; rintro e w73 ⟨rfl, hb⟩; have B_73 := hI (bch B_67.out HRr.out hb); have Xr_74 := hI (Xr_68.out.on hb); have Xm_75 := hI (Xm_69.out.on hb); have Xk_76 := hI (Xk_70.out.on hb); have Xf_77 := hI (Xf_71.out.on hb); have Xu_78 := hI (Xu_72.out.on hb); clear hb B_67 Xr_68 Xm_69 Xk_70 Xf_71 Xu_72 kr0 kr1 kr2 kr3 lr km0 km1 km2 km3 lm kk0 kk1 kk2 kk3 lk kf0 kf1 kf2 kf3 lf ku0 ku1 ku2 ku3 lu; obtain ⟨kr0, kr1, kr2, kr3⟩ := Xr_74.out.cs; dsimp only at kr0 kr1 kr2 kr3; have lr := Xr_74.out.lt; obtain ⟨km0, km1, km2, km3⟩ := Xm_75.out.cs; have lm := Xm_75.out.lt; obtain ⟨kk0, kk1, kk2, kk3⟩ := Xk_76.out.cs; have lk := Xk_76.out.lt; obtain ⟨kf0, kf1, kf2, kf3⟩ := Xf_77.out.cs; have lf := Xf_77.out.lt; obtain ⟨ku0, ku1, ku2, ku3⟩ := Xu_78.out.cs; have lu := Xu_78.out.lt)
      | (go_at_call 20; have C := ratValid_r Xr_62.out.sl; rw [HV.out] at C; (with_reducible refine C.mono ?_); clear C; rintro e w67 ⟨rfl, hb⟩; have B_67 := hI (bch B_61.out HRr.out hb); have Xr_68 := hI (Xr_62.out.on hb); have Xm_69 := hI (Xm_63.out.on hb); have Xk_70 := hI (Xk_64.out.on hb); have Xf_71 := hI (Xf_65.out.on hb); have Xu_72 := hI (Xu_66.out.on hb); clear hb B_61 Xr_62 Xm_63 Xk_64 Xf_65 Xu_66 kr0 kr1 kr2 kr3 lr km0 km1 km2 km3 lm kk0 kk1 kk2 kk3 lk kf0 kf1 kf2 kf3 lf ku0 ku1 ku2 ku3 lu; obtain ⟨kr0, kr1, kr2, kr3⟩ := Xr_68.out.cs; dsimp only at kr0 kr1 kr2 kr3; have lr := Xr_68.out.lt; obtain ⟨km0, km1, km2, km3⟩ := Xm_69.out.cs; have lm := Xm_69.out.lt; obtain ⟨kk0, kk1, kk2, kk3⟩ := Xk_70.out.cs; have lk := Xk_70.out.lt; obtain ⟨kf0, kf1, kf2, kf3⟩ := Xf_71.out.cs; have lf := Xf_71.out.lt; obtain ⟨ku0, ku1, ku2, ku3⟩ := Xu_72.out.cs; have lu := Xu_72.out.lt))
  skip
  clear kr0 kr1 kr2 kr3 lr km0 km1 km2 km3 lm kk0 kk1 kk2 kk3 lk kf0 kf1 kf2 kf3 lf ku0 ku1 ku2 ku3 lu
  clear q1 q2
  go_wp2
  go_ret
  exact ⟨rfl, (by rw [HRr.out]; exact B_85.out)⟩

theorem rationalMatchesMake_any (g : Bool) (A : Option Addr) (k c : Nat) (xs : List Nat) (g' : Bool) (A' : Option Addr) (k' c' : Nat) (ys : List Nat) (n d : Int) (w : World) (h : Sl w w.heap.size A k c xs) (h' : Sl w w.heap.size A' k' c' ys) (n1 : -9223372036854775808 ≤ n) (n2 : n ≤ 9223372036854775807) (d1 : -9223372036854775808 ≤ d) (d2 : d ≤ 9223372036854775807) :
    Calls Tryz.prog 3 #[.agg #[.bool g, .slice A k c], .agg #[.bool g', .slice A' k' c'], .int .i64 n, .int .i64 d] w fun e w' => e = .returned (.bool true) ∧ Below w.heap.size w w' := by
  rcases hv : (rv (⟨g, A, k, c, xs, g', A', k', c', ys⟩ : RVal).o (⟨g, A, k, c, xs, g', A', k', c', ys⟩ : RVal).od).isSome with _ | _
  · exact make_false g A k c xs g' A' k' c' ys n d w h h' _ _ _ _ _ _ ⟨fun w h h' => make_ov h h', fun w h h' => rmake_ov h h'⟩ ⟨fun w => ratOf_any n d w n1 n2 d1 d2, fun w => rof_q n d w n1 n2 d1 d2⟩ hv (fun e => beq_self_eq_true e)
  · exact make_true g A k c xs g' A' k' c' ys n d w h h' _ _ _ _ _ _ ⟨fun w h h' => make_ov h h', fun w h h' => rmake_ov h h'⟩ ⟨fun w => ratOf_any n d w n1 n2 d1 d2, fun w => rof_q n d w n1 n2 d1 d2⟩ hv (fun e => beq_self_eq_true e)

end Go.Proofs.YtlibjampolcbhaaGreat