/-
  Stage 2: the reference's Add, Sub, Mul and Div.
-/
import Derived.Test.YtlibjampolcbhaaGreatRatRb
import Derived.Test.YtlibjampolcbhaaGreatRatI
namespace Go.Proofs.YtlibjampolcbhaaGreat
open Go.RowKit
section
variable {g g' : Bool} {A A' : Option Addr} {n c n' c' : Nat} {xs ys : List Nat} {w : World} {a b : Int}
theorem rmul_e (h : Sl w w.heap.size A n c xs) (h' : Sl w w.heap.size A' n' c' ys) (hx : ov g xs = some a) (hy : ov g' ys = some b) (z e : Int) (hz : fitZ (a * b) = z ∧ fitE (a * b) = e) :
    Calls Tryz.prog 70 #[.agg #[.bool g, .slice A n c], .agg #[.bool g', .slice A' n' c']] w (RetZE z e w) := by rw [← hz.1, ← hz.2]; exact rmul_z h h' hx hy
theorem radd_e (h : Sl w w.heap.size A n c xs) (h' : Sl w w.heap.size A' n' c' ys) (hx : ov g xs = some a) (hy : ov g' ys = some b) (z e : Int) (hz : fitZ (a + b) = z ∧ fitE (a + b) = e) :
    Calls Tryz.prog 113 #[.agg #[.bool g, .slice A n c], .agg #[.bool g', .slice A' n' c']] w (RetZE z e w) := by rw [← hz.1, ← hz.2]; exact radd_z h h' hx hy
end
set_option linter.unusedSimpArgs false in
set_option maxRecDepth 20000 in
set_option maxHeartbeats 2000000 in
theorem rsum_bad (p q : RVal) (w : World) (ha : p.In w) (hb : q.In w) (mi : Bool) (hv : ((rv p.o p.od).isSome && (rv q.o q.od).isSome) = false) :
    Calls Tryz.prog 65 #[.agg #[.bool p.g, .slice p.A p.n p.c, .bool p.gd, .slice p.Ad p.nd p.cd], .agg #[.bool q.g, .slice q.A q.n q.c, .bool q.gd, .slice q.Ad q.nd q.cd], .bool mi] w (RetR 0 0 1 w) := by
  have HV := hI hv
  clear hv
  have Ia_0 := hI ha
  clear ha
  have Ib_0 := hI hb
  clear hb
  have B_0 : Hid (Below w.heap.size w w) := hI (Below.refl _ _)
  go_enter Tryz.func65, Tryz.ntmps65
  go_wp2_with fail
  generalize hW : World.alloc w _ = W1
  have hn := below_new w (.cells #[.bool p.g, .slice p.A p.n p.c, .bool p.gd, .slice p.Ad p.nd p.cd] 27)
  rw [hW] at hn
  have hz : W1.heap.size = w.heap.size + 1 := by rw [← hW]; simp
  have hx : Rb W1 w.heap.size p := by rw [← hW]; exact Rb.new (q := p) Ia_0.out
  have Ib_1 := hI (Ib_0.out.on hn)
  have B_2 := hI (below_chain B_0.out B_0.out.size hn)
  generalize hr : w.heap.size = r at *
  have HRr := hI hr
  clear hr
  have Xa_3 : Hid (Rb W1 r p) := hI hx
  have HT3 := hz
  clear hn hx hz hW Ib_0 B_0 Ia_0
  generalize hW : World.alloc W1 _ = W4
  have hn := below_new W1 (.cells #[.bool q.g, .slice q.A q.n q.c, .bool q.gd, .slice q.Ad q.nd q.cd] 27)
  rw [hW] at hn
  have hz : W4.heap.size = W1.heap.size + 1 := by rw [← hW]; simp
  have hx : Rb W4 W1.heap.size q := by rw [← hW]; exact Rb.new (q := q) Ib_1.out
  have hlt : r < W1.heap.size := Xa_3.out.lt
  have B_4 := hI (bch B_2.out HRr.out hn)
  have Xa_5 := hI (Xa_3.out.on hn)
  rw [HT3] at hx hz hlt
  have Xb_6 : Hid (Rb W4 (r + 1) q) := hI hx
  have HT6 := hz
  clear hn hx hz hW hlt B_2 Xa_3 Ib_1
  generalize hW : World.alloc W4 _ = W7
  have hn := below_new W4 (.cells #[.bool false, .slice none 0 0, .bool false, .slice none 0 0] 27)
  rw [hW] at hn
  have hx : Rb W7 W4.heap.size RVal.nil := by rw [← hW]; exact Rb.new (q := RVal.nil) (RVal.nil_in W4)
  have hlt : (r + 1) < W4.heap.size := Xb_6.out.lt
  have B_7 := hI (bch B_4.out HRr.out hn)
  have Xa_8 := hI (Xa_5.out.on hn)
  have Xb_9 := hI (Xb_6.out.on hn)
  rw [HT6] at hx hlt
  have Xe_10 : Hid (Rb W7 (r + 1 + 1) RVal.nil) := hI hx
  clear hn hx hW hlt B_4 Xa_5 Xb_6
  clear HT3 HT6
  refine (rboth_q Xa_8.out.sl Xb_9.out.sl false HV.out).mono ?_
  rintro e w11 ⟨rfl, hb⟩
  have B_11 := hI (bch B_7.out HRr.out hb)
  have Xa_12 := hI (Xa_8.out.on hb)
  have Xb_13 := hI (Xb_9.out.on hb)
  have Xe_14 := hI (Xe_10.out.on hb)
  clear hb B_7 Xa_8 Xb_9 Xe_10
  obtain ⟨ke0, ke1, ke2, ke3⟩ := Xe_14.out.cs
  obtain ⟨fe0, fe1, fe2, fe3⟩ := Xe_14.out.fs
  simp only [RVal.nil] at ke0 ke1 ke2 ke3
  have le := Xe_14.out.lt
  go_wp2
  clear ke0 ke1 ke2 ke3 fe0 fe1 fe2 fe3 le
  generalize hW : World.setCell (World.setCell (World.setCell (World.setCell w11 _ _) _ _) _ _) _ _ = W15
  have B_15 : Hid (Below r w W15) := by rw [← hW]; exact hI (below_put4 B_11.out (by omega) _ _ _ _)
  have Xa_16 : Hid (Rb W15 r p) := by rw [← hW]; exact hI (Xa_12.out.pass Xe_14.out (by omega) _ _ _ _)
  have Xb_17 : Hid (Rb W15 (r + 1) q) := by rw [← hW]; exact hI (Xb_13.out.pass Xe_14.out (by omega) _ _ _ _)
  have Xe_18 : Hid (Rb W15 (r + 1 + 1) RVal.nil) := by rw [← hW]; exact hI (Rb.put (q' := RVal.nil) Xe_14.out (RVal.nil_in w11))
  clear hW B_11 Xa_12 Xb_13 Xe_14
  obtain ⟨j0, j1, j2, j3⟩ := Xe_18.out.cs
  try dsimp only at j0 j1 j2 j3
  simp only [RVal.nil] at j0 j1 j2 j3
  refine bodyPost_ret (v := .tuple #[.agg #[.bool false, .slice none 0 0, .bool false, .slice none 0 0], .int .i64 1]) (by simp [results, Tryz.results65, go_sem, j0, j1, j2, j3]) rfl ?_
  exact RetR.of Xe_18.out rfl rfl (by rw [HRr.out]; exact B_15.out)
set_option linter.unusedSimpArgs false in
set_option maxRecDepth 20000 in
set_option maxHeartbeats 2000000 in
theorem rsum_1 (p q : RVal) (w : World) (ha : p.In w) (hb : q.In w) (x y : Rat) (ha2 : rv p.o p.od = some x) (hb2 : rv q.o q.od = some y) (z1 er : Int) (m1 : fitZ (x.num * (y.den : Int)) = z1 ∧ fitE (x.num * (y.den : Int)) = er) (he : (er != 0) = true) (mi : Bool) :
    Calls Tryz.prog 65 #[.agg #[.bool p.g, .slice p.A p.n p.c, .bool p.gd, .slice p.Ad p.nd p.cd], .agg #[.bool q.g, .slice q.A q.n q.c, .bool q.gd, .slice q.Ad q.nd q.cd], .bool mi] w (RetR 0 0 er w) := by
  have Va := hI ha2
  have Vb := hI hb2
  have M1 := hI m1
  have HE := hI he
  clear ha2 hb2 m1 he
  have Ia_0 := hI ha
  clear ha
  have Ib_0 := hI hb
  clear hb
  have B_0 : Hid (Below w.heap.size w w) := hI (Below.refl _ _)
  go_enter Tryz.func65, Tryz.ntmps65
  go_wp2_with fail
  generalize hW : World.alloc w _ = W1
  have hn := below_new w (.cells #[.bool p.g, .slice p.A p.n p.c, .bool p.gd, .slice p.Ad p.nd p.cd] 27)
  rw [hW] at hn
  have hz : W1.heap.size = w.heap.size + 1 := by rw [← hW]; simp
  have hx : Rb W1 w.heap.size p := by rw [← hW]; exact Rb.new (q := p) Ia_0.out
  have Ib_1 := hI (Ib_0.out.on hn)
  have B_2 := hI (below_chain B_0.out B_0.out.size hn)
  generalize hr : w.heap.size = r at *
  have HRr := hI hr
  clear hr
  have Xa_3 : Hid (Rb W1 r p) := hI hx
  have HT3 := hz
  clear hn hx hz hW Ib_0 B_0 Ia_0
  generalize hW : World.alloc W1 _ = W4
  have hn := below_new W1 (.cells #[.bool q.g, .slice q.A q.n q.c, .bool q.gd, .slice q.Ad q.nd q.cd] 27)
  rw [hW] at hn
  have hz : W4.heap.size = W1.heap.size + 1 := by rw [← hW]; simp
  have hx : Rb W4 W1.heap.size q := by rw [← hW]; exact Rb.new (q := q) Ib_1.out
  have hlt : r < W1.heap.size := Xa_3.out.lt
  have B_4 := hI (bch B_2.out HRr.out hn)
  have Xa_5 := hI (Xa_3.out.on hn)
  rw [HT3] at hx hz hlt
  have Xb_6 : Hid (Rb W4 (r + 1) q) := hI hx
  have HT6 := hz
  clear hn hx hz hW hlt B_2 Xa_3 Ib_1
  generalize hW : World.alloc W4 _ = W7
  have hn := below_new W4 (.cells #[.bool false, .slice none 0 0, .bool false, .slice none 0 0] 27)
  rw [hW] at hn
  have hx : Rb W7 W4.heap.size RVal.nil := by rw [← hW]; exact Rb.new (q := RVal.nil) (RVal.nil_in W4)
  have hlt : (r + 1) < W4.heap.size := Xb_6.out.lt
  have B_7 := hI (bch B_4.out HRr.out hn)
  have Xa_8 := hI (Xa_5.out.on hn)
  have Xb_9 := hI (Xb_6.out.on hn)
  rw [HT6] at hx hlt
  have Xe_10 : Hid (Rb W7 (r + 1 + 1) RVal.nil) := hI hx
  clear hn hx hW hlt B_4 Xa_5 Xb_6
  clear HT3 HT6
  refine (rboth_q Xa_8.out.sl Xb_9.out.sl true (by rw [Va.out, Vb.out]; rfl)).mono ?_
  rintro e w11 ⟨rfl, hb⟩
  have B_11 := hI (bch B_7.out HRr.out hb)
  have Xa_12 := hI (Xa_8.out.on hb)
  have Xb_13 := hI (Xb_9.out.on hb)
  have Xe_14 := hI (Xe_10.out.on hb)
  clear hb B_7 Xa_8 Xb_9 Xe_10
  obtain ⟨ka0, ka1, ka2, ka3⟩ := Xa_12.out.cs
  have la := Xa_12.out.lt
  obtain ⟨kb0, kb1, kb2, kb3⟩ := Xb_13.out.cs
  have lb := Xb_13.out.lt
  go_wp2_with fail
  refine (rmul_e (g := p.g) (g' := q.gd) Xa_12.out.sl.1 Xb_13.out.sl.2 (rv_some Va.out).1 (rv_some Vb.out).2 _ _ M1.out).mono ?_
  clear ka0 ka1 ka2 ka3 la kb0 kb1 kb2 kb3 lb
  rintro e w15 ⟨gu, Au, nu, cu, xsu, rfl, hs, ho, hb⟩
  have B_15 := hI (bch B_11.out HRr.out hb)
  have Xa_16 := hI (Xa_12.out.on hb)
  have Xb_17 := hI (Xb_13.out.on hb)
  have Xe_18 := hI (Xe_14.out.on hb)
  have Ju_19 : Hid (Sl w15 w15.heap.size Au nu cu xsu) := hI hs
  clear hb B_11 Xa_12 Xb_13 Xe_14 hs
  have Vu := hI ho
  clear ho
  have hE : (er != 0) = true := HE.out
  clear Xa_16 Xb_17 Ju_19
  obtain ⟨ke0, ke1, ke2, ke3⟩ := Xe_18.out.cs
  obtain ⟨fe0, fe1, fe2, fe3⟩ := Xe_18.out.fs
  simp only [RVal.nil] at ke0 ke1 ke2 ke3
  have le := Xe_18.out.lt
  go_wp2
  clear ke0 ke1 ke2 ke3 fe0 fe1 fe2 fe3 le
  generalize hW : World.setCell (World.setCell (World.setCell (World.setCell w15 _ _) _ _) _ _) _ _ = W20
  have B_20 : Hid (Below r w W20) := by rw [← hW]; exact hI (below_put4 B_15.out (by omega) _ _ _ _)
  have Xe_21 : Hid (Rb W20 (r + 1 + 1) RVal.nil) := by rw [← hW]; exact hI (Rb.put (q' := RVal.nil) Xe_18.out (RVal.nil_in w15))
  clear hW B_15 Xe_18
  generalize hW : World.alloc W20 _ = W22
  have hn := below_new W20 (.cells #[.bool gu, .slice Au nu cu] 24)
  rw [hW] at hn
  have B_22 := hI (bch B_20.out HRr.out hn)
  have Xe_23 := hI (Xe_21.out.on hn)
  clear hn hW B_20 Xe_21
  obtain ⟨j0, j1, j2, j3⟩ := Xe_23.out.cs
  try dsimp only at j0 j1 j2 j3
  simp only [RVal.nil] at j0 j1 j2 j3
  refine bodyPost_ret (v := .tuple #[.agg #[.bool false, .slice none 0 0, .bool false, .slice none 0 0], .int .i64 er]) (by simp [results, Tryz.results65, go_sem, j0, j1, j2, j3]) rfl ?_
  exact RetR.of Xe_23.out rfl rfl (by rw [HRr.out]; exact B_22.out)
set_option linter.unusedSimpArgs false in
set_option maxRecDepth 20000 in
set_option maxHeartbeats 2000000 in
theorem rsum_2 (p q : RVal) (w : World) (ha : p.In w) (hb : q.In w) (x y : Rat) (ha2 : rv p.o p.od = some x) (hb2 : rv q.o q.od = some y) (z1 z2 er : Int) (m1 : fitZ (x.num * (y.den : Int)) = z1 ∧ fitE (x.num * (y.den : Int)) = 0) (m2 : fitZ (y.num * (x.den : Int)) = z2 ∧ fitE (y.num * (x.den : Int)) = er) (he : (er != 0) = true) (mi : Bool) :
    Calls Tryz.prog 65 #[.agg #[.bool p.g, .slice p.A p.n p.c, .bool p.gd, .slice p.Ad p.nd p.cd], .agg #[.bool q.g, .slice q.A q.n q.c, .bool q.gd, .slice q.Ad q.nd q.cd], .bool mi] w (RetR 0 0 er w) := by
  have Va := hI ha2
  have Vb := hI hb2
  have M1 := hI m1
  have M2 := hI m2
  have HE := hI he
  clear ha2 hb2 m1 m2 he
  have Ia_0 := hI ha
  clear ha
  have Ib_0 := hI hb
  clear hb
  have B_0 : Hid (Below w.heap.size w w) := hI (Below.refl _ _)
  go_enter Tryz.func65, Tryz.ntmps65
  go_wp2_with fail
  generalize hW : World.alloc w _ = W1
  have hn := below_new w (.cells #[.bool p.g, .slice p.A p.n p.c, .bool p.gd, .slice p.Ad p.nd p.cd] 27)
  rw [hW] at hn
  have hz : W1.heap.size = w.heap.size + 1 := by rw [← hW]; simp
  have hx : Rb W1 w.heap.size p := by rw [← hW]; exact Rb.new (q := p) Ia_0.out
  have Ib_1 := hI (Ib_0.out.on hn)
  have B_2 := hI (below_chain B_0.out B_0.out.size hn)
  generalize hr : w.heap.size = r at *
  have HRr := hI hr
  clear hr
  have Xa_3 : Hid (Rb W1 r p) := hI hx
  have HT3 := hz
  clear hn hx hz hW Ib_0 B_0 Ia_0
  generalize hW : World.alloc W1 _ = W4
  have hn := below_new W1 (.cells #[.bool q.g, .slice q.A q.n q.c, .bool q.gd, .slice q.Ad q.nd q.cd] 27)
  rw [hW] at hn
  have hz : W4.heap.size = W1.heap.size + 1 := by rw [← hW]; simp
  have hx : Rb W4 W1.heap.size q := by rw [← hW]; exact Rb.new (q := q) Ib_1.out
  have hlt : r < W1.heap.size := Xa_3.out.lt
  have B_4 := hI (bch B_2.out HRr.out hn)
  have Xa_5 := hI (Xa_3.out.on hn)
  rw [HT3] at hx hz hlt
  have Xb_6 : Hid (Rb W4 (r + 1) q) := hI hx
  have HT6 := hz
  clear hn hx hz hW hlt B_2 Xa_3 Ib_1
  generalize hW : World.alloc W4 _ = W7
  have hn := below_new W4 (.cells #[.bool false, .slice none 0 0, .bool false, .slice none 0 0] 27)
  rw [hW] at hn
  have hx : Rb W7 W4.heap.size RVal.nil := by rw [← hW]; exact Rb.new (q := RVal.nil) (RVal.nil_in W4)
  have hlt : (r + 1) < W4.heap.size := Xb_6.out.lt
  have B_7 := hI (bch B_4.out HRr.out hn)
  have Xa_8 := hI (Xa_5.out.on hn)
  have Xb_9 := hI (Xb_6.out.on hn)
  rw [HT6] at hx hlt
  have Xe_10 : Hid (Rb W7 (r + 1 + 1) RVal.nil) := hI hx
  clear hn hx hW hlt B_4 Xa_5 Xb_6
  clear HT3 HT6
  refine (rboth_q Xa_8.out.sl Xb_9.out.sl true (by rw [Va.out, Vb.out]; rfl)).mono ?_
  rintro e w11 ⟨rfl, hb⟩
  have B_11 := hI (bch B_7.out HRr.out hb)
  have Xa_12 := hI (Xa_8.out.on hb)
  have Xb_13 := hI (Xb_9.out.on hb)
  have Xe_14 := hI (Xe_10.out.on hb)
  clear hb B_7 Xa_8 Xb_9 Xe_10
  obtain ⟨ka0, ka1, ka2, ka3⟩ := Xa_12.out.cs
  have la := Xa_12.out.lt
  obtain ⟨kb0, kb1, kb2, kb3⟩ := Xb_13.out.cs
  have lb := Xb_13.out.lt
  go_wp2_with fail
  refine (rmul_e (g := p.g) (g' := q.gd) Xa_12.out.sl.1 Xb_13.out.sl.2 (rv_some Va.out).1 (rv_some Vb.out).2 _ _ M1.out).mono ?_
  clear ka0 ka1 ka2 ka3 la kb0 kb1 kb2 kb3 lb
  rintro e w15 ⟨gu, Au, nu, cu, xsu, rfl, hs, ho, hb⟩
  have B_15 := hI (bch B_11.out HRr.out hb)
  have Xa_16 := hI (Xa_12.out.on hb)
  have Xb_17 := hI (Xb_13.out.on hb)
  have Xe_18 := hI (Xe_14.out.on hb)
  have Ju_19 : Hid (Sl w15 w15.heap.size Au nu cu xsu) := hI hs
  clear hb B_11 Xa_12 Xb_13 Xe_14 hs
  have Vu := hI ho
  clear ho
  obtain ⟨ka0, ka1, ka2, ka3⟩ := (Xa_16.out.on (below_new w15 (.cells #[.bool gu, .slice Au nu cu] 24))).cs
  have la := Xa_16.out.lt
  obtain ⟨kb0, kb1, kb2, kb3⟩ := (Xb_17.out.on (below_new w15 (.cells #[.bool gu, .slice Au nu cu] 24))).cs
  have lb := Xb_17.out.lt
  go_wp2_with fail
  generalize hW : World.alloc w15 _ = W20
  have hn := below_new w15 (.cells #[.bool gu, .slice Au nu cu] 24)
  rw [hW] at hn
  have hx : Ba W20 w15.heap.size gu Au nu cu xsu := by rw [← hW]; exact ⟨Bx.new w15 _ _ _ _, Ju_19.out.on (below_new _ _)⟩
  have hlt : (r + 1 + 1) < w15.heap.size := Xe_18.out.lt
  have B_20 := hI (bch B_15.out HRr.out hn)
  have Xa_21 := hI (Xa_16.out.on hn)
  have Xb_22 := hI (Xb_17.out.on hn)
  have Xe_23 := hI (Xe_18.out.on hn)
  generalize hbb : w15.heap.size = b1 at *
  clear hbb
  have Zu_24 : Hid (Ba W20 b1 gu Au nu cu xsu) := hI hx
  have O24 := hI hlt
  clear hn hx hW hlt B_15 Xa_16 Xb_17 Xe_18 Ju_19
  refine (rmul_e (g := q.g) (g' := p.gd) Xb_22.out.sl.1 Xa_21.out.sl.2 (rv_some Vb.out).1 (rv_some Va.out).2 _ _ M2.out).mono ?_
  clear ka0 ka1 ka2 ka3 la kb0 kb1 kb2 kb3 lb
  rintro e w25 ⟨gv, Av, nv, cv, xsv, rfl, hs, ho, hb⟩
  have B_25 := hI (bch B_20.out HRr.out hb)
  have Xa_26 := hI (Xa_21.out.on hb)
  have Xb_27 := hI (Xb_22.out.on hb)
  have Xe_28 := hI (Xe_23.out.on hb)
  have Zu_29 := hI (Zu_24.out.on hb)
  have Jv_30 : Hid (Sl w25 w25.heap.size Av nv cv xsv) := hI hs
  clear hb B_20 Xa_21 Xb_22 Xe_23 Zu_24 hs
  have Vv := hI ho
  clear ho
  have hE : (er != 0) = true := HE.out
  clear Xa_26 Xb_27 Zu_29 Jv_30
  obtain ⟨ke0, ke1, ke2, ke3⟩ := Xe_28.out.cs
  obtain ⟨fe0, fe1, fe2, fe3⟩ := Xe_28.out.fs
  simp only [RVal.nil] at ke0 ke1 ke2 ke3
  have le := Xe_28.out.lt
  go_wp2
  clear ke0 ke1 ke2 ke3 fe0 fe1 fe2 fe3 le
  generalize hW : World.setCell (World.setCell (World.setCell (World.setCell w25 _ _) _ _) _ _) _ _ = W31
  have B_31 : Hid (Below r w W31) := by rw [← hW]; exact hI (below_put4 B_25.out (by omega) _ _ _ _)
  have Xe_32 : Hid (Rb W31 (r + 1 + 1) RVal.nil) := by rw [← hW]; exact hI (Rb.put (q' := RVal.nil) Xe_28.out (RVal.nil_in w25))
  clear hW B_25 Xe_28
  generalize hW : World.alloc W31 _ = W33
  have hn := below_new W31 (.cells #[.bool gv, .slice Av nv cv] 24)
  rw [hW] at hn
  have B_33 := hI (bch B_31.out HRr.out hn)
  have Xe_34 := hI (Xe_32.out.on hn)
  clear hn hW B_31 Xe_32
  obtain ⟨j0, j1, j2, j3⟩ := Xe_34.out.cs
  try dsimp only at j0 j1 j2 j3
  simp only [RVal.nil] at j0 j1 j2 j3
  refine bodyPost_ret (v := .tuple #[.agg #[.bool false, .slice none 0 0, .bool false, .slice none 0 0], .int .i64 er]) (by simp [results, Tryz.results65, go_sem, j0, j1, j2, j3]) rfl ?_
  exact RetR.of Xe_34.out rfl rfl (by rw [HRr.out]; exact B_33.out)
set_option linter.unusedSimpArgs false in
set_option maxRecDepth 20000 in
set_option maxHeartbeats 2000000 in
theorem rsum_3f (p q : RVal) (w : World) (ha : p.In w) (hb : q.In w) (x y : Rat) (ha2 : rv p.o p.od = some x) (hb2 : rv q.o q.od = some y) (z1 z2 z3 er : Int) (m1 : fitZ (x.num * (y.den : Int)) = z1 ∧ fitE (x.num * (y.den : Int)) = 0) (m2 : fitZ (y.num * (x.den : Int)) = z2 ∧ fitE (y.num * (x.den : Int)) = 0) (m3 : fitZ (z1 + z2) = z3 ∧ fitE (z1 + z2) = er) (he : (er != 0) = true) :
    Calls Tryz.prog 65 #[.agg #[.bool p.g, .slice p.A p.n p.c, .bool p.gd, .slice p.Ad p.nd p.cd], .agg #[.bool q.g, .slice q.A q.n q.c, .bool q.gd, .slice q.Ad q.nd q.cd], .bool false] w (RetR 0 0 er w) := by
  have Va := hI ha2
  have Vb := hI hb2
  have M1 := hI m1
  have M2 := hI m2
  have M3 := hI m3
  have HE := hI he
  clear ha2 hb2 m1 m2 m3 he
  have Ia_0 := hI ha
  clear ha
  have Ib_0 := hI hb
  clear hb
  have B_0 : Hid (Below w.heap.size w w) := hI (Below.refl _ _)
  go_enter Tryz.func65, Tryz.ntmps65
  go_wp2_with fail
  generalize hW : World.alloc w _ = W1
  have hn := below_new w (.cells #[.bool p.g, .slice p.A p.n p.c, .bool p.gd, .slice p.Ad p.nd p.cd] 27)
  rw [hW] at hn
  have hz : W1.heap.size = w.heap.size + 1 := by rw [← hW]; simp
  have hx : Rb W1 w.heap.size p := by rw [← hW]; exact Rb.new (q := p) Ia_0.out
  have Ib_1 := hI (Ib_0.out.on hn)
  have B_2 := hI (below_chain B_0.out B_0.out.size hn)
  generalize hr : w.heap.size = r at *
  have HRr := hI hr
  clear hr
  have Xa_3 : Hid (Rb W1 r p) := hI hx
  have HT3 := hz
  clear hn hx hz hW Ib_0 B_0 Ia_0
  generalize hW : World.alloc W1 _ = W4
  have hn := below_new W1 (.cells #[.bool q.g, .slice q.A q.n q.c, .bool q.gd, .slice q.Ad q.nd q.cd] 27)
  rw [hW] at hn
  have hz : W4.heap.size = W1.heap.size + 1 := by rw [← hW]; simp
  have hx : Rb W4 W1.heap.size q := by rw [← hW]; exact Rb.new (q := q) Ib_1.out
  have hlt : r < W1.heap.size := Xa_3.out.lt
  have B_4 := hI (bch B_2.out HRr.out hn)
  have Xa_5 := hI (Xa_3.out.on hn)
  rw [HT3] at hx hz hlt
  have Xb_6 : Hid (Rb W4 (r + 1) q) := hI hx
  have HT6 := hz
  clear hn hx hz hW hlt B_2 Xa_3 Ib_1
  generalize hW : World.alloc W4 _ = W7
  have hn := below_new W4 (.cells #[.bool false, .slice none 0 0, .bool false, .slice none 0 0] 27)
  rw [hW] at hn
  have hx : Rb W7 W4.heap.size RVal.nil := by rw [← hW]; exact Rb.new (q := RVal.nil) (RVal.nil_in W4)
  have hlt : (r + 1) < W4.heap.size := Xb_6.out.lt
  have B_7 := hI (bch B_4.out HRr.out hn)
  have Xa_8 := hI (Xa_5.out.on hn)
  have Xb_9 := hI (Xb_6.out.on hn)
  rw [HT6] at hx hlt
  have Xe_10 : Hid (Rb W7 (r + 1 + 1) RVal.nil) := hI hx
  clear hn hx hW hlt B_4 Xa_5 Xb_6
  clear HT3 HT6
  refine (rboth_q Xa_8.out.sl Xb_9.out.sl true (by rw [Va.out, Vb.out]; rfl)).mono ?_
  rintro e w11 ⟨rfl, hb⟩
  have B_11 := hI (bch B_7.out HRr.out hb)
  have Xa_12 := hI (Xa_8.out.on hb)
  have Xb_13 := hI (Xb_9.out.on hb)
  have Xe_14 := hI (Xe_10.out.on hb)
  clear hb B_7 Xa_8 Xb_9 Xe_10
  obtain ⟨ka0, ka1, ka2, ka3⟩ := Xa_12.out.cs
  have la := Xa_12.out.lt
  obtain ⟨kb0, kb1, kb2, kb3⟩ := Xb_13.out.cs
  have lb := Xb_13.out.lt
  go_wp2_with fail
  refine (rmul_e (g := p.g) (g' := q.gd) Xa_12.out.sl.1 Xb_13.out.sl.2 (rv_some Va.out).1 (rv_some Vb.out).2 _ _ M1.out).mono ?_
  clear ka0 ka1 ka2 ka3 la kb0 kb1 kb2 kb3 lb
  rintro e w15 ⟨gu, Au, nu, cu, xsu, rfl, hs, ho, hb⟩
  have B_15 := hI (bch B_11.out HRr.out hb)
  have Xa_16 := hI (Xa_12.out.on hb)
  have Xb_17 := hI (Xb_13.out.on hb)
  have Xe_18 := hI (Xe_14.out.on hb)
  have Ju_19 : Hid (Sl w15 w15.heap.size Au nu cu xsu) := hI hs
  clear hb B_11 Xa_12 Xb_13 Xe_14 hs
  have Vu := hI ho
  clear ho
  obtain ⟨ka0, ka1, ka2, ka3⟩ := (Xa_16.out.on (below_new w15 (.cells #[.bool gu, .slice Au nu cu] 24))).cs
  have la := Xa_16.out.lt
  obtain ⟨kb0, kb1, kb2, kb3⟩ := (Xb_17.out.on (below_new w15 (.cells #[.bool gu, .slice Au nu cu] 24))).cs
  have lb := Xb_17.out.lt
  go_wp2_with fail
  generalize hW : World.alloc w15 _ = W20
  have hn := below_new w15 (.cells #[.bool gu, .slice Au nu cu] 24)
  rw [hW] at hn
  have hx : Ba W20 w15.heap.size gu Au nu cu xsu := by rw [← hW]; exact ⟨Bx.new w15 _ _ _ _, Ju_19.out.on (below_new _ _)⟩
  have hlt : (r + 1 + 1) < w15.heap.size := Xe_18.out.lt
  have B_20 := hI (bch B_15.out HRr.out hn)
  have Xa_21 := hI (Xa_16.out.on hn)
  have Xb_22 := hI (Xb_17.out.on hn)
  have Xe_23 := hI (Xe_18.out.on hn)
  generalize hbb : w15.heap.size = b1 at *
  clear hbb
  have Zu_24 : Hid (Ba W20 b1 gu Au nu cu xsu) := hI hx
  have O24 := hI hlt
  clear hn hx hW hlt B_15 Xa_16 Xb_17 Xe_18 Ju_19
  refine (rmul_e (g := q.g) (g' := p.gd) Xb_22.out.sl.1 Xa_21.out.sl.2 (rv_some Vb.out).1 (rv_some Va.out).2 _ _ M2.out).mono ?_
  clear ka0 ka1 ka2 ka3 la kb0 kb1 kb2 kb3 lb
  rintro e w25 ⟨gv, Av, nv, cv, xsv, rfl, hs, ho, hb⟩
  have B_25 := hI (bch B_20.out HRr.out hb)
  have Xa_26 := hI (Xa_21.out.on hb)
  have Xb_27 := hI (Xb_22.out.on hb)
  have Xe_28 := hI (Xe_23.out.on hb)
  have Zu_29 := hI (Zu_24.out.on hb)
  have Jv_30 : Hid (Sl w25 w25.heap.size Av nv cv xsv) := hI hs
  clear hb B_20 Xa_21 Xb_22 Xe_23 Zu_24 hs
  have Vv := hI ho
  clear ho
  obtain ⟨ku0, ku1⟩ := (Zu_29.out.on (below_new w25 (.cells #[.bool gv, .slice Av nv cv] 24))).cs
  have lu := Zu_29.out.bx.lt
  go_wp2_with fail
  generalize hW : World.alloc w25 _ = W31
  have hn := below_new w25 (.cells #[.bool gv, .slice Av nv cv] 24)
  rw [hW] at hn
  have hx : Ba W31 w25.heap.size gv Av nv cv xsv := by rw [← hW]; exact ⟨Bx.new w25 _ _ _ _, Jv_30.out.on (below_new _ _)⟩
  have hlt : b1 < w25.heap.size := Zu_29.out.bx.lt
  have B_31 := hI (bch B_25.out HRr.out hn)
  have Xa_32 := hI (Xa_26.out.on hn)
  have Xb_33 := hI (Xb_27.out.on hn)
  have Xe_34 := hI (Xe_28.out.on hn)
  have Zu_35 := hI (Zu_29.out.on hn)
  generalize hbb : w25.heap.size = b2 at *
  clear hbb
  have Zv_36 : Hid (Ba W31 b2 gv Av nv cv xsv) := hI hx
  have O36 := hI hlt
  clear hn hx hW hlt B_25 Xa_26 Xb_27 Xe_28 Zu_29 Jv_30
  refine (radd_e Zu_35.out.sl Zv_36.out.sl Vu.out Vv.out _ _ M3.out).mono ?_
  clear ku0 ku1 lu
  rintro e w37 ⟨gs, As, ns, cs, xss, rfl, hs, ho, hb⟩
  have B_37 := hI (bch B_31.out HRr.out hb)
  have Xa_38 := hI (Xa_32.out.on hb)
  have Xb_39 := hI (Xb_33.out.on hb)
  have Xe_40 := hI (Xe_34.out.on hb)
  have Zu_41 := hI (Zu_35.out.on hb)
  have Zv_42 := hI (Zv_36.out.on hb)
  have Js_43 : Hid (Sl w37 w37.heap.size As ns cs xss) := hI hs
  clear hb B_31 Xa_32 Xb_33 Xe_34 Zu_35 Zv_36 hs
  have Vs := hI ho
  clear ho
  have hE : (er != 0) = true := HE.out
  clear Xa_38 Xb_39 Zu_41 Zv_42 Js_43
  obtain ⟨ke0, ke1, ke2, ke3⟩ := Xe_40.out.cs
  obtain ⟨fe0, fe1, fe2, fe3⟩ := Xe_40.out.fs
  simp only [RVal.nil] at ke0 ke1 ke2 ke3
  have le := Xe_40.out.lt
  go_wp2
  clear ke0 ke1 ke2 ke3 fe0 fe1 fe2 fe3 le
  generalize hW : World.setCell (World.setCell (World.setCell (World.setCell w37 _ _) _ _) _ _) _ _ = W44
  have B_44 : Hid (Below r w W44) := by rw [← hW]; exact hI (below_put4 B_37.out (by omega) _ _ _ _)
  have Xe_45 : Hid (Rb W44 (r + 1 + 1) RVal.nil) := by rw [← hW]; exact hI (Rb.put (q' := RVal.nil) Xe_40.out (RVal.nil_in w37))
  clear hW B_37 Xe_40
  generalize hW : World.alloc W44 _ = W46
  have hn := below_new W44 (.cells #[.bool gs, .slice As ns cs] 24)
  rw [hW] at hn
  have B_46 := hI (bch B_44.out HRr.out hn)
  have Xe_47 := hI (Xe_45.out.on hn)
  clear hn hW B_44 Xe_45
  obtain ⟨j0, j1, j2, j3⟩ := Xe_47.out.cs
  try dsimp only at j0 j1 j2 j3
  simp only [RVal.nil] at j0 j1 j2 j3
  refine bodyPost_ret (v := .tuple #[.agg #[.bool false, .slice none 0 0, .bool false, .slice none 0 0], .int .i64 er]) (by simp [results, Tryz.results65, go_sem, j0, j1, j2, j3]) rfl ?_
  exact RetR.of Xe_47.out rfl rfl (by rw [HRr.out]; exact B_46.out)
set_option linter.unusedSimpArgs false in
set_option maxRecDepth 20000 in
set_option maxHeartbeats 2000000 in
theorem rsum_3t (p q : RVal) (w : World) (ha : p.In w) (hb : q.In w) (x y : Rat) (ha2 : rv p.o p.od = some x) (hb2 : rv q.o q.od = some y) (z1 z2 z3 er : Int) (m1 : fitZ (x.num * (y.den : Int)) = z1 ∧ fitE (x.num * (y.den : Int)) = 0) (m2 : fitZ (y.num * (x.den : Int)) = z2 ∧ fitE (y.num * (x.den : Int)) = 0) (m3 : fitZ (z1 + (-z2)) = z3 ∧ fitE (z1 + (-z2)) = er) (he : (er != 0) = true) :
    Calls Tryz.prog 65 #[.agg #[.bool p.g, .slice p.A p.n p.c, .bool p.gd, .slice p.Ad p.nd p.cd], .agg #[.bool q.g, .slice q.A q.n q.c, .bool q.gd, .slice q.Ad q.nd q.cd], .bool true] w (RetR 0 0 er w) := by
  have Va := hI ha2
  have Vb := hI hb2
  have M1 := hI m1
  have M2 := hI m2
  have M3 := hI m3
  have HE := hI he
  clear ha2 hb2 m1 m2 m3 he
  have Ia_0 := hI ha
  clear ha
  have Ib_0 := hI hb
  clear hb
  have B_0 : Hid (Below w.heap.size w w) := hI (Below.refl _ _)
  go_enter Tryz.func65, Tryz.ntmps65
  go_wp2_with fail
  generalize hW : World.alloc w _ = W1
  have hn := below_new w (.cells #[.bool p.g, .slice p.A p.n p.c, .bool p.gd, .slice p.Ad p.nd p.cd] 27)
  rw [hW] at hn
  have hz : W1.heap.size = w.heap.size + 1 := by rw [← hW]; simp
  have hx : Rb W1 w.heap.size p := by rw [← hW]; exact Rb.new (q := p) Ia_0.out
  have Ib_1 := hI (Ib_0.out.on hn)
  have B_2 := hI (below_chain B_0.out B_0.out.size hn)
  generalize hr : w.heap.size = r at *
  have HRr := hI hr
  clear hr
  have Xa_3 : Hid (Rb W1 r p) := hI hx
  have HT3 := hz
  clear hn hx hz hW Ib_0 B_0 Ia_0
  generalize hW : World.alloc W1 _ = W4
  have hn := below_new W1 (.cells #[.bool q.g, .slice q.A q.n q.c, .bool q.gd, .slice q.Ad q.nd q.cd] 27)
  rw [hW] at hn
  have hz : W4.heap.size = W1.heap.size + 1 := by rw [← hW]; simp
  have hx : Rb W4 W1.heap.size q := by rw [← hW]; exact Rb.new (q := q) Ib_1.out
  have hlt : r < W1.heap.size := Xa_3.out.lt
  have B_4 := hI (bch B_2.out HRr.out hn)
  have Xa_5 := hI (Xa_3.out.on hn)
  rw [HT3] at hx hz hlt
  have Xb_6 : Hid (Rb W4 (r + 1) q) := hI hx
  have HT6 := hz
  clear hn hx hz hW hlt B_2 Xa_3 Ib_1
  generalize hW : World.alloc W4 _ = W7
  have hn := below_new W4 (.cells #[.bool false, .slice none 0 0, .bool false, .slice none 0 0] 27)
  rw [hW] at hn
  have hx : Rb W7 W4.heap.size RVal.nil := by rw [← hW]; exact Rb.new (q := RVal.nil) (RVal.nil_in W4)
  have hlt : (r + 1) < W4.heap.size := Xb_6.out.lt
  have B_7 := hI (bch B_4.out HRr.out hn)
  have Xa_8 := hI (Xa_5.out.on hn)
  have Xb_9 := hI (Xb_6.out.on hn)
  rw [HT6] at hx hlt
  have Xe_10 : Hid (Rb W7 (r + 1 + 1) RVal.nil) := hI hx
  clear hn hx hW hlt B_4 Xa_5 Xb_6
  clear HT3 HT6
  refine (rboth_q Xa_8.out.sl Xb_9.out.sl true (by rw [Va.out, Vb.out]; rfl)).mono ?_
  rintro e w11 ⟨rfl, hb⟩
  have B_11 := hI (bch B_7.out HRr.out hb)
  have Xa_12 := hI (Xa_8.out.on hb)
  have Xb_13 := hI (Xb_9.out.on hb)
  have Xe_14 := hI (Xe_10.out.on hb)
  clear hb B_7 Xa_8 Xb_9 Xe_10
  obtain ⟨ka0, ka1, ka2, ka3⟩ := Xa_12.out.cs
  have la := Xa_12.out.lt
  obtain ⟨kb0, kb1, kb2, kb3⟩ := Xb_13.out.cs
  have lb := Xb_13.out.lt
  go_wp2_with fail
  refine (rmul_e (g := p.g) (g' := q.gd) Xa_12.out.sl.1 Xb_13.out.sl.2 (rv_some Va.out).1 (rv_some Vb.out).2 _ _ M1.out).mono ?_
  clear ka0 ka1 ka2 ka3 la kb0 kb1 kb2 kb3 lb
  rintro e w15 ⟨gu, Au, nu, cu, xsu, rfl, hs, ho, hb⟩
  have B_15 := hI (bch B_11.out HRr.out hb)
  have Xa_16 := hI (Xa_12.out.on hb)
  have Xb_17 := hI (Xb_13.out.on hb)
  have Xe_18 := hI (Xe_14.out.on hb)
  have Ju_19 : Hid (Sl w15 w15.heap.size Au nu cu xsu) := hI hs
  clear hb B_11 Xa_12 Xb_13 Xe_14 hs
  have Vu := hI ho
  clear ho
  obtain ⟨ka0, ka1, ka2, ka3⟩ := (Xa_16.out.on (below_new w15 (.cells #[.bool gu, .slice Au nu cu] 24))).cs
  have la := Xa_16.out.lt
  obtain ⟨kb0, kb1, kb2, kb3⟩ := (Xb_17.out.on (below_new w15 (.cells #[.bool gu, .slice Au nu cu] 24))).cs
  have lb := Xb_17.out.lt
  go_wp2_with fail
  generalize hW : World.alloc w15 _ = W20
  have hn := below_new w15 (.cells #[.bool gu, .slice Au nu cu] 24)
  rw [hW] at hn
  have hx : Ba W20 w15.heap.size gu Au nu cu xsu := by rw [← hW]; exact ⟨Bx.new w15 _ _ _ _, Ju_19.out.on (below_new _ _)⟩
  have hlt : (r + 1 + 1) < w15.heap.size := Xe_18.out.lt
  have B_20 := hI (bch B_15.out HRr.out hn)
  have Xa_21 := hI (Xa_16.out.on hn)
  have Xb_22 := hI (Xb_17.out.on hn)
  have Xe_23 := hI (Xe_18.out.on hn)
  generalize hbb : w15.heap.size = b1 at *
  clear hbb
  have Zu_24 : Hid (Ba W20 b1 gu Au nu cu xsu) := hI hx
  have O24 := hI hlt
  clear hn hx hW hlt B_15 Xa_16 Xb_17 Xe_18 Ju_19
  refine (rmul_e (g := q.g) (g' := p.gd) Xb_22.out.sl.1 Xa_21.out.sl.2 (rv_some Vb.out).1 (rv_some Va.out).2 _ _ M2.out).mono ?_
  clear ka0 ka1 ka2 ka3 la kb0 kb1 kb2 kb3 lb
  rintro e w25 ⟨gv, Av, nv, cv, xsv, rfl, hs, ho, hb⟩
  have B_25 := hI (bch B_20.out HRr.out hb)
  have Xa_26 := hI (Xa_21.out.on hb)
  have Xb_27 := hI (Xb_22.out.on hb)
  have Xe_28 := hI (Xe_23.out.on hb)
  have Zu_29 := hI (Zu_24.out.on hb)
  have Jv_30 : Hid (Sl w25 w25.heap.size Av nv cv xsv) := hI hs
  clear hb B_20 Xa_21 Xb_22 Xe_23 Zu_24 hs
  have Vv := hI ho
  clear ho
  obtain ⟨ku0, ku1⟩ := (Zu_29.out.on (below_new w25 (.cells #[.bool gv, .slice Av nv cv] 24))).cs
  have lu := Zu_29.out.bx.lt
  go_wp2_with fail
  generalize hW : World.alloc w25 _ = W31
  have hn := below_new w25 (.cells #[.bool gv, .slice Av nv cv] 24)
  rw [hW] at hn
  have hx : Ba W31 w25.heap.size gv Av nv cv xsv := by rw [← hW]; exact ⟨Bx.new w25 _ _ _ _, Jv_30.out.on (below_new _ _)⟩
  have hlt : b1 < w25.heap.size := Zu_29.out.bx.lt
  have B_31 := hI (bch B_25.out HRr.out hn)
  have Xa_32 := hI (Xa_26.out.on hn)
  have Xb_33 := hI (Xb_27.out.on hn)
  have Xe_34 := hI (Xe_28.out.on hn)
  have Zu_35 := hI (Zu_29.out.on hn)
  generalize hbb : w25.heap.size = b2 at *
  clear hbb
  have Zv_36 : Hid (Ba W31 b2 gv Av nv cv xsv) := hI hx
  have O36 := hI hlt
  clear hn hx hW hlt B_25 Xa_26 Xb_27 Xe_28 Zu_29 Jv_30
  refine (rneg_z Zv_36.out.sl Vv.out).mono ?_
  clear ku0 ku1 lu
  rintro e w37 ⟨gm, Am, nm, cm, xsm, rfl, hs, ho, hb⟩
  have B_37 := hI (bch B_31.out HRr.out hb)
  have Xa_38 := hI (Xa_32.out.on hb)
  have Xb_39 := hI (Xb_33.out.on hb)
  have Xe_40 := hI (Xe_34.out.on hb)
  have Zu_41 := hI (Zu_35.out.on hb)
  have Zv_42 := hI (Zv_36.out.on hb)
  have Jm_43 : Hid (Sl w37 w37.heap.size Am nm cm xsm) := hI hs
  clear hb B_31 Xa_32 Xb_33 Xe_34 Zu_35 Zv_36 hs
  have Vm := hI ho
  clear ho
  obtain ⟨ku0, ku1⟩ := Zu_41.out.cs
  obtain ⟨fu0, fu1⟩ := Zu_41.out.fs
  have lu := Zu_41.out.bx.lt
  obtain ⟨kv0, kv1⟩ := Zv_42.out.cs
  obtain ⟨fv0, fv1⟩ := Zv_42.out.fs
  have lv := Zv_42.out.bx.lt
  have nuv : b1 ≠ b2 := by have := O36.out; omega
  have nvu := nuv.symm
  go_wp2_with fail
  clear ku0 ku1 fu0 fu1 lu kv0 kv1 fv0 fv1 lv nuv nvu
  generalize hW : World.setCell (World.setCell w37 _ _) _ _ = W44
  have B_44 : Hid (Below r w W44) := by rw [← hW]; exact hI (below_ret B_37.out (by have := O24.out; have := O36.out; omega) _ _)
  have Xa_45 : Hid (Rb W44 r p) := by rw [← hW]; exact hI (Xa_38.out.aside Zv_42.out (by have := O24.out; have := O36.out; omega) _ _)
  have Xb_46 : Hid (Rb W44 (r + 1) q) := by rw [← hW]; exact hI (Xb_39.out.aside Zv_42.out (by have := O24.out; have := O36.out; omega) _ _)
  have Xe_47 : Hid (Rb W44 (r + 1 + 1) RVal.nil) := by rw [← hW]; exact hI (Xe_40.out.aside Zv_42.out (by have := O24.out; have := O36.out; omega) _ _)
  have Zu_48 : Hid (Ba W44 b1 gu Au nu cu xsu) := by rw [← hW]; exact hI (Zu_41.out.aside Zv_42.out (by have := O36.out; omega) _ _)
  have Zv_49 : Hid (Ba W44 b2 gm Am nm cm xsm) := by rw [← hW]; exact hI (Zv_42.out.stored Jm_43.out _)
  clear hW B_37 Xa_38 Xb_39 Xe_40 Zu_41 Zv_42 Jm_43
  refine (radd_e Zu_48.out.sl Zv_49.out.sl Vu.out Vm.out _ _ M3.out).mono ?_
  rintro e w50 ⟨gs, As, ns, cs, xss, rfl, hs, ho, hb⟩
  have B_50 := hI (bch B_44.out HRr.out hb)
  have Xa_51 := hI (Xa_45.out.on hb)
  have Xb_52 := hI (Xb_46.out.on hb)
  have Xe_53 := hI (Xe_47.out.on hb)
  have Zu_54 := hI (Zu_48.out.on hb)
  have Zv_55 := hI (Zv_49.out.on hb)
  have Js_56 : Hid (Sl w50 w50.heap.size As ns cs xss) := hI hs
  clear hb B_44 Xa_45 Xb_46 Xe_47 Zu_48 Zv_49 hs
  have Vs := hI ho
  clear ho
  have hE : (er != 0) = true := HE.out
  clear Xa_51 Xb_52 Zu_54 Zv_55 Js_56
  obtain ⟨ke0, ke1, ke2, ke3⟩ := Xe_53.out.cs
  obtain ⟨fe0, fe1, fe2, fe3⟩ := Xe_53.out.fs
  simp only [RVal.nil] at ke0 ke1 ke2 ke3
  have le := Xe_53.out.lt
  go_wp2
  clear ke0 ke1 ke2 ke3 fe0 fe1 fe2 fe3 le
  generalize hW : World.setCell (World.setCell (World.setCell (World.setCell w50 _ _) _ _) _ _) _ _ = W57
  have B_57 : Hid (Below r w W57) := by rw [← hW]; exact hI (below_put4 B_50.out (by omega) _ _ _ _)
  have Xe_58 : Hid (Rb W57 (r + 1 + 1) RVal.nil) := by rw [← hW]; exact hI (Rb.put (q' := RVal.nil) Xe_53.out (RVal.nil_in w50))
  clear hW B_50 Xe_53
  generalize hW : World.alloc W57 _ = W59
  have hn := below_new W57 (.cells #[.bool gs, .slice As ns cs] 24)
  rw [hW] at hn
  have B_59 := hI (bch B_57.out HRr.out hn)
  have Xe_60 := hI (Xe_58.out.on hn)
  clear hn hW B_57 Xe_58
  obtain ⟨j0, j1, j2, j3⟩ := Xe_60.out.cs
  try dsimp only at j0 j1 j2 j3
  simp only [RVal.nil] at j0 j1 j2 j3
  refine bodyPost_ret (v := .tuple #[.agg #[.bool false, .slice none 0 0, .bool false, .slice none 0 0], .int .i64 er]) (by simp [results, Tryz.results65, go_sem, j0, j1, j2, j3]) rfl ?_
  exact RetR.of Xe_60.out rfl rfl (by rw [HRr.out]; exact B_59.out)
set_option linter.unusedSimpArgs false in
set_option maxRecDepth 20000 in
set_option maxHeartbeats 2000000 in
theorem rsum_4f (p q : RVal) (w : World) (ha : p.In w) (hb : q.In w) (x y : Rat) (ha2 : rv p.o p.od = some x) (hb2 : rv q.o q.od = some y) (z1 z2 z3 z4 er : Int) (m1 : fitZ (x.num * (y.den : Int)) = z1 ∧ fitE (x.num * (y.den : Int)) = 0) (m2 : fitZ (y.num * (x.den : Int)) = z2 ∧ fitE (y.num * (x.den : Int)) = 0) (m3 : fitZ (z1 + z2) = z3 ∧ fitE (z1 + z2) = 0) (m4 : fitZ ((x.den : Int) * (y.den : Int)) = z4 ∧ fitE ((x.den : Int) * (y.den : Int)) = er) (he : (er != 0) = true) :
    Calls Tryz.prog 65 #[.agg #[.bool p.g, .slice p.A p.n p.c, .bool p.gd, .slice p.Ad p.nd p.cd], .agg #[.bool q.g, .slice q.A q.n q.c, .bool q.gd, .slice q.Ad q.nd q.cd], .bool false] w (RetR 0 0 er w) := by
  have Va := hI ha2
  have Vb := hI hb2
  have M1 := hI m1
  have M2 := hI m2
  have M3 := hI m3
  have M4 := hI m4
  have HE := hI he
  clear ha2 hb2 m1 m2 m3 m4 he
  have Ia_0 := hI ha
  clear ha
  have Ib_0 := hI hb
  clear hb
  have B_0 : Hid (Below w.heap.size w w) := hI (Below.refl _ _)
  go_enter Tryz.func65, Tryz.ntmps65
  go_wp2_with fail
  generalize hW : World.alloc w _ = W1
  have hn := below_new w (.cells #[.bool p.g, .slice p.A p.n p.c, .bool p.gd, .slice p.Ad p.nd p.cd] 27)
  rw [hW] at hn
  have hz : W1.heap.size = w.heap.size + 1 := by rw [← hW]; simp
  have hx : Rb W1 w.heap.size p := by rw [← hW]; exact Rb.new (q := p) Ia_0.out
  have Ib_1 := hI (Ib_0.out.on hn)
  have B_2 := hI (below_chain B_0.out B_0.out.size hn)
  generalize hr : w.heap.size = r at *
  have HRr := hI hr
  clear hr
  have Xa_3 : Hid (Rb W1 r p) := hI hx
  have HT3 := hz
  clear hn hx hz hW Ib_0 B_0 Ia_0
  generalize hW : World.alloc W1 _ = W4
  have hn := below_new W1 (.cells #[.bool q.g, .slice q.A q.n q.c, .bool q.gd, .slice q.Ad q.nd q.cd] 27)
  rw [hW] at hn
  have hz : W4.heap.size = W1.heap.size + 1 := by rw [← hW]; simp
  have hx : Rb W4 W1.heap.size q := by rw [← hW]; exact Rb.new (q := q) Ib_1.out
  have hlt : r < W1.heap.size := Xa_3.out.lt
  have B_4 := hI (bch B_2.out HRr.out hn)
  have Xa_5 := hI (Xa_3.out.on hn)
  rw [HT3] at hx hz hlt
  have Xb_6 : Hid (Rb W4 (r + 1) q) := hI hx
  have HT6 := hz
  clear hn hx hz hW hlt B_2 Xa_3 Ib_1
  generalize hW : World.alloc W4 _ = W7
  have hn := below_new W4 (.cells #[.bool false, .slice none 0 0, .bool false, .slice none 0 0] 27)
  rw [hW] at hn
  have hx : Rb W7 W4.heap.size RVal.nil := by rw [← hW]; exact Rb.new (q := RVal.nil) (RVal.nil_in W4)
  have hlt : (r + 1) < W4.heap.size := Xb_6.out.lt
  have B_7 := hI (bch B_4.out HRr.out hn)
  have Xa_8 := hI (Xa_5.out.on hn)
  have Xb_9 := hI (Xb_6.out.on hn)
  rw [HT6] at hx hlt
  have Xe_10 : Hid (Rb W7 (r + 1 + 1) RVal.nil) := hI hx
  clear hn hx hW hlt B_4 Xa_5 Xb_6
  clear HT3 HT6
  refine (rboth_q Xa_8.out.sl Xb_9.out.sl true (by rw [Va.out, Vb.out]; rfl)).mono ?_
  rintro e w11 ⟨rfl, hb⟩
  have B_11 := hI (bch B_7.out HRr.out hb)
  have Xa_12 := hI (Xa_8.out.on hb)
  have Xb_13 := hI (Xb_9.out.on hb)
  have Xe_14 := hI (Xe_10.out.on hb)
  clear hb B_7 Xa_8 Xb_9 Xe_10
  obtain ⟨ka0, ka1, ka2, ka3⟩ := Xa_12.out.cs
  have la := Xa_12.out.lt
  obtain ⟨kb0, kb1, kb2, kb3⟩ := Xb_13.out.cs
  have lb := Xb_13.out.lt
  go_wp2_with fail
  refine (rmul_e (g := p.g) (g' := q.gd) Xa_12.out.sl.1 Xb_13.out.sl.2 (rv_some Va.out).1 (rv_some Vb.out).2 _ _ M1.out).mono ?_
  clear ka0 ka1 ka2 ka3 la kb0 kb1 kb2 kb3 lb
  rintro e w15 ⟨gu, Au, nu, cu, xsu, rfl, hs, ho, hb⟩
  have B_15 := hI (bch B_11.out HRr.out hb)
  have Xa_16 := hI (Xa_12.out.on hb)
  have Xb_17 := hI (Xb_13.out.on hb)
  have Xe_18 := hI (Xe_14.out.on hb)
  have Ju_19 : Hid (Sl w15 w15.heap.size Au nu cu xsu) := hI hs
  clear hb B_11 Xa_12 Xb_13 Xe_14 hs
  have Vu := hI ho
  clear ho
  obtain ⟨ka0, ka1, ka2, ka3⟩ := (Xa_16.out.on (below_new w15 (.cells #[.bool gu, .slice Au nu cu] 24))).cs
  have la := Xa_16.out.lt
  obtain ⟨kb0, kb1, kb2, kb3⟩ := (Xb_17.out.on (below_new w15 (.cells #[.bool gu, .slice Au nu cu] 24))).cs
  have lb := Xb_17.out.lt
  go_wp2_with fail
  generalize hW : World.alloc w15 _ = W20
  have hn := below_new w15 (.cells #[.bool gu, .slice Au nu cu] 24)
  rw [hW] at hn
  have hx : Ba W20 w15.heap.size gu Au nu cu xsu := by rw [← hW]; exact ⟨Bx.new w15 _ _ _ _, Ju_19.out.on (below_new _ _)⟩
  have hlt : (r + 1 + 1) < w15.heap.size := Xe_18.out.lt
  have B_20 := hI (bch B_15.out HRr.out hn)
  have Xa_21 := hI (Xa_16.out.on hn)
  have Xb_22 := hI (Xb_17.out.on hn)
  have Xe_23 := hI (Xe_18.out.on hn)
  generalize hbb : w15.heap.size = b1 at *
  clear hbb
  have Zu_24 : Hid (Ba W20 b1 gu Au nu cu xsu) := hI hx
  have O24 := hI hlt
  clear hn hx hW hlt B_15 Xa_16 Xb_17 Xe_18 Ju_19
  refine (rmul_e (g := q.g) (g' := p.gd) Xb_22.out.sl.1 Xa_21.out.sl.2 (rv_some Vb.out).1 (rv_some Va.out).2 _ _ M2.out).mono ?_
  clear ka0 ka1 ka2 ka3 la kb0 kb1 kb2 kb3 lb
  rintro e w25 ⟨gv, Av, nv, cv, xsv, rfl, hs, ho, hb⟩
  have B_25 := hI (bch B_20.out HRr.out hb)
  have Xa_26 := hI (Xa_21.out.on hb)
  have Xb_27 := hI (Xb_22.out.on hb)
  have Xe_28 := hI (Xe_23.out.on hb)
  have Zu_29 := hI (Zu_24.out.on hb)
  have Jv_30 : Hid (Sl w25 w25.heap.size Av nv cv xsv) := hI hs
  clear hb B_20 Xa_21 Xb_22 Xe_23 Zu_24 hs
  have Vv := hI ho
  clear ho
  obtain ⟨ku0, ku1⟩ := (Zu_29.out.on (below_new w25 (.cells #[.bool gv, .slice Av nv cv] 24))).cs
  have lu := Zu_29.out.bx.lt
  go_wp2_with fail
  generalize hW : World.alloc w25 _ = W31
  have hn := below_new w25 (.cells #[.bool gv, .slice Av nv cv] 24)
  rw [hW] at hn
  have hx : Ba W31 w25.heap.size gv Av nv cv xsv := by rw [← hW]; exact ⟨Bx.new w25 _ _ _ _, Jv_30.out.on (below_new _ _)⟩
  have hlt : b1 < w25.heap.size := Zu_29.out.bx.lt
  have B_31 := hI (bch B_25.out HRr.out hn)
  have Xa_32 := hI (Xa_26.out.on hn)
  have Xb_33 := hI (Xb_27.out.on hn)
  have Xe_34 := hI (Xe_28.out.on hn)
  have Zu_35 := hI (Zu_29.out.on hn)
  generalize hbb : w25.heap.size = b2 at *
  clear hbb
  have Zv_36 : Hid (Ba W31 b2 gv Av nv cv xsv) := hI hx
  have O36 := hI hlt
  clear hn hx hW hlt B_25 Xa_26 Xb_27 Xe_28 Zu_29 Jv_30
  refine (radd_e Zu_35.out.sl Zv_36.out.sl Vu.out Vv.out _ _ M3.out).mono ?_
  clear ku0 ku1 lu
  rintro e w37 ⟨gs, As, ns, cs, xss, rfl, hs, ho, hb⟩
  have B_37 := hI (bch B_31.out HRr.out hb)
  have Xa_38 := hI (Xa_32.out.on hb)
  have Xb_39 := hI (Xb_33.out.on hb)
  have Xe_40 := hI (Xe_34.out.on hb)
  have Zu_41 := hI (Zu_35.out.on hb)
  have Zv_42 := hI (Zv_36.out.on hb)
  have Js_43 : Hid (Sl w37 w37.heap.size As ns cs xss) := hI hs
  clear hb B_31 Xa_32 Xb_33 Xe_34 Zu_35 Zv_36 hs
  have Vs := hI ho
  clear ho
  clear Zu_41 Zv_42
  obtain ⟨ka0, ka1, ka2, ka3⟩ := (Xa_38.out.on (below_new w37 (.cells #[.bool gs, .slice As ns cs] 24))).cs
  have la := Xa_38.out.lt
  obtain ⟨kb0, kb1, kb2, kb3⟩ := (Xb_39.out.on (below_new w37 (.cells #[.bool gs, .slice As ns cs] 24))).cs
  have lb := Xb_39.out.lt
  go_wp2_with fail
  generalize hW : World.alloc w37 _ = W44
  have hn := below_new w37 (.cells #[.bool gs, .slice As ns cs] 24)
  rw [hW] at hn
  have hx : Ba W44 w37.heap.size gs As ns cs xss := by rw [← hW]; exact ⟨Bx.new w37 _ _ _ _, Js_43.out.on (below_new _ _)⟩
  have hlt : (r + 1 + 1) < w37.heap.size := Xe_40.out.lt
  have B_44 := hI (bch B_37.out HRr.out hn)
  have Xa_45 := hI (Xa_38.out.on hn)
  have Xb_46 := hI (Xb_39.out.on hn)
  have Xe_47 := hI (Xe_40.out.on hn)
  generalize hbb : w37.heap.size = b3 at *
  clear hbb
  have Zs_48 : Hid (Ba W44 b3 gs As ns cs xss) := hI hx
  have O48 := hI hlt
  clear hn hx hW hlt B_37 Xa_38 Xb_39 Xe_40 Js_43
  refine (rmul_e (g := p.gd) (g' := q.gd) Xa_45.out.sl.2 Xb_46.out.sl.2 (rv_some Va.out).2 (rv_some Vb.out).2 _ _ M4.out).mono ?_
  clear ka0 ka1 ka2 ka3 la kb0 kb1 kb2 kb3 lb
  rintro e w49 ⟨gd, Ad, nd, cd, xsd, rfl, hs, ho, hb⟩
  have B_49 := hI (bch B_44.out HRr.out hb)
  have Xa_50 := hI (Xa_45.out.on hb)
  have Xb_51 := hI (Xb_46.out.on hb)
  have Xe_52 := hI (Xe_47.out.on hb)
  have Zs_53 := hI (Zs_48.out.on hb)
  have Jd_54 : Hid (Sl w49 w49.heap.size Ad nd cd xsd) := hI hs
  clear hb B_44 Xa_45 Xb_46 Xe_47 Zs_48 hs
  have Vd := hI ho
  clear ho
  clear Xa_50 Xb_51
  have hE : (er != 0) = true := HE.out
  clear Zs_53 Jd_54
  obtain ⟨ke0, ke1, ke2, ke3⟩ := Xe_52.out.cs
  obtain ⟨fe0, fe1, fe2, fe3⟩ := Xe_52.out.fs
  simp only [RVal.nil] at ke0 ke1 ke2 ke3
  have le := Xe_52.out.lt
  go_wp2
  clear ke0 ke1 ke2 ke3 fe0 fe1 fe2 fe3 le
  generalize hW : World.setCell (World.setCell (World.setCell (World.setCell w49 _ _) _ _) _ _) _ _ = W55
  have B_55 : Hid (Below r w W55) := by rw [← hW]; exact hI (below_put4 B_49.out (by omega) _ _ _ _)
  have Xe_56 : Hid (Rb W55 (r + 1 + 1) RVal.nil) := by rw [← hW]; exact hI (Rb.put (q' := RVal.nil) Xe_52.out (RVal.nil_in w49))
  clear hW B_49 Xe_52
  generalize hW : World.alloc W55 _ = W57
  have hn := below_new W55 (.cells #[.bool gd, .slice Ad nd cd] 24)
  rw [hW] at hn
  have B_57 := hI (bch B_55.out HRr.out hn)
  have Xe_58 := hI (Xe_56.out.on hn)
  clear hn hW B_55 Xe_56
  obtain ⟨j0, j1, j2, j3⟩ := Xe_58.out.cs
  try dsimp only at j0 j1 j2 j3
  simp only [RVal.nil] at j0 j1 j2 j3
  refine bodyPost_ret (v := .tuple #[.agg #[.bool false, .slice none 0 0, .bool false, .slice none 0 0], .int .i64 er]) (by simp [results, Tryz.results65, go_sem, j0, j1, j2, j3]) rfl ?_
  exact RetR.of Xe_58.out rfl rfl (by rw [HRr.out]; exact B_57.out)
set_option linter.unusedSimpArgs false in
set_option maxRecDepth 20000 in
set_option maxHeartbeats 2000000 in
theorem rsum_4t (p q : RVal) (w : World) (ha : p.In w) (hb : q.In w) (x y : Rat) (ha2 : rv p.o p.od = some x) (hb2 : rv q.o q.od = some y) (z1 z2 z3 z4 er : Int) (m1 : fitZ (x.num * (y.den : Int)) = z1 ∧ fitE (x.num * (y.den : Int)) = 0) (m2 : fitZ (y.num * (x.den : Int)) = z2 ∧ fitE (y.num * (x.den : Int)) = 0) (m3 : fitZ (z1 + (-z2)) = z3 ∧ fitE (z1 + (-z2)) = 0) (m4 : fitZ ((x.den : Int) * (y.den : Int)) = z4 ∧ fitE ((x.den : Int) * (y.den : Int)) = er) (he : (er != 0) = true) :
    Calls Tryz.prog 65 #[.agg #[.bool p.g, .slice p.A p.n p.c, .bool p.gd, .slice p.Ad p.nd p.cd], .agg #[.bool q.g, .slice q.A q.n q.c, .bool q.gd, .slice q.Ad q.nd q.cd], .bool true] w (RetR 0 0 er w) := by
  have Va := hI ha2
  have Vb := hI hb2
  have M1 := hI m1
  have M2 := hI m2
  have M3 := hI m3
  have M4 := hI m4
  have HE := hI he
  clear ha2 hb2 m1 m2 m3 m4 he
  have Ia_0 := hI ha
  clear ha
  have Ib_0 := hI hb
  clear hb
  have B_0 : Hid (Below w.heap.size w w) := hI (Below.refl _ _)
  go_enter Tryz.func65, Tryz.ntmps65
  go_wp2_with fail
  generalize hW : World.alloc w _ = W1
  have hn := below_new w (.cells #[.bool p.g, .slice p.A p.n p.c, .bool p.gd, .slice p.Ad p.nd p.cd] 27)
  rw [hW] at hn
  have hz : W1.heap.size = w.heap.size + 1 := by rw [← hW]; simp
  have hx : Rb W1 w.heap.size p := by rw [← hW]; exact Rb.new (q := p) Ia_0.out
  have Ib_1 := hI (Ib_0.out.on hn)
  have B_2 := hI (below_chain B_0.out B_0.out.size hn)
  generalize hr : w.heap.size = r at *
  have HRr := hI hr
  clear hr
  have Xa_3 : Hid (Rb W1 r p) := hI hx
  have HT3 := hz
  clear hn hx hz hW Ib_0 B_0 Ia_0
  generalize hW : World.alloc W1 _ = W4
  have hn := below_new W1 (.cells #[.bool q.g, .slice q.A q.n q.c, .bool q.gd, .slice q.Ad q.nd q.cd] 27)
  rw [hW] at hn
  have hz : W4.heap.size = W1.heap.size + 1 := by rw [← hW]; simp
  have hx : Rb W4 W1.heap.size q := by rw [← hW]; exact Rb.new (q := q) Ib_1.out
  have hlt : r < W1.heap.size := Xa_3.out.lt
  have B_4 := hI (bch B_2.out HRr.out hn)
  have Xa_5 := hI (Xa_3.out.on hn)
  rw [HT3] at hx hz hlt
  have Xb_6 : Hid (Rb W4 (r + 1) q) := hI hx
  have HT6 := hz
  clear hn hx hz hW hlt B_2 Xa_3 Ib_1
  generalize hW : World.alloc W4 _ = W7
  have hn := below_new W4 (.cells #[.bool false, .slice none 0 0, .bool false, .slice none 0 0] 27)
  rw [hW] at hn
  have hx : Rb W7 W4.heap.size RVal.nil := by rw [← hW]; exact Rb.new (q := RVal.nil) (RVal.nil_in W4)
  have hlt : (r + 1) < W4.heap.size := Xb_6.out.lt
  have B_7 := hI (bch B_4.out HRr.out hn)
  have Xa_8 := hI (Xa_5.out.on hn)
  have Xb_9 := hI (Xb_6.out.on hn)
  rw [HT6] at hx hlt
  have Xe_10 : Hid (Rb W7 (r + 1 + 1) RVal.nil) := hI hx
  clear hn hx hW hlt B_4 Xa_5 Xb_6
  clear HT3 HT6
  refine (rboth_q Xa_8.out.sl Xb_9.out.sl true (by rw [Va.out, Vb.out]; rfl)).mono ?_
  rintro e w11 ⟨rfl, hb⟩
  have B_11 := hI (bch B_7.out HRr.out hb)
  have Xa_12 := hI (Xa_8.out.on hb)
  have Xb_13 := hI (Xb_9.out.on hb)
  have Xe_14 := hI (Xe_10.out.on hb)
  clear hb B_7 Xa_8 Xb_9 Xe_10
  obtain ⟨ka0, ka1, ka2, ka3⟩ := Xa_12.out.cs
  have la := Xa_12.out.lt
  obtain ⟨kb0, kb1, kb2, kb3⟩ := Xb_13.out.cs
  have lb := Xb_13.out.lt
  go_wp2_with fail
  refine (rmul_e (g := p.g) (g' := q.gd) Xa_12.out.sl.1 Xb_13.out.sl.2 (rv_some Va.out).1 (rv_some Vb.out).2 _ _ M1.out).mono ?_
  clear ka0 ka1 ka2 ka3 la kb0 kb1 kb2 kb3 lb
  rintro e w15 ⟨gu, Au, nu, cu, xsu, rfl, hs, ho, hb⟩
  have B_15 := hI (bch B_11.out HRr.out hb)
  have Xa_16 := hI (Xa_12.out.on hb)
  have Xb_17 := hI (Xb_13.out.on hb)
  have Xe_18 := hI (Xe_14.out.on hb)
  have Ju_19 : Hid (Sl w15 w15.heap.size Au nu cu xsu) := hI hs
  clear hb B_11 Xa_12 Xb_13 Xe_14 hs
  have Vu := hI ho
  clear ho
  obtain ⟨ka0, ka1, ka2, ka3⟩ := (Xa_16.out.on (below_new w15 (.cells #[.bool gu, .slice Au nu cu] 24))).cs
  have la := Xa_16.out.lt
  obtain ⟨kb0, kb1, kb2, kb3⟩ := (Xb_17.out.on (below_new w15 (.cells #[.bool gu, .slice Au nu cu] 24))).cs
  have lb := Xb_17.out.lt
  go_wp2_with fail
  generalize hW : World.alloc w15 _ = W20
  have hn := below_new w15 (.cells #[.bool gu, .slice Au nu cu] 24)
  rw [hW] at hn
  have hx : Ba W20 w15.heap.size gu Au nu cu xsu := by rw [← hW]; exact ⟨Bx.new w15 _ _ _ _, Ju_19.out.on (below_new _ _)⟩
  have hlt : (r + 1 + 1) < w15.heap.size := Xe_18.out.lt
  have B_20 := hI (bch B_15.out HRr.out hn)
  have Xa_21 := hI (Xa_16.out.on hn)
  have Xb_22 := hI (Xb_17.out.on hn)
  have Xe_23 := hI (Xe_18.out.on hn)
  generalize hbb : w15.heap.size = b1 at *
  clear hbb
  have Zu_24 : Hid (Ba W20 b1 gu Au nu cu xsu) := hI hx
  have O24 := hI hlt
  clear hn hx hW hlt B_15 Xa_16 Xb_17 Xe_18 Ju_19
  refine (rmul_e (g := q.g) (g' := p.gd) Xb_22.out.sl.1 Xa_21.out.sl.2 (rv_some Vb.out).1 (rv_some Va.out).2 _ _ M2.out).mono ?_
  clear ka0 ka1 ka2 ka3 la kb0 kb1 kb2 kb3 lb
  rintro e w25 ⟨gv, Av, nv, cv, xsv, rfl, hs, ho, hb⟩
  have B_25 := hI (bch B_20.out HRr.out hb)
  have Xa_26 := hI (Xa_21.out.on hb)
  have Xb_27 := hI (Xb_22.out.on hb)
  have Xe_28 := hI (Xe_23.out.on hb)
  have Zu_29 := hI (Zu_24.out.on hb)
  have Jv_30 : Hid (Sl w25 w25.heap.size Av nv cv xsv) := hI hs
  clear hb B_20 Xa_21 Xb_22 Xe_23 Zu_24 hs
  have Vv := hI ho
  clear ho
  obtain ⟨ku0, ku1⟩ := (Zu_29.out.on (below_new w25 (.cells #[.bool gv, .slice Av nv cv] 24))).cs
  have lu := Zu_29.out.bx.lt
  go_wp2_with fail
  generalize hW : World.alloc w25 _ = W31
  have hn := below_new w25 (.cells #[.bool gv, .slice Av nv cv] 24)
  rw [hW] at hn
  have hx : Ba W31 w25.heap.size gv Av nv cv xsv := by rw [← hW]; exact ⟨Bx.new w25 _ _ _ _, Jv_30.out.on (below_new _ _)⟩
  have hlt : b1 < w25.heap.size := Zu_29.out.bx.lt
  have B_31 := hI (bch B_25.out HRr.out hn)
  have Xa_32 := hI (Xa_26.out.on hn)
  have Xb_33 := hI (Xb_27.out.on hn)
  have Xe_34 := hI (Xe_28.out.on hn)
  have Zu_35 := hI (Zu_29.out.on hn)
  generalize hbb : w25.heap.size = b2 at *
  clear hbb
  have Zv_36 : Hid (Ba W31 b2 gv Av nv cv xsv) := hI hx
  have O36 := hI hlt
  clear hn hx hW hlt B_25 Xa_26 Xb_27 Xe_28 Zu_29 Jv_30
  refine (rneg_z Zv_36.out.sl Vv.out).mono ?_
  clear ku0 ku1 lu
  rintro e w37 ⟨gm, Am, nm, cm, xsm, rfl, hs, ho, hb⟩
  have B_37 := hI (bch B_31.out HRr.out hb)
  have Xa_38 := hI (Xa_32.out.on hb)
  have Xb_39 := hI (Xb_33.out.on hb)
  have Xe_40 := hI (Xe_34.out.on hb)
  have Zu_41 := hI (Zu_35.out.on hb)
  have Zv_42 := hI (Zv_36.out.on hb)
  have Jm_43 : Hid (Sl w37 w37.heap.size Am nm cm xsm) := hI hs
  clear hb B_31 Xa_32 Xb_33 Xe_34 Zu_35 Zv_36 hs
  have Vm := hI ho
  clear ho
  obtain ⟨ku0, ku1⟩ := Zu_41.out.cs
  obtain ⟨fu0, fu1⟩ := Zu_41.out.fs
  have lu := Zu_41.out.bx.lt
  obtain ⟨kv0, kv1⟩ := Zv_42.out.cs
  obtain ⟨fv0, fv1⟩ := Zv_42.out.fs
  have lv := Zv_42.out.bx.lt
  have nuv : b1 ≠ b2 := by have := O36.out; omega
  have nvu := nuv.symm
  go_wp2_with fail
  clear ku0 ku1 fu0 fu1 lu kv0 kv1 fv0 fv1 lv nuv nvu
  generalize hW : World.setCell (World.setCell w37 _ _) _ _ = W44
  have B_44 : Hid (Below r w W44) := by rw [← hW]; exact hI (below_ret B_37.out (by have := O24.out; have := O36.out; omega) _ _)
  have Xa_45 : Hid (Rb W44 r p) := by rw [← hW]; exact hI (Xa_38.out.aside Zv_42.out (by have := O24.out; have := O36.out; omega) _ _)
  have Xb_46 : Hid (Rb W44 (r + 1) q) := by rw [← hW]; exact hI (Xb_39.out.aside Zv_42.out (by have := O24.out; have := O36.out; omega) _ _)
  have Xe_47 : Hid (Rb W44 (r + 1 + 1) RVal.nil) := by rw [← hW]; exact hI (Xe_40.out.aside Zv_42.out (by have := O24.out; have := O36.out; omega) _ _)
  have Zu_48 : Hid (Ba W44 b1 gu Au nu cu xsu) := by rw [← hW]; exact hI (Zu_41.out.aside Zv_42.out (by have := O36.out; omega) _ _)
  have Zv_49 : Hid (Ba W44 b2 gm Am nm cm xsm) := by rw [← hW]; exact hI (Zv_42.out.stored Jm_43.out _)
  clear hW B_37 Xa_38 Xb_39 Xe_40 Zu_41 Zv_42 Jm_43
  refine (radd_e Zu_48.out.sl Zv_49.out.sl Vu.out Vm.out _ _ M3.out).mono ?_
  rintro e w50 ⟨gs, As, ns, cs, xss, rfl, hs, ho, hb⟩
  have B_50 := hI (bch B_44.out HRr.out hb)
  have Xa_51 := hI (Xa_45.out.on hb)
  have Xb_52 := hI (Xb_46.out.on hb)
  have Xe_53 := hI (Xe_47.out.on hb)
  have Zu_54 := hI (Zu_48.out.on hb)
  have Zv_55 := hI (Zv_49.out.on hb)
  have Js_56 : Hid (Sl w50 w50.heap.size As ns cs xss) := hI hs
  clear hb B_44 Xa_45 Xb_46 Xe_47 Zu_48 Zv_49 hs
  have Vs := hI ho
  clear ho
  clear Zu_54 Zv_55
  obtain ⟨ka0, ka1, ka2, ka3⟩ := (Xa_51.out.on (below_new w50 (.cells #[.bool gs, .slice As ns cs] 24))).cs
  have la := Xa_51.out.lt
  obtain ⟨kb0, kb1, kb2, kb3⟩ := (Xb_52.out.on (below_new w50 (.cells #[.bool gs, .slice As ns cs] 24))).cs
  have lb := Xb_52.out.lt
  go_wp2_with fail
  generalize hW : World.alloc w50 _ = W57
  have hn := below_new w50 (.cells #[.bool gs, .slice As ns cs] 24)
  rw [hW] at hn
  have hx : Ba W57 w50.heap.size gs As ns cs xss := by rw [← hW]; exact ⟨Bx.new w50 _ _ _ _, Js_56.out.on (below_new _ _)⟩
  have hlt : (r + 1 + 1) < w50.heap.size := Xe_53.out.lt
  have B_57 := hI (bch B_50.out HRr.out hn)
  have Xa_58 := hI (Xa_51.out.on hn)
  have Xb_59 := hI (Xb_52.out.on hn)
  have Xe_60 := hI (Xe_53.out.on hn)
  generalize hbb : w50.heap.size = b3 at *
  clear hbb
  have Zs_61 : Hid (Ba W57 b3 gs As ns cs xss) := hI hx
  have O61 := hI hlt
  clear hn hx hW hlt B_50 Xa_51 Xb_52 Xe_53 Js_56
  refine (rmul_e (g := p.gd) (g' := q.gd) Xa_58.out.sl.2 Xb_59.out.sl.2 (rv_some Va.out).2 (rv_some Vb.out).2 _ _ M4.out).mono ?_
  clear ka0 ka1 ka2 ka3 la kb0 kb1 kb2 kb3 lb
  rintro e w62 ⟨gd, Ad, nd, cd, xsd, rfl, hs, ho, hb⟩
  have B_62 := hI (bch B_57.out HRr.out hb)
  have Xa_63 := hI (Xa_58.out.on hb)
  have Xb_64 := hI (Xb_59.out.on hb)
  have Xe_65 := hI (Xe_60.out.on hb)
  have Zs_66 := hI (Zs_61.out.on hb)
  have Jd_67 : Hid (Sl w62 w62.heap.size Ad nd cd xsd) := hI hs
  clear hb B_57 Xa_58 Xb_59 Xe_60 Zs_61 hs
  have Vd := hI ho
  clear ho
  clear Xa_63 Xb_64
  have hE : (er != 0) = true := HE.out
  clear Zs_66 Jd_67
  obtain ⟨ke0, ke1, ke2, ke3⟩ := Xe_65.out.cs
  obtain ⟨fe0, fe1, fe2, fe3⟩ := Xe_65.out.fs
  simp only [RVal.nil] at ke0 ke1 ke2 ke3
  have le := Xe_65.out.lt
  go_wp2
  clear ke0 ke1 ke2 ke3 fe0 fe1 fe2 fe3 le
  generalize hW : World.setCell (World.setCell (World.setCell (World.setCell w62 _ _) _ _) _ _) _ _ = W68
  have B_68 : Hid (Below r w W68) := by rw [← hW]; exact hI (below_put4 B_62.out (by omega) _ _ _ _)
  have Xe_69 : Hid (Rb W68 (r + 1 + 1) RVal.nil) := by rw [← hW]; exact hI (Rb.put (q' := RVal.nil) Xe_65.out (RVal.nil_in w62))
  clear hW B_62 Xe_65
  generalize hW : World.alloc W68 _ = W70
  have hn := below_new W68 (.cells #[.bool gd, .slice Ad nd cd] 24)
  rw [hW] at hn
  have B_70 := hI (bch B_68.out HRr.out hn)
  have Xe_71 := hI (Xe_69.out.on hn)
  clear hn hW B_68 Xe_69
  obtain ⟨j0, j1, j2, j3⟩ := Xe_71.out.cs
  try dsimp only at j0 j1 j2 j3
  simp only [RVal.nil] at j0 j1 j2 j3
  refine bodyPost_ret (v := .tuple #[.agg #[.bool false, .slice none 0 0, .bool false, .slice none 0 0], .int .i64 er]) (by simp [results, Tryz.results65, go_sem, j0, j1, j2, j3]) rfl ?_
  exact RetR.of Xe_71.out rfl rfl (by rw [HRr.out]; exact B_70.out)
set_option linter.unusedSimpArgs false in
set_option maxRecDepth 20000 in
set_option maxHeartbeats 2000000 in
theorem rsum_5f (p q : RVal) (w : World) (ha : p.In w) (hb : q.In w) (x y : Rat) (ha2 : rv p.o p.od = some x) (hb2 : rv q.o q.od = some y) (z1 z2 z3 z4 : Int) (m1 : fitZ (x.num * (y.den : Int)) = z1 ∧ fitE (x.num * (y.den : Int)) = 0) (m2 : fitZ (y.num * (x.den : Int)) = z2 ∧ fitE (y.num * (x.den : Int)) = 0) (m3 : fitZ (z1 + z2) = z3 ∧ fitE (z1 + z2) = 0) (m4 : fitZ ((x.den : Int) * (y.den : Int)) = z4 ∧ fitE ((x.den : Int) * (y.den : Int)) = 0) (hz : z4 ≠ 0) :
    Calls Tryz.prog 65 #[.agg #[.bool p.g, .slice p.A p.n p.c, .bool p.gd, .slice p.Ad p.nd p.cd], .agg #[.bool q.g, .slice q.A q.n q.c, .bool q.gd, .slice q.Ad q.nd q.cd], .bool false] w (RetR (Rat.divInt z3 z4).num (Rat.divInt z3 z4).den 0 w) := by
  have Va := hI ha2
  have Vb := hI hb2
  have M1 := hI m1
  have M2 := hI m2
  have M3 := hI m3
  have M4 := hI m4
  have HZ := hI hz
  clear ha2 hb2 m1 m2 m3 m4 hz
  have Ia_0 := hI ha
  clear ha
  have Ib_0 := hI hb
  clear hb
  have B_0 : Hid (Below w.heap.size w w) := hI (Below.refl _ _)
  go_enter Tryz.func65, Tryz.ntmps65
  go_wp2_with fail
  generalize hW : World.alloc w _ = W1
  have hn := below_new w (.cells #[.bool p.g, .slice p.A p.n p.c, .bool p.gd, .slice p.Ad p.nd p.cd] 27)
  rw [hW] at hn
  have hz : W1.heap.size = w.heap.size + 1 := by rw [← hW]; simp
  have hx : Rb W1 w.heap.size p := by rw [← hW]; exact Rb.new (q := p) Ia_0.out
  have Ib_1 := hI (Ib_0.out.on hn)
  have B_2 := hI (below_chain B_0.out B_0.out.size hn)
  generalize hr : w.heap.size = r at *
  have HRr := hI hr
  clear hr
  have Xa_3 : Hid (Rb W1 r p) := hI hx
  have HT3 := hz
  clear hn hx hz hW Ib_0 B_0 Ia_0
  generalize hW : World.alloc W1 _ = W4
  have hn := below_new W1 (.cells #[.bool q.g, .slice q.A q.n q.c, .bool q.gd, .slice q.Ad q.nd q.cd] 27)
  rw [hW] at hn
  have hz : W4.heap.size = W1.heap.size + 1 := by rw [← hW]; simp
  have hx : Rb W4 W1.heap.size q := by rw [← hW]; exact Rb.new (q := q) Ib_1.out
  have hlt : r < W1.heap.size := Xa_3.out.lt
  have B_4 := hI (bch B_2.out HRr.out hn)
  have Xa_5 := hI (Xa_3.out.on hn)
  rw [HT3] at hx hz hlt
  have Xb_6 : Hid (Rb W4 (r + 1) q) := hI hx
  have HT6 := hz
  clear hn hx hz hW hlt B_2 Xa_3 Ib_1
  generalize hW : World.alloc W4 _ = W7
  have hn := below_new W4 (.cells #[.bool false, .slice none 0 0, .bool false, .slice none 0 0] 27)
  rw [hW] at hn
  have hx : Rb W7 W4.heap.size RVal.nil := by rw [← hW]; exact Rb.new (q := RVal.nil) (RVal.nil_in W4)
  have hlt : (r + 1) < W4.heap.size := Xb_6.out.lt
  have B_7 := hI (bch B_4.out HRr.out hn)
  have Xa_8 := hI (Xa_5.out.on hn)
  have Xb_9 := hI (Xb_6.out.on hn)
  rw [HT6] at hx hlt
  have Xe_10 : Hid (Rb W7 (r + 1 + 1) RVal.nil) := hI hx
  clear hn hx hW hlt B_4 Xa_5 Xb_6
  clear HT3 HT6
  refine (rboth_q Xa_8.out.sl Xb_9.out.sl true (by rw [Va.out, Vb.out]; rfl)).mono ?_
  rintro e w11 ⟨rfl, hb⟩
  have B_11 := hI (bch B_7.out HRr.out hb)
  have Xa_12 := hI (Xa_8.out.on hb)
  have Xb_13 := hI (Xb_9.out.on hb)
  have Xe_14 := hI (Xe_10.out.on hb)
  clear hb B_7 Xa_8 Xb_9 Xe_10
  obtain ⟨ka0, ka1, ka2, ka3⟩ := Xa_12.out.cs
  have la := Xa_12.out.lt
  obtain ⟨kb0, kb1, kb2, kb3⟩ := Xb_13.out.cs
  have lb := Xb_13.out.lt
  go_wp2_with fail
  refine (rmul_e (g := p.g) (g' := q.gd) Xa_12.out.sl.1 Xb_13.out.sl.2 (rv_some Va.out).1 (rv_some Vb.out).2 _ _ M1.out).mono ?_
  clear ka0 ka1 ka2 ka3 la kb0 kb1 kb2 kb3 lb
  rintro e w15 ⟨gu, Au, nu, cu, xsu, rfl, hs, ho, hb⟩
  have B_15 := hI (bch B_11.out HRr.out hb)
  have Xa_16 := hI (Xa_12.out.on hb)
  have Xb_17 := hI (Xb_13.out.on hb)
  have Xe_18 := hI (Xe_14.out.on hb)
  have Ju_19 : Hid (Sl w15 w15.heap.size Au nu cu xsu) := hI hs
  clear hb B_11 Xa_12 Xb_13 Xe_14 hs
  have Vu := hI ho
  clear ho
  obtain ⟨ka0, ka1, ka2, ka3⟩ := (Xa_16.out.on (below_new w15 (.cells #[.bool gu, .slice Au nu cu] 24))).cs
  have la := Xa_16.out.lt
  obtain ⟨kb0, kb1, kb2, kb3⟩ := (Xb_17.out.on (below_new w15 (.cells #[.bool gu, .slice Au nu cu] 24))).cs
  have lb := Xb_17.out.lt
  go_wp2_with fail
  generalize hW : World.alloc w15 _ = W20
  have hn := below_new w15 (.cells #[.bool gu, .slice Au nu cu] 24)
  rw [hW] at hn
  have hx : Ba W20 w15.heap.size gu Au nu cu xsu := by rw [← hW]; exact ⟨Bx.new w15 _ _ _ _, Ju_19.out.on (below_new _ _)⟩
  have hlt : (r + 1 + 1) < w15.heap.size := Xe_18.out.lt
  have B_20 := hI (bch B_15.out HRr.out hn)
  have Xa_21 := hI (Xa_16.out.on hn)
  have Xb_22 := hI (Xb_17.out.on hn)
  have Xe_23 := hI (Xe_18.out.on hn)
  generalize hbb : w15.heap.size = b1 at *
  clear hbb
  have Zu_24 : Hid (Ba W20 b1 gu Au nu cu xsu) := hI hx
  have O24 := hI hlt
  clear hn hx hW hlt B_15 Xa_16 Xb_17 Xe_18 Ju_19
  refine (rmul_e (g := q.g) (g' := p.gd) Xb_22.out.sl.1 Xa_21.out.sl.2 (rv_some Vb.out).1 (rv_some Va.out).2 _ _ M2.out).mono ?_
  clear ka0 ka1 ka2 ka3 la kb0 kb1 kb2 kb3 lb
  rintro e w25 ⟨gv, Av, nv, cv, xsv, rfl, hs, ho, hb⟩
  have B_25 := hI (bch B_20.out HRr.out hb)
  have Xa_26 := hI (Xa_21.out.on hb)
  have Xb_27 := hI (Xb_22.out.on hb)
  have Xe_28 := hI (Xe_23.out.on hb)
  have Zu_29 := hI (Zu_24.out.on hb)
  have Jv_30 : Hid (Sl w25 w25.heap.size Av nv cv xsv) := hI hs
  clear hb B_20 Xa_21 Xb_22 Xe_23 Zu_24 hs
  have Vv := hI ho
  clear ho
  obtain ⟨ku0, ku1⟩ := (Zu_29.out.on (below_new w25 (.cells #[.bool gv, .slice Av nv cv] 24))).cs
  have lu := Zu_29.out.bx.lt
  go_wp2_with fail
  generalize hW : World.alloc w25 _ = W31
  have hn := below_new w25 (.cells #[.bool gv, .slice Av nv cv] 24)
  rw [hW] at hn
  have hx : Ba W31 w25.heap.size gv Av nv cv xsv := by rw [← hW]; exact ⟨Bx.new w25 _ _ _ _, Jv_30.out.on (below_new _ _)⟩
  have hlt : b1 < w25.heap.size := Zu_29.out.bx.lt
  have B_31 := hI (bch B_25.out HRr.out hn)
  have Xa_32 := hI (Xa_26.out.on hn)
  have Xb_33 := hI (Xb_27.out.on hn)
  have Xe_34 := hI (Xe_28.out.on hn)
  have Zu_35 := hI (Zu_29.out.on hn)
  generalize hbb : w25.heap.size = b2 at *
  clear hbb
  have Zv_36 : Hid (Ba W31 b2 gv Av nv cv xsv) := hI hx
  have O36 := hI hlt
  clear hn hx hW hlt B_25 Xa_26 Xb_27 Xe_28 Zu_29 Jv_30
  refine (radd_e Zu_35.out.sl Zv_36.out.sl Vu.out Vv.out _ _ M3.out).mono ?_
  clear ku0 ku1 lu
  rintro e w37 ⟨gs, As, ns, cs, xss, rfl, hs, ho, hb⟩
  have B_37 := hI (bch B_31.out HRr.out hb)
  have Xa_38 := hI (Xa_32.out.on hb)
  have Xb_39 := hI (Xb_33.out.on hb)
  have Xe_40 := hI (Xe_34.out.on hb)
  have Zu_41 := hI (Zu_35.out.on hb)
  have Zv_42 := hI (Zv_36.out.on hb)
  have Js_43 : Hid (Sl w37 w37.heap.size As ns cs xss) := hI hs
  clear hb B_31 Xa_32 Xb_33 Xe_34 Zu_35 Zv_36 hs
  have Vs := hI ho
  clear ho
  clear Zu_41 Zv_42
  obtain ⟨ka0, ka1, ka2, ka3⟩ := (Xa_38.out.on (below_new w37 (.cells #[.bool gs, .slice As ns cs] 24))).cs
  have la := Xa_38.out.lt
  obtain ⟨kb0, kb1, kb2, kb3⟩ := (Xb_39.out.on (below_new w37 (.cells #[.bool gs, .slice As ns cs] 24))).cs
  have lb := Xb_39.out.lt
  go_wp2_with fail
  generalize hW : World.alloc w37 _ = W44
  have hn := below_new w37 (.cells #[.bool gs, .slice As ns cs] 24)
  rw [hW] at hn
  have hx : Ba W44 w37.heap.size gs As ns cs xss := by rw [← hW]; exact ⟨Bx.new w37 _ _ _ _, Js_43.out.on (below_new _ _)⟩
  have hlt : (r + 1 + 1) < w37.heap.size := Xe_40.out.lt
  have B_44 := hI (bch B_37.out HRr.out hn)
  have Xa_45 := hI (Xa_38.out.on hn)
  have Xb_46 := hI (Xb_39.out.on hn)
  have Xe_47 := hI (Xe_40.out.on hn)
  generalize hbb : w37.heap.size = b3 at *
  clear hbb
  have Zs_48 : Hid (Ba W44 b3 gs As ns cs xss) := hI hx
  have O48 := hI hlt
  clear hn hx hW hlt B_37 Xa_38 Xb_39 Xe_40 Js_43
  refine (rmul_e (g := p.gd) (g' := q.gd) Xa_45.out.sl.2 Xb_46.out.sl.2 (rv_some Va.out).2 (rv_some Vb.out).2 _ _ M4.out).mono ?_
  clear ka0 ka1 ka2 ka3 la kb0 kb1 kb2 kb3 lb
  rintro e w49 ⟨gd, Ad, nd, cd, xsd, rfl, hs, ho, hb⟩
  have B_49 := hI (bch B_44.out HRr.out hb)
  have Xa_50 := hI (Xa_45.out.on hb)
  have Xb_51 := hI (Xb_46.out.on hb)
  have Xe_52 := hI (Xe_47.out.on hb)
  have Zs_53 := hI (Zs_48.out.on hb)
  have Jd_54 : Hid (Sl w49 w49.heap.size Ad nd cd xsd) := hI hs
  clear hb B_44 Xa_45 Xb_46 Xe_47 Zs_48 hs
  have Vd := hI ho
  clear ho
  clear Xa_50 Xb_51
  obtain ⟨ks0, ks1⟩ := (Zs_53.out.on (below_new w49 (.cells #[.bool gd, .slice Ad nd cd] 24))).cs
  have ls := Zs_53.out.bx.lt
  go_wp2_with fail
  generalize hW : World.alloc w49 _ = W55
  have hn := below_new w49 (.cells #[.bool gd, .slice Ad nd cd] 24)
  rw [hW] at hn
  have hx : Ba W55 w49.heap.size gd Ad nd cd xsd := by rw [← hW]; exact ⟨Bx.new w49 _ _ _ _, Jd_54.out.on (below_new _ _)⟩
  have hlt : b3 < w49.heap.size := Zs_53.out.bx.lt
  have B_55 := hI (bch B_49.out HRr.out hn)
  have Xe_56 := hI (Xe_52.out.on hn)
  have Zs_57 := hI (Zs_53.out.on hn)
  generalize hbb : w49.heap.size = b4 at *
  clear hbb
  have Zd_58 : Hid (Ba W55 b4 gd Ad nd cd xsd) := hI hx
  have O58 := hI hlt
  clear hn hx hW hlt B_49 Xe_52 Zs_53 Jd_54
  refine (rlow_z Zs_57.out.sl Zd_58.out.sl Vs.out Vd.out HZ.out).mono ?_
  clear ks0 ks1 ls
  rintro e w59 ⟨tk, rfl, hi, hv, hb⟩
  have B_59 := hI (bch B_55.out HRr.out hb)
  have Xe_60 := hI (Xe_56.out.on hb)
  have Zs_61 := hI (Zs_57.out.on hb)
  have Zd_62 := hI (Zd_58.out.on hb)
  have Ik_63 : Hid (tk.In w59) := hI hi
  clear hb B_55 Xe_56 Zs_57 Zd_58 hi
  have Vk := hI hv
  clear hv
  clear Zs_61 Zd_62
  obtain ⟨ke0, ke1, ke2, ke3⟩ := Xe_60.out.cs
  obtain ⟨fe0, fe1, fe2, fe3⟩ := Xe_60.out.fs
  simp only [RVal.nil] at ke0 ke1 ke2 ke3
  have le := Xe_60.out.lt
  go_wp2
  clear ke0 ke1 ke2 ke3 fe0 fe1 fe2 fe3 le
  generalize hW : World.setCell (World.setCell (World.setCell (World.setCell w59 _ _) _ _) _ _) _ _ = W64
  have B_64 : Hid (Below r w W64) := by rw [← hW]; exact hI (below_put4 B_59.out (by omega) _ _ _ _)
  have Xe_65 : Hid (Rb W64 (r + 1 + 1) tk) := by rw [← hW]; exact hI (Rb.put (q' := tk) Xe_60.out Ik_63.out)
  clear hW B_59 Xe_60 Ik_63
  obtain ⟨j0, j1, j2, j3⟩ := Xe_65.out.cs
  try dsimp only at j0 j1 j2 j3
  refine bodyPost_ret (v := .tuple #[.agg #[.bool tk.g, .slice tk.A tk.n tk.c, .bool tk.gd, .slice tk.Ad tk.nd tk.cd], .int .i64 0]) (by simp [results, Tryz.results65, go_sem, j0, j1, j2, j3]) rfl ?_
  exact RetR.of Xe_65.out (rv_some Vk.out).1 (rv_some Vk.out).2 (by rw [HRr.out]; exact B_64.out)
set_option linter.unusedSimpArgs false in
set_option maxRecDepth 20000 in
set_option maxHeartbeats 2000000 in
theorem rsum_5t (p q : RVal) (w : World) (ha : p.In w) (hb : q.In w) (x y : Rat) (ha2 : rv p.o p.od = some x) (hb2 : rv q.o q.od = some y) (z1 z2 z3 z4 : Int) (m1 : fitZ (x.num * (y.den : Int)) = z1 ∧ fitE (x.num * (y.den : Int)) = 0) (m2 : fitZ (y.num * (x.den : Int)) = z2 ∧ fitE (y.num * (x.den : Int)) = 0) (m3 : fitZ (z1 + (-z2)) = z3 ∧ fitE (z1 + (-z2)) = 0) (m4 : fitZ ((x.den : Int) * (y.den : Int)) = z4 ∧ fitE ((x.den : Int) * (y.den : Int)) = 0) (hz : z4 ≠ 0) :
    Calls Tryz.prog 65 #[.agg #[.bool p.g, .slice p.A p.n p.c, .bool p.gd, .slice p.Ad p.nd p.cd], .agg #[.bool q.g, .slice q.A q.n q.c, .bool q.gd, .slice q.Ad q.nd q.cd], .bool true] w (RetR (Rat.divInt z3 z4).num (Rat.divInt z3 z4).den 0 w) := by
  have Va := hI ha2
  have Vb := hI hb2
  have M1 := hI m1
  have M2 := hI m2
  have M3 := hI m3
  have M4 := hI m4
  have HZ := hI hz
  clear ha2 hb2 m1 m2 m3 m4 hz
  have Ia_0 := hI ha
  clear ha
  have Ib_0 := hI hb
  clear hb
  have B_0 : Hid (Below w.heap.size w w) := hI (Below.refl _ _)
  go_enter Tryz.func65, Tryz.ntmps65
  go_wp2_with fail
  generalize hW : World.alloc w _ = W1
  have hn := below_new w (.cells #[.bool p.g, .slice p.A p.n p.c, .bool p.gd, .slice p.Ad p.nd p.cd] 27)
  rw [hW] at hn
  have hz : W1.heap.size = w.heap.size + 1 := by rw [← hW]; simp
  have hx : Rb W1 w.heap.size p := by rw [← hW]; exact Rb.new (q := p) Ia_0.out
  have Ib_1 := hI (Ib_0.out.on hn)
  have B_2 := hI (below_chain B_0.out B_0.out.size hn)
  generalize hr : w.heap.size = r at *
  have HRr := hI hr
  clear hr
  have Xa_3 : Hid (Rb W1 r p) := hI hx
  have HT3 := hz
  clear hn hx hz hW Ib_0 B_0 Ia_0
  generalize hW : World.alloc W1 _ = W4
  have hn := below_new W1 (.cells #[.bool q.g, .slice q.A q.n q.c, .bool q.gd, .slice q.Ad q.nd q.cd] 27)
  rw [hW] at hn
  have hz : W4.heap.size = W1.heap.size + 1 := by rw [← hW]; simp
  have hx : Rb W4 W1.heap.size q := by rw [← hW]; exact Rb.new (q := q) Ib_1.out
  have hlt : r < W1.heap.size := Xa_3.out.lt
  have B_4 := hI (bch B_2.out HRr.out hn)
  have Xa_5 := hI (Xa_3.out.on hn)
  rw [HT3] at hx hz hlt
  have Xb_6 : Hid (Rb W4 (r + 1) q) := hI hx
  have HT6 := hz
  clear hn hx hz hW hlt B_2 Xa_3 Ib_1
  generalize hW : World.alloc W4 _ = W7
  have hn := below_new W4 (.cells #[.bool false, .slice none 0 0, .bool false, .slice none 0 0] 27)
  rw [hW] at hn
  have hx : Rb W7 W4.heap.size RVal.nil := by rw [← hW]; exact Rb.new (q := RVal.nil) (RVal.nil_in W4)
  have hlt : (r + 1) < W4.heap.size := Xb_6.out.lt
  have B_7 := hI (bch B_4.out HRr.out hn)
  have Xa_8 := hI (Xa_5.out.on hn)
  have Xb_9 := hI (Xb_6.out.on hn)
  rw [HT6] at hx hlt
  have Xe_10 : Hid (Rb W7 (r + 1 + 1) RVal.nil) := hI hx
  clear hn hx hW hlt B_4 Xa_5 Xb_6
  clear HT3 HT6
  refine (rboth_q Xa_8.out.sl Xb_9.out.sl true (by rw [Va.out, Vb.out]; rfl)).mono ?_
  rintro e w11 ⟨rfl, hb⟩
  have B_11 := hI (bch B_7.out HRr.out hb)
  have Xa_12 := hI (Xa_8.out.on hb)
  have Xb_13 := hI (Xb_9.out.on hb)
  have Xe_14 := hI (Xe_10.out.on hb)
  clear hb B_7 Xa_8 Xb_9 Xe_10
  obtain ⟨ka0, ka1, ka2, ka3⟩ := Xa_12.out.cs
  have la := Xa_12.out.lt
  obtain ⟨kb0, kb1, kb2, kb3⟩ := Xb_13.out.cs
  have lb := Xb_13.out.lt
  go_wp2_with fail
  refine (rmul_e (g := p.g) (g' := q.gd) Xa_12.out.sl.1 Xb_13.out.sl.2 (rv_some Va.out).1 (rv_some Vb.out).2 _ _ M1.out).mono ?_
  clear ka0 ka1 ka2 ka3 la kb0 kb1 kb2 kb3 lb
  rintro e w15 ⟨gu, Au, nu, cu, xsu, rfl, hs, ho, hb⟩
  have B_15 := hI (bch B_11.out HRr.out hb)
  have Xa_16 := hI (Xa_12.out.on hb)
  have Xb_17 := hI (Xb_13.out.on hb)
  have Xe_18 := hI (Xe_14.out.on hb)
  have Ju_19 : Hid (Sl w15 w15.heap.size Au nu cu xsu) := hI hs
  clear hb B_11 Xa_12 Xb_13 Xe_14 hs
  have Vu := hI ho
  clear ho
  obtain ⟨ka0, ka1, ka2, ka3⟩ := (Xa_16.out.on (below_new w15 (.cells #[.bool gu, .slice Au nu cu] 24))).cs
  have la := Xa_16.out.lt
  obtain ⟨kb0, kb1, kb2, kb3⟩ := (Xb_17.out.on (below_new w15 (.cells #[.bool gu, .slice Au nu cu] 24))).cs
  have lb := Xb_17.out.lt
  go_wp2_with fail
  generalize hW : World.alloc w15 _ = W20
  have hn := below_new w15 (.cells #[.bool gu, .slice Au nu cu] 24)
  rw [hW] at hn
  have hx : Ba W20 w15.heap.size gu Au nu cu xsu := by rw [← hW]; exact ⟨Bx.new w15 _ _ _ _, Ju_19.out.on (below_new _ _)⟩
  have hlt : (r + 1 + 1) < w15.heap.size := Xe_18.out.lt
  have B_20 := hI (bch B_15.out HRr.out hn)
  have Xa_21 := hI (Xa_16.out.on hn)
  have Xb_22 := hI (Xb_17.out.on hn)
  have Xe_23 := hI (Xe_18.out.on hn)
  generalize hbb : w15.heap.size = b1 at *
  clear hbb
  have Zu_24 : Hid (Ba W20 b1 gu Au nu cu xsu) := hI hx
  have O24 := hI hlt
  clear hn hx hW hlt B_15 Xa_16 Xb_17 Xe_18 Ju_19
  refine (rmul_e (g := q.g) (g' := p.gd) Xb_22.out.sl.1 Xa_21.out.sl.2 (rv_some Vb.out).1 (rv_some Va.out).2 _ _ M2.out).mono ?_
  clear ka0 ka1 ka2 ka3 la kb0 kb1 kb2 kb3 lb
  rintro e w25 ⟨gv, Av, nv, cv, xsv, rfl, hs, ho, hb⟩
  have B_25 := hI (bch B_20.out HRr.out hb)
  have Xa_26 := hI (Xa_21.out.on hb)
  have Xb_27 := hI (Xb_22.out.on hb)
  have Xe_28 := hI (Xe_23.out.on hb)
  have Zu_29 := hI (Zu_24.out.on hb)
  have Jv_30 : Hid (Sl w25 w25.heap.size Av nv cv xsv) := hI hs
  clear hb B_20 Xa_21 Xb_22 Xe_23 Zu_24 hs
  have Vv := hI ho
  clear ho
  obtain ⟨ku0, ku1⟩ := (Zu_29.out.on (below_new w25 (.cells #[.bool gv, .slice Av nv cv] 24))).cs
  have lu := Zu_29.out.bx.lt
  go_wp2_with fail
  generalize hW : World.alloc w25 _ = W31
  have hn := below_new w25 (.cells #[.bool gv, .slice Av nv cv] 24)
  rw [hW] at hn
  have hx : Ba W31 w25.heap.size gv Av nv cv xsv := by rw [← hW]; exact ⟨Bx.new w25 _ _ _ _, Jv_30.out.on (below_new _ _)⟩
  have hlt : b1 < w25.heap.size := Zu_29.out.bx.lt
  have B_31 := hI (bch B_25.out HRr.out hn)
  have Xa_32 := hI (Xa_26.out.on hn)
  have Xb_33 := hI (Xb_27.out.on hn)
  have Xe_34 := hI (Xe_28.out.on hn)
  have Zu_35 := hI (Zu_29.out.on hn)
  generalize hbb : w25.heap.size = b2 at *
  clear hbb
  have Zv_36 : Hid (Ba W31 b2 gv Av nv cv xsv) := hI hx
  have O36 := hI hlt
  clear hn hx hW hlt B_25 Xa_26 Xb_27 Xe_28 Zu_29 Jv_30
  refine (rneg_z Zv_36.out.sl Vv.out).mono ?_
  clear ku0 ku1 lu
  rintro e w37 ⟨gm, Am, nm, cm, xsm, rfl, hs, ho, hb⟩
  have B_37 := hI (bch B_31.out HRr.out hb)
  have Xa_38 := hI (Xa_32.out.on hb)
  have Xb_39 := hI (Xb_33.out.on hb)
  have Xe_40 := hI (Xe_34.out.on hb)
  have Zu_41 := hI (Zu_35.out.on hb)
  have Zv_42 := hI (Zv_36.out.on hb)
  have Jm_43 : Hid (Sl w37 w37.heap.size Am nm cm xsm) := hI hs
  clear hb B_31 Xa_32 Xb_33 Xe_34 Zu_35 Zv_36 hs
  have Vm := hI ho
  clear ho
  obtain ⟨ku0, ku1⟩ := Zu_41.out.cs
  obtain ⟨fu0, fu1⟩ := Zu_41.out.fs
  have lu := Zu_41.out.bx.lt
  obtain ⟨kv0, kv1⟩ := Zv_42.out.cs
  obtain ⟨fv0, fv1⟩ := Zv_42.out.fs
  have lv := Zv_42.out.bx.lt
  have nuv : b1 ≠ b2 := by have := O36.out; omega
  have nvu := nuv.symm
  go_wp2_with fail
  clear ku0 ku1 fu0 fu1 lu kv0 kv1 fv0 fv1 lv nuv nvu
  generalize hW : World.setCell (World.setCell w37 _ _) _ _ = W44
  have B_44 : Hid (Below r w W44) := by rw [← hW]; exact hI (below_ret B_37.out (by have := O24.out; have := O36.out; omega) _ _)
  have Xa_45 : Hid (Rb W44 r p) := by rw [← hW]; exact hI (Xa_38.out.aside Zv_42.out (by have := O24.out; have := O36.out; omega) _ _)
  have Xb_46 : Hid (Rb W44 (r + 1) q) := by rw [← hW]; exact hI (Xb_39.out.aside Zv_42.out (by have := O24.out; have := O36.out; omega) _ _)
  have Xe_47 : Hid (Rb W44 (r + 1 + 1) RVal.nil) := by rw [← hW]; exact hI (Xe_40.out.aside Zv_42.out (by have := O24.out; have := O36.out; omega) _ _)
  have Zu_48 : Hid (Ba W44 b1 gu Au nu cu xsu) := by rw [← hW]; exact hI (Zu_41.out.aside Zv_42.out (by have := O36.out; omega) _ _)
  have Zv_49 : Hid (Ba W44 b2 gm Am nm cm xsm) := by rw [← hW]; exact hI (Zv_42.out.stored Jm_43.out _)
  clear hW B_37 Xa_38 Xb_39 Xe_40 Zu_41 Zv_42 Jm_43
  refine (radd_e Zu_48.out.sl Zv_49.out.sl Vu.out Vm.out _ _ M3.out).mono ?_
  rintro e w50 ⟨gs, As, ns, cs, xss, rfl, hs, ho, hb⟩
  have B_50 := hI (bch B_44.out HRr.out hb)
  have Xa_51 := hI (Xa_45.out.on hb)
  have Xb_52 := hI (Xb_46.out.on hb)
  have Xe_53 := hI (Xe_47.out.on hb)
  have Zu_54 := hI (Zu_48.out.on hb)
  have Zv_55 := hI (Zv_49.out.on hb)
  have Js_56 : Hid (Sl w50 w50.heap.size As ns cs xss) := hI hs
  clear hb B_44 Xa_45 Xb_46 Xe_47 Zu_48 Zv_49 hs
  have Vs := hI ho
  clear ho
  clear Zu_54 Zv_55
  obtain ⟨ka0, ka1, ka2, ka3⟩ := (Xa_51.out.on (below_new w50 (.cells #[.bool gs, .slice As ns cs] 24))).cs
  have la := Xa_51.out.lt
  obtain ⟨kb0, kb1, kb2, kb3⟩ := (Xb_52.out.on (below_new w50 (.cells #[.bool gs, .slice As ns cs] 24))).cs
  have lb := Xb_52.out.lt
  go_wp2_with fail
  generalize hW : World.alloc w50 _ = W57
  have hn := below_new w50 (.cells #[.bool gs, .slice As ns cs] 24)
  rw [hW] at hn
  have hx : Ba W57 w50.heap.size gs As ns cs xss := by rw [← hW]; exact ⟨Bx.new w50 _ _ _ _, Js_56.out.on (below_new _ _)⟩
  have hlt : (r + 1 + 1) < w50.heap.size := Xe_53.out.lt
  have B_57 := hI (bch B_50.out HRr.out hn)
  have Xa_58 := hI (Xa_51.out.on hn)
  have Xb_59 := hI (Xb_52.out.on hn)
  have Xe_60 := hI (Xe_53.out.on hn)
  generalize hbb : w50.heap.size = b3 at *
  clear hbb
  have Zs_61 : Hid (Ba W57 b3 gs As ns cs xss) := hI hx
  have O61 := hI hlt
  clear hn hx hW hlt B_50 Xa_51 Xb_52 Xe_53 Js_56
  refine (rmul_e (g := p.gd) (g' := q.gd) Xa_58.out.sl.2 Xb_59.out.sl.2 (rv_some Va.out).2 (rv_some Vb.out).2 _ _ M4.out).mono ?_
  clear ka0 ka1 ka2 ka3 la kb0 kb1 kb2 kb3 lb
  rintro e w62 ⟨gd, Ad, nd, cd, xsd, rfl, hs, ho, hb⟩
  have B_62 := hI (bch B_57.out HRr.out hb)
  have Xa_63 := hI (Xa_58.out.on hb)
  have Xb_64 := hI (Xb_59.out.on hb)
  have Xe_65 := hI (Xe_60.out.on hb)
  have Zs_66 := hI (Zs_61.out.on hb)
  have Jd_67 : Hid (Sl w62 w62.heap.size Ad nd cd xsd) := hI hs
  clear hb B_57 Xa_58 Xb_59 Xe_60 Zs_61 hs
  have Vd := hI ho
  clear ho
  clear Xa_63 Xb_64
  obtain ⟨ks0, ks1⟩ := (Zs_66.out.on (below_new w62 (.cells #[.bool gd, .slice Ad nd cd] 24))).cs
  have ls := Zs_66.out.bx.lt
  go_wp2_with fail
  generalize hW : World.alloc w62 _ = W68
  have hn := below_new w62 (.cells #[.bool gd, .slice Ad nd cd] 24)
  rw [hW] at hn
  have hx : Ba W68 w62.heap.size gd Ad nd cd xsd := by rw [← hW]; exact ⟨Bx.new w62 _ _ _ _, Jd_67.out.on (below_new _ _)⟩
  have hlt : b3 < w62.heap.size := Zs_66.out.bx.lt
  have B_68 := hI (bch B_62.out HRr.out hn)
  have Xe_69 := hI (Xe_65.out.on hn)
  have Zs_70 := hI (Zs_66.out.on hn)
  generalize hbb : w62.heap.size = b4 at *
  clear hbb
  have Zd_71 : Hid (Ba W68 b4 gd Ad nd cd xsd) := hI hx
  have O71 := hI hlt
  clear hn hx hW hlt B_62 Xe_65 Zs_66 Jd_67
  refine (rlow_z Zs_70.out.sl Zd_71.out.sl Vs.out Vd.out HZ.out).mono ?_
  clear ks0 ks1 ls
  rintro e w72 ⟨tk, rfl, hi, hv, hb⟩
  have B_72 := hI (bch B_68.out HRr.out hb)
  have Xe_73 := hI (Xe_69.out.on hb)
  have Zs_74 := hI (Zs_70.out.on hb)
  have Zd_75 := hI (Zd_71.out.on hb)
  have Ik_76 : Hid (tk.In w72) := hI hi
  clear hb B_68 Xe_69 Zs_70 Zd_71 hi
  have Vk := hI hv
  clear hv
  clear Zs_74 Zd_75
  obtain ⟨ke0, ke1, ke2, ke3⟩ := Xe_73.out.cs
  obtain ⟨fe0, fe1, fe2, fe3⟩ := Xe_73.out.fs
  simp only [RVal.nil] at ke0 ke1 ke2 ke3
  have le := Xe_73.out.lt
  go_wp2
  clear ke0 ke1 ke2 ke3 fe0 fe1 fe2 fe3 le
  generalize hW : World.setCell (World.setCell (World.setCell (World.setCell w72 _ _) _ _) _ _) _ _ = W77
  have B_77 : Hid (Below r w W77) := by rw [← hW]; exact hI (below_put4 B_72.out (by omega) _ _ _ _)
  have Xe_78 : Hid (Rb W77 (r + 1 + 1) tk) := by rw [← hW]; exact hI (Rb.put (q' := tk) Xe_73.out Ik_76.out)
  clear hW B_72 Xe_73 Ik_76
  obtain ⟨j0, j1, j2, j3⟩ := Xe_78.out.cs
  try dsimp only at j0 j1 j2 j3
  refine bodyPost_ret (v := .tuple #[.agg #[.bool tk.g, .slice tk.A tk.n tk.c, .bool tk.gd, .slice tk.Ad tk.nd tk.cd], .int .i64 0]) (by simp [results, Tryz.results65, go_sem, j0, j1, j2, j3]) rfl ?_
  exact RetR.of Xe_78.out (rv_some Vk.out).1 (rv_some Vk.out).2 (by rw [HRr.out]; exact B_77.out)
set_option linter.unusedSimpArgs false in
set_option maxRecDepth 20000 in
set_option maxHeartbeats 2000000 in
theorem rmulq_bad (p q : RVal) (w : World) (ha : p.In w) (hb : q.In w) (hv : ((rv p.o p.od).isSome && (rv q.o q.od).isSome) = false) :
    Calls Tryz.prog 28 #[.agg #[.bool p.g, .slice p.A p.n p.c, .bool p.gd, .slice p.Ad p.nd p.cd], .agg #[.bool q.g, .slice q.A q.n q.c, .bool q.gd, .slice q.Ad q.nd q.cd]] w (RetR 0 0 1 w) := by
  have HV := hI hv
  clear hv
  have Ia_0 := hI ha
  clear ha
  have Ib_0 := hI hb
  clear hb
  have B_0 : Hid (Below w.heap.size w w) := hI (Below.refl _ _)
  go_enter Tryz.func28, Tryz.ntmps28
  go_wp2_with fail
  generalize hW : World.alloc w _ = W1
  have hn := below_new w (.cells #[.bool p.g, .slice p.A p.n p.c, .bool p.gd, .slice p.Ad p.nd p.cd] 27)
  rw [hW] at hn
  have hz : W1.heap.size = w.heap.size + 1 := by rw [← hW]; simp
  have hx : Rb W1 w.heap.size p := by rw [← hW]; exact Rb.new (q := p) Ia_0.out
  have Ib_1 := hI (Ib_0.out.on hn)
  have B_2 := hI (below_chain B_0.out B_0.out.size hn)
  generalize hr : w.heap.size = r at *
  have HRr := hI hr
  clear hr
  have Xa_3 : Hid (Rb W1 r p) := hI hx
  have HT3 := hz
  clear hn hx hz hW Ib_0 B_0 Ia_0
  generalize hW : World.alloc W1 _ = W4
  have hn := below_new W1 (.cells #[.bool q.g, .slice q.A q.n q.c, .bool q.gd, .slice q.Ad q.nd q.cd] 27)
  rw [hW] at hn
  have hz : W4.heap.size = W1.heap.size + 1 := by rw [← hW]; simp
  have hx : Rb W4 W1.heap.size q := by rw [← hW]; exact Rb.new (q := q) Ib_1.out
  have hlt : r < W1.heap.size := Xa_3.out.lt
  have B_4 := hI (bch B_2.out HRr.out hn)
  have Xa_5 := hI (Xa_3.out.on hn)
  rw [HT3] at hx hz hlt
  have Xb_6 : Hid (Rb W4 (r + 1) q) := hI hx
  have HT6 := hz
  clear hn hx hz hW hlt B_2 Xa_3 Ib_1
  generalize hW : World.alloc W4 _ = W7
  have hn := below_new W4 (.cells #[.bool false, .slice none 0 0, .bool false, .slice none 0 0] 27)
  rw [hW] at hn
  have hx : Rb W7 W4.heap.size RVal.nil := by rw [← hW]; exact Rb.new (q := RVal.nil) (RVal.nil_in W4)
  have hlt : (r + 1) < W4.heap.size := Xb_6.out.lt
  have B_7 := hI (bch B_4.out HRr.out hn)
  have Xa_8 := hI (Xa_5.out.on hn)
  have Xb_9 := hI (Xb_6.out.on hn)
  rw [HT6] at hx hlt
  have Xe_10 : Hid (Rb W7 (r + 1 + 1) RVal.nil) := hI hx
  clear hn hx hW hlt B_4 Xa_5 Xb_6
  clear HT3 HT6
  refine (rboth_q Xa_8.out.sl Xb_9.out.sl false HV.out).mono ?_
  rintro e w11 ⟨rfl, hb⟩
  have B_11 := hI (bch B_7.out HRr.out hb)
  have Xa_12 := hI (Xa_8.out.on hb)
  have Xb_13 := hI (Xb_9.out.on hb)
  have Xe_14 := hI (Xe_10.out.on hb)
  clear hb B_7 Xa_8 Xb_9 Xe_10
  obtain ⟨ke0, ke1, ke2, ke3⟩ := Xe_14.out.cs
  obtain ⟨fe0, fe1, fe2, fe3⟩ := Xe_14.out.fs
  simp only [RVal.nil] at ke0 ke1 ke2 ke3
  have le := Xe_14.out.lt
  go_wp2
  clear ke0 ke1 ke2 ke3 fe0 fe1 fe2 fe3 le
  generalize hW : World.setCell (World.setCell (World.setCell (World.setCell w11 _ _) _ _) _ _) _ _ = W15
  have B_15 : Hid (Below r w W15) := by rw [← hW]; exact hI (below_put4 B_11.out (by omega) _ _ _ _)
  have Xa_16 : Hid (Rb W15 r p) := by rw [← hW]; exact hI (Xa_12.out.pass Xe_14.out (by omega) _ _ _ _)
  have Xb_17 : Hid (Rb W15 (r + 1) q) := by rw [← hW]; exact hI (Xb_13.out.pass Xe_14.out (by omega) _ _ _ _)
  have Xe_18 : Hid (Rb W15 (r + 1 + 1) RVal.nil) := by rw [← hW]; exact hI (Rb.put (q' := RVal.nil) Xe_14.out (RVal.nil_in w11))
  clear hW B_11 Xa_12 Xb_13 Xe_14
  obtain ⟨j0, j1, j2, j3⟩ := Xe_18.out.cs
  try dsimp only at j0 j1 j2 j3
  simp only [RVal.nil] at j0 j1 j2 j3
  refine bodyPost_ret (v := .tuple #[.agg #[.bool false, .slice none 0 0, .bool false, .slice none 0 0], .int .i64 1]) (by simp [results, Tryz.results28, go_sem, j0, j1, j2, j3]) rfl ?_
  exact RetR.of Xe_18.out rfl rfl (by rw [HRr.out]; exact B_15.out)
set_option linter.unusedSimpArgs false in
set_option maxRecDepth 20000 in
set_option maxHeartbeats 2000000 in
theorem rmulq_1 (p q : RVal) (w : World) (ha : p.In w) (hb : q.In w) (x y : Rat) (ha2 : rv p.o p.od = some x) (hb2 : rv q.o q.od = some y) (z1 er : Int) (m1 : fitZ (x.num * y.num) = z1 ∧ fitE (x.num * y.num) = er) (he : (er != 0) = true) :
    Calls Tryz.prog 28 #[.agg #[.bool p.g, .slice p.A p.n p.c, .bool p.gd, .slice p.Ad p.nd p.cd], .agg #[.bool q.g, .slice q.A q.n q.c, .bool q.gd, .slice q.Ad q.nd q.cd]] w (RetR 0 0 er w) := by
  have Va := hI ha2
  have Vb := hI hb2
  have M1 := hI m1
  have HE := hI he
  clear ha2 hb2 m1 he
  have Ia_0 := hI ha
  clear ha
  have Ib_0 := hI hb
  clear hb
  have B_0 : Hid (Below w.heap.size w w) := hI (Below.refl _ _)
  go_enter Tryz.func28, Tryz.ntmps28
  go_wp2_with fail
  generalize hW : World.alloc w _ = W1
  have hn := below_new w (.cells #[.bool p.g, .slice p.A p.n p.c, .bool p.gd, .slice p.Ad p.nd p.cd] 27)
  rw [hW] at hn
  have hz : W1.heap.size = w.heap.size + 1 := by rw [← hW]; simp
  have hx : Rb W1 w.heap.size p := by rw [← hW]; exact Rb.new (q := p) Ia_0.out
  have Ib_1 := hI (Ib_0.out.on hn)
  have B_2 := hI (below_chain B_0.out B_0.out.size hn)
  generalize hr : w.heap.size = r at *
  have HRr := hI hr
  clear hr
  have Xa_3 : Hid (Rb W1 r p) := hI hx
  have HT3 := hz
  clear hn hx hz hW Ib_0 B_0 Ia_0
  generalize hW : World.alloc W1 _ = W4
  have hn := below_new W1 (.cells #[.bool q.g, .slice q.A q.n q.c, .bool q.gd, .slice q.Ad q.nd q.cd] 27)
  rw [hW] at hn
  have hz : W4.heap.size = W1.heap.size + 1 := by rw [← hW]; simp
  have hx : Rb W4 W1.heap.size q := by rw [← hW]; exact Rb.new (q := q) Ib_1.out
  have hlt : r < W1.heap.size := Xa_3.out.lt
  have B_4 := hI (bch B_2.out HRr.out hn)
  have Xa_5 := hI (Xa_3.out.on hn)
  rw [HT3] at hx hz hlt
  have Xb_6 : Hid (Rb W4 (r + 1) q) := hI hx
  have HT6 := hz
  clear hn hx hz hW hlt B_2 Xa_3 Ib_1
  generalize hW : World.alloc W4 _ = W7
  have hn := below_new W4 (.cells #[.bool false, .slice none 0 0, .bool false, .slice none 0 0] 27)
  rw [hW] at hn
  have hx : Rb W7 W4.heap.size RVal.nil := by rw [← hW]; exact Rb.new (q := RVal.nil) (RVal.nil_in W4)
  have hlt : (r + 1) < W4.heap.size := Xb_6.out.lt
  have B_7 := hI (bch B_4.out HRr.out hn)
  have Xa_8 := hI (Xa_5.out.on hn)
  have Xb_9 := hI (Xb_6.out.on hn)
  rw [HT6] at hx hlt
  have Xe_10 : Hid (Rb W7 (r + 1 + 1) RVal.nil) := hI hx
  clear hn hx hW hlt B_4 Xa_5 Xb_6
  clear HT3 HT6
  refine (rboth_q Xa_8.out.sl Xb_9.out.sl true (by rw [Va.out, Vb.out]; rfl)).mono ?_
  rintro e w11 ⟨rfl, hb⟩
  have B_11 := hI (bch B_7.out HRr.out hb)
  have Xa_12 := hI (Xa_8.out.on hb)
  have Xb_13 := hI (Xb_9.out.on hb)
  have Xe_14 := hI (Xe_10.out.on hb)
  clear hb B_7 Xa_8 Xb_9 Xe_10
  obtain ⟨ka0, ka1, ka2, ka3⟩ := Xa_12.out.cs
  have la := Xa_12.out.lt
  obtain ⟨kb0, kb1, kb2, kb3⟩ := Xb_13.out.cs
  have lb := Xb_13.out.lt
  go_wp2_with fail
  refine (rmul_e (g := p.g) (g' := q.g) Xa_12.out.sl.1 Xb_13.out.sl.1 (rv_some Va.out).1 (rv_some Vb.out).1 _ _ M1.out).mono ?_
  clear ka0 ka1 ka2 ka3 la kb0 kb1 kb2 kb3 lb
  rintro e w15 ⟨gu, Au, nu, cu, xsu, rfl, hs, ho, hb⟩
  have B_15 := hI (bch B_11.out HRr.out hb)
  have Xa_16 := hI (Xa_12.out.on hb)
  have Xb_17 := hI (Xb_13.out.on hb)
  have Xe_18 := hI (Xe_14.out.on hb)
  have Ju_19 : Hid (Sl w15 w15.heap.size Au nu cu xsu) := hI hs
  clear hb B_11 Xa_12 Xb_13 Xe_14 hs
  have Vu := hI ho
  clear ho
  have hE : (er != 0) = true := HE.out
  clear Xa_16 Xb_17 Ju_19
  obtain ⟨ke0, ke1, ke2, ke3⟩ := Xe_18.out.cs
  obtain ⟨fe0, fe1, fe2, fe3⟩ := Xe_18.out.fs
  simp only [RVal.nil] at ke0 ke1 ke2 ke3
  have le := Xe_18.out.lt
  go_wp2
  clear ke0 ke1 ke2 ke3 fe0 fe1 fe2 fe3 le
  generalize hW : World.setCell (World.setCell (World.setCell (World.setCell w15 _ _) _ _) _ _) _ _ = W20
  have B_20 : Hid (Below r w W20) := by rw [← hW]; exact hI (below_put4 B_15.out (by omega) _ _ _ _)
  have Xe_21 : Hid (Rb W20 (r + 1 + 1) RVal.nil) := by rw [← hW]; exact hI (Rb.put (q' := RVal.nil) Xe_18.out (RVal.nil_in w15))
  clear hW B_15 Xe_18
  generalize hW : World.alloc W20 _ = W22
  have hn := below_new W20 (.cells #[.bool gu, .slice Au nu cu] 24)
  rw [hW] at hn
  have B_22 := hI (bch B_20.out HRr.out hn)
  have Xe_23 := hI (Xe_21.out.on hn)
  clear hn hW B_20 Xe_21
  obtain ⟨j0, j1, j2, j3⟩ := Xe_23.out.cs
  try dsimp only at j0 j1 j2 j3
  simp only [RVal.nil] at j0 j1 j2 j3
  refine bodyPost_ret (v := .tuple #[.agg #[.bool false, .slice none 0 0, .bool false, .slice none 0 0], .int .i64 er]) (by simp [results, Tryz.results28, go_sem, j0, j1, j2, j3]) rfl ?_
  exact RetR.of Xe_23.out rfl rfl (by rw [HRr.out]; exact B_22.out)
set_option linter.unusedSimpArgs false in
set_option maxRecDepth 20000 in
set_option maxHeartbeats 2000000 in
theorem rmulq_2 (p q : RVal) (w : World) (ha : p.In w) (hb : q.In w) (x y : Rat) (ha2 : rv p.o p.od = some x) (hb2 : rv q.o q.od = some y) (z1 z2 er : Int) (m1 : fitZ (x.num * y.num) = z1 ∧ fitE (x.num * y.num) = 0) (m2 : fitZ ((x.den : Int) * (y.den : Int)) = z2 ∧ fitE ((x.den : Int) * (y.den : Int)) = er) (he : (er != 0) = true) :
    Calls Tryz.prog 28 #[.agg #[.bool p.g, .slice p.A p.n p.c, .bool p.gd, .slice p.Ad p.nd p.cd], .agg #[.bool q.g, .slice q.A q.n q.c, .bool q.gd, .slice q.Ad q.nd q.cd]] w (RetR 0 0 er w) := by
  have Va := hI ha2
  have Vb := hI hb2
  have M1 := hI m1
  have M2 := hI m2
  have HE := hI he
  clear ha2 hb2 m1 m2 he
  have Ia_0 := hI ha
  clear ha
  have Ib_0 := hI hb
  clear hb
  have B_0 : Hid (Below w.heap.size w w) := hI (Below.refl _ _)
  go_enter Tryz.func28, Tryz.ntmps28
  go_wp2_with fail
  generalize hW : World.alloc w _ = W1
  have hn := below_new w (.cells #[.bool p.g, .slice p.A p.n p.c, .bool p.gd, .slice p.Ad p.nd p.cd] 27)
  rw [hW] at hn
  have hz : W1.heap.size = w.heap.size + 1 := by rw [← hW]; simp
  have hx : Rb W1 w.heap.size p := by rw [← hW]; exact Rb.new (q := p) Ia_0.out
  have Ib_1 := hI (Ib_0.out.on hn)
  have B_2 := hI (below_chain B_0.out B_0.out.size hn)
  generalize hr : w.heap.size = r at *
  have HRr := hI hr
  clear hr
  have Xa_3 : Hid (Rb W1 r p) := hI hx
  have HT3 := hz
  clear hn hx hz hW Ib_0 B_0 Ia_0
  generalize hW : World.alloc W1 _ = W4
  have hn := below_new W1 (.cells #[.bool q.g, .slice q.A q.n q.c, .bool q.gd, .slice q.Ad q.nd q.cd] 27)
  rw [hW] at hn
  have hz : W4.heap.size = W1.heap.size + 1 := by rw [← hW]; simp
  have hx : Rb W4 W1.heap.size q := by rw [← hW]; exact Rb.new (q := q) Ib_1.out
  have hlt : r < W1.heap.size := Xa_3.out.lt
  have B_4 := hI (bch B_2.out HRr.out hn)
  have Xa_5 := hI (Xa_3.out.on hn)
  rw [HT3] at hx hz hlt
  have Xb_6 : Hid (Rb W4 (r + 1) q) := hI hx
  have HT6 := hz
  clear hn hx hz hW hlt B_2 Xa_3 Ib_1
  generalize hW : World.alloc W4 _ = W7
  have hn := below_new W4 (.cells #[.bool false, .slice none 0 0, .bool false, .slice none 0 0] 27)
  rw [hW] at hn
  have hx : Rb W7 W4.heap.size RVal.nil := by rw [← hW]; exact Rb.new (q := RVal.nil) (RVal.nil_in W4)
  have hlt : (r + 1) < W4.heap.size := Xb_6.out.lt
  have B_7 := hI (bch B_4.out HRr.out hn)
  have Xa_8 := hI (Xa_5.out.on hn)
  have Xb_9 := hI (Xb_6.out.on hn)
  rw [HT6] at hx hlt
  have Xe_10 : Hid (Rb W7 (r + 1 + 1) RVal.nil) := hI hx
  clear hn hx hW hlt B_4 Xa_5 Xb_6
  clear HT3 HT6
  refine (rboth_q Xa_8.out.sl Xb_9.out.sl true (by rw [Va.out, Vb.out]; rfl)).mono ?_
  rintro e w11 ⟨rfl, hb⟩
  have B_11 := hI (bch B_7.out HRr.out hb)
  have Xa_12 := hI (Xa_8.out.on hb)
  have Xb_13 := hI (Xb_9.out.on hb)
  have Xe_14 := hI (Xe_10.out.on hb)
  clear hb B_7 Xa_8 Xb_9 Xe_10
  obtain ⟨ka0, ka1, ka2, ka3⟩ := Xa_12.out.cs
  have la := Xa_12.out.lt
  obtain ⟨kb0, kb1, kb2, kb3⟩ := Xb_13.out.cs
  have lb := Xb_13.out.lt
  go_wp2_with fail
  refine (rmul_e (g := p.g) (g' := q.g) Xa_12.out.sl.1 Xb_13.out.sl.1 (rv_some Va.out).1 (rv_some Vb.out).1 _ _ M1.out).mono ?_
  clear ka0 ka1 ka2 ka3 la kb0 kb1 kb2 kb3 lb
  rintro e w15 ⟨gu, Au, nu, cu, xsu, rfl, hs, ho, hb⟩
  have B_15 := hI (bch B_11.out HRr.out hb)
  have Xa_16 := hI (Xa_12.out.on hb)
  have Xb_17 := hI (Xb_13.out.on hb)
  have Xe_18 := hI (Xe_14.out.on hb)
  have Ju_19 : Hid (Sl w15 w15.heap.size Au nu cu xsu) := hI hs
  clear hb B_11 Xa_12 Xb_13 Xe_14 hs
  have Vu := hI ho
  clear ho
  obtain ⟨ka0, ka1, ka2, ka3⟩ := (Xa_16.out.on (below_new w15 (.cells #[.bool gu, .slice Au nu cu] 24))).cs
  have la := Xa_16.out.lt
  obtain ⟨kb0, kb1, kb2, kb3⟩ := (Xb_17.out.on (below_new w15 (.cells #[.bool gu, .slice Au nu cu] 24))).cs
  have lb := Xb_17.out.lt
  go_wp2_with fail
  generalize hW : World.alloc w15 _ = W20
  have hn := below_new w15 (.cells #[.bool gu, .slice Au nu cu] 24)
  rw [hW] at hn
  have hx : Ba W20 w15.heap.size gu Au nu cu xsu := by rw [← hW]; exact ⟨Bx.new w15 _ _ _ _, Ju_19.out.on (below_new _ _)⟩
  have hlt : (r + 1 + 1) < w15.heap.size := Xe_18.out.lt
  have B_20 := hI (bch B_15.out HRr.out hn)
  have Xa_21 := hI (Xa_16.out.on hn)
  have Xb_22 := hI (Xb_17.out.on hn)
  have Xe_23 := hI (Xe_18.out.on hn)
  generalize hbb : w15.heap.size = b1 at *
  clear hbb
  have Zu_24 : Hid (Ba W20 b1 gu Au nu cu xsu) := hI hx
  have O24 := hI hlt
  clear hn hx hW hlt B_15 Xa_16 Xb_17 Xe_18 Ju_19
  refine (rmul_e (g := p.gd) (g' := q.gd) Xa_21.out.sl.2 Xb_22.out.sl.2 (rv_some Va.out).2 (rv_some Vb.out).2 _ _ M2.out).mono ?_
  clear ka0 ka1 ka2 ka3 la kb0 kb1 kb2 kb3 lb
  rintro e w25 ⟨gd, Ad, nd, cd, xsd, rfl, hs, ho, hb⟩
  have B_25 := hI (bch B_20.out HRr.out hb)
  have Xa_26 := hI (Xa_21.out.on hb)
  have Xb_27 := hI (Xb_22.out.on hb)
  have Xe_28 := hI (Xe_23.out.on hb)
  have Zu_29 := hI (Zu_24.out.on hb)
  have Jd_30 : Hid (Sl w25 w25.heap.size Ad nd cd xsd) := hI hs
  clear hb B_20 Xa_21 Xb_22 Xe_23 Zu_24 hs
  have Vd := hI ho
  clear ho
  clear Xa_26 Xb_27
  have hE : (er != 0) = true := HE.out
  clear Zu_29 Jd_30
  obtain ⟨ke0, ke1, ke2, ke3⟩ := Xe_28.out.cs
  obtain ⟨fe0, fe1, fe2, fe3⟩ := Xe_28.out.fs
  simp only [RVal.nil] at ke0 ke1 ke2 ke3
  have le := Xe_28.out.lt
  go_wp2
  clear ke0 ke1 ke2 ke3 fe0 fe1 fe2 fe3 le
  generalize hW : World.setCell (World.setCell (World.setCell (World.setCell w25 _ _) _ _) _ _) _ _ = W31
  have B_31 : Hid (Below r w W31) := by rw [← hW]; exact hI (below_put4 B_25.out (by omega) _ _ _ _)
  have Xe_32 : Hid (Rb W31 (r + 1 + 1) RVal.nil) := by rw [← hW]; exact hI (Rb.put (q' := RVal.nil) Xe_28.out (RVal.nil_in w25))
  clear hW B_25 Xe_28
  generalize hW : World.alloc W31 _ = W33
  have hn := below_new W31 (.cells #[.bool gd, .slice Ad nd cd] 24)
  rw [hW] at hn
  have B_33 := hI (bch B_31.out HRr.out hn)
  have Xe_34 := hI (Xe_32.out.on hn)
  clear hn hW B_31 Xe_32
  obtain ⟨j0, j1, j2, j3⟩ := Xe_34.out.cs
  try dsimp only at j0 j1 j2 j3
  simp only [RVal.nil] at j0 j1 j2 j3
  refine bodyPost_ret (v := .tuple #[.agg #[.bool false, .slice none 0 0, .bool false, .slice none 0 0], .int .i64 er]) (by simp [results, Tryz.results28, go_sem, j0, j1, j2, j3]) rfl ?_
  exact RetR.of Xe_34.out rfl rfl (by rw [HRr.out]; exact B_33.out)
set_option linter.unusedSimpArgs false in
set_option maxRecDepth 20000 in
set_option maxHeartbeats 2000000 in
theorem rmulq_3 (p q : RVal) (w : World) (ha : p.In w) (hb : q.In w) (x y : Rat) (ha2 : rv p.o p.od = some x) (hb2 : rv q.o q.od = some y) (z1 z2 : Int) (m1 : fitZ (x.num * y.num) = z1 ∧ fitE (x.num * y.num) = 0) (m2 : fitZ ((x.den : Int) * (y.den : Int)) = z2 ∧ fitE ((x.den : Int) * (y.den : Int)) = 0) (hz : z2 ≠ 0) :
    Calls Tryz.prog 28 #[.agg #[.bool p.g, .slice p.A p.n p.c, .bool p.gd, .slice p.Ad p.nd p.cd], .agg #[.bool q.g, .slice q.A q.n q.c, .bool q.gd, .slice q.Ad q.nd q.cd]] w (RetR (Rat.divInt z1 z2).num (Rat.divInt z1 z2).den 0 w) := by
  have Va := hI ha2
  have Vb := hI hb2
  have M1 := hI m1
  have M2 := hI m2
  have HZ := hI hz
  clear ha2 hb2 m1 m2 hz
  have Ia_0 := hI ha
  clear ha
  have Ib_0 := hI hb
  clear hb
  have B_0 : Hid (Below w.heap.size w w) := hI (Below.refl _ _)
  go_enter Tryz.func28, Tryz.ntmps28
  go_wp2_with fail
  generalize hW : World.alloc w _ = W1
  have hn := below_new w (.cells #[.bool p.g, .slice p.A p.n p.c, .bool p.gd, .slice p.Ad p.nd p.cd] 27)
  rw [hW] at hn
  have hz : W1.heap.size = w.heap.size + 1 := by rw [← hW]; simp
  have hx : Rb W1 w.heap.size p := by rw [← hW]; exact Rb.new (q := p) Ia_0.out
  have Ib_1 := hI (Ib_0.out.on hn)
  have B_2 := hI (below_chain B_0.out B_0.out.size hn)
  generalize hr : w.heap.size = r at *
  have HRr := hI hr
  clear hr
  have Xa_3 : Hid (Rb W1 r p) := hI hx
  have HT3 := hz
  clear hn hx hz hW Ib_0 B_0 Ia_0
  generalize hW : World.alloc W1 _ = W4
  have hn := below_new W1 (.cells #[.bool q.g, .slice q.A q.n q.c, .bool q.gd, .slice q.Ad q.nd q.cd] 27)
  rw [hW] at hn
  have hz : W4.heap.size = W1.heap.size + 1 := by rw [← hW]; simp
  have hx : Rb W4 W1.heap.size q := by rw [← hW]; exact Rb.new (q := q) Ib_1.out
  have hlt : r < W1.heap.size := Xa_3.out.lt
  have B_4 := hI (bch B_2.out HRr.out hn)
  have Xa_5 := hI (Xa_3.out.on hn)
  rw [HT3] at hx hz hlt
  have Xb_6 : Hid (Rb W4 (r + 1) q) := hI hx
  have HT6 := hz
  clear hn hx hz hW hlt B_2 Xa_3 Ib_1
  generalize hW : World.alloc W4 _ = W7
  have hn := below_new W4 (.cells #[.bool false, .slice none 0 0, .bool false, .slice none 0 0] 27)
  rw [hW] at hn
  have hx : Rb W7 W4.heap.size RVal.nil := by rw [← hW]; exact Rb.new (q := RVal.nil) (RVal.nil_in W4)
  have hlt : (r + 1) < W4.heap.size := Xb_6.out.lt
  have B_7 := hI (bch B_4.out HRr.out hn)
  have Xa_8 := hI (Xa_5.out.on hn)
  have Xb_9 := hI (Xb_6.out.on hn)
  rw [HT6] at hx hlt
  have Xe_10 : Hid (Rb W7 (r + 1 + 1) RVal.nil) := hI hx
  clear hn hx hW hlt B_4 Xa_5 Xb_6
  clear HT3 HT6
  refine (rboth_q Xa_8.out.sl Xb_9.out.sl true (by rw [Va.out, Vb.out]; rfl)).mono ?_
  rintro e w11 ⟨rfl, hb⟩
  have B_11 := hI (bch B_7.out HRr.out hb)
  have Xa_12 := hI (Xa_8.out.on hb)
  have Xb_13 := hI (Xb_9.out.on hb)
  have Xe_14 := hI (Xe_10.out.on hb)
  clear hb B_7 Xa_8 Xb_9 Xe_10
  obtain ⟨ka0, ka1, ka2, ka3⟩ := Xa_12.out.cs
  have la := Xa_12.out.lt
  obtain ⟨kb0, kb1, kb2, kb3⟩ := Xb_13.out.cs
  have lb := Xb_13.out.lt
  go_wp2_with fail
  refine (rmul_e (g := p.g) (g' := q.g) Xa_12.out.sl.1 Xb_13.out.sl.1 (rv_some Va.out).1 (rv_some Vb.out).1 _ _ M1.out).mono ?_
  clear ka0 ka1 ka2 ka3 la kb0 kb1 kb2 kb3 lb
  rintro e w15 ⟨gu, Au, nu, cu, xsu, rfl, hs, ho, hb⟩
  have B_15 := hI (bch B_11.out HRr.out hb)
  have Xa_16 := hI (Xa_12.out.on hb)
  have Xb_17 := hI (Xb_13.out.on hb)
  have Xe_18 := hI (Xe_14.out.on hb)
  have Ju_19 : Hid (Sl w15 w15.heap.size Au nu cu xsu) := hI hs
  clear hb B_11 Xa_12 Xb_13 Xe_14 hs
  have Vu := hI ho
  clear ho
  obtain ⟨ka0, ka1, ka2, ka3⟩ := (Xa_16.out.on (below_new w15 (.cells #[.bool gu, .slice Au nu cu] 24))).cs
  have la := Xa_16.out.lt
  obtain ⟨kb0, kb1, kb2, kb3⟩ := (Xb_17.out.on (below_new w15 (.cells #[.bool gu, .slice Au nu cu] 24))).cs
  have lb := Xb_17.out.lt
  go_wp2_with fail
  generalize hW : World.alloc w15 _ = W20
  have hn := below_new w15 (.cells #[.bool gu, .slice Au nu cu] 24)
  rw [hW] at hn
  have hx : Ba W20 w15.heap.size gu Au nu cu xsu := by rw [← hW]; exact ⟨Bx.new w15 _ _ _ _, Ju_19.out.on (below_new _ _)⟩
  have hlt : (r + 1 + 1) < w15.heap.size := Xe_18.out.lt
  have B_20 := hI (bch B_15.out HRr.out hn)
  have Xa_21 := hI (Xa_16.out.on hn)
  have Xb_22 := hI (Xb_17.out.on hn)
  have Xe_23 := hI (Xe_18.out.on hn)
  generalize hbb : w15.heap.size = b1 at *
  clear hbb
  have Zu_24 : Hid (Ba W20 b1 gu Au nu cu xsu) := hI hx
  have O24 := hI hlt
  clear hn hx hW hlt B_15 Xa_16 Xb_17 Xe_18 Ju_19
  refine (rmul_e (g := p.gd) (g' := q.gd) Xa_21.out.sl.2 Xb_22.out.sl.2 (rv_some Va.out).2 (rv_some Vb.out).2 _ _ M2.out).mono ?_
  clear ka0 ka1 ka2 ka3 la kb0 kb1 kb2 kb3 lb
  rintro e w25 ⟨gd, Ad, nd, cd, xsd, rfl, hs, ho, hb⟩
  have B_25 := hI (bch B_20.out HRr.out hb)
  have Xa_26 := hI (Xa_21.out.on hb)
  have Xb_27 := hI (Xb_22.out.on hb)
  have Xe_28 := hI (Xe_23.out.on hb)
  have Zu_29 := hI (Zu_24.out.on hb)
  have Jd_30 : Hid (Sl w25 w25.heap.size Ad nd cd xsd) := hI hs
  clear hb B_20 Xa_21 Xb_22 Xe_23 Zu_24 hs
  have Vd := hI ho
  clear ho
  clear Xa_26 Xb_27
  obtain ⟨ku0, ku1⟩ := (Zu_29.out.on (below_new w25 (.cells #[.bool gd, .slice Ad nd cd] 24))).cs
  have lu := Zu_29.out.bx.lt
  go_wp2_with fail
  generalize hW : World.alloc w25 _ = W31
  have hn := below_new w25 (.cells #[.bool gd, .slice Ad nd cd] 24)
  rw [hW] at hn
  have hx : Ba W31 w25.heap.size gd Ad nd cd xsd := by rw [← hW]; exact ⟨Bx.new w25 _ _ _ _, Jd_30.out.on (below_new _ _)⟩
  have hlt : b1 < w25.heap.size := Zu_29.out.bx.lt
  have B_31 := hI (bch B_25.out HRr.out hn)
  have Xe_32 := hI (Xe_28.out.on hn)
  have Zu_33 := hI (Zu_29.out.on hn)
  generalize hbb : w25.heap.size = b2 at *
  clear hbb
  have Zd_34 : Hid (Ba W31 b2 gd Ad nd cd xsd) := hI hx
  have O34 := hI hlt
  clear hn hx hW hlt B_25 Xe_28 Zu_29 Jd_30
  refine (rlow_z Zu_33.out.sl Zd_34.out.sl Vu.out Vd.out HZ.out).mono ?_
  clear ku0 ku1 lu
  rintro e w35 ⟨tk, rfl, hi, hv, hb⟩
  have B_35 := hI (bch B_31.out HRr.out hb)
  have Xe_36 := hI (Xe_32.out.on hb)
  have Zu_37 := hI (Zu_33.out.on hb)
  have Zd_38 := hI (Zd_34.out.on hb)
  have Ik_39 : Hid (tk.In w35) := hI hi
  clear hb B_31 Xe_32 Zu_33 Zd_34 hi
  have Vk := hI hv
  clear hv
  clear Zu_37 Zd_38
  obtain ⟨ke0, ke1, ke2, ke3⟩ := Xe_36.out.cs
  obtain ⟨fe0, fe1, fe2, fe3⟩ := Xe_36.out.fs
  simp only [RVal.nil] at ke0 ke1 ke2 ke3
  have le := Xe_36.out.lt
  go_wp2
  clear ke0 ke1 ke2 ke3 fe0 fe1 fe2 fe3 le
  generalize hW : World.setCell (World.setCell (World.setCell (World.setCell w35 _ _) _ _) _ _) _ _ = W40
  have B_40 : Hid (Below r w W40) := by rw [← hW]; exact hI (below_put4 B_35.out (by omega) _ _ _ _)
  have Xe_41 : Hid (Rb W40 (r + 1 + 1) tk) := by rw [← hW]; exact hI (Rb.put (q' := tk) Xe_36.out Ik_39.out)
  clear hW B_35 Xe_36 Ik_39
  obtain ⟨j0, j1, j2, j3⟩ := Xe_41.out.cs
  try dsimp only at j0 j1 j2 j3
  refine bodyPost_ret (v := .tuple #[.agg #[.bool tk.g, .slice tk.A tk.n tk.c, .bool tk.gd, .slice tk.Ad tk.nd tk.cd], .int .i64 0]) (by simp [results, Tryz.results28, go_sem, j0, j1, j2, j3]) rfl ?_
  exact RetR.of Xe_41.out (rv_some Vk.out).1 (rv_some Vk.out).2 (by rw [HRr.out]; exact B_40.out)
set_option linter.unusedSimpArgs false in
set_option maxRecDepth 20000 in
set_option maxHeartbeats 2000000 in
theorem rdivq_bad (p q : RVal) (w : World) (ha : p.In w) (hb : q.In w) (hv : ((rv p.o p.od).isSome && (rv q.o q.od).isSome) = false) :
    Calls Tryz.prog 30 #[.agg #[.bool p.g, .slice p.A p.n p.c, .bool p.gd, .slice p.Ad p.nd p.cd], .agg #[.bool q.g, .slice q.A q.n q.c, .bool q.gd, .slice q.Ad q.nd q.cd]] w (RetR 0 0 1 w) := by
  have HV := hI hv
  clear hv
  have Ia_0 := hI ha
  clear ha
  have Ib_0 := hI hb
  clear hb
  have B_0 : Hid (Below w.heap.size w w) := hI (Below.refl _ _)
  go_enter Tryz.func30, Tryz.ntmps30
  go_wp2_with fail
  generalize hW : World.alloc w _ = W1
  have hn := below_new w (.cells #[.bool p.g, .slice p.A p.n p.c, .bool p.gd, .slice p.Ad p.nd p.cd] 27)
  rw [hW] at hn
  have hz : W1.heap.size = w.heap.size + 1 := by rw [← hW]; simp
  have hx : Rb W1 w.heap.size p := by rw [← hW]; exact Rb.new (q := p) Ia_0.out
  have Ib_1 := hI (Ib_0.out.on hn)
  have B_2 := hI (below_chain B_0.out B_0.out.size hn)
  generalize hr : w.heap.size = r at *
  have HRr := hI hr
  clear hr
  have Xa_3 : Hid (Rb W1 r p) := hI hx
  have HT3 := hz
  clear hn hx hz hW Ib_0 B_0 Ia_0
  generalize hW : World.alloc W1 _ = W4
  have hn := below_new W1 (.cells #[.bool q.g, .slice q.A q.n q.c, .bool q.gd, .slice q.Ad q.nd q.cd] 27)
  rw [hW] at hn
  have hz : W4.heap.size = W1.heap.size + 1 := by rw [← hW]; simp
  have hx : Rb W4 W1.heap.size q := by rw [← hW]; exact Rb.new (q := q) Ib_1.out
  have hlt : r < W1.heap.size := Xa_3.out.lt
  have B_4 := hI (bch B_2.out HRr.out hn)
  have Xa_5 := hI (Xa_3.out.on hn)
  rw [HT3] at hx hz hlt
  have Xb_6 : Hid (Rb W4 (r + 1) q) := hI hx
  have HT6 := hz
  clear hn hx hz hW hlt B_2 Xa_3 Ib_1
  generalize hW : World.alloc W4 _ = W7
  have hn := below_new W4 (.cells #[.bool false, .slice none 0 0, .bool false, .slice none 0 0] 27)
  rw [hW] at hn
  have hx : Rb W7 W4.heap.size RVal.nil := by rw [← hW]; exact Rb.new (q := RVal.nil) (RVal.nil_in W4)
  have hlt : (r + 1) < W4.heap.size := Xb_6.out.lt
  have B_7 := hI (bch B_4.out HRr.out hn)
  have Xa_8 := hI (Xa_5.out.on hn)
  have Xb_9 := hI (Xb_6.out.on hn)
  rw [HT6] at hx hlt
  have Xe_10 : Hid (Rb W7 (r + 1 + 1) RVal.nil) := hI hx
  clear hn hx hW hlt B_4 Xa_5 Xb_6
  clear HT3 HT6
  refine (rboth_q Xa_8.out.sl Xb_9.out.sl false HV.out).mono ?_
  rintro e w11 ⟨rfl, hb⟩
  have B_11 := hI (bch B_7.out HRr.out hb)
  have Xa_12 := hI (Xa_8.out.on hb)
  have Xb_13 := hI (Xb_9.out.on hb)
  have Xe_14 := hI (Xe_10.out.on hb)
  clear hb B_7 Xa_8 Xb_9 Xe_10
  obtain ⟨ke0, ke1, ke2, ke3⟩ := Xe_14.out.cs
  obtain ⟨fe0, fe1, fe2, fe3⟩ := Xe_14.out.fs
  simp only [RVal.nil] at ke0 ke1 ke2 ke3
  have le := Xe_14.out.lt
  go_wp2
  clear ke0 ke1 ke2 ke3 fe0 fe1 fe2 fe3 le
  generalize hW : World.setCell (World.setCell (World.setCell (World.setCell w11 _ _) _ _) _ _) _ _ = W15
  have B_15 : Hid (Below r w W15) := by rw [← hW]; exact hI (below_put4 B_11.out (by omega) _ _ _ _)
  have Xa_16 : Hid (Rb W15 r p) := by rw [← hW]; exact hI (Xa_12.out.pass Xe_14.out (by omega) _ _ _ _)
  have Xb_17 : Hid (Rb W15 (r + 1) q) := by rw [← hW]; exact hI (Xb_13.out.pass Xe_14.out (by omega) _ _ _ _)
  have Xe_18 : Hid (Rb W15 (r + 1 + 1) RVal.nil) := by rw [← hW]; exact hI (Rb.put (q' := RVal.nil) Xe_14.out (RVal.nil_in w11))
  clear hW B_11 Xa_12 Xb_13 Xe_14
  obtain ⟨j0, j1, j2, j3⟩ := Xe_18.out.cs
  try dsimp only at j0 j1 j2 j3
  simp only [RVal.nil] at j0 j1 j2 j3
  refine bodyPost_ret (v := .tuple #[.agg #[.bool false, .slice none 0 0, .bool false, .slice none 0 0], .int .i64 1]) (by simp [results, Tryz.results30, go_sem, j0, j1, j2, j3]) rfl ?_
  exact RetR.of Xe_18.out rfl rfl (by rw [HRr.out]; exact B_15.out)
set_option linter.unusedSimpArgs false in
set_option maxRecDepth 20000 in
set_option maxHeartbeats 2000000 in
theorem rdivq_0 (p q : RVal) (w : World) (ha : p.In w) (hb : q.In w) (x y : Rat) (ha2 : rv p.o p.od = some x) (hb2 : rv q.o q.od = some y) (hn : decide (q.n = 0) = true) :
    Calls Tryz.prog 30 #[.agg #[.bool p.g, .slice p.A p.n p.c, .bool p.gd, .slice p.Ad p.nd p.cd], .agg #[.bool q.g, .slice q.A q.n q.c, .bool q.gd, .slice q.Ad q.nd q.cd]] w (RetR 0 0 4 w) := by
  have Va := hI ha2
  have Vb := hI hb2
  have HN := hI hn
  clear ha2 hb2 hn
  have Ia_0 := hI ha
  clear ha
  have Ib_0 := hI hb
  clear hb
  have B_0 : Hid (Below w.heap.size w w) := hI (Below.refl _ _)
  go_enter Tryz.func30, Tryz.ntmps30
  go_wp2_with fail
  generalize hW : World.alloc w _ = W1
  have hn := below_new w (.cells #[.bool p.g, .slice p.A p.n p.c, .bool p.gd, .slice p.Ad p.nd p.cd] 27)
  rw [hW] at hn
  have hz : W1.heap.size = w.heap.size + 1 := by rw [← hW]; simp
  have hx : Rb W1 w.heap.size p := by rw [← hW]; exact Rb.new (q := p) Ia_0.out
  have Ib_1 := hI (Ib_0.out.on hn)
  have B_2 := hI (below_chain B_0.out B_0.out.size hn)
  generalize hr : w.heap.size = r at *
  have HRr := hI hr
  clear hr
  have Xa_3 : Hid (Rb W1 r p) := hI hx
  have HT3 := hz
  clear hn hx hz hW Ib_0 B_0 Ia_0
  generalize hW : World.alloc W1 _ = W4
  have hn := below_new W1 (.cells #[.bool q.g, .slice q.A q.n q.c, .bool q.gd, .slice q.Ad q.nd q.cd] 27)
  rw [hW] at hn
  have hz : W4.heap.size = W1.heap.size + 1 := by rw [← hW]; simp
  have hx : Rb W4 W1.heap.size q := by rw [← hW]; exact Rb.new (q := q) Ib_1.out
  have hlt : r < W1.heap.size := Xa_3.out.lt
  have B_4 := hI (bch B_2.out HRr.out hn)
  have Xa_5 := hI (Xa_3.out.on hn)
  rw [HT3] at hx hz hlt
  have Xb_6 : Hid (Rb W4 (r + 1) q) := hI hx
  have HT6 := hz
  clear hn hx hz hW hlt B_2 Xa_3 Ib_1
  generalize hW : World.alloc W4 _ = W7
  have hn := below_new W4 (.cells #[.bool false, .slice none 0 0, .bool false, .slice none 0 0] 27)
  rw [hW] at hn
  have hx : Rb W7 W4.heap.size RVal.nil := by rw [← hW]; exact Rb.new (q := RVal.nil) (RVal.nil_in W4)
  have hlt : (r + 1) < W4.heap.size := Xb_6.out.lt
  have B_7 := hI (bch B_4.out HRr.out hn)
  have Xa_8 := hI (Xa_5.out.on hn)
  have Xb_9 := hI (Xb_6.out.on hn)
  rw [HT6] at hx hlt
  have Xe_10 : Hid (Rb W7 (r + 1 + 1) RVal.nil) := hI hx
  clear hn hx hW hlt B_4 Xa_5 Xb_6
  clear HT3 HT6
  refine (rboth_q Xa_8.out.sl Xb_9.out.sl true (by rw [Va.out, Vb.out]; rfl)).mono ?_
  rintro e w11 ⟨rfl, hb⟩
  have B_11 := hI (bch B_7.out HRr.out hb)
  have Xa_12 := hI (Xa_8.out.on hb)
  have Xb_13 := hI (Xb_9.out.on hb)
  have Xe_14 := hI (Xe_10.out.on hb)
  clear hb B_7 Xa_8 Xb_9 Xe_10
  obtain ⟨kb0, kb1, kb2, kb3⟩ := Xb_13.out.cs
  have lb := Xb_13.out.lt
  go_wp2_with fail
  have C := riszero_any q.g q.A q.n q.c w11
  rw [HN.out] at C
  refine C.mono ?_
  clear C
  clear kb0 kb1 kb2 kb3 lb
  rintro e w15 ⟨rfl, hb⟩
  have B_15 := hI (bch B_11.out HRr.out hb)
  have Xa_16 := hI (Xa_12.out.on hb)
  have Xb_17 := hI (Xb_13.out.on hb)
  have Xe_18 := hI (Xe_14.out.on hb)
  clear hb B_11 Xa_12 Xb_13 Xe_14
  obtain ⟨ke0, ke1, ke2, ke3⟩ := Xe_18.out.cs
  obtain ⟨fe0, fe1, fe2, fe3⟩ := Xe_18.out.fs
  simp only [RVal.nil] at ke0 ke1 ke2 ke3
  have le := Xe_18.out.lt
  go_wp2
  clear ke0 ke1 ke2 ke3 fe0 fe1 fe2 fe3 le
  generalize hW : World.setCell (World.setCell (World.setCell (World.setCell w15 _ _) _ _) _ _) _ _ = W19
  have B_19 : Hid (Below r w W19) := by rw [← hW]; exact hI (below_put4 B_15.out (by omega) _ _ _ _)
  have Xa_20 : Hid (Rb W19 r p) := by rw [← hW]; exact hI (Xa_16.out.pass Xe_18.out (by omega) _ _ _ _)
  have Xb_21 : Hid (Rb W19 (r + 1) q) := by rw [← hW]; exact hI (Xb_17.out.pass Xe_18.out (by omega) _ _ _ _)
  have Xe_22 : Hid (Rb W19 (r + 1 + 1) RVal.nil) := by rw [← hW]; exact hI (Rb.put (q' := RVal.nil) Xe_18.out (RVal.nil_in w15))
  clear hW B_15 Xa_16 Xb_17 Xe_18
  obtain ⟨j0, j1, j2, j3⟩ := Xe_22.out.cs
  try dsimp only at j0 j1 j2 j3
  simp only [RVal.nil] at j0 j1 j2 j3
  refine bodyPost_ret (v := .tuple #[.agg #[.bool false, .slice none 0 0, .bool false, .slice none 0 0], .int .i64 4]) (by simp [results, Tryz.results30, go_sem, j0, j1, j2, j3]) rfl ?_
  exact RetR.of Xe_22.out rfl rfl (by rw [HRr.out]; exact B_19.out)
set_option linter.unusedSimpArgs false in
set_option maxRecDepth 20000 in
set_option maxHeartbeats 2000000 in
theorem rdivq_1 (p q : RVal) (w : World) (ha : p.In w) (hb : q.In w) (x y : Rat) (ha2 : rv p.o p.od = some x) (hb2 : rv q.o q.od = some y) (z1 er : Int) (hn : decide (q.n = 0) = false) (m1 : fitZ (x.num * (y.den : Int)) = z1 ∧ fitE (x.num * (y.den : Int)) = er) (he : (er != 0) = true) :
    Calls Tryz.prog 30 #[.agg #[.bool p.g, .slice p.A p.n p.c, .bool p.gd, .slice p.Ad p.nd p.cd], .agg #[.bool q.g, .slice q.A q.n q.c, .bool q.gd, .slice q.Ad q.nd q.cd]] w (RetR 0 0 er w) := by
  have Va := hI ha2
  have Vb := hI hb2
  have HN := hI hn
  have M1 := hI m1
  have HE := hI he
  clear ha2 hb2 hn m1 he
  have Ia_0 := hI ha
  clear ha
  have Ib_0 := hI hb
  clear hb
  have B_0 : Hid (Below w.heap.size w w) := hI (Below.refl _ _)
  go_enter Tryz.func30, Tryz.ntmps30
  go_wp2_with fail
  generalize hW : World.alloc w _ = W1
  have hn := below_new w (.cells #[.bool p.g, .slice p.A p.n p.c, .bool p.gd, .slice p.Ad p.nd p.cd] 27)
  rw [hW] at hn
  have hz : W1.heap.size = w.heap.size + 1 := by rw [← hW]; simp
  have hx : Rb W1 w.heap.size p := by rw [← hW]; exact Rb.new (q := p) Ia_0.out
  have Ib_1 := hI (Ib_0.out.on hn)
  have B_2 := hI (below_chain B_0.out B_0.out.size hn)
  generalize hr : w.heap.size = r at *
  have HRr := hI hr
  clear hr
  have Xa_3 : Hid (Rb W1 r p) := hI hx
  have HT3 := hz
  clear hn hx hz hW Ib_0 B_0 Ia_0
  generalize hW : World.alloc W1 _ = W4
  have hn := below_new W1 (.cells #[.bool q.g, .slice q.A q.n q.c, .bool q.gd, .slice q.Ad q.nd q.cd] 27)
  rw [hW] at hn
  have hz : W4.heap.size = W1.heap.size + 1 := by rw [← hW]; simp
  have hx : Rb W4 W1.heap.size q := by rw [← hW]; exact Rb.new (q := q) Ib_1.out
  have hlt : r < W1.heap.size := Xa_3.out.lt
  have B_4 := hI (bch B_2.out HRr.out hn)
  have Xa_5 := hI (Xa_3.out.on hn)
  rw [HT3] at hx hz hlt
  have Xb_6 : Hid (Rb W4 (r + 1) q) := hI hx
  have HT6 := hz
  clear hn hx hz hW hlt B_2 Xa_3 Ib_1
  generalize hW : World.alloc W4 _ = W7
  have hn := below_new W4 (.cells #[.bool false, .slice none 0 0, .bool false, .slice none 0 0] 27)
  rw [hW] at hn
  have hx : Rb W7 W4.heap.size RVal.nil := by rw [← hW]; exact Rb.new (q := RVal.nil) (RVal.nil_in W4)
  have hlt : (r + 1) < W4.heap.size := Xb_6.out.lt
  have B_7 := hI (bch B_4.out HRr.out hn)
  have Xa_8 := hI (Xa_5.out.on hn)
  have Xb_9 := hI (Xb_6.out.on hn)
  rw [HT6] at hx hlt
  have Xe_10 : Hid (Rb W7 (r + 1 + 1) RVal.nil) := hI hx
  clear hn hx hW hlt B_4 Xa_5 Xb_6
  clear HT3 HT6
  refine (rboth_q Xa_8.out.sl Xb_9.out.sl true (by rw [Va.out, Vb.out]; rfl)).mono ?_
  rintro e w11 ⟨rfl, hb⟩
  have B_11 := hI (bch B_7.out HRr.out hb)
  have Xa_12 := hI (Xa_8.out.on hb)
  have Xb_13 := hI (Xb_9.out.on hb)
  have Xe_14 := hI (Xe_10.out.on hb)
  clear hb B_7 Xa_8 Xb_9 Xe_10
  obtain ⟨kb0, kb1, kb2, kb3⟩ := Xb_13.out.cs
  have lb := Xb_13.out.lt
  go_wp2_with fail
  have C := riszero_any q.g q.A q.n q.c w11
  rw [HN.out] at C
  refine C.mono ?_
  clear C
  clear kb0 kb1 kb2 kb3 lb
  rintro e w15 ⟨rfl, hb⟩
  have B_15 := hI (bch B_11.out HRr.out hb)
  have Xa_16 := hI (Xa_12.out.on hb)
  have Xb_17 := hI (Xb_13.out.on hb)
  have Xe_18 := hI (Xe_14.out.on hb)
  clear hb B_11 Xa_12 Xb_13 Xe_14
  obtain ⟨ka0, ka1, ka2, ka3⟩ := Xa_16.out.cs
  have la := Xa_16.out.lt
  obtain ⟨kb0, kb1, kb2, kb3⟩ := Xb_17.out.cs
  have lb := Xb_17.out.lt
  go_wp2_with fail
  refine (rmul_e (g := p.g) (g' := q.gd) Xa_16.out.sl.1 Xb_17.out.sl.2 (rv_some Va.out).1 (rv_some Vb.out).2 _ _ M1.out).mono ?_
  clear ka0 ka1 ka2 ka3 la kb0 kb1 kb2 kb3 lb
  rintro e w19 ⟨gu, Au, nu, cu, xsu, rfl, hs, ho, hb⟩
  have B_19 := hI (bch B_15.out HRr.out hb)
  have Xa_20 := hI (Xa_16.out.on hb)
  have Xb_21 := hI (Xb_17.out.on hb)
  have Xe_22 := hI (Xe_18.out.on hb)
  have Ju_23 : Hid (Sl w19 w19.heap.size Au nu cu xsu) := hI hs
  clear hb B_15 Xa_16 Xb_17 Xe_18 hs
  have Vu := hI ho
  clear ho
  have hE : (er != 0) = true := HE.out
  clear Xa_20 Xb_21 Ju_23
  obtain ⟨ke0, ke1, ke2, ke3⟩ := Xe_22.out.cs
  obtain ⟨fe0, fe1, fe2, fe3⟩ := Xe_22.out.fs
  simp only [RVal.nil] at ke0 ke1 ke2 ke3
  have le := Xe_22.out.lt
  go_wp2
  clear ke0 ke1 ke2 ke3 fe0 fe1 fe2 fe3 le
  generalize hW : World.setCell (World.setCell (World.setCell (World.setCell w19 _ _) _ _) _ _) _ _ = W24
  have B_24 : Hid (Below r w W24) := by rw [← hW]; exact hI (below_put4 B_19.out (by omega) _ _ _ _)
  have Xe_25 : Hid (Rb W24 (r + 1 + 1) RVal.nil) := by rw [← hW]; exact hI (Rb.put (q' := RVal.nil) Xe_22.out (RVal.nil_in w19))
  clear hW B_19 Xe_22
  generalize hW : World.alloc W24 _ = W26
  have hn := below_new W24 (.cells #[.bool gu, .slice Au nu cu] 24)
  rw [hW] at hn
  have B_26 := hI (bch B_24.out HRr.out hn)
  have Xe_27 := hI (Xe_25.out.on hn)
  clear hn hW B_24 Xe_25
  obtain ⟨j0, j1, j2, j3⟩ := Xe_27.out.cs
  try dsimp only at j0 j1 j2 j3
  simp only [RVal.nil] at j0 j1 j2 j3
  refine bodyPost_ret (v := .tuple #[.agg #[.bool false, .slice none 0 0, .bool false, .slice none 0 0], .int .i64 er]) (by simp [results, Tryz.results30, go_sem, j0, j1, j2, j3]) rfl ?_
  exact RetR.of Xe_27.out rfl rfl (by rw [HRr.out]; exact B_26.out)
set_option linter.unusedSimpArgs false in
set_option maxRecDepth 20000 in
set_option maxHeartbeats 2000000 in
theorem rdivq_2 (p q : RVal) (w : World) (ha : p.In w) (hb : q.In w) (x y : Rat) (ha2 : rv p.o p.od = some x) (hb2 : rv q.o q.od = some y) (z1 z2 er : Int) (hn : decide (q.n = 0) = false) (m1 : fitZ (x.num * (y.den : Int)) = z1 ∧ fitE (x.num * (y.den : Int)) = 0) (m2 : fitZ ((x.den : Int) * y.num) = z2 ∧ fitE ((x.den : Int) * y.num) = er) (he : (er != 0) = true) :
    Calls Tryz.prog 30 #[.agg #[.bool p.g, .slice p.A p.n p.c, .bool p.gd, .slice p.Ad p.nd p.cd], .agg #[.bool q.g, .slice q.A q.n q.c, .bool q.gd, .slice q.Ad q.nd q.cd]] w (RetR 0 0 er w) := by
  have Va := hI ha2
  have Vb := hI hb2
  have HN := hI hn
  have M1 := hI m1
  have M2 := hI m2
  have HE := hI he
  clear ha2 hb2 hn m1 m2 he
  have Ia_0 := hI ha
  clear ha
  have Ib_0 := hI hb
  clear hb
  have B_0 : Hid (Below w.heap.size w w) := hI (Below.refl _ _)
  go_enter Tryz.func30, Tryz.ntmps30
  go_wp2_with fail
  generalize hW : World.alloc w _ = W1
  have hn := below_new w (.cells #[.bool p.g, .slice p.A p.n p.c, .bool p.gd, .slice p.Ad p.nd p.cd] 27)
  rw [hW] at hn
  have hz : W1.heap.size = w.heap.size + 1 := by rw [← hW]; simp
  have hx : Rb W1 w.heap.size p := by rw [← hW]; exact Rb.new (q := p) Ia_0.out
  have Ib_1 := hI (Ib_0.out.on hn)
  have B_2 := hI (below_chain B_0.out B_0.out.size hn)
  generalize hr : w.heap.size = r at *
  have HRr := hI hr
  clear hr
  have Xa_3 : Hid (Rb W1 r p) := hI hx
  have HT3 := hz
  clear hn hx hz hW Ib_0 B_0 Ia_0
  generalize hW : World.alloc W1 _ = W4
  have hn := below_new W1 (.cells #[.bool q.g, .slice q.A q.n q.c, .bool q.gd, .slice q.Ad q.nd q.cd] 27)
  rw [hW] at hn
  have hz : W4.heap.size = W1.heap.size + 1 := by rw [← hW]; simp
  have hx : Rb W4 W1.heap.size q := by rw [← hW]; exact Rb.new (q := q) Ib_1.out
  have hlt : r < W1.heap.size := Xa_3.out.lt
  have B_4 := hI (bch B_2.out HRr.out hn)
  have Xa_5 := hI (Xa_3.out.on hn)
  rw [HT3] at hx hz hlt
  have Xb_6 : Hid (Rb W4 (r + 1) q) := hI hx
  have HT6 := hz
  clear hn hx hz hW hlt B_2 Xa_3 Ib_1
  generalize hW : World.alloc W4 _ = W7
  have hn := below_new W4 (.cells #[.bool false, .slice none 0 0, .bool false, .slice none 0 0] 27)
  rw [hW] at hn
  have hx : Rb W7 W4.heap.size RVal.nil := by rw [← hW]; exact Rb.new (q := RVal.nil) (RVal.nil_in W4)
  have hlt : (r + 1) < W4.heap.size := Xb_6.out.lt
  have B_7 := hI (bch B_4.out HRr.out hn)
  have Xa_8 := hI (Xa_5.out.on hn)
  have Xb_9 := hI (Xb_6.out.on hn)
  rw [HT6] at hx hlt
  have Xe_10 : Hid (Rb W7 (r + 1 + 1) RVal.nil) := hI hx
  clear hn hx hW hlt B_4 Xa_5 Xb_6
  clear HT3 HT6
  refine (rboth_q Xa_8.out.sl Xb_9.out.sl true (by rw [Va.out, Vb.out]; rfl)).mono ?_
  rintro e w11 ⟨rfl, hb⟩
  have B_11 := hI (bch B_7.out HRr.out hb)
  have Xa_12 := hI (Xa_8.out.on hb)
  have Xb_13 := hI (Xb_9.out.on hb)
  have Xe_14 := hI (Xe_10.out.on hb)
  clear hb B_7 Xa_8 Xb_9 Xe_10
  obtain ⟨kb0, kb1, kb2, kb3⟩ := Xb_13.out.cs
  have lb := Xb_13.out.lt
  go_wp2_with fail
  have C := riszero_any q.g q.A q.n q.c w11
  rw [HN.out] at C
  refine C.mono ?_
  clear C
  clear kb0 kb1 kb2 kb3 lb
  rintro e w15 ⟨rfl, hb⟩
  have B_15 := hI (bch B_11.out HRr.out hb)
  have Xa_16 := hI (Xa_12.out.on hb)
  have Xb_17 := hI (Xb_13.out.on hb)
  have Xe_18 := hI (Xe_14.out.on hb)
  clear hb B_11 Xa_12 Xb_13 Xe_14
  obtain ⟨ka0, ka1, ka2, ka3⟩ := Xa_16.out.cs
  have la := Xa_16.out.lt
  obtain ⟨kb0, kb1, kb2, kb3⟩ := Xb_17.out.cs
  have lb := Xb_17.out.lt
  go_wp2_with fail
  refine (rmul_e (g := p.g) (g' := q.gd) Xa_16.out.sl.1 Xb_17.out.sl.2 (rv_some Va.out).1 (rv_some Vb.out).2 _ _ M1.out).mono ?_
  clear ka0 ka1 ka2 ka3 la kb0 kb1 kb2 kb3 lb
  rintro e w19 ⟨gu, Au, nu, cu, xsu, rfl, hs, ho, hb⟩
  have B_19 := hI (bch B_15.out HRr.out hb)
  have Xa_20 := hI (Xa_16.out.on hb)
  have Xb_21 := hI (Xb_17.out.on hb)
  have Xe_22 := hI (Xe_18.out.on hb)
  have Ju_23 : Hid (Sl w19 w19.heap.size Au nu cu xsu) := hI hs
  clear hb B_15 Xa_16 Xb_17 Xe_18 hs
  have Vu := hI ho
  clear ho
  obtain ⟨ka0, ka1, ka2, ka3⟩ := (Xa_20.out.on (below_new w19 (.cells #[.bool gu, .slice Au nu cu] 24))).cs
  have la := Xa_20.out.lt
  obtain ⟨kb0, kb1, kb2, kb3⟩ := (Xb_21.out.on (below_new w19 (.cells #[.bool gu, .slice Au nu cu] 24))).cs
  have lb := Xb_21.out.lt
  go_wp2_with fail
  generalize hW : World.alloc w19 _ = W24
  have hn := below_new w19 (.cells #[.bool gu, .slice Au nu cu] 24)
  rw [hW] at hn
  have hx : Ba W24 w19.heap.size gu Au nu cu xsu := by rw [← hW]; exact ⟨Bx.new w19 _ _ _ _, Ju_23.out.on (below_new _ _)⟩
  have hlt : (r + 1 + 1) < w19.heap.size := Xe_22.out.lt
  have B_24 := hI (bch B_19.out HRr.out hn)
  have Xa_25 := hI (Xa_20.out.on hn)
  have Xb_26 := hI (Xb_21.out.on hn)
  have Xe_27 := hI (Xe_22.out.on hn)
  generalize hbb : w19.heap.size = b1 at *
  clear hbb
  have Zu_28 : Hid (Ba W24 b1 gu Au nu cu xsu) := hI hx
  have O28 := hI hlt
  clear hn hx hW hlt B_19 Xa_20 Xb_21 Xe_22 Ju_23
  refine (rmul_e (g := p.gd) (g' := q.g) Xa_25.out.sl.2 Xb_26.out.sl.1 (rv_some Va.out).2 (rv_some Vb.out).1 _ _ M2.out).mono ?_
  clear ka0 ka1 ka2 ka3 la kb0 kb1 kb2 kb3 lb
  rintro e w29 ⟨gd, Ad, nd, cd, xsd, rfl, hs, ho, hb⟩
  have B_29 := hI (bch B_24.out HRr.out hb)
  have Xa_30 := hI (Xa_25.out.on hb)
  have Xb_31 := hI (Xb_26.out.on hb)
  have Xe_32 := hI (Xe_27.out.on hb)
  have Zu_33 := hI (Zu_28.out.on hb)
  have Jd_34 : Hid (Sl w29 w29.heap.size Ad nd cd xsd) := hI hs
  clear hb B_24 Xa_25 Xb_26 Xe_27 Zu_28 hs
  have Vd := hI ho
  clear ho
  clear Xa_30 Xb_31
  have hE : (er != 0) = true := HE.out
  clear Zu_33 Jd_34
  obtain ⟨ke0, ke1, ke2, ke3⟩ := Xe_32.out.cs
  obtain ⟨fe0, fe1, fe2, fe3⟩ := Xe_32.out.fs
  simp only [RVal.nil] at ke0 ke1 ke2 ke3
  have le := Xe_32.out.lt
  go_wp2
  clear ke0 ke1 ke2 ke3 fe0 fe1 fe2 fe3 le
  generalize hW : World.setCell (World.setCell (World.setCell (World.setCell w29 _ _) _ _) _ _) _ _ = W35
  have B_35 : Hid (Below r w W35) := by rw [← hW]; exact hI (below_put4 B_29.out (by omega) _ _ _ _)
  have Xe_36 : Hid (Rb W35 (r + 1 + 1) RVal.nil) := by rw [← hW]; exact hI (Rb.put (q' := RVal.nil) Xe_32.out (RVal.nil_in w29))
  clear hW B_29 Xe_32
  generalize hW : World.alloc W35 _ = W37
  have hn := below_new W35 (.cells #[.bool gd, .slice Ad nd cd] 24)
  rw [hW] at hn
  have B_37 := hI (bch B_35.out HRr.out hn)
  have Xe_38 := hI (Xe_36.out.on hn)
  clear hn hW B_35 Xe_36
  obtain ⟨j0, j1, j2, j3⟩ := Xe_38.out.cs
  try dsimp only at j0 j1 j2 j3
  simp only [RVal.nil] at j0 j1 j2 j3
  refine bodyPost_ret (v := .tuple #[.agg #[.bool false, .slice none 0 0, .bool false, .slice none 0 0], .int .i64 er]) (by simp [results, Tryz.results30, go_sem, j0, j1, j2, j3]) rfl ?_
  exact RetR.of Xe_38.out rfl rfl (by rw [HRr.out]; exact B_37.out)
set_option linter.unusedSimpArgs false in
set_option maxRecDepth 20000 in
set_option maxHeartbeats 2000000 in
theorem rdivq_3 (p q : RVal) (w : World) (ha : p.In w) (hb : q.In w) (x y : Rat) (ha2 : rv p.o p.od = some x) (hb2 : rv q.o q.od = some y) (z1 z2 : Int) (hn : decide (q.n = 0) = false) (m1 : fitZ (x.num * (y.den : Int)) = z1 ∧ fitE (x.num * (y.den : Int)) = 0) (m2 : fitZ ((x.den : Int) * y.num) = z2 ∧ fitE ((x.den : Int) * y.num) = 0) (hz : z2 ≠ 0) :
    Calls Tryz.prog 30 #[.agg #[.bool p.g, .slice p.A p.n p.c, .bool p.gd, .slice p.Ad p.nd p.cd], .agg #[.bool q.g, .slice q.A q.n q.c, .bool q.gd, .slice q.Ad q.nd q.cd]] w (RetR (Rat.divInt z1 z2).num (Rat.divInt z1 z2).den 0 w) := by
  have Va := hI ha2
  have Vb := hI hb2
  have HN := hI hn
  have M1 := hI m1
  have M2 := hI m2
  have HZ := hI hz
  clear ha2 hb2 hn m1 m2 hz
  have Ia_0 := hI ha
  clear ha
  have Ib_0 := hI hb
  clear hb
  have B_0 : Hid (Below w.heap.size w w) := hI (Below.refl _ _)
  go_enter Tryz.func30, Tryz.ntmps30
  go_wp2_with fail
  generalize hW : World.alloc w _ = W1
  have hn := below_new w (.cells #[.bool p.g, .slice p.A p.n p.c, .bool p.gd, .slice p.Ad p.nd p.cd] 27)
  rw [hW] at hn
  have hz : W1.heap.size = w.heap.size + 1 := by rw [← hW]; simp
  have hx : Rb W1 w.heap.size p := by rw [← hW]; exact Rb.new (q := p) Ia_0.out
  have Ib_1 := hI (Ib_0.out.on hn)
  have B_2 := hI (below_chain B_0.out B_0.out.size hn)
  generalize hr : w.heap.size = r at *
  have HRr := hI hr
  clear hr
  have Xa_3 : Hid (Rb W1 r p) := hI hx
  have HT3 := hz
  clear hn hx hz hW Ib_0 B_0 Ia_0
  generalize hW : World.alloc W1 _ = W4
  have hn := below_new W1 (.cells #[.bool q.g, .slice q.A q.n q.c, .bool q.gd, .slice q.Ad q.nd q.cd] 27)
  rw [hW] at hn
  have hz : W4.heap.size = W1.heap.size + 1 := by rw [← hW]; simp
  have hx : Rb W4 W1.heap.size q := by rw [← hW]; exact Rb.new (q := q) Ib_1.out
  have hlt : r < W1.heap.size := Xa_3.out.lt
  have B_4 := hI (bch B_2.out HRr.out hn)
  have Xa_5 := hI (Xa_3.out.on hn)
  rw [HT3] at hx hz hlt
  have Xb_6 : Hid (Rb W4 (r + 1) q) := hI hx
  have HT6 := hz
  clear hn hx hz hW hlt B_2 Xa_3 Ib_1
  generalize hW : World.alloc W4 _ = W7
  have hn := below_new W4 (.cells #[.bool false, .slice none 0 0, .bool false, .slice none 0 0] 27)
  rw [hW] at hn
  have hx : Rb W7 W4.heap.size RVal.nil := by rw [← hW]; exact Rb.new (q := RVal.nil) (RVal.nil_in W4)
  have hlt : (r + 1) < W4.heap.size := Xb_6.out.lt
  have B_7 := hI (bch B_4.out HRr.out hn)
  have Xa_8 := hI (Xa_5.out.on hn)
  have Xb_9 := hI (Xb_6.out.on hn)
  rw [HT6] at hx hlt
  have Xe_10 : Hid (Rb W7 (r + 1 + 1) RVal.nil) := hI hx
  clear hn hx hW hlt B_4 Xa_5 Xb_6
  clear HT3 HT6
  refine (rboth_q Xa_8.out.sl Xb_9.out.sl true (by rw [Va.out, Vb.out]; rfl)).mono ?_
  rintro e w11 ⟨rfl, hb⟩
  have B_11 := hI (bch B_7.out HRr.out hb)
  have Xa_12 := hI (Xa_8.out.on hb)
  have Xb_13 := hI (Xb_9.out.on hb)
  have Xe_14 := hI (Xe_10.out.on hb)
  clear hb B_7 Xa_8 Xb_9 Xe_10
  obtain ⟨kb0, kb1, kb2, kb3⟩ := Xb_13.out.cs
  have lb := Xb_13.out.lt
  go_wp2_with fail
  have C := riszero_any q.g q.A q.n q.c w11
  rw [HN.out] at C
  refine C.mono ?_
  clear C
  clear kb0 kb1 kb2 kb3 lb
  rintro e w15 ⟨rfl, hb⟩
  have B_15 := hI (bch B_11.out HRr.out hb)
  have Xa_16 := hI (Xa_12.out.on hb)
  have Xb_17 := hI (Xb_13.out.on hb)
  have Xe_18 := hI (Xe_14.out.on hb)
  clear hb B_11 Xa_12 Xb_13 Xe_14
  obtain ⟨ka0, ka1, ka2, ka3⟩ := Xa_16.out.cs
  have la := Xa_16.out.lt
  obtain ⟨kb0, kb1, kb2, kb3⟩ := Xb_17.out.cs
  have lb := Xb_17.out.lt
  go_wp2_with fail
  refine (rmul_e (g := p.g) (g' := q.gd) Xa_16.out.sl.1 Xb_17.out.sl.2 (rv_some Va.out).1 (rv_some Vb.out).2 _ _ M1.out).mono ?_
  clear ka0 ka1 ka2 ka3 la kb0 kb1 kb2 kb3 lb
  rintro e w19 ⟨gu, Au, nu, cu, xsu, rfl, hs, ho, hb⟩
  have B_19 := hI (bch B_15.out HRr.out hb)
  have Xa_20 := hI (Xa_16.out.on hb)
  have Xb_21 := hI (Xb_17.out.on hb)
  have Xe_22 := hI (Xe_18.out.on hb)
  have Ju_23 : Hid (Sl w19 w19.heap.size Au nu cu xsu) := hI hs
  clear hb B_15 Xa_16 Xb_17 Xe_18 hs
  have Vu := hI ho
  clear ho
  obtain ⟨ka0, ka1, ka2, ka3⟩ := (Xa_20.out.on (below_new w19 (.cells #[.bool gu, .slice Au nu cu] 24))).cs
  have la := Xa_20.out.lt
  obtain ⟨kb0, kb1, kb2, kb3⟩ := (Xb_21.out.on (below_new w19 (.cells #[.bool gu, .slice Au nu cu] 24))).cs
  have lb := Xb_21.out.lt
  go_wp2_with fail
  generalize hW : World.alloc w19 _ = W24
  have hn := below_new w19 (.cells #[.bool gu, .slice Au nu cu] 24)
  rw [hW] at hn
  have hx : Ba W24 w19.heap.size gu Au nu cu xsu := by rw [← hW]; exact ⟨Bx.new w19 _ _ _ _, Ju_23.out.on (below_new _ _)⟩
  have hlt : (r + 1 + 1) < w19.heap.size := Xe_22.out.lt
  have B_24 := hI (bch B_19.out HRr.out hn)
  have Xa_25 := hI (Xa_20.out.on hn)
  have Xb_26 := hI (Xb_21.out.on hn)
  have Xe_27 := hI (Xe_22.out.on hn)
  generalize hbb : w19.heap.size = b1 at *
  clear hbb
  have Zu_28 : Hid (Ba W24 b1 gu Au nu cu xsu) := hI hx
  have O28 := hI hlt
  clear hn hx hW hlt B_19 Xa_20 Xb_21 Xe_22 Ju_23
  refine (rmul_e (g := p.gd) (g' := q.g) Xa_25.out.sl.2 Xb_26.out.sl.1 (rv_some Va.out).2 (rv_some Vb.out).1 _ _ M2.out).mono ?_
  clear ka0 ka1 ka2 ka3 la kb0 kb1 kb2 kb3 lb
  rintro e w29 ⟨gd, Ad, nd, cd, xsd, rfl, hs, ho, hb⟩
  have B_29 := hI (bch B_24.out HRr.out hb)
  have Xa_30 := hI (Xa_25.out.on hb)
  have Xb_31 := hI (Xb_26.out.on hb)
  have Xe_32 := hI (Xe_27.out.on hb)
  have Zu_33 := hI (Zu_28.out.on hb)
  have Jd_34 : Hid (Sl w29 w29.heap.size Ad nd cd xsd) := hI hs
  clear hb B_24 Xa_25 Xb_26 Xe_27 Zu_28 hs
  have Vd := hI ho
  clear ho
  clear Xa_30 Xb_31
  obtain ⟨ku0, ku1⟩ := (Zu_33.out.on (below_new w29 (.cells #[.bool gd, .slice Ad nd cd] 24))).cs
  have lu := Zu_33.out.bx.lt
  go_wp2_with fail
  generalize hW : World.alloc w29 _ = W35
  have hn := below_new w29 (.cells #[.bool gd, .slice Ad nd cd] 24)
  rw [hW] at hn
  have hx : Ba W35 w29.heap.size gd Ad nd cd xsd := by rw [← hW]; exact ⟨Bx.new w29 _ _ _ _, Jd_34.out.on (below_new _ _)⟩
  have hlt : b1 < w29.heap.size := Zu_33.out.bx.lt
  have B_35 := hI (bch B_29.out HRr.out hn)
  have Xe_36 := hI (Xe_32.out.on hn)
  have Zu_37 := hI (Zu_33.out.on hn)
  generalize hbb : w29.heap.size = b2 at *
  clear hbb
  have Zd_38 : Hid (Ba W35 b2 gd Ad nd cd xsd) := hI hx
  have O38 := hI hlt
  clear hn hx hW hlt B_29 Xe_32 Zu_33 Jd_34
  refine (rlow_z Zu_37.out.sl Zd_38.out.sl Vu.out Vd.out HZ.out).mono ?_
  clear ku0 ku1 lu
  rintro e w39 ⟨tk, rfl, hi, hv, hb⟩
  have B_39 := hI (bch B_35.out HRr.out hb)
  have Xe_40 := hI (Xe_36.out.on hb)
  have Zu_41 := hI (Zu_37.out.on hb)
  have Zd_42 := hI (Zd_38.out.on hb)
  have Ik_43 : Hid (tk.In w39) := hI hi
  clear hb B_35 Xe_36 Zu_37 Zd_38 hi
  have Vk := hI hv
  clear hv
  clear Zu_41 Zd_42
  obtain ⟨ke0, ke1, ke2, ke3⟩ := Xe_40.out.cs
  obtain ⟨fe0, fe1, fe2, fe3⟩ := Xe_40.out.fs
  simp only [RVal.nil] at ke0 ke1 ke2 ke3
  have le := Xe_40.out.lt
  go_wp2
  clear ke0 ke1 ke2 ke3 fe0 fe1 fe2 fe3 le
  generalize hW : World.setCell (World.setCell (World.setCell (World.setCell w39 _ _) _ _) _ _) _ _ = W44
  have B_44 : Hid (Below r w W44) := by rw [← hW]; exact hI (below_put4 B_39.out (by omega) _ _ _ _)
  have Xe_45 : Hid (Rb W44 (r + 1 + 1) tk) := by rw [← hW]; exact hI (Rb.put (q' := tk) Xe_40.out Ik_43.out)
  clear hW B_39 Xe_40 Ik_43
  obtain ⟨j0, j1, j2, j3⟩ := Xe_45.out.cs
  try dsimp only at j0 j1 j2 j3
  refine bodyPost_ret (v := .tuple #[.agg #[.bool tk.g, .slice tk.A tk.n tk.c, .bool tk.gd, .slice tk.Ad tk.nd tk.cd], .int .i64 0]) (by simp [results, Tryz.results30, go_sem, j0, j1, j2, j3]) rfl ?_
  exact RetR.of Xe_45.out (rv_some Vk.out).1 (rv_some Vk.out).2 (by rw [HRr.out]; exact B_44.out)
set_option linter.unusedSimpArgs false in
set_option maxRecDepth 20000 in
set_option maxHeartbeats 2000000 in
theorem raddq_run (p q : RVal) (w : World) (ha : p.In w) (hb : q.In w) (z zd er : Int) (hc : ∀ w, p.In w → q.In w → Calls Tryz.prog 65 #[.agg #[.bool p.g, .slice p.A p.n p.c, .bool p.gd, .slice p.Ad p.nd p.cd], .agg #[.bool q.g, .slice q.A q.n q.c, .bool q.gd, .slice q.Ad q.nd q.cd], .bool false] w (RetR z zd er w)) :
    Calls Tryz.prog 24 #[.agg #[.bool p.g, .slice p.A p.n p.c, .bool p.gd, .slice p.Ad p.nd p.cd], .agg #[.bool q.g, .slice q.A q.n q.c, .bool q.gd, .slice q.Ad q.nd q.cd]] w (RetR z zd er w) := by
  have HC := hI hc
  clear hc
  have Ia_0 := hI ha
  clear ha
  have Ib_0 := hI hb
  clear hb
  have B_0 : Hid (Below w.heap.size w w) := hI (Below.refl _ _)
  go_enter Tryz.func24, Tryz.ntmps24
  go_wp2_with fail
  generalize hW : World.alloc w _ = W1
  have hn := below_new w (.cells #[.bool p.g, .slice p.A p.n p.c, .bool p.gd, .slice p.Ad p.nd p.cd] 27)
  rw [hW] at hn
  have hz : W1.heap.size = w.heap.size + 1 := by rw [← hW]; simp
  have hx : Rb W1 w.heap.size p := by rw [← hW]; exact Rb.new (q := p) Ia_0.out
  have Ib_1 := hI (Ib_0.out.on hn)
  have B_2 := hI (below_chain B_0.out B_0.out.size hn)
  generalize hr : w.heap.size = r at *
  have HRr := hI hr
  clear hr
  have Xa_3 : Hid (Rb W1 r p) := hI hx
  have HT3 := hz
  clear hn hx hz hW Ib_0 B_0 Ia_0
  generalize hW : World.alloc W1 _ = W4
  have hn := below_new W1 (.cells #[.bool q.g, .slice q.A q.n q.c, .bool q.gd, .slice q.Ad q.nd q.cd] 27)
  rw [hW] at hn
  have hz : W4.heap.size = W1.heap.size + 1 := by rw [← hW]; simp
  have hx : Rb W4 W1.heap.size q := by rw [← hW]; exact Rb.new (q := q) Ib_1.out
  have hlt : r < W1.heap.size := Xa_3.out.lt
  have B_4 := hI (bch B_2.out HRr.out hn)
  have Xa_5 := hI (Xa_3.out.on hn)
  rw [HT3] at hx hz hlt
  have Xb_6 : Hid (Rb W4 (r + 1) q) := hI hx
  have HT6 := hz
  clear hn hx hz hW hlt B_2 Xa_3 Ib_1
  generalize hW : World.alloc W4 _ = W7
  have hn := below_new W4 (.cells #[.bool false, .slice none 0 0, .bool false, .slice none 0 0] 27)
  rw [hW] at hn
  have hx : Rb W7 W4.heap.size RVal.nil := by rw [← hW]; exact Rb.new (q := RVal.nil) (RVal.nil_in W4)
  have hlt : (r + 1) < W4.heap.size := Xb_6.out.lt
  have B_7 := hI (bch B_4.out HRr.out hn)
  have Xa_8 := hI (Xa_5.out.on hn)
  have Xb_9 := hI (Xb_6.out.on hn)
  rw [HT6] at hx hlt
  have Xe_10 : Hid (Rb W7 (r + 1 + 1) RVal.nil) := hI hx
  clear hn hx hW hlt B_4 Xa_5 Xb_6
  clear HT3 HT6
  refine (HC.out W7 Xa_8.out.sl Xb_9.out.sl).mono ?_
  rintro e w11 ⟨tk, rfl, hi, hv, hv2, hb⟩
  have B_11 := hI (bch B_7.out HRr.out hb)
  have Xa_12 := hI (Xa_8.out.on hb)
  have Xb_13 := hI (Xb_9.out.on hb)
  have Xe_14 := hI (Xe_10.out.on hb)
  have Ik_15 : Hid (tk.In w11) := hI hi
  clear hb B_7 Xa_8 Xb_9 Xe_10 hi
  have Vk := hI (And.intro hv hv2)
  clear hv hv2
  obtain ⟨ke0, ke1, ke2, ke3⟩ := Xe_14.out.cs
  obtain ⟨fe0, fe1, fe2, fe3⟩ := Xe_14.out.fs
  simp only [RVal.nil] at ke0 ke1 ke2 ke3
  have le := Xe_14.out.lt
  go_wp2
  clear ke0 ke1 ke2 ke3 fe0 fe1 fe2 fe3 le
  generalize hW : World.setCell (World.setCell (World.setCell (World.setCell w11 _ _) _ _) _ _) _ _ = W16
  have B_16 : Hid (Below r w W16) := by rw [← hW]; exact hI (below_put4 B_11.out (by omega) _ _ _ _)
  have Xa_17 : Hid (Rb W16 r p) := by rw [← hW]; exact hI (Xa_12.out.pass Xe_14.out (by omega) _ _ _ _)
  have Xb_18 : Hid (Rb W16 (r + 1) q) := by rw [← hW]; exact hI (Xb_13.out.pass Xe_14.out (by omega) _ _ _ _)
  have Xe_19 : Hid (Rb W16 (r + 1 + 1) tk) := by rw [← hW]; exact hI (Rb.put (q' := tk) Xe_14.out Ik_15.out)
  clear hW B_11 Xa_12 Xb_13 Xe_14 Ik_15
  obtain ⟨j0, j1, j2, j3⟩ := Xe_19.out.cs
  try dsimp only at j0 j1 j2 j3
  refine bodyPost_ret (v := .tuple #[.agg #[.bool tk.g, .slice tk.A tk.n tk.c, .bool tk.gd, .slice tk.Ad tk.nd tk.cd], .int .i64 er]) (by simp [results, Tryz.results24, go_sem, j0, j1, j2, j3]) rfl ?_
  exact RetR.of Xe_19.out Vk.out.1 Vk.out.2 (by rw [HRr.out]; exact B_16.out)
set_option linter.unusedSimpArgs false in
set_option maxRecDepth 20000 in
set_option maxHeartbeats 2000000 in
theorem rsubq_run (p q : RVal) (w : World) (ha : p.In w) (hb : q.In w) (z zd er : Int) (hc : ∀ w, p.In w → q.In w → Calls Tryz.prog 65 #[.agg #[.bool p.g, .slice p.A p.n p.c, .bool p.gd, .slice p.Ad p.nd p.cd], .agg #[.bool q.g, .slice q.A q.n q.c, .bool q.gd, .slice q.Ad q.nd q.cd], .bool true] w (RetR z zd er w)) :
    Calls Tryz.prog 26 #[.agg #[.bool p.g, .slice p.A p.n p.c, .bool p.gd, .slice p.Ad p.nd p.cd], .agg #[.bool q.g, .slice q.A q.n q.c, .bool q.gd, .slice q.Ad q.nd q.cd]] w (RetR z zd er w) := by
  have HC := hI hc
  clear hc
  have Ia_0 := hI ha
  clear ha
  have Ib_0 := hI hb
  clear hb
  have B_0 : Hid (Below w.heap.size w w) := hI (Below.refl _ _)
  go_enter Tryz.func26, Tryz.ntmps26
  go_wp2_with fail
  generalize hW : World.alloc w _ = W1
  have hn := below_new w (.cells #[.bool p.g, .slice p.A p.n p.c, .bool p.gd, .slice p.Ad p.nd p.cd] 27)
  rw [hW] at hn
  have hz : W1.heap.size = w.heap.size + 1 := by rw [← hW]; simp
  have hx : Rb W1 w.heap.size p := by rw [← hW]; exact Rb.new (q := p) Ia_0.out
  have Ib_1 := hI (Ib_0.out.on hn)
  have B_2 := hI (below_chain B_0.out B_0.out.size hn)
  generalize hr : w.heap.size = r at *
  have HRr := hI hr
  clear hr
  have Xa_3 : Hid (Rb W1 r p) := hI hx
  have HT3 := hz
  clear hn hx hz hW Ib_0 B_0 Ia_0
  generalize hW : World.alloc W1 _ = W4
  have hn := below_new W1 (.cells #[.bool q.g, .slice q.A q.n q.c, .bool q.gd, .slice q.Ad q.nd q.cd] 27)
  rw [hW] at hn
  have hz : W4.heap.size = W1.heap.size + 1 := by rw [← hW]; simp
  have hx : Rb W4 W1.heap.size q := by rw [← hW]; exact Rb.new (q := q) Ib_1.out
  have hlt : r < W1.heap.size := Xa_3.out.lt
  have B_4 := hI (bch B_2.out HRr.out hn)
  have Xa_5 := hI (Xa_3.out.on hn)
  rw [HT3] at hx hz hlt
  have Xb_6 : Hid (Rb W4 (r + 1) q) := hI hx
  have HT6 := hz
  clear hn hx hz hW hlt B_2 Xa_3 Ib_1
  generalize hW : World.alloc W4 _ = W7
  have hn := below_new W4 (.cells #[.bool false, .slice none 0 0, .bool false, .slice none 0 0] 27)
  rw [hW] at hn
  have hx : Rb W7 W4.heap.size RVal.nil := by rw [← hW]; exact Rb.new (q := RVal.nil) (RVal.nil_in W4)
  have hlt : (r + 1) < W4.heap.size := Xb_6.out.lt
  have B_7 := hI (bch B_4.out HRr.out hn)
  have Xa_8 := hI (Xa_5.out.on hn)
  have Xb_9 := hI (Xb_6.out.on hn)
  rw [HT6] at hx hlt
  have Xe_10 : Hid (Rb W7 (r + 1 + 1) RVal.nil) := hI hx
  clear hn hx hW hlt B_4 Xa_5 Xb_6
  clear HT3 HT6
  refine (HC.out W7 Xa_8.out.sl Xb_9.out.sl).mono ?_
  rintro e w11 ⟨tk, rfl, hi, hv, hv2, hb⟩
  have B_11 := hI (bch B_7.out HRr.out hb)
  have Xa_12 := hI (Xa_8.out.on hb)
  have Xb_13 := hI (Xb_9.out.on hb)
  have Xe_14 := hI (Xe_10.out.on hb)
  have Ik_15 : Hid (tk.In w11) := hI hi
  clear hb B_7 Xa_8 Xb_9 Xe_10 hi
  have Vk := hI (And.intro hv hv2)
  clear hv hv2
  obtain ⟨ke0, ke1, ke2, ke3⟩ := Xe_14.out.cs
  obtain ⟨fe0, fe1, fe2, fe3⟩ := Xe_14.out.fs
  simp only [RVal.nil] at ke0 ke1 ke2 ke3
  have le := Xe_14.out.lt
  go_wp2
  clear ke0 ke1 ke2 ke3 fe0 fe1 fe2 fe3 le
  generalize hW : World.setCell (World.setCell (World.setCell (World.setCell w11 _ _) _ _) _ _) _ _ = W16
  have B_16 : Hid (Below r w W16) := by rw [← hW]; exact hI (below_put4 B_11.out (by omega) _ _ _ _)
  have Xa_17 : Hid (Rb W16 r p) := by rw [← hW]; exact hI (Xa_12.out.pass Xe_14.out (by omega) _ _ _ _)
  have Xb_18 : Hid (Rb W16 (r + 1) q) := by rw [← hW]; exact hI (Xb_13.out.pass Xe_14.out (by omega) _ _ _ _)
  have Xe_19 : Hid (Rb W16 (r + 1 + 1) tk) := by rw [← hW]; exact hI (Rb.put (q' := tk) Xe_14.out Ik_15.out)
  clear hW B_11 Xa_12 Xb_13 Xe_14 Ik_15
  obtain ⟨j0, j1, j2, j3⟩ := Xe_19.out.cs
  try dsimp only at j0 j1 j2 j3
  refine bodyPost_ret (v := .tuple #[.agg #[.bool tk.g, .slice tk.A tk.n tk.c, .bool tk.gd, .slice tk.Ad tk.nd tk.cd], .int .i64 er]) (by simp [results, Tryz.results26, go_sem, j0, j1, j2, j3]) rfl ?_
  exact RetR.of Xe_19.out Vk.out.1 Vk.out.2 (by rw [HRr.out]; exact B_16.out)
end Go.Proofs.YtlibjampolcbhaaGreat
