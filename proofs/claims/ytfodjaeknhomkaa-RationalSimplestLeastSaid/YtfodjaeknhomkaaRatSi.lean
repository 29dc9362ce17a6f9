/-
  Stage 2: Simplest of two rationals, of which the first one is less.
-/
import Derived.Test.YtfodjaeknhomkaaRatNg
import Derived.Test.YtfodjaeknhomkaaRatRb
import Derived.Test.YtfodjaeknhomkaaRatO
namespace Go.Proofs.Ytfodjaeknhomkaa
open Go.RowKit
set_option linter.unusedSimpArgs false in
set_option maxRecDepth 20000 in
set_option maxHeartbeats 2000000 in
theorem simp_mid (p q : RVal) (w : World) (ha : p.In w) (hb : q.In w) (hc : ∀ w : World, p.In w → q.In w → Calls Try.prog 18 #[.agg #[.bool p.g, .slice p.A p.n p.c, .bool p.gd, .slice p.Ad p.nd p.cd], .agg #[.bool q.g, .slice q.A q.n q.c, .bool q.gd, .slice q.Ad q.nd q.cd]] w (RetC (-1) 0 w)) (hg : p.g = true ∧ q.g = false ∧ decide (0 < q.n) = true) :
    Calls Try.prog 5 #[.agg #[.bool p.g, .slice p.A p.n p.c, .bool p.gd, .slice p.Ad p.nd p.cd], .agg #[.bool q.g, .slice q.A q.n q.c, .bool q.gd, .slice q.Ad q.nd q.cd]] w (RetR (mkN (some 0) (some 1)) (mkD (some 0) (some 1)) (mkE (some 0) (some 1)) w) := by
  have HC := hI hc
  have HG := hI hg
  clear hc hg
  have Ia_0 := hI ha
  clear ha
  have Ib_0 := hI hb
  clear hb
  have B_0 : Hid (Below w.heap.size w w) := hI (Below.refl _ _)
  go_enter Try.func5, Try.ntmps5
  go_wp2_with fail
  generalize hW : World.alloc w _ = W1
  have hn := below_new w (.cells #[.bool p.g, .slice p.A p.n p.c, .bool p.gd, .slice p.Ad p.nd p.cd] 28)
  rw [hW] at hn
  have hz : W1.heap.size = w.heap.size + 1 := by rw [← hW]; simp
  have hx : Rb W1 w.heap.size p := by rw [← hW]; exact Rb.new (q := p) Ia_0.out
  have Ib_1 := hI (Ib_0.out.on hn)
  have B_2 := hI (below_chain B_0.out B_0.out.size hn)
  generalize hr : w.heap.size = r at *
  have HRr := hI hr
  clear hr
  have Xa_3 : Hid (Rb W1 r p) := hI hx
  have HT3 := hz
  clear hn hx hz hW Ib_0 B_0 Ia_0
  generalize hW : World.alloc W1 _ = W4
  have hn := below_new W1 (.cells #[.bool q.g, .slice q.A q.n q.c, .bool q.gd, .slice q.Ad q.nd q.cd] 28)
  rw [hW] at hn
  have hz : W4.heap.size = W1.heap.size + 1 := by rw [← hW]; simp
  have hx : Rb W4 W1.heap.size q := by rw [← hW]; exact Rb.new (q := q) Ib_1.out
  have hlt : r < W1.heap.size := Xa_3.out.lt
  have B_4 := hI (bch B_2.out HRr.out hn)
  have Xa_5 := hI (Xa_3.out.on hn)
  rw [HT3] at hx hz hlt
  have Xb_6 : Hid (Rb W4 (r + 1) q) := hI hx
  have HT6 := hz
  clear hn hx hz hW hlt B_2 Xa_3 Ib_1
  generalize hW : World.alloc W4 _ = W7
  have hn := below_new W4 (.cells #[.bool false, .slice none 0 0, .bool false, .slice none 0 0] 28)
  rw [hW] at hn
  have hx : Rb W7 W4.heap.size RVal.nil := by rw [← hW]; exact Rb.new (q := RVal.nil) (RVal.nil_in W4)
  have hlt : (r + 1) < W4.heap.size := Xb_6.out.lt
  have B_7 := hI (bch B_4.out HRr.out hn)
  have Xa_8 := hI (Xa_5.out.on hn)
  have Xb_9 := hI (Xb_6.out.on hn)
  rw [HT6] at hx hlt
  have Xe_10 : Hid (Rb W7 (r + 1 + 1) RVal.nil) := hI hx
  clear hn hx hW hlt B_4 Xa_5 Xb_6
  clear HT3 HT6
  refine (HC.out W7 Xa_8.out.sl Xb_9.out.sl).mono ?_
  rintro e w11 ⟨rfl, hb⟩
  have B_11 := hI (bch B_7.out HRr.out hb)
  have Xa_12 := hI (Xa_8.out.on hb)
  have Xb_13 := hI (Xb_9.out.on hb)
  have Xe_14 := hI (Xe_10.out.on hb)
  clear hb B_7 Xa_8 Xb_9 Xe_10
  have g1 : p.g = true := HG.out.1
  have g2 : q.g = false := HG.out.2.1
  have g3 : decide (0 < q.n) = true := HG.out.2.2
  obtain ⟨ka0, ka1, ka2, ka3⟩ := Xa_12.out.cs
  have la := Xa_12.out.lt
  obtain ⟨kb0, kb1, kb2, kb3⟩ := Xb_13.out.cs
  have lb := Xb_13.out.lt
  rw [g1] at ka0
  rw [g2] at kb0
  clear g1 g2
  go_wp2_with fail
  clear g3
  refine (ratOf_any 0 1 w11 (by decide) (by decide) (by decide) (by decide)).mono ?_
  clear ka0 ka1 ka2 ka3 la kb0 kb1 kb2 kb3 lb
  rintro e w15 ⟨tk, rfl, hi, hv, hv2, hb⟩
  have B_15 := hI (bch B_11.out HRr.out hb)
  have Xa_16 := hI (Xa_12.out.on hb)
  have Xb_17 := hI (Xb_13.out.on hb)
  have Xe_18 := hI (Xe_14.out.on hb)
  have Ik_19 : Hid (tk.In w15) := hI hi
  clear hb B_11 Xa_12 Xb_13 Xe_14 hi
  have Vk := hI (And.intro hv hv2)
  clear hv hv2
  clear Xa_16 Xb_17
  obtain ⟨ke0, ke1, ke2, ke3⟩ := Xe_18.out.cs
  obtain ⟨fe0, fe1, fe2, fe3⟩ := Xe_18.out.fs
  simp only [RVal.nil] at ke0 ke1 ke2 ke3
  have le := Xe_18.out.lt
  go_wp2
  clear ke0 ke1 ke2 ke3 fe0 fe1 fe2 fe3 le
  generalize hW : World.setCell (World.setCell (World.setCell (World.setCell w15 _ _) _ _) _ _) _ _ = W20
  have B_20 : Hid (Below r w W20) := by rw [← hW]; exact hI (below_put4 B_15.out (by omega) _ _ _ _)
  have Xe_21 : Hid (Rb W20 (r + 1 + 1) tk) := by rw [← hW]; exact hI (Rb.put (q' := tk) Xe_18.out Ik_19.out)
  clear hW B_15 Xe_18 Ik_19
  have E0 : mkE (some 0) (some 1) = 0 := by decide
  obtain ⟨j0, j1, j2, j3⟩ := Xe_21.out.cs
  try dsimp only at j0 j1 j2 j3
  refine bodyPost_ret (v := .tuple #[.agg #[.bool tk.g, .slice tk.A tk.n tk.c, .bool tk.gd, .slice tk.Ad tk.nd tk.cd], .int .i64 (mkE (some 0) (some 1))]) (by simp [results, Try.results5, go_sem, j0, j1, j2, j3]) rfl ?_
  exact RetR.of Xe_21.out Vk.out.1 Vk.out.2 (by rw [HRr.out]; exact B_20.out)
set_option linter.unusedSimpArgs false in
set_option maxRecDepth 20000 in
set_option maxHeartbeats 2000000 in
theorem simp_hi1 (p q : RVal) (w : World) (ha : p.In w) (hb : q.In w) (hc : ∀ w : World, p.In w → q.In w → Calls Try.prog 18 #[.agg #[.bool p.g, .slice p.A p.n p.c, .bool p.gd, .slice p.Ad p.nd p.cd], .agg #[.bool q.g, .slice q.A q.n q.c, .bool q.gd, .slice q.Ad q.nd q.cd]] w (RetC (-1) 0 w)) (na da nb db : Int) (z : Rat) (hg : p.g = true ∧ q.g = true ∧ decide (0 < q.n) = true) (h1 : p.o = some na ∧ p.od = some da) (h2 : q.o = some nb ∧ q.od = some db) (he : ∀ (f1 f2 : RVal) (w : World), f1.In w → f2.In w → f1.o = some (-nb) → f1.od = some db → f2.o = some (-na) → f2.od = some da → Calls Try.prog 19 #[.agg #[.bool f1.g, .slice f1.A f1.n f1.c, .bool f1.gd, .slice f1.Ad f1.nd f1.cd], .agg #[.bool f2.g, .slice f2.A f2.n f2.c, .bool f2.gd, .slice f2.Ad f2.nd f2.cd]] w (RetV z w)) :
    Calls Try.prog 5 #[.agg #[.bool p.g, .slice p.A p.n p.c, .bool p.gd, .slice p.Ad p.nd p.cd], .agg #[.bool q.g, .slice q.A q.n q.c, .bool q.gd, .slice q.Ad q.nd q.cd]] w (RetR (-z.num) (z.den : Int) 0 w) := by
  have HC := hI hc
  have HG := hI hg
  have H1 := hI h1
  have H2 := hI h2
  have HE := hI he
  clear hc hg h1 h2 he
  have Ia_0 := hI ha
  clear ha
  have Ib_0 := hI hb
  clear hb
  have B_0 : Hid (Below w.heap.size w w) := hI (Below.refl _ _)
  go_enter Try.func5, Try.ntmps5
  go_wp2_with fail
  generalize hW : World.alloc w _ = W1
  have hn := below_new w (.cells #[.bool p.g, .slice p.A p.n p.c, .bool p.gd, .slice p.Ad p.nd p.cd] 28)
  rw [hW] at hn
  have hz : W1.heap.size = w.heap.size + 1 := by rw [← hW]; simp
  have hx : Rb W1 w.heap.size p := by rw [← hW]; exact Rb.new (q := p) Ia_0.out
  have Ib_1 := hI (Ib_0.out.on hn)
  have B_2 := hI (below_chain B_0.out B_0.out.size hn)
  generalize hr : w.heap.size = r at *
  have HRr := hI hr
  clear hr
  have Xa_3 : Hid (Rb W1 r p) := hI hx
  have HT3 := hz
  clear hn hx hz hW Ib_0 B_0 Ia_0
  generalize hW : World.alloc W1 _ = W4
  have hn := below_new W1 (.cells #[.bool q.g, .slice q.A q.n q.c, .bool q.gd, .slice q.Ad q.nd q.cd] 28)
  rw [hW] at hn
  have hz : W4.heap.size = W1.heap.size + 1 := by rw [← hW]; simp
  have hx : Rb W4 W1.heap.size q := by rw [← hW]; exact Rb.new (q := q) Ib_1.out
  have hlt : r < W1.heap.size := Xa_3.out.lt
  have B_4 := hI (bch B_2.out HRr.out hn)
  have Xa_5 := hI (Xa_3.out.on hn)
  rw [HT3] at hx hz hlt
  have Xb_6 : Hid (Rb W4 (r + 1) q) := hI hx
  have HT6 := hz
  clear hn hx hz hW hlt B_2 Xa_3 Ib_1
  generalize hW : World.alloc W4 _ = W7
  have hn := below_new W4 (.cells #[.bool false, .slice none 0 0, .bool false, .slice none 0 0] 28)
  rw [hW] at hn
  have hx : Rb W7 W4.heap.size RVal.nil := by rw [← hW]; exact Rb.new (q := RVal.nil) (RVal.nil_in W4)
  have hlt : (r + 1) < W4.heap.size := Xb_6.out.lt
  have B_7 := hI (bch B_4.out HRr.out hn)
  have Xa_8 := hI (Xa_5.out.on hn)
  have Xb_9 := hI (Xb_6.out.on hn)
  rw [HT6] at hx hlt
  have Xe_10 : Hid (Rb W7 (r + 1 + 1) RVal.nil) := hI hx
  clear hn hx hW hlt B_4 Xa_5 Xb_6
  clear HT3 HT6
  refine (HC.out W7 Xa_8.out.sl Xb_9.out.sl).mono ?_
  rintro e w11 ⟨rfl, hb⟩
  have B_11 := hI (bch B_7.out HRr.out hb)
  have Xa_12 := hI (Xa_8.out.on hb)
  have Xb_13 := hI (Xb_9.out.on hb)
  have Xe_14 := hI (Xe_10.out.on hb)
  clear hb B_7 Xa_8 Xb_9 Xe_10
  have g1 : p.g = true := HG.out.1
  have g2 : q.g = true := HG.out.2.1
  obtain ⟨ka0, ka1, ka2, ka3⟩ := Xa_12.out.cs
  have la := Xa_12.out.lt
  obtain ⟨kb0, kb1, kb2, kb3⟩ := Xb_13.out.cs
  have lb := Xb_13.out.lt
  rw [g1] at ka0
  rw [g2] at kb0
  clear g1 g2
  go_upto_region 8 with fail
  clear ka0 ka1 ka2 ka3 la kb0 kb1 kb2 kb3 lb
  go_cut [8, 9] (fun p s wx => RMid w11.heap.size w11.drew z p s wx)
  case first =>
    have xa0 := hI Xa_12.out.drew
    have xb0 := hI Xb_13.out.drew
    have D0 : Hid (Below w11.heap.size w11.drew w11.drew) := hI (Below.refl _ _)
    have o0 := World.new_ne _ _ Xa_12.out.c0
    have o4 := World.new_ne _ _ Xb_13.out.c0
    obtain ⟨oa0, oa1, oa2, oa3⟩ := Xa_12.out.cs
    obtain ⟨ob0, ob1, ob2, ob3⟩ := Xb_13.out.cs
    have p0 := xa0.out.c0; have p1 := xa0.out.c1; have p2 := xa0.out.c2; have p3 := xa0.out.c3; have p4 := xb0.out.c0; have p5 := xb0.out.c1; have p6 := xb0.out.c2; have p7 := xb0.out.c3; have q0 := World.new_ne _ _ p0; have q4 := World.new_ne _ _ p4
    go_region_held3 (fun w' => w'.cell? ⟨r, 0, none⟩ = some (.bool p.g) ∧ w'.cell? ⟨r, 1, none⟩ = some (.slice p.A p.n p.c) ∧ w'.cell? ⟨r, 2, none⟩ = some (.bool p.gd) ∧ w'.cell? ⟨r, 3, none⟩ = some (.slice p.Ad p.nd p.cd) ∧ w'.cell? ⟨(r + 1), 0, none⟩ = some (.bool q.g) ∧ w'.cell? ⟨(r + 1), 1, none⟩ = some (.slice q.A q.n q.c) ∧ w'.cell? ⟨(r + 1), 2, none⟩ = some (.bool q.gd) ∧ w'.cell? ⟨(r + 1), 3, none⟩ = some (.slice q.Ad q.nd q.cd)) (go_keep)
      (first
        | (go_at_call 19; (first | (have C := HE.out f1 f2 v2 J1.out I2.out.1 I1.out.2.1 I1.out.2.2 I2.out.2.1 I2.out.2.2; (with_reducible refine C.mono ?_); clear C; rintro e v3 ⟨f3, rfl, hi, hv, hbn⟩; have xa3 := hI (xa2.out.on hbn); have xb3 := hI (xb2.out.on hbn); have D3 := hI (below_chain D2.out D2.out.size hbn); have I3 := hI (And.intro hi hv); clear hi hv; (try replace bn := bn.on hbn); clear hbn p0 p1 p2 p3 p4 p5 p6 p7 q0 q4; have p0 := xa3.out.c0; have p1 := xa3.out.c1; have p2 := xa3.out.c2; have p3 := xa3.out.c3; have p4 := xb3.out.c0; have p5 := xb3.out.c1; have p6 := xb3.out.c2; have p7 := xb3.out.c3; have q0 := World.new_ne _ _ p0; have q4 := World.new_ne _ _ p4; (try (have t0 := bn.c0; have t1 := bn.c1; have t2 := bn.c2; have t3 := bn.c3; have u0f := bn.f 0; have u1f := bn.f 1; have u2f := bn.f 2; have u3f := bn.f 3; have bb := hI bn; clear bn))) | (have C := HE.out f1 f2 (v2.alloc (.cells #[.bool false, .slice none 0 0, .bool false, .slice none 0 0] 28)) (J1.out.on (below_new v2 (.cells #[.bool false, .slice none 0 0, .bool false, .slice none 0 0] 28))) (I2.out.1.on (below_new v2 (.cells #[.bool false, .slice none 0 0, .bool false, .slice none 0 0] 28))) I1.out.2.1 I1.out.2.2 I2.out.2.1 I2.out.2.2; (with_reducible refine C.mono ?_); clear C; rintro e v3 ⟨f3, rfl, hi, hv, hbn⟩; have bn : Rb v3 v2.heap.size RVal.nil := (Rb.new (q := RVal.nil) (RVal.nil_in v2)).on hbn; have nz : Hid (w11.heap.size ≤ v2.heap.size) := hI D2.out.size; have xa3 := hI ((xa2.out.on (below_new v2 (.cells #[.bool false, .slice none 0 0, .bool false, .slice none 0 0] 28))).on hbn); have xb3 := hI ((xb2.out.on (below_new v2 (.cells #[.bool false, .slice none 0 0, .bool false, .slice none 0 0] 28))).on hbn); have D3 := hI (below_chain (below_chain D2.out D2.out.size (below_new v2 (.cells #[.bool false, .slice none 0 0, .bool false, .slice none 0 0] 28))) (Nat.le_trans D2.out.size (below_new v2 (.cells #[.bool false, .slice none 0 0, .bool false, .slice none 0 0] 28)).size) hbn); have I3 := hI (And.intro hi hv); clear hi hv; have na : r ≠ v2.heap.size := Nat.ne_of_lt xa2.out.lt; have nb : (r + 1) ≠ v2.heap.size := Nat.ne_of_lt xb2.out.lt; have na2 := na.symm; have nb2 := nb.symm; clear hbn p0 p1 p2 p3 p4 p5 p6 p7 q0 q4; have p0 := xa3.out.c0; have p1 := xa3.out.c1; have p2 := xa3.out.c2; have p3 := xa3.out.c3; have p4 := xb3.out.c0; have p5 := xb3.out.c1; have p6 := xb3.out.c2; have p7 := xb3.out.c3; have q0 := World.new_ne _ _ p0; have q4 := World.new_ne _ _ p4; (try (have t0 := bn.c0; have t1 := bn.c1; have t2 := bn.c2; have t3 := bn.c3; have u0f := bn.f 0; have u1f := bn.f 1; have u2f := bn.f 2; have u3f := bn.f 3; have bb := hI bn; clear bn)))))
        | (go_at_call 21; (first | (have C := pneg_q (w := v1) xa1.out.sl H1.out.1 H1.out.2; (with_reducible refine C.mono ?_); clear C; rintro e v2 ⟨f2, rfl, hi, ho, hod, hbn⟩; have xa2 := hI (xa1.out.on hbn); have xb2 := hI (xb1.out.on hbn); have D2 := hI (below_chain D1.out D1.out.size hbn); have I2 := hI (And.intro hi (And.intro ho hod)); have J1 := hI (I1.out.1.on hbn); clear hi ho hod; (try replace bn := bn.on hbn); clear hbn p0 p1 p2 p3 p4 p5 p6 p7 q0 q4; have p0 := xa2.out.c0; have p1 := xa2.out.c1; have p2 := xa2.out.c2; have p3 := xa2.out.c3; have p4 := xb2.out.c0; have p5 := xb2.out.c1; have p6 := xb2.out.c2; have p7 := xb2.out.c3; have q0 := World.new_ne _ _ p0; have q4 := World.new_ne _ _ p4) | (have C := pneg_q (w := (v1.alloc (.cells #[.bool false, .slice none 0 0, .bool false, .slice none 0 0] 28))) (xa1.out.on (below_new v1 (.cells #[.bool false, .slice none 0 0, .bool false, .slice none 0 0] 28))).sl H1.out.1 H1.out.2; (with_reducible refine C.mono ?_); clear C; rintro e v2 ⟨f2, rfl, hi, ho, hod, hbn⟩; have bn : Rb v2 v1.heap.size RVal.nil := (Rb.new (q := RVal.nil) (RVal.nil_in v1)).on hbn; have nz : Hid (w11.heap.size ≤ v1.heap.size) := hI D1.out.size; have xa2 := hI ((xa1.out.on (below_new v1 (.cells #[.bool false, .slice none 0 0, .bool false, .slice none 0 0] 28))).on hbn); have xb2 := hI ((xb1.out.on (below_new v1 (.cells #[.bool false, .slice none 0 0, .bool false, .slice none 0 0] 28))).on hbn); have D2 := hI (below_chain (below_chain D1.out D1.out.size (below_new v1 (.cells #[.bool false, .slice none 0 0, .bool false, .slice none 0 0] 28))) (Nat.le_trans D1.out.size (below_new v1 (.cells #[.bool false, .slice none 0 0, .bool false, .slice none 0 0] 28)).size) hbn); have I2 := hI (And.intro hi (And.intro ho hod)); have J1 := hI ((I1.out.1.on (below_new v1 (.cells #[.bool false, .slice none 0 0, .bool false, .slice none 0 0] 28))).on hbn); clear hi ho hod; have na : r ≠ v1.heap.size := Nat.ne_of_lt xa1.out.lt; have nb : (r + 1) ≠ v1.heap.size := Nat.ne_of_lt xb1.out.lt; have na2 := na.symm; have nb2 := nb.symm; clear hbn p0 p1 p2 p3 p4 p5 p6 p7 q0 q4; have p0 := xa2.out.c0; have p1 := xa2.out.c1; have p2 := xa2.out.c2; have p3 := xa2.out.c3; have p4 := xb2.out.c0; have p5 := xb2.out.c1; have p6 := xb2.out.c2; have p7 := xb2.out.c3; have q0 := World.new_ne _ _ p0; have q4 := World.new_ne _ _ p4)))
        | (go_at_call 21; (first | (have C := pneg_q (w := w11.drew) xb0.out.sl H2.out.1 H2.out.2; (with_reducible refine C.mono ?_); clear C; rintro e v1 ⟨f1, rfl, hi, ho, hod, hbn⟩; have xa1 := hI (xa0.out.on hbn); have xb1 := hI (xb0.out.on hbn); have D1 := hI (below_chain D0.out D0.out.size hbn); have I1 := hI (And.intro hi (And.intro ho hod)); clear hi ho hod; (try replace bn := bn.on hbn); clear hbn p0 p1 p2 p3 p4 p5 p6 p7 q0 q4; have p0 := xa1.out.c0; have p1 := xa1.out.c1; have p2 := xa1.out.c2; have p3 := xa1.out.c3; have p4 := xb1.out.c0; have p5 := xb1.out.c1; have p6 := xb1.out.c2; have p7 := xb1.out.c3; have q0 := World.new_ne _ _ p0; have q4 := World.new_ne _ _ p4) | (have C := pneg_q (w := ((w11.alloc (.cells #[.bool false, .slice none 0 0, .bool false, .slice none 0 0] 28)).drew)) ((Xb_13.out.on (below_new w11 (.cells #[.bool false, .slice none 0 0, .bool false, .slice none 0 0] 28))).drew).sl H2.out.1 H2.out.2; (with_reducible refine C.mono ?_); clear C; rintro e v1 ⟨f1, rfl, hi, ho, hod, hbm⟩; have hbn : Below (w11.drew.alloc (.cells #[.bool false, .slice none 0 0, .bool false, .slice none 0 0] 28)).heap.size (w11.drew.alloc (.cells #[.bool false, .slice none 0 0, .bool false, .slice none 0 0] 28)) v1 := ⟨hbm.os, hbm.tape, hbm.output, hbm.size, hbm.block⟩; clear hbm; have bn : Rb v1 w11.heap.size RVal.nil := (Rb.new (q := RVal.nil) (RVal.nil_in w11.drew)).on hbn; have nz : Hid (w11.heap.size ≤ w11.heap.size) := hI (Nat.le_refl _); have xa1 := hI ((xa0.out.on (below_new w11.drew (.cells #[.bool false, .slice none 0 0, .bool false, .slice none 0 0] 28))).on hbn); have xb1 := hI ((xb0.out.on (below_new w11.drew (.cells #[.bool false, .slice none 0 0, .bool false, .slice none 0 0] 28))).on hbn); have D1 := hI (below_chain (below_chain D0.out D0.out.size (below_new w11.drew (.cells #[.bool false, .slice none 0 0, .bool false, .slice none 0 0] 28))) (Nat.le_trans D0.out.size (below_new w11.drew (.cells #[.bool false, .slice none 0 0, .bool false, .slice none 0 0] 28)).size) hbn); have I1 := hI (And.intro hi (And.intro ho hod)); clear hi ho hod; have na : r ≠ w11.heap.size := Nat.ne_of_lt xa0.out.lt; have nb : (r + 1) ≠ w11.heap.size := Nat.ne_of_lt xb0.out.lt; have na2 := na.symm; have nb2 := nb.symm; clear hbn p0 p1 p2 p3 p4 p5 p6 p7 q0 q4; have p0 := xa1.out.c0; have p1 := xa1.out.c1; have p2 := xa1.out.c2; have p3 := xa1.out.c3; have p4 := xb1.out.c0; have p5 := xb1.out.c1; have p6 := xb1.out.c2; have p7 := xb1.out.c3; have q0 := World.new_ne _ _ p0; have q4 := World.new_ne _ _ p4))))
    all_goals (go_wp2_with fail; go_meet; first
      | exact rMid_new D3.out D3.out.size I3.out.1 I3.out.2
      | exact rMid_old bb.out D3.out nz.out I3.out.1 I3.out.2
      | exact rMid_old bb.out D3.out (Nat.le_refl _) I3.out.1 I3.out.2)
  case rest =>
  have B_15 := hI (B_11.out.drew)
  have Xa_16 := hI (Xa_12.out.drew)
  have Xb_17 := hI (Xb_13.out.drew)
  have Xe_18 := hI (Xe_14.out.drew)
  obtain ⟨b9, tk, rfl, rfl, hx, ho, hb⟩ := hcut
  have B_19 := hI (bch B_15.out HRr.out hb)
  have Xa_20 := hI (Xa_16.out.on hb)
  have Xb_21 := hI (Xb_17.out.on hb)
  have Xe_22 := hI (Xe_18.out.on hb)
  have Vk := hI ho
  have Xk_23 := hI hx
  clear hx ho hb B_11 Xa_12 Xb_13 Xe_14 B_15 Xa_16 Xb_17 Xe_18
  obtain ⟨kk0, kk1, kk2, kk3⟩ := Xk_23.out.cs
  have lk := Xk_23.out.lt
  go_wp2_with fail
  refine (pneg_q Xk_23.out.sl (rv_some Vk.out).1 (rv_some Vk.out).2).mono ?_
  clear kk0 kk1 kk2 kk3 lk
  rintro e w24 ⟨tm, rfl, hi, hv, hv2, hb⟩
  have B_24 := hI (bch B_19.out HRr.out hb)
  have Xa_25 := hI (Xa_20.out.on hb)
  have Xb_26 := hI (Xb_21.out.on hb)
  have Xe_27 := hI (Xe_22.out.on hb)
  have Xk_28 := hI (Xk_23.out.on hb)
  have Im_29 : Hid (tm.In w24) := hI hi
  clear hb B_19 Xa_20 Xb_21 Xe_22 Xk_23 hi
  have Vm := hI (And.intro hv hv2)
  clear hv hv2
  clear Xa_25 Xb_26 Xk_28
  obtain ⟨ke0, ke1, ke2, ke3⟩ := Xe_27.out.cs
  obtain ⟨fe0, fe1, fe2, fe3⟩ := Xe_27.out.fs
  simp only [RVal.nil] at ke0 ke1 ke2 ke3
  have le := Xe_27.out.lt
  go_wp2
  clear ke0 ke1 ke2 ke3 fe0 fe1 fe2 fe3 le
  generalize hW : World.setCell (World.setCell (World.setCell (World.setCell w24 _ _) _ _) _ _) _ _ = W30
  have B_30 : Hid (Below r w W30) := by rw [← hW]; exact hI (below_put4 B_24.out (by omega) _ _ _ _)
  have Xe_31 : Hid (Rb W30 (r + 1 + 1) tm) := by rw [← hW]; exact hI (Rb.put (q' := tm) Xe_27.out Im_29.out)
  clear hW B_24 Xe_27 Im_29
  obtain ⟨j0, j1, j2, j3⟩ := Xe_31.out.cs
  try dsimp only at j0 j1 j2 j3
  refine bodyPost_ret (v := .tuple #[.agg #[.bool tm.g, .slice tm.A tm.n tm.c, .bool tm.gd, .slice tm.Ad tm.nd tm.cd], .int .i64 0]) (by simp [results, Try.results5, go_sem, j0, j1, j2, j3]) rfl ?_
  exact RetR.of Xe_31.out Vm.out.1 Vm.out.2 (by rw [HRr.out]; exact B_30.out)
set_option linter.unusedSimpArgs false in
set_option maxRecDepth 20000 in
set_option maxHeartbeats 2000000 in
theorem simp_hi0 (p q : RVal) (w : World) (ha : p.In w) (hb : q.In w) (hc : ∀ w : World, p.In w → q.In w → Calls Try.prog 18 #[.agg #[.bool p.g, .slice p.A p.n p.c, .bool p.gd, .slice p.Ad p.nd p.cd], .agg #[.bool q.g, .slice q.A q.n q.c, .bool q.gd, .slice q.Ad q.nd q.cd]] w (RetC (-1) 0 w)) (na da nb db : Int) (z : Rat) (hg : p.g = true ∧ q.g = false ∧ decide (0 < q.n) = false) (h1 : p.o = some na ∧ p.od = some da) (h2 : q.o = some nb ∧ q.od = some db) (he : ∀ (f1 f2 : RVal) (w : World), f1.In w → f2.In w → f1.o = some (-nb) → f1.od = some db → f2.o = some (-na) → f2.od = some da → Calls Try.prog 19 #[.agg #[.bool f1.g, .slice f1.A f1.n f1.c, .bool f1.gd, .slice f1.Ad f1.nd f1.cd], .agg #[.bool f2.g, .slice f2.A f2.n f2.c, .bool f2.gd, .slice f2.Ad f2.nd f2.cd]] w (RetV z w)) :
    Calls Try.prog 5 #[.agg #[.bool p.g, .slice p.A p.n p.c, .bool p.gd, .slice p.Ad p.nd p.cd], .agg #[.bool q.g, .slice q.A q.n q.c, .bool q.gd, .slice q.Ad q.nd q.cd]] w (RetR (-z.num) (z.den : Int) 0 w) := by
  have HC := hI hc
  have HG := hI hg
  have H1 := hI h1
  have H2 := hI h2
  have HE := hI he
  clear hc hg h1 h2 he
  have Ia_0 := hI ha
  clear ha
  have Ib_0 := hI hb
  clear hb
  have B_0 : Hid (Below w.heap.size w w) := hI (Below.refl _ _)
  go_enter Try.func5, Try.ntmps5
  go_wp2_with fail
  generalize hW : World.alloc w _ = W1
  have hn := below_new w (.cells #[.bool p.g, .slice p.A p.n p.c, .bool p.gd, .slice p.Ad p.nd p.cd] 28)
  rw [hW] at hn
  have hz : W1.heap.size = w.heap.size + 1 := by rw [← hW]; simp
  have hx : Rb W1 w.heap.size p := by rw [← hW]; exact Rb.new (q := p) Ia_0.out
  have Ib_1 := hI (Ib_0.out.on hn)
  have B_2 := hI (below_chain B_0.out B_0.out.size hn)
  generalize hr : w.heap.size = r at *
  have HRr := hI hr
  clear hr
  have Xa_3 : Hid (Rb W1 r p) := hI hx
  have HT3 := hz
  clear hn hx hz hW Ib_0 B_0 Ia_0
  generalize hW : World.alloc W1 _ = W4
  have hn := below_new W1 (.cells #[.bool q.g, .slice q.A q.n q.c, .bool q.gd, .slice q.Ad q.nd q.cd] 28)
  rw [hW] at hn
  have hz : W4.heap.size = W1.heap.size + 1 := by rw [← hW]; simp
  have hx : Rb W4 W1.heap.size q := by rw [← hW]; exact Rb.new (q := q) Ib_1.out
  have hlt : r < W1.heap.size := Xa_3.out.lt
  have B_4 := hI (bch B_2.out HRr.out hn)
  have Xa_5 := hI (Xa_3.out.on hn)
  rw [HT3] at hx hz hlt
  have Xb_6 : Hid (Rb W4 (r + 1) q) := hI hx
  have HT6 := hz
  clear hn hx hz hW hlt B_2 Xa_3 Ib_1
  generalize hW : World.alloc W4 _ = W7
  have hn := below_new W4 (.cells #[.bool false, .slice none 0 0, .bool false, .slice none 0 0] 28)
  rw [hW] at hn
  have hx : Rb W7 W4.heap.size RVal.nil := by rw [← hW]; exact Rb.new (q := RVal.nil) (RVal.nil_in W4)
  have hlt : (r + 1) < W4.heap.size := Xb_6.out.lt
  have B_7 := hI (bch B_4.out HRr.out hn)
  have Xa_8 := hI (Xa_5.out.on hn)
  have Xb_9 := hI (Xb_6.out.on hn)
  rw [HT6] at hx hlt
  have Xe_10 : Hid (Rb W7 (r + 1 + 1) RVal.nil) := hI hx
  clear hn hx hW hlt B_4 Xa_5 Xb_6
  clear HT3 HT6
  refine (HC.out W7 Xa_8.out.sl Xb_9.out.sl).mono ?_
  rintro e w11 ⟨rfl, hb⟩
  have B_11 := hI (bch B_7.out HRr.out hb)
  have Xa_12 := hI (Xa_8.out.on hb)
  have Xb_13 := hI (Xb_9.out.on hb)
  have Xe_14 := hI (Xe_10.out.on hb)
  clear hb B_7 Xa_8 Xb_9 Xe_10
  have g1 : p.g = true := HG.out.1
  have g2 : q.g = false := HG.out.2.1
  have g3 : decide (0 < q.n) = false := HG.out.2.2
  obtain ⟨ka0, ka1, ka2, ka3⟩ := Xa_12.out.cs
  have la := Xa_12.out.lt
  obtain ⟨kb0, kb1, kb2, kb3⟩ := Xb_13.out.cs
  have lb := Xb_13.out.lt
  rw [g1] at ka0
  rw [g2] at kb0
  clear g1 g2
  go_upto_region 8 with fail
  clear g3
  clear ka0 ka1 ka2 ka3 la kb0 kb1 kb2 kb3 lb
  go_cut [8, 9] (fun p s wx => RMid w11.heap.size w11.drew z p s wx)
  case first =>
    have xa0 := hI Xa_12.out.drew
    have xb0 := hI Xb_13.out.drew
    have D0 : Hid (Below w11.heap.size w11.drew w11.drew) := hI (Below.refl _ _)
    have o0 := World.new_ne _ _ Xa_12.out.c0
    have o4 := World.new_ne _ _ Xb_13.out.c0
    obtain ⟨oa0, oa1, oa2, oa3⟩ := Xa_12.out.cs
    obtain ⟨ob0, ob1, ob2, ob3⟩ := Xb_13.out.cs
    have p0 := xa0.out.c0; have p1 := xa0.out.c1; have p2 := xa0.out.c2; have p3 := xa0.out.c3; have p4 := xb0.out.c0; have p5 := xb0.out.c1; have p6 := xb0.out.c2; have p7 := xb0.out.c3; have q0 := World.new_ne _ _ p0; have q4 := World.new_ne _ _ p4
    go_region_held3 (fun w' => w'.cell? ⟨r, 0, none⟩ = some (.bool p.g) ∧ w'.cell? ⟨r, 1, none⟩ = some (.slice p.A p.n p.c) ∧ w'.cell? ⟨r, 2, none⟩ = some (.bool p.gd) ∧ w'.cell? ⟨r, 3, none⟩ = some (.slice p.Ad p.nd p.cd) ∧ w'.cell? ⟨(r + 1), 0, none⟩ = some (.bool q.g) ∧ w'.cell? ⟨(r + 1), 1, none⟩ = some (.slice q.A q.n q.c) ∧ w'.cell? ⟨(r + 1), 2, none⟩ = some (.bool q.gd) ∧ w'.cell? ⟨(r + 1), 3, none⟩ = some (.slice q.Ad q.nd q.cd)) (go_keep)
      (first
        | (go_at_call 19; (first | (have C := HE.out f1 f2 v2 J1.out I2.out.1 I1.out.2.1 I1.out.2.2 I2.out.2.1 I2.out.2.2; (with_reducible refine C.mono ?_); clear C; rintro e v3 ⟨f3, rfl, hi, hv, hbn⟩; have xa3 := hI (xa2.out.on hbn); have xb3 := hI (xb2.out.on hbn); have D3 := hI (below_chain D2.out D2.out.size hbn); have I3 := hI (And.intro hi hv); clear hi hv; (try replace bn := bn.on hbn); clear hbn p0 p1 p2 p3 p4 p5 p6 p7 q0 q4; have p0 := xa3.out.c0; have p1 := xa3.out.c1; have p2 := xa3.out.c2; have p3 := xa3.out.c3; have p4 := xb3.out.c0; have p5 := xb3.out.c1; have p6 := xb3.out.c2; have p7 := xb3.out.c3; have q0 := World.new_ne _ _ p0; have q4 := World.new_ne _ _ p4; (try (have t0 := bn.c0; have t1 := bn.c1; have t2 := bn.c2; have t3 := bn.c3; have u0f := bn.f 0; have u1f := bn.f 1; have u2f := bn.f 2; have u3f := bn.f 3; have bb := hI bn; clear bn))) | (have C := HE.out f1 f2 (v2.alloc (.cells #[.bool false, .slice none 0 0, .bool false, .slice none 0 0] 28)) (J1.out.on (below_new v2 (.cells #[.bool false, .slice none 0 0, .bool false, .slice none 0 0] 28))) (I2.out.1.on (below_new v2 (.cells #[.bool false, .slice none 0 0, .bool false, .slice none 0 0] 28))) I1.out.2.1 I1.out.2.2 I2.out.2.1 I2.out.2.2; (with_reducible refine C.mono ?_); clear C; rintro e v3 ⟨f3, rfl, hi, hv, hbn⟩; have bn : Rb v3 v2.heap.size RVal.nil := (Rb.new (q := RVal.nil) (RVal.nil_in v2)).on hbn; have nz : Hid (w11.heap.size ≤ v2.heap.size) := hI D2.out.size; have xa3 := hI ((xa2.out.on (below_new v2 (.cells #[.bool false, .slice none 0 0, .bool false, .slice none 0 0] 28))).on hbn); have xb3 := hI ((xb2.out.on (below_new v2 (.cells #[.bool false, .slice none 0 0, .bool false, .slice none 0 0] 28))).on hbn); have D3 := hI (below_chain (below_chain D2.out D2.out.size (below_new v2 (.cells #[.bool false, .slice none 0 0, .bool false, .slice none 0 0] 28))) (Nat.le_trans D2.out.size (below_new v2 (.cells #[.bool false, .slice none 0 0, .bool false, .slice none 0 0] 28)).size) hbn); have I3 := hI (And.intro hi hv); clear hi hv; have na : r ≠ v2.heap.size := Nat.ne_of_lt xa2.out.lt; have nb : (r + 1) ≠ v2.heap.size := Nat.ne_of_lt xb2.out.lt; have na2 := na.symm; have nb2 := nb.symm; clear hbn p0 p1 p2 p3 p4 p5 p6 p7 q0 q4; have p0 := xa3.out.c0; have p1 := xa3.out.c1; have p2 := xa3.out.c2; have p3 := xa3.out.c3; have p4 := xb3.out.c0; have p5 := xb3.out.c1; have p6 := xb3.out.c2; have p7 := xb3.out.c3; have q0 := World.new_ne _ _ p0; have q4 := World.new_ne _ _ p4; (try (have t0 := bn.c0; have t1 := bn.c1; have t2 := bn.c2; have t3 := bn.c3; have u0f := bn.f 0; have u1f := bn.f 1; have u2f := bn.f 2; have u3f := bn.f 3; have bb := hI bn; clear bn)))))
        | (go_at_call 21; (first | (have C := pneg_q (w := v1) xa1.out.sl H1.out.1 H1.out.2; (with_reducible refine C.mono ?_); clear C; rintro e v2 ⟨f2, rfl, hi, ho, hod, hbn⟩; have xa2 := hI (xa1.out.on hbn); have xb2 := hI (xb1.out.on hbn); have D2 := hI (below_chain D1.out D1.out.size hbn); have I2 := hI (And.intro hi (And.intro ho hod)); have J1 := hI (I1.out.1.on hbn); clear hi ho hod; (try replace bn := bn.on hbn); clear hbn p0 p1 p2 p3 p4 p5 p6 p7 q0 q4; have p0 := xa2.out.c0; have p1 := xa2.out.c1; have p2 := xa2.out.c2; have p3 := xa2.out.c3; have p4 := xb2.out.c0; have p5 := xb2.out.c1; have p6 := xb2.out.c2; have p7 := xb2.out.c3; have q0 := World.new_ne _ _ p0; have q4 := World.new_ne _ _ p4) | (have C := pneg_q (w := (v1.alloc (.cells #[.bool false, .slice none 0 0, .bool false, .slice none 0 0] 28))) (xa1.out.on (below_new v1 (.cells #[.bool false, .slice none 0 0, .bool false, .slice none 0 0] 28))).sl H1.out.1 H1.out.2; (with_reducible refine C.mono ?_); clear C; rintro e v2 ⟨f2, rfl, hi, ho, hod, hbn⟩; have bn : Rb v2 v1.heap.size RVal.nil := (Rb.new (q := RVal.nil) (RVal.nil_in v1)).on hbn; have nz : Hid (w11.heap.size ≤ v1.heap.size) := hI D1.out.size; have xa2 := hI ((xa1.out.on (below_new v1 (.cells #[.bool false, .slice none 0 0, .bool false, .slice none 0 0] 28))).on hbn); have xb2 := hI ((xb1.out.on (below_new v1 (.cells #[.bool false, .slice none 0 0, .bool false, .slice none 0 0] 28))).on hbn); have D2 := hI (below_chain (below_chain D1.out D1.out.size (below_new v1 (.cells #[.bool false, .slice none 0 0, .bool false, .slice none 0 0] 28))) (Nat.le_trans D1.out.size (below_new v1 (.cells #[.bool false, .slice none 0 0, .bool false, .slice none 0 0] 28)).size) hbn); have I2 := hI (And.intro hi (And.intro ho hod)); have J1 := hI ((I1.out.1.on (below_new v1 (.cells #[.bool false, .slice none 0 0, .bool false, .slice none 0 0] 28))).on hbn); clear hi ho hod; have na : r ≠ v1.heap.size := Nat.ne_of_lt xa1.out.lt; have nb : (r + 1) ≠ v1.heap.size := Nat.ne_of_lt xb1.out.lt; have na2 := na.symm; have nb2 := nb.symm; clear hbn p0 p1 p2 p3 p4 p5 p6 p7 q0 q4; have p0 := xa2.out.c0; have p1 := xa2.out.c1; have p2 := xa2.out.c2; have p3 := xa2.out.c3; have p4 := xb2.out.c0; have p5 := xb2.out.c1; have p6 := xb2.out.c2; have p7 := xb2.out.c3; have q0 := World.new_ne _ _ p0; have q4 := World.new_ne _ _ p4)))
        | (go_at_call 21; (first | (have C := pneg_q (w := w11.drew) xb0.out.sl H2.out.1 H2.out.2; (with_reducible refine C.mono ?_); clear C; rintro e v1 ⟨f1, rfl, hi, ho, hod, hbn⟩; have xa1 := hI (xa0.out.on hbn); have xb1 := hI (xb0.out.on hbn); have D1 := hI (below_chain D0.out D0.out.size hbn); have I1 := hI (And.intro hi (And.intro ho hod)); clear hi ho hod; (try replace bn := bn.on hbn); clear hbn p0 p1 p2 p3 p4 p5 p6 p7 q0 q4; have p0 := xa1.out.c0; have p1 := xa1.out.c1; have p2 := xa1.out.c2; have p3 := xa1.out.c3; have p4 := xb1.out.c0; have p5 := xb1.out.c1; have p6 := xb1.out.c2; have p7 := xb1.out.c3; have q0 := World.new_ne _ _ p0; have q4 := World.new_ne _ _ p4) | (have C := pneg_q (w := ((w11.alloc (.cells #[.bool false, .slice none 0 0, .bool false, .slice none 0 0] 28)).drew)) ((Xb_13.out.on (below_new w11 (.cells #[.bool false, .slice none 0 0, .bool false, .slice none 0 0] 28))).drew).sl H2.out.1 H2.out.2; (with_reducible refine C.mono ?_); clear C; rintro e v1 ⟨f1, rfl, hi, ho, hod, hbm⟩; have hbn : Below (w11.drew.alloc (.cells #[.bool false, .slice none 0 0, .bool false, .slice none 0 0] 28)).heap.size (w11.drew.alloc (.cells #[.bool false, .slice none 0 0, .bool false, .slice none 0 0] 28)) v1 := ⟨hbm.os, hbm.tape, hbm.output, hbm.size, hbm.block⟩; clear hbm; have bn : Rb v1 w11.heap.size RVal.nil := (Rb.new (q := RVal.nil) (RVal.nil_in w11.drew)).on hbn; have nz : Hid (w11.heap.size ≤ w11.heap.size) := hI (Nat.le_refl _); have xa1 := hI ((xa0.out.on (below_new w11.drew (.cells #[.bool false, .slice none 0 0, .bool false, .slice none 0 0] 28))).on hbn); have xb1 := hI ((xb0.out.on (below_new w11.drew (.cells #[.bool false, .slice none 0 0, .bool false, .slice none 0 0] 28))).on hbn); have D1 := hI (below_chain (below_chain D0.out D0.out.size (below_new w11.drew (.cells #[.bool false, .slice none 0 0, .bool false, .slice none 0 0] 28))) (Nat.le_trans D0.out.size (below_new w11.drew (.cells #[.bool false, .slice none 0 0, .bool false, .slice none 0 0] 28)).size) hbn); have I1 := hI (And.intro hi (And.intro ho hod)); clear hi ho hod; have na : r ≠ w11.heap.size := Nat.ne_of_lt xa0.out.lt; have nb : (r + 1) ≠ w11.heap.size := Nat.ne_of_lt xb0.out.lt; have na2 := na.symm; have nb2 := nb.symm; clear hbn p0 p1 p2 p3 p4 p5 p6 p7 q0 q4; have p0 := xa1.out.c0; have p1 := xa1.out.c1; have p2 := xa1.out.c2; have p3 := xa1.out.c3; have p4 := xb1.out.c0; have p5 := xb1.out.c1; have p6 := xb1.out.c2; have p7 := xb1.out.c3; have q0 := World.new_ne _ _ p0; have q4 := World.new_ne _ _ p4))))
    all_goals (go_wp2_with fail; go_meet; first
      | exact rMid_new D3.out D3.out.size I3.out.1 I3.out.2
      | exact rMid_old bb.out D3.out nz.out I3.out.1 I3.out.2
      | exact rMid_old bb.out D3.out (Nat.le_refl _) I3.out.1 I3.out.2)
  case rest =>
  have B_15 := hI (B_11.out.drew)
  have Xa_16 := hI (Xa_12.out.drew)
  have Xb_17 := hI (Xb_13.out.drew)
  have Xe_18 := hI (Xe_14.out.drew)
  obtain ⟨b9, tk, rfl, rfl, hx, ho, hb⟩ := hcut
  have B_19 := hI (bch B_15.out HRr.out hb)
  have Xa_20 := hI (Xa_16.out.on hb)
  have Xb_21 := hI (Xb_17.out.on hb)
  have Xe_22 := hI (Xe_18.out.on hb)
  have Vk := hI ho
  have Xk_23 := hI hx
  clear hx ho hb B_11 Xa_12 Xb_13 Xe_14 B_15 Xa_16 Xb_17 Xe_18
  obtain ⟨kk0, kk1, kk2, kk3⟩ := Xk_23.out.cs
  have lk := Xk_23.out.lt
  go_wp2_with fail
  refine (pneg_q Xk_23.out.sl (rv_some Vk.out).1 (rv_some Vk.out).2).mono ?_
  clear kk0 kk1 kk2 kk3 lk
  rintro e w24 ⟨tm, rfl, hi, hv, hv2, hb⟩
  have B_24 := hI (bch B_19.out HRr.out hb)
  have Xa_25 := hI (Xa_20.out.on hb)
  have Xb_26 := hI (Xb_21.out.on hb)
  have Xe_27 := hI (Xe_22.out.on hb)
  have Xk_28 := hI (Xk_23.out.on hb)
  have Im_29 : Hid (tm.In w24) := hI hi
  clear hb B_19 Xa_20 Xb_21 Xe_22 Xk_23 hi
  have Vm := hI (And.intro hv hv2)
  clear hv hv2
  clear Xa_25 Xb_26 Xk_28
  obtain ⟨ke0, ke1, ke2, ke3⟩ := Xe_27.out.cs
  obtain ⟨fe0, fe1, fe2, fe3⟩ := Xe_27.out.fs
  simp only [RVal.nil] at ke0 ke1 ke2 ke3
  have le := Xe_27.out.lt
  go_wp2
  clear ke0 ke1 ke2 ke3 fe0 fe1 fe2 fe3 le
  generalize hW : World.setCell (World.setCell (World.setCell (World.setCell w24 _ _) _ _) _ _) _ _ = W30
  have B_30 : Hid (Below r w W30) := by rw [← hW]; exact hI (below_put4 B_24.out (by omega) _ _ _ _)
  have Xe_31 : Hid (Rb W30 (r + 1 + 1) tm) := by rw [← hW]; exact hI (Rb.put (q' := tm) Xe_27.out Im_29.out)
  clear hW B_24 Xe_27 Im_29
  obtain ⟨j0, j1, j2, j3⟩ := Xe_31.out.cs
  try dsimp only at j0 j1 j2 j3
  refine bodyPost_ret (v := .tuple #[.agg #[.bool tm.g, .slice tm.A tm.n tm.c, .bool tm.gd, .slice tm.Ad tm.nd tm.cd], .int .i64 0]) (by simp [results, Try.results5, go_sem, j0, j1, j2, j3]) rfl ?_
  exact RetR.of Xe_31.out Vm.out.1 Vm.out.2 (by rw [HRr.out]; exact B_30.out)
end Go.Proofs.Ytfodjaeknhomkaa
