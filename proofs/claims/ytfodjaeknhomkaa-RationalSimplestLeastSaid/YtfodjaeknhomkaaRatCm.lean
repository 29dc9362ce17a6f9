/-
  Stage 2: Cmp of two valid rationals, also where the products are too long: the sign of the difference.
-/
import Derived.Test.YtfodjaeknhomkaaRatCl
import Derived.Test.YtfodjaeknhomkaaRatQ
namespace Go.Proofs.Ytfodjaeknhomkaa
open Go.RowKit
set_option maxRecDepth 20000 in
set_option maxHeartbeats 4000000 in
theorem rcm_long (q q' : RVal) (w : World) (h : q.In w) (h' : q'.In w) (x y : Rat) (hx : rv q.o q.od = some x) (hy : rv q'.o q'.od = some y) (an ad bn bd z1 z2 f1 f2 : Int) (o1 : q.o = some an) (o2 : q.od = some ad) (o3 : q'.o = some bn) (o4 : q'.od = some bd) (h1 : fitZ (an * bd) = z1) (h2 : fitZ (bn * ad) = z2) (k1 : Kf 0 (fitE (an * bd)) f1) (k2 : Kf f1 (fitE (bn * ad)) f2) (hf : (f2 != 0) = true) (u : Int) (hC : ∀ w : World, q.In w → q'.In w → Calls Try.prog 39 #[.agg #[.bool q.g, .slice q.A q.n q.c, .bool q.gd, .slice q.Ad q.nd q.cd], .agg #[.bool q'.g, .slice q'.A q'.n q'.c, .bool q'.gd, .slice q'.Ad q'.nd q'.cd]] w fun e w' => e = .returned (.int .i64 u) ∧ Below w.heap.size w w') :
    Calls Try.prog 18 #[.agg #[.bool q.g, .slice q.A q.n q.c, .bool q.gd, .slice q.Ad q.nd q.cd], .agg #[.bool q'.g, .slice q'.A q'.n q'.c, .bool q'.gd, .slice q'.Ad q'.nd q'.cd]] w (RetC u 0 w) := by
  have HE := Lib.hid (And.intro (isSome_of hx) (isSome_of hy))
  have HO := Lib.hid (And.intro (And.intro o1 o2) (And.intro o3 o4))
  have HZ := Lib.hid (And.intro h1 h2)
  have HF := Lib.hid (And.intro k1 k2)
  have HU := Lib.hid hC
  have HN := Lib.hid hf
  clear hx hy o1 o2 o3 o4 h1 h2 k1 k2 hC hf

  have HS := Lib.hid (And.intro h h')
  clear h h'
  go_enter Try.func18, Try.ntmps18
  go_wp2_with fail
  generalize hW : World.alloc (World.alloc (World.alloc w _) _) _ = V0
  obtain ⟨hb, ra, rb, ar⟩ := cmp_boxes q q' w V0 HS.out.1 HS.out.2 hW
  have HB := Lib.hid hb
  clear hW hb
  generalize hr : w.heap.size = r at *
  have HRr := Lib.hid hr
  clear hr
  have C := allValid_two q q' (r + 1 + 1) true true V0 ra.sl rb.sl ar HE.out.1 HE.out.2
  refine C.mono ?_
  clear C ar
  rintro e w1 ⟨rfl, hb1⟩
  have B1 := Lib.hid (below_chain HB.out (by have := HB.out.size; have := HRr.out; omega) hb1)
  have RA := Lib.hid (ra.on hb1)
  have RB := Lib.hid (rb.on hb1)
  clear hb1 ra rb
  have lr := RB.out.lt
  go_upto_region 4 with fail
  generalize hW : World.alloc w1 _ = V
  have hn := below_new w1 (.cells #[.int .i64 0] 72)
  have hcl := Blk.new w1 72 #[.int .i64 0]
  rw [hW] at hn hcl
  have B2 := Lib.hid (below_chain B1.out (by have := B1.out.size; have := HRr.out; omega) hn)
  have RA1 := Lib.hid (RA.out.on hn)
  have RB1 := Lib.hid (RB.out.on hn)
  have hs8 : r + 1 < w1.heap.size := lr
  have K0 : Hid (Kp V V w1.heap.size 0) := Lib.hid (Kp.below (Below.refl _ _) hcl)
  have K0d := Lib.hid K0.out.drew
  have hlt : w1.heap.size < w1.heap.size + 1 := Nat.lt_succ_self _
  have hsz : w1.heap.size + 1 ≤ V.heap.size := by rw [← hW]; simp
  clear hn hcl hW RA RB B1 lr
  generalize w1.heap.size = p at *
  have na : r ≠ p := by omega
  have nb : r + 1 ≠ p := by omega
  have HA := Lib.hid (And.intro RA1.out (And.intro na (And.intro RB1.out nb)))
  clear RA1 RB1 na nb
  have p0 := (K0.out.rb HA.out.1 HA.out.2.1).c0
  have p1 := (K0.out.rb HA.out.1 HA.out.2.1).c1
  have p2 := (K0.out.rb HA.out.1 HA.out.2.1).c2
  have p3 := (K0.out.rb HA.out.1 HA.out.2.1).c3
  have p4 := (K0.out.rb HA.out.2.2.1 HA.out.2.2.2).c0
  have p5 := (K0.out.rb HA.out.2.2.1 HA.out.2.2.2).c1
  have p6 := (K0.out.rb HA.out.2.2.1 HA.out.2.2.2).c2
  have p7 := (K0.out.rb HA.out.2.2.1 HA.out.2.2.2).c3
  have pw0 := World.new_ne _ _ p0
  have px0 := pw0.symm
  have py0 := Nat.ne_of_gt (Nat.lt_succ_of_lt (World.block_lt_of_cell? _ _ p0))
  have pz0 := py0.symm
  have pw4 := World.new_ne _ _ p4
  have px4 := pw4.symm
  have py4 := Nat.ne_of_gt (Nat.lt_succ_of_lt (World.block_lt_of_cell? _ _ p4))
  have pz4 := py4.symm
  go_upto_region 4 with fail
  go_cut [7, 8] (fun s7 s8 wx => Mid2 V p z1 z2 f2 s7 s8 wx)
  case first =>
    go_region_held3 (fun w' => w'.cell? ⟨r, 0, none⟩ = some (.bool q.g) ∧ w'.cell? ⟨r, 1, none⟩ = some (.slice q.A q.n q.c) ∧ w'.cell? ⟨r, 2, none⟩ = some (.bool q.gd) ∧ w'.cell? ⟨r, 3, none⟩ = some (.slice q.Ad q.nd q.cd) ∧ w'.cell? ⟨r + 1, 0, none⟩ = some (.bool q'.g) ∧ w'.cell? ⟨r + 1, 1, none⟩ = some (.slice q'.A q'.n q'.c) ∧ w'.cell? ⟨r + 1, 2, none⟩ = some (.bool q'.gd) ∧ w'.cell? ⟨r + 1, 3, none⟩ = some (.slice q'.Ad q'.nd q'.cd)) (go_keep)
      (first
        | (go_at_call 27; (first | (have K := K1.out; have C := cmul_any q'.g q.gd q'.A q.Ad q'.n q'.c q.nd q.cd p q'.xs q.ys bn ad f1 f2 v1 (K.sl _ _ _ _ HA.out.2.2.1.sl.1) (K.sl _ _ _ _ HA.out.1.sl.2) HO.out.2.1 HO.out.1.2 K.cl HF.out.2; rw [HZ.out.2] at C; (with_reducible refine C.mono ?_); clear C; rintro e v2 ⟨g2, A2, n2, c2, xs2, rfl, hs2, ho2, hk2⟩; (try replace fa := fa.kp hk2 hlt hsz ha9); (try replace fb := fb.kp hk2 hlt hsz hb9); have G1' : Hid (Sl v2 v2.heap.size A1 n1 c1 xs1 ∧ ov g1 xs1 = some z1) := Lib.hid ⟨hk2.sl _ _ _ _ G1.out.1, G1.out.2⟩; clear G1; have G1 := G1'; clear G1'; have K2 := Lib.hid (K.trans hk2); have G2 := Lib.hid (And.intro hs2 ho2); clear K hk2 hs2 ho2) | (have K := (K1.out.alloc (.cells #[.bool false, .slice none 0 0] 26)); have C := cmul_any q'.g q.gd q'.A q.Ad q'.n q'.c q.nd q.cd p q'.xs q.ys bn ad f1 f2 (v1.alloc (.cells #[.bool false, .slice none 0 0] 26)) (K.sl _ _ _ _ HA.out.2.2.1.sl.1) (K.sl _ _ _ _ HA.out.1.sl.2) HO.out.2.1 HO.out.1.2 K.cl HF.out.2; rw [HZ.out.2] at C; (with_reducible refine C.mono ?_); clear C; rintro e v2 ⟨g2, A2, n2, c2, xs2, rfl, hs2, ho2, hk2⟩; (first | (have fab := Lib.hid (Nat.ne_of_lt fa.lt); replace fa := fa.kpa hk2 hlt hsz ha9; have hb9 : Hid (Lez V.heap.size v1.heap.size) := Lib.hid K1.out.size; have fb : Bx v2 v1.heap.size false none 0 0 := Bx.kp1 v1 hk2 hlt hsz hb9) | (have ha9 : Hid (Lez V.heap.size v1.heap.size) := Lib.hid K1.out.size; have fa : Bx v2 v1.heap.size false none 0 0 := Bx.kp1 v1 hk2 hlt hsz ha9)); have G1' : Hid (Sl v2 v2.heap.size A1 n1 c1 xs1 ∧ ov g1 xs1 = some z1) := Lib.hid ⟨hk2.sl _ _ _ _ (Sl.on G1.out.1 (below_new _ _)), G1.out.2⟩; clear G1; have G1 := G1'; clear G1'; have K2 := Lib.hid (K.trans hk2); have G2 := Lib.hid (And.intro hs2 ho2); clear K hk2 hs2 ho2) | (have K := ((K1.out.alloc (.cells #[.bool false, .slice none 0 0] 26)).alloc (.cells #[.bool false, .slice none 0 0] 26)); have C := cmul_any q'.g q.gd q'.A q.Ad q'.n q'.c q.nd q.cd p q'.xs q.ys bn ad f1 f2 ((v1.alloc (.cells #[.bool false, .slice none 0 0] 26)).alloc (.cells #[.bool false, .slice none 0 0] 26)) (K.sl _ _ _ _ HA.out.2.2.1.sl.1) (K.sl _ _ _ _ HA.out.1.sl.2) HO.out.2.1 HO.out.1.2 K.cl HF.out.2; rw [HZ.out.2] at C; (with_reducible refine C.mono ?_); clear C; rintro e v2 ⟨g2, A2, n2, c2, xs2, rfl, hs2, ho2, hk2⟩; have ha9 : Hid (Lez V.heap.size v1.heap.size) := Lib.hid K1.out.size; have hb9 : Hid (Lez V.heap.size (v1.heap.size + 1)) := Lib.hid (Nat.le_succ_of_le K1.out.size); have fa : Bx v2 v1.heap.size false none 0 0 := Bx.kp2 v1 hk2 hlt hsz ha9; have fb : Bx v2 (v1.heap.size + 1) false none 0 0 := Bx.kp3 v1 hk2 hlt hsz hb9; have fab := Lib.hid (Nat.ne_of_lt (Nat.lt_succ_self v1.heap.size)); have G1' : Hid (Sl v2 v2.heap.size A1 n1 c1 xs1 ∧ ov g1 xs1 = some z1) := Lib.hid ⟨hk2.sl _ _ _ _ (Sl.on (Sl.on G1.out.1 (below_new _ _)) (below_new _ _)), G1.out.2⟩; clear G1; have G1 := G1'; clear G1'; have K2 := Lib.hid (K.trans hk2); have G2 := Lib.hid (And.intro hs2 ho2); clear K hk2 hs2 ho2)); clear t0 t1 t2 t3 t4 t5 t6 t7; have u0 := (K2.out.rb HA.out.1 HA.out.2.1).c0; have u1 := (K2.out.rb HA.out.1 HA.out.2.1).c1; have u2 := (K2.out.rb HA.out.1 HA.out.2.1).c2; have u3 := (K2.out.rb HA.out.1 HA.out.2.1).c3; have u4 := (K2.out.rb HA.out.2.2.1 HA.out.2.2.2).c0; have u5 := (K2.out.rb HA.out.2.2.1 HA.out.2.2.2).c1; have u6 := (K2.out.rb HA.out.2.2.1 HA.out.2.2.2).c2; have u7 := (K2.out.rb HA.out.2.2.1 HA.out.2.2.2).c3; have uw0 := World.new_ne _ _ u0; have ux0 := uw0.symm; have uy0 := Nat.ne_of_gt (Nat.lt_succ_of_lt (World.block_lt_of_cell? _ _ u0)); have uz0 := uy0.symm; have uw4 := World.new_ne _ _ u4; have ux4 := uw4.symm; have uy4 := Nat.ne_of_gt (Nat.lt_succ_of_lt (World.block_lt_of_cell? _ _ u4)); have uz4 := uy4.symm; (try (have t0 := fa.c0; have t1 := fa.c1; have t2 := fa.f 0; have t3 := fa.f 1; have t8 := fa.lt; have t9 := Nat.ne_of_lt t8; have FA := Lib.hid fa; clear fa)); (try (have s0 := fb.c0; have s1 := fb.c1; have s2 := fb.f 0; have s3 := fb.f 1; have s8 := fb.lt; have s9 := Nat.ne_of_lt s8; have FB := Lib.hid fb; clear fb; have fx := fab.out; have fy := fab.out.symm)))
        | (go_at_call 27; (first | (have K := K0.out.drew; have C := cmul_any q.g q'.gd q.A q'.Ad q.n q.c q'.nd q'.cd p q.xs q'.ys an bd 0 f1 V.drew (K.sl _ _ _ _ HA.out.1.sl.1) (K.sl _ _ _ _ HA.out.2.2.1.sl.2) HO.out.1.1 HO.out.2.2 K.cl HF.out.1; rw [HZ.out.1] at C; (with_reducible refine C.mono ?_); clear C; rintro e v1 ⟨g1, A1, n1, c1, xs1, rfl, hs1, ho1, hk1⟩; (try replace fa := fa.kp hk1 hlt hsz ha9); (try replace fb := fb.kp hk1 hlt hsz hb9); have K1 := Lib.hid (K.trans hk1); have G1 := Lib.hid (And.intro hs1 ho1); clear K hk1 hs1 ho1) | (have K := (K0.out.alloc (.cells #[.bool false, .slice none 0 0] 26)).drew; have C := cmul_any q.g q'.gd q.A q'.Ad q.n q.c q'.nd q'.cd p q.xs q'.ys an bd 0 f1 (V.alloc (.cells #[.bool false, .slice none 0 0] 26)).drew (K.sl _ _ _ _ HA.out.1.sl.1) (K.sl _ _ _ _ HA.out.2.2.1.sl.2) HO.out.1.1 HO.out.2.2 K.cl HF.out.1; rw [HZ.out.1] at C; (with_reducible refine C.mono ?_); clear C; rintro e v1 ⟨g1, A1, n1, c1, xs1, rfl, hs1, ho1, hk1⟩; (first | (have fab := Lib.hid (Nat.ne_of_lt fa.lt); replace fa := fa.kpa hk1.undrew hlt hsz ha9; have hb9 : Hid (Lez V.heap.size V.heap.size) := Lib.hid K0.out.size; have fb : Bx v1 V.heap.size false none 0 0 := Bx.kp1 V hk1.undrew hlt hsz hb9) | (have ha9 : Hid (Lez V.heap.size V.heap.size) := Lib.hid K0.out.size; have fa : Bx v1 V.heap.size false none 0 0 := Bx.kp1 V hk1.undrew hlt hsz ha9)); have K1 := Lib.hid (K.trans hk1); have G1 := Lib.hid (And.intro hs1 ho1); clear K hk1 hs1 ho1) | (have K := ((K0.out.alloc (.cells #[.bool false, .slice none 0 0] 26)).alloc (.cells #[.bool false, .slice none 0 0] 26)).drew; have C := cmul_any q.g q'.gd q.A q'.Ad q.n q.c q'.nd q'.cd p q.xs q'.ys an bd 0 f1 ((V.alloc (.cells #[.bool false, .slice none 0 0] 26)).alloc (.cells #[.bool false, .slice none 0 0] 26)).drew (K.sl _ _ _ _ HA.out.1.sl.1) (K.sl _ _ _ _ HA.out.2.2.1.sl.2) HO.out.1.1 HO.out.2.2 K.cl HF.out.1; rw [HZ.out.1] at C; (with_reducible refine C.mono ?_); clear C; rintro e v1 ⟨g1, A1, n1, c1, xs1, rfl, hs1, ho1, hk1⟩; have ha9 : Hid (Lez V.heap.size V.heap.size) := Lib.hid K0.out.size; have hb9 : Hid (Lez V.heap.size (V.heap.size + 1)) := Lib.hid (Nat.le_succ_of_le K0.out.size); have fa : Bx v1 V.heap.size false none 0 0 := Bx.kp2 V hk1.undrew hlt hsz ha9; have fb : Bx v1 (V.heap.size + 1) false none 0 0 := Bx.kp3 V hk1.undrew hlt hsz hb9; have fab := Lib.hid (Nat.ne_of_lt (Nat.lt_succ_self V.heap.size)); have K1 := Lib.hid (K.trans hk1); have G1 := Lib.hid (And.intro hs1 ho1); clear K hk1 hs1 ho1)); clear p0 p1 p2 p3 p4 p5 p6 p7; have t0 := (K1.out.rb HA.out.1 HA.out.2.1).c0; have t1 := (K1.out.rb HA.out.1 HA.out.2.1).c1; have t2 := (K1.out.rb HA.out.1 HA.out.2.1).c2; have t3 := (K1.out.rb HA.out.1 HA.out.2.1).c3; have t4 := (K1.out.rb HA.out.2.2.1 HA.out.2.2.2).c0; have t5 := (K1.out.rb HA.out.2.2.1 HA.out.2.2.2).c1; have t6 := (K1.out.rb HA.out.2.2.1 HA.out.2.2.2).c2; have t7 := (K1.out.rb HA.out.2.2.1 HA.out.2.2.2).c3; have tw0 := World.new_ne _ _ t0; have tx0 := tw0.symm; have ty0 := Nat.ne_of_gt (Nat.lt_succ_of_lt (World.block_lt_of_cell? _ _ t0)); have tz0 := ty0.symm; have tw4 := World.new_ne _ _ t4; have tx4 := tw4.symm; have ty4 := Nat.ne_of_gt (Nat.lt_succ_of_lt (World.block_lt_of_cell? _ _ t4)); have tz4 := ty4.symm))
    all_goals (go_wp2_with fail; go_meet; first
      | exact m2_78 K2.out G1.out.1 G1.out.2 G2.out.1 G2.out.2
      | exact m2_87 K2.out G1.out.1 G1.out.2 G2.out.1 G2.out.2
      | exact m2_on FA.out (Nat.lt_of_lt_of_le hlt hsz) ha9.out K2.out G1.out.1 G1.out.2 G2.out.1 G2.out.2
      | exact m2_no FA.out (Nat.lt_of_lt_of_le hlt hsz) ha9.out K2.out G1.out.1 G1.out.2 G2.out.1 G2.out.2
      | exact m2_oo FA.out FB.out fab.out (Nat.lt_of_lt_of_le hlt hsz) ha9.out hb9.out K2.out G1.out.1 G1.out.2 G2.out.1 G2.out.2
      | exact m2_oo FB.out FA.out fab.out.symm (Nat.lt_of_lt_of_le hlt hsz) hb9.out ha9.out K2.out G1.out.1 G1.out.2 G2.out.1 G2.out.2)
  case rest =>
  obtain ⟨a9, b9, g8, A8, n8, c8, xs8, g9, A9, n9, c9, xs9, rfl, rfl, x8, o8, x9, o9, k9⟩ := hcut
  have B9 := Lib.hid (k9.bel _ _ B2.out (by omega) (by have := B2.out.size; have := HRr.out; omega))
  have X8 := Lib.hid x8
  have X9 := Lib.hid x9
  have O89 := Lib.hid (And.intro o8 o9)
  have hcl := k9.cl
  have kc : wc.cell? ⟨p, 0, none⟩ = some (.int .i64 f2) := by rw [Blk.cell hcl 0]; rfl
  have m0 := X8.out.bx.c0
  have m1 := X8.out.bx.c1
  have m2 := X9.out.bx.c0
  have m3 := X9.out.bx.c1
  have RA9 := Lib.hid (k9.rb HA.out.1 HA.out.2.1)
  have RB9 := Lib.hid (k9.rb HA.out.2.2.1 HA.out.2.2.2)
  clear k9 x8 x9 o8 o9 hcl m0 m1 m2 m3 X8 X9
  have hN : (f2 != 0) = true := HN.out
  have a0 := RA9.out.c0
  have a1 := RA9.out.c1
  have a2 := RA9.out.c2
  have a3 := RA9.out.c3
  have b0 := RB9.out.c0
  have b1 := RB9.out.c1
  have b2 := RB9.out.c2
  have b3 := RB9.out.c3
  go_wp2_with fail
  refine (HU.out _ RA9.out.sl RB9.out.sl).mono ?_
  rintro e w5 ⟨rfl, hb5⟩
  have B5 := Lib.hid (below_chain B9.out (by have := B9.out.size; have := HRr.out; omega) hb5)
  clear hb5 a0 a1 a2 a3 b0 b1 b2 b3 kc B9
  go_wp2
  go_ret2
  exact ⟨rfl, HRr.out.symm ▸ B5.out⟩
theorem kf_any (f e : Int) : Kf f e (if f = 0 then e else f) := by
  by_cases h : f = 0
  · rw [if_pos h]; exact Or.inl ⟨h, rfl⟩
  · rw [if_neg h]; exact Or.inr ⟨h, rfl⟩
/-- Cmp of two valid rationals. -/
theorem cmp_q {q q' : RVal} {x y : Rat} {w : World} (h : q.In w) (h' : q'.In w) (hx : rv q.o q.od = some x) (hy : rv q'.o q'.od = some y) (u : Int) (hu : Int.sign (x.num * y.den - y.num * x.den) = u) :
    Calls Try.prog 18 #[.agg #[.bool q.g, .slice q.A q.n q.c, .bool q.gd, .slice q.Ad q.nd q.cd], .agg #[.bool q'.g, .slice q'.A q'.n q'.c, .bool q'.gd, .slice q'.Ad q'.nd q'.cd]] w (RetC u 0 w) := by
  have o1 := rv_some hx
  have o2 := rv_some hy
  have dx := x.den_pos
  have dy := y.den_pos
  have hC : ∀ w : World, q.In w → q'.In w → Calls Try.prog 39 #[.agg #[.bool q.g, .slice q.A q.n q.c, .bool q.gd, .slice q.Ad q.nd q.cd], .agg #[.bool q'.g, .slice q'.A q'.n q'.c, .bool q'.gd, .slice q'.Ad q'.nd q'.cd]] w fun e w' => e = .returned (.int .i64 u) ∧ Below w.heap.size w w' :=
    fun w h h' => cmpLong_run q q' w h h' x.num x.den y.num y.den u o1.1 o1.2 o2.1 o2.2 (by omega) (by omega) hu
  rcases fitE_or (x.num * (y.den : Int)) with f1 | f1
  · rcases fitE_or (y.num * (x.den : Int)) with f2 | f2
    · exact rcm_short q q' w h h' x y hx hy x.num x.den y.num y.den _ _ 0 0 o1.1 o1.2 o2.1 o2.2 f1.2.1 f2.2.1 (kf_zero f1.1) (kf_zero f2.1) rfl u hu
    · exact rcm_long q q' w h h' x y hx hy x.num x.den y.num y.den _ _ 0 2 o1.1 o1.2 o2.1 o2.2 rfl rfl (kf_zero f1.1) (by have := kf_any 0 (fitE (y.num * (x.den : Int))); rw [if_pos rfl, f2] at this; rw [f2]; exact this) (by decide) u hC
  · exact rcm_long q q' w h h' x y hx hy x.num x.den y.num y.den _ _ 2 2 o1.1 o1.2 o2.1 o2.2 rfl rfl (by have := kf_any 0 (fitE (x.num * (y.den : Int))); rw [if_pos rfl, f1] at this; rw [f1]; exact this) (by have := kf_any 2 (fitE (y.num * (x.den : Int))); rw [if_neg (by decide)] at this; exact this) (by decide) u hC
end Go.Proofs.Ytfodjaeknhomkaa
