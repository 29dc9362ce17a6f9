/-
 Stage 2: the continued fraction's expansion, over a known course, where the last convergent is too big.
-/
import Derived.Deep.LoopGhost
import Derived.Test.YtphinlongdoedaaGreatRatT
namespace Go.Proofs.YtphinlongdoedaaGreat
open Go.RowKit
set_option linter.unusedSimpArgs false
set_option maxRecDepth 20000
set_option maxHeartbeats 8000000
theorem zN9 (q q' : RVal) (w : World) (h : q.In w) (h' : q'.In w) (K : Nat) (st : Nat -> Ex) (qt rs ab : Nat -> Int) (i1 : q.o = some (st 0).n) (i2 : q.od = some (st 0).d) (i3 : q'.o = some (st 0).m) (i4 : q'.od = some (st 0).f)
 (i5 : (st 0).p = 0) (i6 : (st 0).q = 1) (i7 : (st 0).r = 1) (i8 : (st 0).s = 0) (HR : Hid (∀ k, k <= K -> ExR (st k) (qt k) (rs k) (ab k))) (HG : Hid (∀ k, k < K -> ExS (st k) (st (k + 1)) (qt k) (rs k) (ab k)))
 (hl : decide (Int.sign ((st K).f - ab K) < 0) = true) (z u1 N u2 Dn f1 f2 f3 f4 f5 zr dr : Int) (hzr : (f5 = 0 -> zr = N /\ dr = Dn) /\ (f5 ≠ 0 -> zr = 0 /\ dr = 0)) (l1 : fitZ (qt K + 1) = z) (l2 : Kf 0 (fitE (qt K + 1)) f1) (l3 : fitZ (z * (st K).r) = u1) (l4 : Kf f1 (fitE (z * (st K).r)) f2) (l5 : fitZ (u1 + (st K).p) = N) (l6 : Kf f2 (fitE (u1 + (st K).p)) f3)
 (l7 : fitZ (z * (st K).s) = u2) (l8 : Kf f3 (fitE (z * (st K).s)) f4) (l9 : fitZ (u2 + (st K).q) = Dn) (l10 : Kf f4 (fitE (u2 + (st K).q)) f5) :
 Calls Tryz.prog 18 #[.agg #[.bool q.g, .slice q.A q.n q.c, .bool q.gd, .slice q.Ad q.nd q.cd], .agg #[.bool q'.g, .slice q'.A q'.n q'.c, .bool q'.gd, .slice q'.Ad q'.nd q'.cd]] w (RetR zr dr f5 w) := by
 have HZR := hI hzr
 clear hzr
 have HI := hI (And.intro i1 (And.intro i2 (And.intro i3 i4)))
 have HJ := hI (And.intro i5 (And.intro i6 (And.intro i7 i8)))
 have HL := hI (And.intro l1 (And.intro l2 (And.intro l3 (And.intro l4 (And.intro l5 (And.intro l6 (And.intro l7 (And.intro l8 (And.intro l9 l10)))))))))
 have HLT := hI hl
 have HS := hI (And.intro h h')
 clear i1 i2 i3 i4 i5 i6 i7 i8 l1 l2 l3 l4 l5 l6 l7 l8 l9 l10 hl h h'
 go_enter Tryz.func18, Tryz.ntmps18
 go_wp2_with fail
 go_step3
 go_wp2_with fail
 generalize hW : World.alloc (World.alloc (World.alloc (World.alloc w _) _) _) _ = V
 obtain ⟨hb, ra, rb, rr, cl⟩ := exp_boxes q q' w V HS.out.1 HS.out.2 hW
 generalize hr : w.heap.size = r at *
 have HRr := hI hr
 have HB := hI hb
 have H0 := hI (And.intro ra (And.intro rb (And.intro rr cl)))
 clear hW hb hr ra rb rr cl
 refine (of_any 1 _ (by omega) (by omega)).mono ?_
 rintro e w1 ⟨A1, n1, c1, xs1, rfl, hs1, hx1, hv1, hb1⟩
 have B1 := hI (zA HB.out (by have := HB.out.size; have := HRr.out; omega) hb1)
 have H1 := hI (show Rb w1 r q /\ Rb w1 (r + 1) q' /\ Rb w1 (r + 1 + 1) RVal.nil /\ Blk w1 (r + 1 + 1 + 1) 68 #[.int .i64 0] from ⟨H0.out.1.on hb1, H0.out.2.1.on hb1, H0.out.2.2.1.on hb1, Blk.below H0.out.2.2.2 hb1 (Blk.lt H0.out.2.2.2)⟩)
 have O1 := hI (show ov false xs1 = some 1 from zD5 (z := 1) hs1.ok hx1 hv1 (zH (by decide)))
 have S1 := hI hs1
 clear hs1 hx1 hv1 hb1 H0 HB
 generalize hpp : r + 1 + 1 + 1 = p at *
 have hpr : r + 1 + 1 < p := by omega
 clear hpp
 go_upto_region 3 with fail
 generalize hW : World.alloc w1 _ = V1
 have hn := zA0 w1 (.cells #[.bool false, .slice A1 n1 c1] 24)
 have hbx := Bx.new w1 false A1 n1 c1
 have hsz1 : V1.heap.size = w1.heap.size + 1 := by rw [<- hW]; simp
 have hW' : w1.alloc (.cells #[.bool false, .slice A1 n1 c1] 24) = V1 := hW
 rw [hW'] at hn hbx
 have H2 := hI (show Rb V1 r q /\ Rb V1 (r + 1) q' /\ Rb V1 (r + 1 + 1) RVal.nil /\ Blk V1 p 68 #[.int .i64 0] /\ Ba V1 w1.heap.size false A1 n1 c1 xs1 /\ Below r w V1 from
  ⟨H1.out.1.on hn, H1.out.2.1.on hn, H1.out.2.2.1.on hn, Blk.below H1.out.2.2.2 hn (Blk.lt H1.out.2.2.2), ⟨hbx, S1.out.on hn⟩, zA B1.out (by have := B1.out.size; have := HRr.out; omega) hn⟩)
 have hpm : p < w1.heap.size := Blk.lt H1.out.2.2.2
 have hmv : w1.heap.size < V1.heap.size := by omega
 clear hn hbx hsz1 hW hW' H1 B1 S1
 generalize w1.heap.size = m at *
 have k0 := H2.out.2.2.2.2.1.bx.c0
 have k1 := H2.out.2.2.2.2.1.bx.c1
 have kn := World.new_ne _ _ k0
 go_cut [8, 9] (fun s8 s9 wx => ExM w r p m false A1 n1 c1 xs1 (st 0) q q' s8 s9 wx)
 case first =>
  go_region
  all_goals
   go_wp2_with fail
   go_meet
   first
   | (have n1' := zA0 V1 (.cells #[.bool false, .slice none 0 0, .bool false, .slice A1 n1 c1] 26)
      have n2' := zA0 (V1.alloc (.cells #[.bool false, .slice none 0 0, .bool false, .slice A1 n1 c1] 26)) (.cells #[.bool false, .slice A1 n1 c1, .bool false, .slice none 0 0] 26)
      have hU := zA n1' n1'.size n2'
      have y1 := Rb.new (q := (⟨false, none, 0, 0, [], false, A1, n1, c1, xs1⟩ : RVal)) (w := V1) ⟨Sl.nil _ _, H2.out.2.2.2.2.1.sl⟩
      have X1 := y1.on n2'
      have y2 := Rb.new (q := (⟨false, A1, n1, c1, xs1, false, none, 0, 0, []⟩ : RVal)) (w := V1.alloc (.cells #[.bool false, .slice none 0 0, .bool false, .slice A1 n1 c1] 26)) (RVal.In.on ⟨H2.out.2.2.2.2.1.sl, Sl.nil _ _⟩ n1')
      have X2 : Rb (World.alloc (V1.alloc (.cells #[.bool false, .slice none 0 0, .bool false, .slice A1 n1 c1] 26)) (.cells #[.bool false, .slice A1 n1 c1, .bool false, .slice none 0 0] 26)) (V1.heap.size + 1) (⟨false, A1, n1, c1, xs1, false, none, 0, 0, []⟩ : RVal) := by simpa using y2
      exact exm_of hU H2.out.1 H2.out.2.1 H2.out.2.2.1 H2.out.2.2.2.2.1 H2.out.2.2.2.1 H2.out.2.2.2.2.2 hpr hpm hmv (Nat.le_refl _) (Nat.le_succ _) (by omega) X1 X2 HI.out (by rw [HJ.out.1]; rfl) (by rw [HJ.out.2.1]; exact O1.out) (by rw [HJ.out.2.2.1]; exact O1.out) (by rw [HJ.out.2.2.2]; rfl) O1.out)
   | (have n1' := zA0 V1 (.cells #[.bool false, .slice A1 n1 c1, .bool false, .slice none 0 0] 26)
      have n2' := zA0 (V1.alloc (.cells #[.bool false, .slice A1 n1 c1, .bool false, .slice none 0 0] 26)) (.cells #[.bool false, .slice none 0 0, .bool false, .slice A1 n1 c1] 26)
      have hU := zA n1' n1'.size n2'
      have y1 := Rb.new (q := (⟨false, A1, n1, c1, xs1, false, none, 0, 0, []⟩ : RVal)) (w := V1) ⟨H2.out.2.2.2.2.1.sl, Sl.nil _ _⟩
      have X1 := y1.on n2'
      have y2 := Rb.new (q := (⟨false, none, 0, 0, [], false, A1, n1, c1, xs1⟩ : RVal)) (w := V1.alloc (.cells #[.bool false, .slice A1 n1 c1, .bool false, .slice none 0 0] 26)) (RVal.In.on ⟨Sl.nil _ _, H2.out.2.2.2.2.1.sl⟩ n1')
      have X2 : Rb (World.alloc (V1.alloc (.cells #[.bool false, .slice A1 n1 c1, .bool false, .slice none 0 0] 26)) (.cells #[.bool false, .slice none 0 0, .bool false, .slice A1 n1 c1] 26)) (V1.heap.size + 1) (⟨false, none, 0, 0, [], false, A1, n1, c1, xs1⟩ : RVal) := by simpa using y2
      exact exm_of hU H2.out.1 H2.out.2.1 H2.out.2.2.1 H2.out.2.2.2.2.1 H2.out.2.2.2.1 H2.out.2.2.2.2.2 hpr hpm hmv (Nat.le_succ _) (Nat.le_refl _) (by omega) X2 X1 HI.out (by rw [HJ.out.1]; rfl) (by rw [HJ.out.2.1]; exact O1.out) (by rw [HJ.out.2.2.1]; exact O1.out) (by rw [HJ.out.2.2.2]; rfl) O1.out)
 case rest =>
 obtain ⟨a, b, la0, no0, rfl, rfl, hX0⟩ := hcut
 clear H2 k0 k1 kn hmv
 have HX0 := hI hX0
 clear hX0
 go_wp2_with fail
 go_step3
 go_wp2_with fail
 go_loopg [12] K (fun gg s12 wr => ∃ (k : Nat) (lo hi la no : RVal) (v12 : Value), s12 = v12 /\ k + gg = K /\ Hid (ExW w r p m a b false A1 n1 c1 xs1 (st k) lo hi la no wr))
 case atStart => exact ⟨0, q, q', la0, no0, _, rfl, by omega, HX0.out⟩
 case round =>
  obtain ⟨k, lo, hi, la, no, v12, rfl, hk, HX⟩ := hrel
  clear HX0
  have E := hI (HR.out k (by omega))
  have rsz : r <= wr.heap.size := by have := HX.out.blo.lt; omega
  have p0 := HX.out.blo.c0
  have p1 := HX.out.blo.c1
  have p2 := HX.out.blo.c2
  have p3 := HX.out.blo.c3
  go_wp2_with fail
  have C := zK7 (neg := lo.g) (neg' := lo.gd) HX.out.blo.sl.1 HX.out.blo.sl.2
  rw [show ov lo.g lo.xs = some (st k).n from HX.out.o1, show ov lo.gd lo.ys = some (st k).d from HX.out.o2, E.out.q1, E.out.q2] at C
  refine C.mono ?_
  clear C p0 p1 p2 p3
  generalize dvE (some (st k).n) (some (st k).d) = er at *
  rintro e w2 ⟨A2, n2, c2, xs2, A3, n3, c3, xs3, rfl, hs2, hx2, hv2, hs3, hx3, hv3, hb2⟩
  have HX2 := hI (HX.out.on hb2 rsz)
  have O2 := hI (And.intro (zD5 hs2.ok hx2 hv2 E.out.b1) (zD5 hs3.ok hx3 hv3 E.out.b2))
  have S2 := hI (And.intro hs2 hs3)
  have rsz2 : r <= w2.heap.size := Nat.le_trans rsz hb2.size
  clear hs2 hx2 hv2 hs3 hx3 hv3 hb2 HX
  go_upto_region 5 with fail
  generalize hW : World.alloc (World.alloc w2 _) _ = V
  obtain ⟨hb3, bq, br⟩ := zC0 (decide (qt k < 0)) (decide (rs k < 0)) A2 A3 n2 c2 n3 c3 xs2 xs3 w2 V S2.out.1 S2.out.2 hW
  have HX3 := hI (HX2.out.on hb3 rsz2)
  have QR := hI (And.intro bq br)
  have rsz3 : r <= V.heap.size := Nat.le_trans rsz2 hb3.size
  have hu1 := HX2.out.bla.lt
  have hu2 := HX2.out.bno.lt
  have l1 := HX2.out.l1
  have l2 := HX2.out.l2
  have l3 := HX2.out.l3
  have l4 := HX2.out.l4
  have l5 := HX2.out.l5
  clear hb3 bq br hW HX2 S2 rsz2
  generalize w2.heap.size = u at *
  have up : u ≠ p := by omega
  have u1p : u + 1 ≠ p := by omega
  have rp1 : r + 1 ≠ p := by omega
  have K0 : Hid (Kp V V p 0) := hI (Kp.below (Below.refl _ _) HX3.out.cl)
  have K0d := hI K0.out.drew
  have hlt : p < p + 1 := Nat.lt_succ_self _
  have hsz : p + 1 <= V.heap.size := Blk.lt HX3.out.cl
  have p0 := (K0.out.rb HX3.out.bhi rp1).c0
  have p1 := (K0.out.rb HX3.out.bhi rp1).c1
  have p2 := (K0.out.rb HX3.out.bhi rp1).c2
  have p3 := (K0.out.rb HX3.out.bhi rp1).c3
  have p8 := (K0.out.ba QR.out.1 up).bx.c0
  have p9 := (K0.out.ba QR.out.1 up).bx.c1
  have pw0 := World.new_ne _ _ p0
  have px0 := pw0.symm
  have pw8 := World.new_ne _ _ p8
  have px8 := pw8.symm
  go_cut [13] (fun s13 wx => Mid V p (ab k) 0 s13 wx)
  case first =>
   go_region_held3 (fun w' => w'.cell? ⟨r + 1, 0, none⟩ = some (.bool hi.g) /\ w'.cell? ⟨r + 1, 1, none⟩ = some (.slice hi.A hi.n hi.c) /\ w'.cell? ⟨r + 1, 2, none⟩ = some (.bool hi.gd) /\ w'.cell? ⟨r + 1, 3, none⟩ = some (.slice hi.Ad hi.nd hi.cd) /\ w'.cell? ⟨u, 0, none⟩ = some (.bool (decide (qt k < 0))) /\ w'.cell? ⟨u, 1, none⟩ = some (.slice A2 n2 c2)) (go_keep)
    (first
     | (go_at_call 44; (first | (have K := K1.out; have C := csub_any hi.g g1 hi.A A1 hi.n hi.c n1 c1 p hi.xs xs1 (st k).m (qt k * (st k).f) 0 0 v1 (K.sl _ _ _ _ HX3.out.bhi.sl.1) G1.out.1 HX3.out.o3 G1.out.2 K.cl (zC8 E.out.s2); rw [E.out.s1] at C; (with_reducible refine C.mono ?_); clear C; rintro e v2 ⟨g2, A2, n2, c2, xs2, rfl, hs2, ho2, hk2⟩; (try replace fb := fb.kp hk2 hlt hsz hbl); have K2 := hI (K.trans hk2); have G2 := hI (And.intro hs2 ho2); clear K hk2 hs2 ho2) | (have K := (K1.out.alloc (.cells #[.bool false, .slice none 0 0] 24)); have C := csub_any hi.g g1 hi.A A1 hi.n hi.c n1 c1 p hi.xs xs1 (st k).m (qt k * (st k).f) 0 0 (v1.alloc (.cells #[.bool false, .slice none 0 0] 24)) (K.sl _ _ _ _ HX3.out.bhi.sl.1) (G1.out.1.on (zA0 _ _)) HX3.out.o3 G1.out.2 K.cl (zC8 E.out.s2); rw [E.out.s1] at C; (with_reducible refine C.mono ?_); clear C; rintro e v2 ⟨g2, A2, n2, c2, xs2, rfl, hs2, ho2, hk2⟩; have fb : Bx v2 v1.heap.size false none 0 0 := hk2.bx (Bx.new v1 false none 0 0) (zJ8 hlt hsz K1.out.size); have hbl : Hid (Lez V.heap.size v1.heap.size) := hI K1.out.size; have K2 := hI (K.trans hk2); have G2 := hI (And.intro hs2 ho2); clear K hk2 hs2 ho2)); clear t0 t1 t2 t3 t8 t9; have y0 := (K2.out.rb HX3.out.bhi rp1).c0; have y1 := (K2.out.rb HX3.out.bhi rp1).c1; have y2 := (K2.out.rb HX3.out.bhi rp1).c2; have y3 := (K2.out.rb HX3.out.bhi rp1).c3; have y8 := (K2.out.ba QR.out.1 up).bx.c0; have y9 := (K2.out.ba QR.out.1 up).bx.c1; have yw0 := World.new_ne _ _ y0; have yx0 := yw0.symm; have yw8 := World.new_ne _ _ y8; have yx8 := yw8.symm; (try (have t0 := fb.c0; have t1 := fb.c1; have t2 := fb.f 0; have t3 := fb.f 1; have t8 := fb.lt; have FB := hI fb; clear fb)))
     | (go_at_call 30; (first | (have K := K0d.out; have C := zC4 (decide (qt k < 0)) hi.gd A2 hi.Ad n2 c2 hi.nd hi.cd p xs2 hi.ys (qt k) (st k).f 0 0 V.drew (K.sl _ _ _ _ QR.out.1.sl) (K.sl _ _ _ _ HX3.out.bhi.sl.2) O2.out.1 HX3.out.o4 K.cl (zC8 E.out.t2); rw [E.out.t1] at C; (with_reducible refine C.mono ?_); clear C; rintro e v1 ⟨g1, A1, n1, c1, xs1, rfl, hs1, ho1, hk1⟩; have K1 := hI (K.trans hk1); have G1 := hI (And.intro hs1 ho1); clear K hk1 hs1 ho1) | (have K := (K0.out.alloc (.cells #[.bool false, .slice none 0 0] 24)).drew; have C := zC4 (decide (qt k < 0)) hi.gd A2 hi.Ad n2 c2 hi.nd hi.cd p xs2 hi.ys (qt k) (st k).f 0 0 (V.alloc (.cells #[.bool false, .slice none 0 0] 24)).drew (K.sl _ _ _ _ QR.out.1.sl) (K.sl _ _ _ _ HX3.out.bhi.sl.2) O2.out.1 HX3.out.o4 K.cl (zC8 E.out.t2); rw [E.out.t1] at C; (with_reducible refine C.mono ?_); clear C; rintro e v1 ⟨g1, A1, n1, c1, xs1, rfl, hs1, ho1, hk1⟩; have fb : Bx v1 V.heap.size false none 0 0 := hk1.bx (Bx.new V.drew false none 0 0) (zJ8 hlt hsz K0d.out.size); have hbl : Hid (Lez V.heap.size V.heap.size) := hI K0d.out.size; have K1 := hI (K.trans hk1); have G1 := hI (And.intro hs1 ho1); clear K hk1 hs1 ho1)); clear p0 p1 p2 p3 p8 p9; have t0 := (K1.out.rb HX3.out.bhi rp1).c0; have t1 := (K1.out.rb HX3.out.bhi rp1).c1; have t2 := (K1.out.rb HX3.out.bhi rp1).c2; have t3 := (K1.out.rb HX3.out.bhi rp1).c3; have t8 := (K1.out.ba QR.out.1 up).bx.c0; have t9 := (K1.out.ba QR.out.1 up).bx.c1; have tw0 := World.new_ne _ _ t0; have tx0 := tw0.symm; have tw8 := World.new_ne _ _ t8; have tx8 := tw8.symm))
   all_goals (go_wp2_with fail; go_meet; first | exact mid_new K2.out G2.out.1 G2.out.2 | exact mid_old FB.out K2.out (Nat.lt_of_lt_of_le hlt hsz) hbl.out G2.out.1 G2.out.2)
  case rest =>
  obtain ⟨s, g5, A5, n5, c5, xs5, rfl, X5, o5, k5, l5'⟩ := hcut
  obtain ⟨w5, rfl⟩ : ∃ w5 : World, w5 = wc := ⟨_, rfl⟩
  have HX5 := hI (HX3.out.kp k5 rsz3)
  have QR5 := hI (And.intro (k5.ba QR.out.1 up) (k5.ba QR.out.2 u1p))
  have AB5 := hI X5
  have O5 := hI o5
  have rsz5 : r <= w5.heap.size := Nat.le_trans rsz3 k5.size
  have sV : V.heap.size <= s := l5'
  have uV : u + 1 < V.heap.size := QR.out.2.bx.lt
  clear p0 p1 p2 p3 p8 p9 pw0 px0 pw8 px8 k5 X5 o5 HX3 QR hlt hsz K0 K0d l5'
  have p0 := HX5.out.bhi.c2
  have p1 := HX5.out.bhi.c3
  have p2 := AB5.out.bx.c0
  have p3 := AB5.out.bx.c1
  go_wp2_with fail
  obtain ⟨od, hod⟩ : ∃ o, Int.sign ((st k).f - ab k) = o := ⟨_, rfl⟩
  have HOD := hI hod
  clear hod
  refine (cmp_ov (neg := hi.gd) (neg' := g5) HX5.out.bhi.sl.2 AB5.out.sl HX5.out.o4 O5.out HOD.out).mono ?_
  rintro e w6 ⟨rfl, hb6⟩
  have HX6 := hI (HX5.out.on hb6 rsz5)
  have QR6 := hI (And.intro (QR5.out.1.on hb6) (QR5.out.2.on hb6))
  have AB6 := hI (AB5.out.on hb6)
  have rsz6 : r <= w6.heap.size := Nat.le_trans rsz5 hb6.size
  clear p0 p1 p2 p3 hb6 HX5 QR5 AB5
  by_cases hkK : k = K
  . subst hkK
    have ht : decide (od < 0) = true := by have h := HLT.out; rwa [HOD.out] at h
    go_upto_region 8 with fail
    have HK := hI (And.intro HX6.out.cl QR6.out.1)
    have p0 := HX6.out.bla.c0
    have p1 := HX6.out.bla.c1
    have p2 := HX6.out.bla.c2
    have p3 := HX6.out.bla.c3
    have n0 := HX6.out.bno.c0
    have n1' := HX6.out.bno.c1
    have n2' := HX6.out.bno.c2
    have n3' := HX6.out.bno.c3
    have p4 := QR6.out.1.bx.c0
    have p5 := QR6.out.1.bx.c1
    have p6 := HX6.out.bon.bx.c0
    have p7 := HX6.out.bon.bx.c1
    have K0 : Hid (Kp w6 w6 p 0) := hI (Kp.below (Below.refl _ _) HX6.out.cl)
    have K0d := hI K0.out.drew
    have ap : a ≠ p := by omega
    have bp : b ≠ p := by omega
    have mp : m ≠ p := by omega
    have bu : b ≠ u := by omega
    have ub := bu.symm
    have bm : b ≠ m := by omega
    have mb := bm.symm
    have ba9 := l5.symm
    have rr1 : r + 1 + 1 ≠ p := by omega
    have rr2 : r + 1 + 1 ≠ b := by omega
    have rr3 := rr2.symm
    have pb : p ≠ b := by omega
    have bp' := pb.symm
    have hC : ∀ (i j : Nat) (w' : World), i <= j -> (i = 0 -> w'.cell? ⟨a, 0, none⟩ = some (.bool la.g) /\ w'.cell? ⟨a, 1, none⟩ = some (.slice la.A la.n la.c) /\ w'.cell? ⟨a, 2, none⟩ = some (.bool la.gd) /\ w'.cell? ⟨a, 3, none⟩ = some (.slice la.Ad la.nd la.cd) /\ w'.cell? ⟨b, 0, none⟩ = some (.bool no.g) /\ w'.cell? ⟨b, 1, none⟩ = some (.slice no.A no.n no.c) /\ w'.cell? ⟨b, 2, none⟩ = some (.bool no.gd) /\ w'.cell? ⟨b, 3, none⟩ = some (.slice no.Ad no.nd no.cd) /\ w'.cell? ⟨u, 0, none⟩ = some (.bool (decide (qt k < 0))) /\ w'.cell? ⟨u, 1, none⟩ = some (.slice A2 n2 c2) /\ w'.cell? ⟨m, 0, none⟩ = some (.bool false) /\ w'.cell? ⟨m, 1, none⟩ = some (.slice A1 n1 c1)) -> (j = 0 -> w'.cell? ⟨a, 0, none⟩ = some (.bool la.g) /\ w'.cell? ⟨a, 1, none⟩ = some (.slice la.A la.n la.c) /\ w'.cell? ⟨a, 2, none⟩ = some (.bool la.gd) /\ w'.cell? ⟨a, 3, none⟩ = some (.slice la.Ad la.nd la.cd) /\ w'.cell? ⟨b, 0, none⟩ = some (.bool no.g) /\ w'.cell? ⟨b, 1, none⟩ = some (.slice no.A no.n no.c) /\ w'.cell? ⟨b, 2, none⟩ = some (.bool no.gd) /\ w'.cell? ⟨b, 3, none⟩ = some (.slice no.Ad no.nd no.cd) /\ w'.cell? ⟨u, 0, none⟩ = some (.bool (decide (qt k < 0))) /\ w'.cell? ⟨u, 1, none⟩ = some (.slice A2 n2 c2) /\ w'.cell? ⟨m, 0, none⟩ = some (.bool false) /\ w'.cell? ⟨m, 1, none⟩ = some (.slice A1 n1 c1)) := fun i j w' hij h e => h (by omega)
    have hS : (fun w' : World => w'.cell? ⟨a, 0, none⟩ = some (.bool la.g) /\ w'.cell? ⟨a, 1, none⟩ = some (.slice la.A la.n la.c) /\ w'.cell? ⟨a, 2, none⟩ = some (.bool la.gd) /\ w'.cell? ⟨a, 3, none⟩ = some (.slice la.Ad la.nd la.cd) /\ w'.cell? ⟨b, 0, none⟩ = some (.bool no.g) /\ w'.cell? ⟨b, 1, none⟩ = some (.slice no.A no.n no.c) /\ w'.cell? ⟨b, 2, none⟩ = some (.bool no.gd) /\ w'.cell? ⟨b, 3, none⟩ = some (.slice no.Ad no.nd no.cd) /\ w'.cell? ⟨u, 0, none⟩ = some (.bool (decide (qt k < 0))) /\ w'.cell? ⟨u, 1, none⟩ = some (.slice A2 n2 c2) /\ w'.cell? ⟨m, 0, none⟩ = some (.bool false) /\ w'.cell? ⟨m, 1, none⟩ = some (.slice A1 n1 c1)) w6 := ⟨p0, p1, p2, p3, n0, n1', n2', n3', p4, p5, p6, p7⟩
    refine zH5 (fun i w' => i = 0 -> w'.cell? ⟨a, 0, none⟩ = some (.bool la.g) /\ w'.cell? ⟨a, 1, none⟩ = some (.slice la.A la.n la.c) /\ w'.cell? ⟨a, 2, none⟩ = some (.bool la.gd) /\ w'.cell? ⟨a, 3, none⟩ = some (.slice la.Ad la.nd la.cd) /\ w'.cell? ⟨b, 0, none⟩ = some (.bool no.g) /\ w'.cell? ⟨b, 1, none⟩ = some (.slice no.A no.n no.c) /\ w'.cell? ⟨b, 2, none⟩ = some (.bool no.gd) /\ w'.cell? ⟨b, 3, none⟩ = some (.slice no.Ad no.nd no.cd) /\ w'.cell? ⟨u, 0, none⟩ = some (.bool (decide (qt k < 0))) /\ w'.cell? ⟨u, 1, none⟩ = some (.slice A2 n2 c2) /\ w'.cell? ⟨m, 0, none⟩ = some (.bool false) /\ w'.cell? ⟨m, 1, none⟩ = some (.slice A1 n1 c1)) (fun i => match i with | 6 => 1 | _ => 0) (by kernel_rfl) ?_
    have hS : (fun w' : World => w'.cell? ⟨a, 0, none⟩ = some (.bool la.g) /\ w'.cell? ⟨a, 1, none⟩ = some (.slice la.A la.n la.c) /\ w'.cell? ⟨a, 2, none⟩ = some (.bool la.gd) /\ w'.cell? ⟨a, 3, none⟩ = some (.slice la.Ad la.nd la.cd) /\ w'.cell? ⟨b, 0, none⟩ = some (.bool no.g) /\ w'.cell? ⟨b, 1, none⟩ = some (.slice no.A no.n no.c) /\ w'.cell? ⟨b, 2, none⟩ = some (.bool no.gd) /\ w'.cell? ⟨b, 3, none⟩ = some (.slice no.Ad no.nd no.cd) /\ w'.cell? ⟨u, 0, none⟩ = some (.bool (decide (qt k < 0))) /\ w'.cell? ⟨u, 1, none⟩ = some (.slice A2 n2 c2) /\ w'.cell? ⟨m, 0, none⟩ = some (.bool false) /\ w'.cell? ⟨m, 1, none⟩ = some (.slice A1 n1 c1)) w6.drew := by go_keep
    try dsimp only at hS
    refine zA7 hC 0 (v := .agg #[.bool la.g, .slice la.A la.n la.c, .bool la.gd, .slice la.Ad la.nd la.cd]) rfl (by kernel_rfl) (by kernel_rfl) (by kernel_rfl) (by kernel_rfl) (fun _ _ _ h => h) (Or.inl ⟨by rfl, by (intro w' hSw; obtain ⟨x0, x1, x2, x3, x4, x5, x6, x7, x8, x9, x10, x11⟩ := hSw rfl; go_simp)⟩) (fun _ => hS) ?_
    try simp only [Act.put, List.setIfInBounds_toArray, List.set_cons_zero, List.set_cons_succ]
    refine zA7 hC 1 (v := .agg #[.bool no.g, .slice no.A no.n no.c, .bool no.gd, .slice no.Ad no.nd no.cd]) rfl (by kernel_rfl) (by kernel_rfl) (by kernel_rfl) (by kernel_rfl) (fun _ _ _ h => h) (Or.inl ⟨by rfl, by (intro w' hSw; obtain ⟨x0, x1, x2, x3, x4, x5, x6, x7, x8, x9, x10, x11⟩ := hSw rfl; go_simp)⟩) (fun _ => hS) ?_
    try simp only [Act.put, List.setIfInBounds_toArray, List.set_cons_zero, List.set_cons_succ]
    refine zA7 hC 2 (v := .agg #[.bool (decide (qt k < 0)), .slice A2 n2 c2]) rfl (by kernel_rfl) (by kernel_rfl) (by kernel_rfl) (by kernel_rfl) (fun _ _ _ h => h) (Or.inl ⟨by rfl, by (intro w' hSw; obtain ⟨x0, x1, x2, x3, x4, x5, x6, x7, x8, x9, x10, x11⟩ := hSw rfl; go_simp)⟩) (fun _ => hS) ?_
    try simp only [Act.put, List.setIfInBounds_toArray, List.set_cons_zero, List.set_cons_succ]
    refine zA7 hC 3 (v := .agg #[.bool false, .slice A1 n1 c1]) rfl (by kernel_rfl) (by kernel_rfl) (by kernel_rfl) (by kernel_rfl) (fun _ _ _ h => h) (Or.inl ⟨by rfl, by (intro w' hSw; obtain ⟨x0, x1, x2, x3, x4, x5, x6, x7, x8, x9, x10, x11⟩ := hSw rfl; go_simp)⟩) (fun _ => hS) ?_
    try simp only [Act.put, List.setIfInBounds_toArray, List.set_cons_zero, List.set_cons_succ]
    clear hS
    refine zC9 4 (by kernel_rfl) rfl (fun KK hKK => ?_)
    go_simp
    have K := K0d.out
    have C := zM (decide (qt k < 0)) false A2 A1 n2 c2 n1 c1 p xs2 xs1 (qt k) 1 0 f1 w6.drew (K.sl _ _ _ _ QR6.out.1.sl) (K.sl _ _ _ _ HX6.out.bon.sl) O2.out.1 HX6.out.o9 K.cl HL.out.2.1
    rw [HL.out.1] at C
    (with_reducible refine C.mono ?_)
    clear C
    rintro e v1 ⟨g1, A4, n4, c4, xs4, rfl, hs1, ho1, hk1⟩
    have K1 := hI (K.trans hk1)
    have G1 := hI (And.intro hs1 ho1)
    clear K hk1 hs1 ho1 p0 p1 p2 p3 n0 n1' n2' n3' p4 p5 p6 p7
    have la9 := (K1.out.rb HX6.out.bla ap)
    have p0 := la9.c0
    have p1 := la9.c1
    have p2 := la9.c2
    have p3 := la9.c3
    clear la9
    have no9 := (K1.out.rb HX6.out.bno bp)
    have n0 := no9.c0
    have n1' := no9.c1
    have n2' := no9.c2
    have n3' := no9.c3
    have nf0 := no9.f 0
    have nf1 := no9.f 1
    have nf2 := no9.f 2
    have nf3 := no9.f 3
    clear no9
    have q9 := (K1.out.ba QR6.out.1 up)
    have p4 := q9.bx.c0
    have p5 := q9.bx.c1
    clear q9
    have m9 := (K1.out.ba HX6.out.bon mp)
    have p6 := m9.bx.c0
    have p7 := m9.bx.c1
    clear m9
    refine hKK.out _ _ (fun _ => ⟨p0, p1, p2, p3, n0, n1', n2', n3', p4, p5, p6, p7⟩) ?_
    clear hKK KK
    try simp only [Act.put, List.setIfInBounds_toArray, List.set_cons_zero, List.set_cons_succ]
    clear p0 p1 p2 p3 n0 n1' n2' n3' p4 p5 p6 p7 nf0 nf1 nf2 nf3
    refine zC9 5 (by kernel_rfl) rfl (fun KK hKK => ?_)
    go_simp
    have K := K1.out
    have C := conv_any la no g1 A4 n4 c4 p xs4 (st k).p (st k).q (st k).r (st k).s z u1 N u2 Dn f1 f2 f3 f4 f5 v1 ⟨K.sl _ _ _ _ HX6.out.bla.sl.1, K.sl _ _ _ _ HX6.out.bla.sl.2⟩ ⟨K.sl _ _ _ _ HX6.out.bno.sl.1, K.sl _ _ _ _ HX6.out.bno.sl.2⟩ G1.out.1 K.cl HX6.out.o5 HX6.out.o6 HX6.out.o7 HX6.out.o8 G1.out.2 HL.out.2.2.1 HL.out.2.2.2.2.1 HL.out.2.2.2.2.2.2.1 HL.out.2.2.2.2.2.2.2.2.1 HL.out.2.2.2.1 HL.out.2.2.2.2.2.1 HL.out.2.2.2.2.2.2.2.1 HL.out.2.2.2.2.2.2.2.2.2
    (with_reducible refine C.mono ?_)
    clear C
    rintro e v2 ⟨t, rfl, ht2, ot, otd, hk2⟩
    have K2 := hI (K.trans hk2)
    have T2 := hI (And.intro ht2 (And.intro ot otd))
    clear K hk2 ht2 ot otd
    have la9 := (K2.out.rb HX6.out.bla ap)
    have p0 := la9.c0
    have p1 := la9.c1
    have p2 := la9.c2
    have p3 := la9.c3
    clear la9
    have no9 := (K2.out.rb HX6.out.bno bp)
    have n0 := no9.c0
    have n1' := no9.c1
    have n2' := no9.c2
    have n3' := no9.c3
    have nf0 := no9.f 0
    have nf1 := no9.f 1
    have nf2 := no9.f 2
    have nf3 := no9.f 3
    clear no9
    have q9 := (K2.out.ba QR6.out.1 up)
    have p4 := q9.bx.c0
    have p5 := q9.bx.c1
    clear q9
    have m9 := (K2.out.ba HX6.out.bon mp)
    have p6 := m9.bx.c0
    have p7 := m9.bx.c1
    clear m9
    have rs9 := (K2.out.rb HX6.out.bre rr1)
    have x0 := rs9.c0
    have x1 := rs9.c1
    have x2 := rs9.c2
    have x3 := rs9.c3
    have xf0 := rs9.f 0
    have xf1 := rs9.f 1
    have xf2 := rs9.f 2
    have xf3 := rs9.f 3
    clear rs9
    have cl9 := K2.out.cl
    have kc9 : v2.cell? ⟨p, 0, none⟩ = some (.int .i64 f5) := Blk.cell cl9 0
    clear cl9
    simp only [RVal.nil] at x0 x1 x2 x3
    refine hKK.out _ _ (fun _ => ⟨p0, p1, p2, p3, n0, n1', n2', n3', p4, p5, p6, p7⟩) ?_
    clear hKK KK
    try simp only [Act.put, List.setIfInBounds_toArray, List.set_cons_zero, List.set_cons_succ]
    refine zC9 6 (by kernel_rfl) rfl (fun KK hKK => ?_)
    go_simp
    refine hKK.out _ _ (fun e => absurd e (by decide)) ?_
    clear hKK KK
    try simp only [Act.put, List.setIfInBounds_toArray, List.set_cons_zero, List.set_cons_succ]
    refine zJ3 (by kernel_rfl) ?_ _
    by_cases hf5 : f5 = 0
    . have HN5 := hI (HZR.out.1 hf5)
      clear HZR
      subst hf5
      go_wp2_with fail
      generalize hU0 : World.setCell (World.setCell (World.setCell (World.setCell v2 _ _) _ _) _ _) _ _ = W1
      have nn := K2.out.rb HX6.out.bno bp
      have tin : t.In W1 := by rw [<- hU0]; exact ⟨T2.out.1.1.put4 nn.bx _ _ _ _, T2.out.1.2.put4 nn.bx _ _ _ _⟩
      have RX : Rb W1 (r + 1 + 1) RVal.nil := by rw [<- hU0]; exact (K2.out.rb HX6.out.bre rr1).pass nn rr2 _ _ _ _
      have HBW : Below r w W1 := by rw [<- hU0]; exact zA5 (K2.out.bel r w HX6.out.bel (by omega) rsz6) (by omega) _ _ _ _
      generalize hU : World.setCell (World.setCell (World.setCell (World.setCell W1 _ _) _ _) _ _) _ _ = U
      have RU' := (Rb.put RX tin)
      have RU : Rb U (r + 1 + 1) t := by rw [<- hU]; exact RU'
      have HU : Below w.heap.size w U := by rw [<- hU, HRr.out]; exact (zA5 HBW (show r <= r + 1 + 1 by omega) _ _ _ _)
      have j0 := RU.c0
      have j1 := RU.c1
      have j2 := RU.c2
      have j3 := RU.c3
      refine bodyPost_ret (v := .tuple #[.agg #[.bool t.g, .slice t.A t.n t.c, .bool t.gd, .slice t.Ad t.nd t.cd], .int .i64 0]) (by simp [results, Tryz.results18, go_sem, j0, j1, j2, j3]) rfl ?_
      rw [HN5.out.1, HN5.out.2]
      exact RetR.of RU T2.out.2.1 T2.out.2.2 HU
    . have hE : (f5 != 0) = true := bne_iff_ne.2 hf5
      have HN5 := hI (HZR.out.2 hf5)
      clear hf5 HZR
      go_wp2_with fail
      generalize hU0 : World.setCell (World.setCell (World.setCell (World.setCell v2 _ _) _ _) _ _) _ _ = W1
      have nn := K2.out.rb HX6.out.bno bp
      have RX : Hid (Rb W1 (r + 1 + 1) RVal.nil) := by rw [<- hU0]; exact hI ((K2.out.rb HX6.out.bre rr1).pass nn rr2 _ _ _ _)
      have HBW : Hid (Below r w W1) := by rw [<- hU0]; exact hI (zA5 (K2.out.bel r w HX6.out.bel (by omega) rsz6) (by omega) _ _ _ _)
      have CL : Hid (Blk W1 p 68 #[.int .i64 f5]) := by rw [<- hU0]; exact hI (Blk.pass K2.out.cl pb nn _ _ _ _)
      clear hU0 nn p0 p1 p2 p3 n0 n1' n2' n3' p4 p5 p6 p7 nf0 nf1 nf2 nf3 x0 x1 x2 x3 xf0 xf1 xf2 xf3 kc9 hE hC
      have x0 := RX.out.c0
      have x1 := RX.out.c1
      have x2 := RX.out.c2
      have x3 := RX.out.c3
      simp only [RVal.nil] at x0 x1 x2 x3
      have xf0 := RX.out.f 0
      have xf1 := RX.out.f 1
      have xf2 := RX.out.f 2
      have xf3 := RX.out.f 3
      have kc9 : W1.cell? ⟨p, 0, none⟩ = some (.int .i64 f5) := Blk.cell CL.out 0
      have rr4 := rr1.symm
      go_region
      all_goals
       go_wp2_with fail
       try rw [Exit.noGoto_ret]
       generalize hU : World.drew (World.setCell (World.setCell (World.setCell (World.setCell W1 _ _) _ _) _ _) _ _) = U
       have RU : Rb U (r + 1 + 1) RVal.nil := by rw [<- hU]; exact (Rb.put (q' := RVal.nil) RX.out (RVal.nil_in _)).drew
       have HU : Below w.heap.size w U := by rw [<- hU, HRr.out]; exact (zA5 HBW.out (show r <= r + 1 + 1 by omega) _ _ _ _).drew
       have j0 := RU.c0
       have j1 := RU.c1
       have j2 := RU.c2
       have j3 := RU.c3
       simp only [RVal.nil] at j0 j1 j2 j3
       refine bodyPost_ret (v := .tuple #[.agg #[.bool false, .slice none 0 0, .bool false, .slice none 0 0], .int .i64 f5]) (by simp [results, Tryz.results18, go_sem, j0, j1, j2, j3]) rfl ?_
       rw [HN5.out.1, HN5.out.2]
       exact RetR.of RU rfl rfl HU
  . have S := hI (HG.out k (by omega))
    have ht : decide (od < 0) = false := by have h := S.out.ge; rwa [HOD.out] at h
    go_upto_region 9 with fail
    have p0 := HX6.out.bla.c0
    have p1 := HX6.out.bla.c1
    have p2 := HX6.out.bla.c2
    have p3 := HX6.out.bla.c3
    have n0 := HX6.out.bno.c0
    have n1' := HX6.out.bno.c1
    have n2' := HX6.out.bno.c2
    have n3' := HX6.out.bno.c3
    have p4 := QR6.out.1.bx.c0
    have p5 := QR6.out.1.bx.c1
    have K0 : Hid (Kp w6 w6 p 0) := hI (Kp.below (Below.refl _ _) HX6.out.cl)
    have K0d := hI K0.out.drew
    have ap : a ≠ p := by omega
    have bp : b ≠ p := by omega
    have bu : b ≠ u := by omega
    have ub := bu.symm
    have au : a ≠ u := by omega
    have ua := au.symm
    have ba9 := l5.symm
    have hC : ∀ (i j : Nat) (w' : World), i <= j -> ((i = 0 -> w'.cell? ⟨a, 0, none⟩ = some (.bool la.g) /\ w'.cell? ⟨a, 1, none⟩ = some (.slice la.A la.n la.c) /\ w'.cell? ⟨a, 2, none⟩ = some (.bool la.gd) /\ w'.cell? ⟨a, 3, none⟩ = some (.slice la.Ad la.nd la.cd)) /\ (i <= 1 -> w'.cell? ⟨b, 0, none⟩ = some (.bool no.g) /\ w'.cell? ⟨b, 1, none⟩ = some (.slice no.A no.n no.c) /\ w'.cell? ⟨b, 2, none⟩ = some (.bool no.gd) /\ w'.cell? ⟨b, 3, none⟩ = some (.slice no.Ad no.nd no.cd)) /\ w'.cell? ⟨u, 0, none⟩ = some (.bool (decide (qt k < 0))) /\ w'.cell? ⟨u, 1, none⟩ = some (.slice A2 n2 c2)) -> ((j = 0 -> w'.cell? ⟨a, 0, none⟩ = some (.bool la.g) /\ w'.cell? ⟨a, 1, none⟩ = some (.slice la.A la.n la.c) /\ w'.cell? ⟨a, 2, none⟩ = some (.bool la.gd) /\ w'.cell? ⟨a, 3, none⟩ = some (.slice la.Ad la.nd la.cd)) /\ (j <= 1 -> w'.cell? ⟨b, 0, none⟩ = some (.bool no.g) /\ w'.cell? ⟨b, 1, none⟩ = some (.slice no.A no.n no.c) /\ w'.cell? ⟨b, 2, none⟩ = some (.bool no.gd) /\ w'.cell? ⟨b, 3, none⟩ = some (.slice no.Ad no.nd no.cd)) /\ w'.cell? ⟨u, 0, none⟩ = some (.bool (decide (qt k < 0))) /\ w'.cell? ⟨u, 1, none⟩ = some (.slice A2 n2 c2)) := fun i j w' hij h => ⟨fun e => h.1 (by omega), fun e => h.2.1 (by omega), h.2.2⟩
    have hS : (fun w' : World => (w'.cell? ⟨a, 0, none⟩ = some (.bool la.g) /\ w'.cell? ⟨a, 1, none⟩ = some (.slice la.A la.n la.c) /\ w'.cell? ⟨a, 2, none⟩ = some (.bool la.gd) /\ w'.cell? ⟨a, 3, none⟩ = some (.slice la.Ad la.nd la.cd)) /\ (w'.cell? ⟨b, 0, none⟩ = some (.bool no.g) /\ w'.cell? ⟨b, 1, none⟩ = some (.slice no.A no.n no.c) /\ w'.cell? ⟨b, 2, none⟩ = some (.bool no.gd) /\ w'.cell? ⟨b, 3, none⟩ = some (.slice no.Ad no.nd no.cd)) /\ w'.cell? ⟨u, 0, none⟩ = some (.bool (decide (qt k < 0))) /\ w'.cell? ⟨u, 1, none⟩ = some (.slice A2 n2 c2)) w6 := ⟨⟨p0, p1, p2, p3⟩, ⟨n0, n1', n2', n3'⟩, p4, p5⟩
    refine zH5 (fun j w' => (j = 0 -> w'.cell? ⟨a, 0, none⟩ = some (.bool la.g) /\ w'.cell? ⟨a, 1, none⟩ = some (.slice la.A la.n la.c) /\ w'.cell? ⟨a, 2, none⟩ = some (.bool la.gd) /\ w'.cell? ⟨a, 3, none⟩ = some (.slice la.Ad la.nd la.cd)) /\ (j <= 1 -> w'.cell? ⟨b, 0, none⟩ = some (.bool no.g) /\ w'.cell? ⟨b, 1, none⟩ = some (.slice no.A no.n no.c) /\ w'.cell? ⟨b, 2, none⟩ = some (.bool no.gd) /\ w'.cell? ⟨b, 3, none⟩ = some (.slice no.Ad no.nd no.cd)) /\ w'.cell? ⟨u, 0, none⟩ = some (.bool (decide (qt k < 0))) /\ w'.cell? ⟨u, 1, none⟩ = some (.slice A2 n2 c2)) (fun j => match j with | 2 => 1 | 3 => 2 | 5 => 1 | 6 => 2 | _ => 0) (by kernel_rfl) ?_
    have hS : (fun w' : World => (w'.cell? ⟨a, 0, none⟩ = some (.bool la.g) /\ w'.cell? ⟨a, 1, none⟩ = some (.slice la.A la.n la.c) /\ w'.cell? ⟨a, 2, none⟩ = some (.bool la.gd) /\ w'.cell? ⟨a, 3, none⟩ = some (.slice la.Ad la.nd la.cd)) /\ (w'.cell? ⟨b, 0, none⟩ = some (.bool no.g) /\ w'.cell? ⟨b, 1, none⟩ = some (.slice no.A no.n no.c) /\ w'.cell? ⟨b, 2, none⟩ = some (.bool no.gd) /\ w'.cell? ⟨b, 3, none⟩ = some (.slice no.Ad no.nd no.cd)) /\ w'.cell? ⟨u, 0, none⟩ = some (.bool (decide (qt k < 0))) /\ w'.cell? ⟨u, 1, none⟩ = some (.slice A2 n2 c2)) w6.drew := by go_keep
    try dsimp only at hS
    refine zA7 hC 3 (v := .agg #[.bool (decide (qt k < 0)), .slice A2 n2 c2]) rfl (by kernel_rfl) (by kernel_rfl) (by kernel_rfl) (by kernel_rfl) (fun _ _ _ h => h) (Or.inl ⟨by rfl, by (intro w' hSw; obtain ⟨fu0, fu1⟩ := hSw.2.2; go_simp)⟩) ⟨fun _ => hS.1, fun _ => hS.2.1, hS.2.2⟩ ?_
    try simp only [Act.put, List.setIfInBounds_toArray, List.set_cons_zero, List.set_cons_succ]
    refine zA7 hC 2 (v := .agg #[.bool no.g, .slice no.A no.n no.c, .bool no.gd, .slice no.Ad no.nd no.cd]) rfl (by kernel_rfl) (by kernel_rfl) (by kernel_rfl) (by kernel_rfl) (fun _ _ _ h => h) (Or.inl ⟨by rfl, by (intro w' hSw; obtain ⟨fb0, fb1, fb2, fb3⟩ := hSw.2.1 (by decide); go_simp)⟩) ⟨fun _ => hS.1, fun _ => hS.2.1, hS.2.2⟩ ?_
    try simp only [Act.put, List.setIfInBounds_toArray, List.set_cons_zero, List.set_cons_succ]
    refine zA7 hC 0 (v := .agg #[.bool no.g, .slice no.A no.n no.c, .bool no.gd, .slice no.Ad no.nd no.cd]) rfl (by kernel_rfl) (by kernel_rfl) (by kernel_rfl) (by kernel_rfl) (fun _ _ _ h => h) (Or.inl ⟨by rfl, by (intro w' hSw; obtain ⟨fb0, fb1, fb2, fb3⟩ := hSw.2.1 (by decide); go_simp)⟩) ⟨fun _ => hS.1, fun _ => hS.2.1, hS.2.2⟩ ?_
    try simp only [Act.put, List.setIfInBounds_toArray, List.set_cons_zero, List.set_cons_succ]
    refine zA7 hC 1 (v := .agg #[.bool la.g, .slice la.A la.n la.c, .bool la.gd, .slice la.Ad la.nd la.cd]) rfl (by kernel_rfl) (by kernel_rfl) (by kernel_rfl) (by kernel_rfl) (fun _ _ _ h => h) (Or.inl ⟨by rfl, by (intro w' hSw; obtain ⟨fa0, fa1, fa2, fa3⟩ := hSw.1 rfl; go_simp)⟩) ⟨fun _ => hS.1, fun _ => hS.2.1, hS.2.2⟩ ?_
    try simp only [Act.put, List.setIfInBounds_toArray, List.set_cons_zero, List.set_cons_succ]
    clear hS
    refine zC9 4 (by kernel_rfl) rfl (fun KK hKK => ?_)
    go_simp
    have K := K0d.out
    have C := conv_any la no (decide (qt k < 0)) A2 n2 c2 p xs2 (st k).p (st k).q (st k).r (st k).s (qt k) (qt k * (st k).r) (st (k + 1)).r (qt k * (st k).s) (st (k + 1)).s 0 0 0 0 0 w6.drew ⟨K.sl _ _ _ _ HX6.out.bla.sl.1, K.sl _ _ _ _ HX6.out.bla.sl.2⟩ ⟨K.sl _ _ _ _ HX6.out.bno.sl.1, K.sl _ _ _ _ HX6.out.bno.sl.2⟩ (K.sl _ _ _ _ QR6.out.1.sl) K.cl HX6.out.o5 HX6.out.o6 HX6.out.o7 HX6.out.o8 O2.out.1 S.out.c1 S.out.c3 S.out.c5 S.out.c7 (zC8 S.out.c2) (zC8 S.out.c4) (zC8 S.out.c6) (zC8 S.out.c8)
    (with_reducible refine C.mono ?_)
    clear C
    rintro e v1 ⟨t, rfl, ht1, ot, otd, hk1⟩
    have K1 := hI (K.trans hk1)
    have T1 := hI (And.intro ht1 (And.intro ot otd))
    clear K hk1 ht1 ot otd p0 p1 p2 p3 n0 n1' n2' n3' p4 p5
    have la9 := (K1.out.rb HX6.out.bla ap)
    have p0 := la9.c0
    have p1 := la9.c1
    have p2 := la9.c2
    have p3 := la9.c3
    have pf0 := la9.f 0
    have pf1 := la9.f 1
    have pf2 := la9.f 2
    have pf3 := la9.f 3
    clear la9
    have no9 := (K1.out.rb HX6.out.bno bp)
    have n0 := no9.c0
    have n1' := no9.c1
    have n2' := no9.c2
    have n3' := no9.c3
    have nf0 := no9.f 0
    have nf1 := no9.f 1
    have nf2 := no9.f 2
    have nf3 := no9.f 3
    clear no9
    have q9 := (K1.out.ba QR6.out.1 up)
    have p4 := q9.bx.c0
    have p5 := q9.bx.c1
    clear q9
    refine hKK.out _ _ ⟨fun _ => ⟨p0, p1, p2, p3⟩, fun _ => ⟨n0, n1', n2', n3'⟩, p4, p5⟩ ?_
    clear hKK KK
    try simp only [Act.put, List.setIfInBounds_toArray, List.set_cons_zero, List.set_cons_succ]
    refine zC9 5 (by kernel_rfl) rfl (fun KK hKK => ?_)
    go_simp
    refine hKK.out _ _ ⟨fun e => absurd e (by decide), fun _ => (by go_keep), (by go_keep)⟩ ?_
    clear hKK KK
    try simp only [Act.put, List.setIfInBounds_toArray, List.set_cons_zero, List.set_cons_succ]
    refine zC9 6 (by kernel_rfl) rfl (fun KK hKK => ?_)
    go_simp
    refine hKK.out _ _ ⟨fun e => absurd e (by decide), fun e => absurd e (by decide), (by go_keep)⟩ ?_
    clear hKK KK
    try simp only [Act.put, List.setIfInBounds_toArray, List.set_cons_zero, List.set_cons_succ]
    refine zJ3 (by kernel_rfl) ?_ _
    generalize hW9 : World.setCell (World.setCell (World.setCell (World.setCell (World.setCell (World.setCell (World.setCell (World.setCell v1 _ _) _ _) _ _) _ _) _ _) _ _) _ _) _ _ = W9
    have X6 := HX6.out.kp K1.out rsz6
    have HX9 : Hid (ExW w r p m a b false A1 n1 c1 xs1 ⟨(st k).n, (st k).d, (st k).m, (st k).f, (st k).r, (st k).s, (st (k + 1)).r, (st (k + 1)).s⟩ lo hi no t W9) := by rw [<- hW9]; exact hI (X6.turn T1.out.1 T1.out.2.1 T1.out.2.2)
    have sp : s ≠ p := by omega
    have RS9 : Hid (Ba W9 (u + 1) (decide (rs k < 0)) A3 n3 c3 xs3) := by rw [<- hW9]; exact hI ((K1.out.ba QR6.out.2 u1p).two X6.bla X6.bno (by omega) (by omega) ba9 _ _ _ _ _ _ _ _)
    have AB9 : Hid (Ba W9 s g5 A5 n5 c5 xs5) := by rw [<- hW9]; exact hI ((K1.out.ba AB6.out sp).two X6.bla X6.bno (by omega) (by omega) ba9 _ _ _ _ _ _ _ _)
    clear hW9 X6 hC nf0 nf1 nf2 nf3 pf0 pf1 pf2 pf3 p0 p1 p2 p3 n0 n1' n2' n3' p4 p5 K1 K0 K0d T1 AB6 QR6 HX6
    have p0 := HX9.out.blo.c0
    have p1 := HX9.out.blo.c1
    have p2 := HX9.out.blo.c2
    have p3 := HX9.out.blo.c3
    have pf0 := HX9.out.blo.f 0
    have pf1 := HX9.out.blo.f 1
    have pf2 := HX9.out.blo.f 2
    have pf3 := HX9.out.blo.f 3
    have n0 := HX9.out.bhi.c0
    have n1' := HX9.out.bhi.c1
    have n2' := HX9.out.bhi.c2
    have n3' := HX9.out.bhi.c3
    have nf0 := HX9.out.bhi.f 0
    have nf1 := HX9.out.bhi.f 1
    have nf2 := HX9.out.bhi.f 2
    have nf3 := HX9.out.bhi.f 3
    have p4 := RS9.out.bx.c0
    have p5 := RS9.out.bx.c1
    have p6 := AB9.out.bx.c0
    have p7 := AB9.out.bx.c1
    have z0 : u + 1 ≠ r := by omega
    have z1 := z0.symm
    have z2 : u + 1 ≠ r + 1 := by omega
    have z3 := z2.symm
    have z4 : s ≠ r := by omega
    have z5 := z4.symm
    have z6 : s ≠ r + 1 := by omega
    have z7 := z6.symm
    go_wp2_with fail
    have hC : ∀ (i j : Nat) (w' : World), i <= j -> ((i = 0 -> w'.cell? ⟨r, 2, none⟩ = some (.bool lo.gd) /\ w'.cell? ⟨r, 3, none⟩ = some (.slice lo.Ad lo.nd lo.cd) /\ w'.cell? ⟨r + 1, 2, none⟩ = some (.bool hi.gd) /\ w'.cell? ⟨r + 1, 3, none⟩ = some (.slice hi.Ad hi.nd hi.cd) /\ w'.cell? ⟨s, 0, none⟩ = some (.bool g5) /\ w'.cell? ⟨s, 1, none⟩ = some (.slice A5 n5 c5)) /\ (i <= 1 -> w'.cell? ⟨u + 1, 0, none⟩ = some (.bool (decide (rs k < 0))) /\ w'.cell? ⟨u + 1, 1, none⟩ = some (.slice A3 n3 c3))) -> ((j = 0 -> w'.cell? ⟨r, 2, none⟩ = some (.bool lo.gd) /\ w'.cell? ⟨r, 3, none⟩ = some (.slice lo.Ad lo.nd lo.cd) /\ w'.cell? ⟨r + 1, 2, none⟩ = some (.bool hi.gd) /\ w'.cell? ⟨r + 1, 3, none⟩ = some (.slice hi.Ad hi.nd hi.cd) /\ w'.cell? ⟨s, 0, none⟩ = some (.bool g5) /\ w'.cell? ⟨s, 1, none⟩ = some (.slice A5 n5 c5)) /\ (j <= 1 -> w'.cell? ⟨u + 1, 0, none⟩ = some (.bool (decide (rs k < 0))) /\ w'.cell? ⟨u + 1, 1, none⟩ = some (.slice A3 n3 c3))) := fun i j w' hij h => ⟨fun e => h.1 (by omega), fun e => h.2 (by omega)⟩
    have hS : (fun w' : World => (w'.cell? ⟨r, 2, none⟩ = some (.bool lo.gd) /\ w'.cell? ⟨r, 3, none⟩ = some (.slice lo.Ad lo.nd lo.cd) /\ w'.cell? ⟨r + 1, 2, none⟩ = some (.bool hi.gd) /\ w'.cell? ⟨r + 1, 3, none⟩ = some (.slice hi.Ad hi.nd hi.cd) /\ w'.cell? ⟨s, 0, none⟩ = some (.bool g5) /\ w'.cell? ⟨s, 1, none⟩ = some (.slice A5 n5 c5)) /\ w'.cell? ⟨u + 1, 0, none⟩ = some (.bool (decide (rs k < 0))) /\ w'.cell? ⟨u + 1, 1, none⟩ = some (.slice A3 n3 c3)) W9 := ⟨⟨p2, p3, n2', n3', p6, p7⟩, p4, p5⟩
    refine zH5 (fun j w' => (j = 0 -> w'.cell? ⟨r, 2, none⟩ = some (.bool lo.gd) /\ w'.cell? ⟨r, 3, none⟩ = some (.slice lo.Ad lo.nd lo.cd) /\ w'.cell? ⟨r + 1, 2, none⟩ = some (.bool hi.gd) /\ w'.cell? ⟨r + 1, 3, none⟩ = some (.slice hi.Ad hi.nd hi.cd) /\ w'.cell? ⟨s, 0, none⟩ = some (.bool g5) /\ w'.cell? ⟨s, 1, none⟩ = some (.slice A5 n5 c5)) /\ (j <= 1 -> w'.cell? ⟨u + 1, 0, none⟩ = some (.bool (decide (rs k < 0))) /\ w'.cell? ⟨u + 1, 1, none⟩ = some (.slice A3 n3 c3))) (fun j => match j with | 1 => 0 | 2 => 0 | 3 => 0 | 5 => 0 | 9 => 2 | _ => 1) (by kernel_rfl) ?_
    have hS : (fun w' : World => (w'.cell? ⟨r, 2, none⟩ = some (.bool lo.gd) /\ w'.cell? ⟨r, 3, none⟩ = some (.slice lo.Ad lo.nd lo.cd) /\ w'.cell? ⟨r + 1, 2, none⟩ = some (.bool hi.gd) /\ w'.cell? ⟨r + 1, 3, none⟩ = some (.slice hi.Ad hi.nd hi.cd) /\ w'.cell? ⟨s, 0, none⟩ = some (.bool g5) /\ w'.cell? ⟨s, 1, none⟩ = some (.slice A5 n5 c5)) /\ w'.cell? ⟨u + 1, 0, none⟩ = some (.bool (decide (rs k < 0))) /\ w'.cell? ⟨u + 1, 1, none⟩ = some (.slice A3 n3 c3)) W9.drew := by go_keep
    try dsimp only at hS
    refine zA7 hC 6 (v := .agg #[.bool (decide (rs k < 0)), .slice A3 n3 c3]) rfl (by kernel_rfl) (by kernel_rfl) (by kernel_rfl) (by kernel_rfl) (fun _ _ _ h => h) (Or.inl ⟨by rfl, by (intro w' hSw; obtain ⟨fx0, fx1⟩ := hSw.2 (by decide); go_simp)⟩) ⟨fun _ => hS.1, fun _ => hS.2⟩ ?_
    try simp only [Act.put, List.setIfInBounds_toArray, List.set_cons_zero, List.set_cons_succ]
    refine zA7 hC 0 (v := .pointer (some ⟨r + 1, 2, none⟩)) rfl (by kernel_rfl) (by kernel_rfl) (by kernel_rfl) (by kernel_rfl) (fun _ _ _ h => h) (Or.inl ⟨by rfl, by (intro w' hSw; go_simp)⟩) ⟨fun _ => hS.1, fun _ => hS.2⟩ ?_
    try simp only [Act.put, List.setIfInBounds_toArray, List.set_cons_zero, List.set_cons_succ]
    refine zA7 hC 4 (v := .pointer (some ⟨r, 2, none⟩)) rfl (by kernel_rfl) (by kernel_rfl) (by kernel_rfl) (by kernel_rfl) (fun _ _ _ h => h) (Or.inl ⟨by rfl, by (intro w' hSw; go_simp)⟩) ⟨fun _ => hS.1, fun _ => hS.2⟩ ?_
    try simp only [Act.put, List.setIfInBounds_toArray, List.set_cons_zero, List.set_cons_succ]
    refine zA7 hC 5 (v := .agg #[.bool lo.gd, .slice lo.Ad lo.nd lo.cd]) rfl (by kernel_rfl) (by kernel_rfl) (by kernel_rfl) (by kernel_rfl) (fun _ _ _ h => h) (Or.inl ⟨by rfl, by (intro w' hSw; obtain ⟨fx0, fx1, fx2, fx3, fx4, fx5⟩ := hSw.1 rfl; go_simp)⟩) ⟨fun _ => hS.1, fun _ => hS.2⟩ ?_
    try simp only [Act.put, List.setIfInBounds_toArray, List.set_cons_zero, List.set_cons_succ]
    refine zA7 hC 7 (v := .agg #[.bool lo.gd, .slice lo.Ad lo.nd lo.cd, .bool (decide (rs k < 0)), .slice A3 n3 c3]) rfl (by kernel_rfl) (by kernel_rfl) (by kernel_rfl) (by kernel_rfl) (fun _ _ _ h => h) (Or.inl ⟨by rfl, by (intro w' hSw; go_simp)⟩) ⟨fun _ => hS.1, fun _ => hS.2⟩ ?_
    try simp only [Act.put, List.setIfInBounds_toArray, List.set_cons_zero, List.set_cons_succ]
    refine zA7 hC 1 (v := .agg #[.bool hi.gd, .slice hi.Ad hi.nd hi.cd]) rfl (by kernel_rfl) (by kernel_rfl) (by kernel_rfl) (by kernel_rfl) (fun _ _ _ h => h) (Or.inl ⟨by rfl, by (intro w' hSw; obtain ⟨fx0, fx1, fx2, fx3, fx4, fx5⟩ := hSw.1 rfl; go_simp)⟩) ⟨fun _ => hS.1, fun _ => hS.2⟩ ?_
    try simp only [Act.put, List.setIfInBounds_toArray, List.set_cons_zero, List.set_cons_succ]
    refine zA7 hC 2 (v := .agg #[.bool g5, .slice A5 n5 c5]) rfl (by kernel_rfl) (by kernel_rfl) (by kernel_rfl) (by kernel_rfl) (fun _ _ _ h => h) (Or.inl ⟨by rfl, by (intro w' hSw; obtain ⟨fx0, fx1, fx2, fx3, fx4, fx5⟩ := hSw.1 rfl; go_simp)⟩) ⟨fun _ => hS.1, fun _ => hS.2⟩ ?_
    try simp only [Act.put, List.setIfInBounds_toArray, List.set_cons_zero, List.set_cons_succ]
    refine zA7 hC 3 (v := .agg #[.bool hi.gd, .slice hi.Ad hi.nd hi.cd, .bool g5, .slice A5 n5 c5]) rfl (by kernel_rfl) (by kernel_rfl) (by kernel_rfl) (by kernel_rfl) (fun _ _ _ h => h) (Or.inl ⟨by rfl, by (intro w' hSw; go_simp)⟩) ⟨fun _ => hS.1, fun _ => hS.2⟩ ?_
    try simp only [Act.put, List.setIfInBounds_toArray, List.set_cons_zero, List.set_cons_succ]
    clear hS
    refine zC9 8 (by kernel_rfl) rfl (fun KK hKK => ?_)
    go_simp
    refine hKK.out _ _ ⟨fun e => absurd e (by decide), fun _ => (by go_keep)⟩ ?_
    clear hKK KK
    try simp only [Act.put, List.setIfInBounds_toArray, List.set_cons_zero, List.set_cons_succ]
    refine zC9 9 (by kernel_rfl) rfl (fun KK hKK => ?_)
    go_simp
    refine hKK.out _ _ ⟨fun e => absurd e (by decide), fun e => absurd e (by decide)⟩ ?_
    clear hKK KK
    try simp only [Act.put, List.setIfInBounds_toArray, List.set_cons_zero, List.set_cons_succ]
    refine zJ3 (by kernel_rfl) ?_ _
    go_wp2_with fail
    generalize hW10 : World.drew (World.setCell (World.setCell (World.setCell (World.setCell (World.setCell (World.setCell (World.setCell (World.setCell (W9) _ _) _ _) _ _) _ _) _ _) _ _) _ _) _ _) = W10
    have Y := ExW.step (q1 := (⟨hi.gd, hi.Ad, hi.nd, hi.cd, hi.ys, g5, A5, n5, c5, xs5⟩ : RVal)) (q2 := (⟨lo.gd, lo.Ad, lo.nd, lo.cd, lo.ys, decide (rs k < 0), A3, n3, c3, xs3⟩ : RVal)) HX9.out ⟨HX9.out.bhi.sl.2, AB9.out.sl⟩ ⟨HX9.out.blo.sl.2, RS9.out.sl⟩ HX9.out.o4 O5.out HX9.out.o2 O2.out.2
    have Y2 := Y.drew
    have Y3 : Hid (ExW w r p m a b false A1 n1 c1 xs1 (st (k + 1)) (⟨hi.gd, hi.Ad, hi.nd, hi.cd, hi.ys, g5, A5, n5, c5, xs5⟩ : RVal) (⟨lo.gd, lo.Ad, lo.nd, lo.cd, lo.ys, decide (rs k < 0), A3, n3, c3, xs3⟩ : RVal) no t W10) := by rw [<- hW10, S.out.eq]; exact hI Y2
    clear hW10 Y Y2 p0 p1 p2 p3 pf0 pf1 pf2 pf3 n0 n1' n2' n3' nf0 nf1 nf2 nf3 p4 p5 p6 p7 z0 z1 z2 z3 z4 z5 z6 z7 HX9 RS9 AB9 hC
    go_roundg (K - (k + 1))
    case measure => omega
    case rel => exact ⟨k + 1, _, _, _, _, _, rfl, by omega, Y3⟩
end Go.Proofs.YtphinlongdoedaaGreat
