/-
 Stage 2: Simplest of two rationals that are not positive, whatever the expansion hands back. Stage 2: Simplest of any two rationals, the first one less: the number with the least terms between them, or the error where it is too big. Stage 2: the reference's list of parts in memory: append, what a write to its row leaves as it was, an element read.
-/
import Derived.OwnWalk
import Derived.Test.YtphinlongdoedaaGreatRatSv
import Derived.Test.YtphinlongdoedaaGreatRatY
namespace Go.Proofs.YtphinlongdoedaaGreat
open Go.RowKit
set_option linter.unusedSimpArgs false
set_option maxRecDepth 20000
set_option maxHeartbeats 2000000
def QMid (B : Nat) (w0 : World) (z zd er : Int) (p s : Value) (wx : World) : Prop := ∃ r q, p = .pointer (some ⟨r, 0, none⟩) /\ s = .int .i64 er /\ Rb wx r q /\ q.o = some z /\ q.od = some zd /\ B <= r /\ Below B w0 wx
section
variable {B r : Nat} {w0 v : World} {z zd er : Int} {q : RVal}
theorem zR7 (bn : Rb v r RVal.nil) (hB : Below B w0 v) (hle : B <= r) (hq : q.In v) (ho : q.o = some z) (hod : q.od = some zd) :
 QMid B w0 z zd er (.pointer (some ⟨r, 0, none⟩)) (.int .i64 er) ((((v.setCell ⟨r, 0, none⟩ (.bool q.g)).setCell ⟨r, 1, none⟩ (.slice q.A q.n q.c)).setCell ⟨r, 2, none⟩ (.bool q.gd)).setCell ⟨r, 3, none⟩ (.slice q.Ad q.nd q.cd)) :=
 ⟨r, q, rfl, rfl, Rb.put bn hq, ho, hod, hle, zA5 hB hle _ _ _ _⟩
theorem qMid_new (hB : Below B w0 v) (hle : B <= v.heap.size) (hq : q.In v) (ho : q.o = some z) (hod : q.od = some zd) :
 QMid B w0 z zd er (.pointer (some ⟨v.heap.size, 0, none⟩)) (.int .i64 er) (v.alloc (.cells #[.bool q.g, .slice q.A q.n q.c, .bool q.gd, .slice q.Ad q.nd q.cd] 26)) :=
 ⟨v.heap.size, q, rfl, rfl, Rb.new hq, ho, hod, hle, hB.alloc hle _⟩
end
theorem simp_neg (p q : RVal) (w : World) (ha : p.In w) (hb : q.In w) (hc : ∀ w : World, p.In w -> q.In w -> Calls Tryz.prog 17 #[.agg #[.bool p.g, .slice p.A p.n p.c, .bool p.gd, .slice p.Ad p.nd p.cd], .agg #[.bool q.g, .slice q.A q.n q.c, .bool q.gd, .slice q.Ad q.nd q.cd]] w (RetC (-1) 0 w)) (na da nb db z zd er z2 zd2 : Int) (gq nq : Bool) (hf : (gq = true /\ nq = true) \/ (gq = false /\ nq = false)) (hg : p.g = true /\ q.g = gq /\ decide (0 < q.n) = nq) (h1 : p.o = some na /\ p.od = some da) (h2 : q.o = some nb /\ q.od = some db) (he : ∀ (f1 f2 : RVal) (w : World), f1.In w -> f2.In w -> f1.o = some (-nb) -> f1.od = some db -> f2.o = some (-na) -> f2.od = some da -> Calls Tryz.prog 18 #[.agg #[.bool f1.g, .slice f1.A f1.n f1.c, .bool f1.gd, .slice f1.Ad f1.nd f1.cd], .agg #[.bool f2.g, .slice f2.A f2.n f2.c, .bool f2.gd, .slice f2.Ad f2.nd f2.cd]] w (RetR z zd er w)) (hz : (er = 0 -> z2 = -z /\ zd2 = zd) /\ (er ≠ 0 -> z2 = 0 /\ zd2 = 0)) :
 Calls Tryz.prog 5 #[.agg #[.bool p.g, .slice p.A p.n p.c, .bool p.gd, .slice p.Ad p.nd p.cd], .agg #[.bool q.g, .slice q.A q.n q.c, .bool q.gd, .slice q.Ad q.nd q.cd]] w (RetR z2 zd2 er w) := by
 rcases hf with ⟨rfl, rfl⟩ | ⟨rfl, rfl⟩
 all_goals
  have HC := hI hc
  have HG := hI hg
  have H1 := hI h1
  have H2 := hI h2
  have HE := hI he
  have HZ := hI hz
  clear hc hg h1 h2 he hz
  have Ia_0 := hI ha
  clear ha
  have Ib_0 := hI hb
  clear hb
  have B_0 : Hid (Below w.heap.size w w) := hI (Below.refl _ _)
  go_enter Tryz.func5, Tryz.ntmps5
  go_wp2_with fail
  generalize hW : World.alloc w _ = W1
  have hn := zA0 w (.cells #[.bool p.g, .slice p.A p.n p.c, .bool p.gd, .slice p.Ad p.nd p.cd] 26)
  rw [hW] at hn
  have hz : W1.heap.size = w.heap.size + 1 := by rw [<- hW]; simp
  have hx : Rb W1 w.heap.size p := by rw [<- hW]; exact Rb.new (q := p) Ia_0.out
  have Ib_1 := hI (Ib_0.out.on hn)
  have B_2 := hI (zA B_0.out B_0.out.size hn)
  generalize hr : w.heap.size = r at *
  have HRr := hI hr
  clear hr
  have Xa_3 : Hid (Rb W1 r p) := hI hx
  have HT3 := hz
  clear hn hx hz hW Ib_0 B_0 Ia_0
  generalize hW : World.alloc W1 _ = W4
  have hn := zA0 W1 (.cells #[.bool q.g, .slice q.A q.n q.c, .bool q.gd, .slice q.Ad q.nd q.cd] 26)
  rw [hW] at hn
  have hz : W4.heap.size = W1.heap.size + 1 := by rw [<- hW]; simp
  have hx : Rb W4 W1.heap.size q := by rw [<- hW]; exact Rb.new (q := q) Ib_1.out
  have hlt : r < W1.heap.size := Xa_3.out.lt
  have B_4 := hI (bch B_2.out HRr.out hn)
  have Xa_5 := hI (Xa_3.out.on hn)
  rw [HT3] at hx hz hlt
  have Xb_6 : Hid (Rb W4 (r + 1) q) := hI hx
  have HT6 := hz
  clear hn hx hz hW hlt B_2 Xa_3 Ib_1
  generalize hW : World.alloc W4 _ = W7
  have hn := zA0 W4 (.cells #[.bool false, .slice none 0 0, .bool false, .slice none 0 0] 26)
  rw [hW] at hn
  have hx : Rb W7 W4.heap.size RVal.nil := by rw [<- hW]; exact Rb.new (q := RVal.nil) (RVal.nil_in W4)
  have hlt : (r + 1) < W4.heap.size := Xb_6.out.lt
  have B_7 := hI (bch B_4.out HRr.out hn)
  have Xa_8 := hI (Xa_5.out.on hn)
  have Xb_9 := hI (Xb_6.out.on hn)
  rw [HT6] at hx hlt
  have Xe_10 : Hid (Rb W7 (r + 1 + 1) RVal.nil) := hI hx
  clear hn hx hW hlt B_4 Xa_5 Xb_6
  clear HT3 HT6
  refine (HC.out W7 Xa_8.out.sl Xb_9.out.sl).mono ?_
  rintro e w11 ⟨rfl, hb⟩
  have B_11 := hI (bch B_7.out HRr.out hb)
  have Xa_12 := hI (Xa_8.out.on hb)
  have Xb_13 := hI (Xb_9.out.on hb)
  have Xe_14 := hI (Xe_10.out.on hb)
  clear hb B_7 Xa_8 Xb_9 Xe_10
  have g1 : p.g = true := HG.out.1
  have g2 := HG.out.2.1
  have g3 := HG.out.2.2
  obtain ⟨ka0, ka1, ka2, ka3⟩ := Xa_12.out.cs
  have la := Xa_12.out.lt
  obtain ⟨kb0, kb1, kb2, kb3⟩ := Xb_13.out.cs
  have lb := Xb_13.out.lt
  rw [g1] at ka0
  rw [g2] at kb0
  clear g1 g2
  go_upto_region 8 with fail
  clear g3
  clear ka0 ka1 ka2 ka3 la kb0 kb1 kb2 kb3 lb
  go_cut [8, 9] (fun p s wx => QMid w11.heap.size w11.drew z zd er p s wx)
  case first =>
   have xa0 := hI Xa_12.out.drew
   have xb0 := hI Xb_13.out.drew
   have D0 : Hid (Below w11.heap.size w11.drew w11.drew) := hI (Below.refl _ _)
   have o0 := World.new_ne _ _ Xa_12.out.c0
   have o4 := World.new_ne _ _ Xb_13.out.c0
   obtain ⟨oa0, oa1, oa2, oa3⟩ := Xa_12.out.cs
   obtain ⟨ob0, ob1, ob2, ob3⟩ := Xb_13.out.cs
   have p0 := xa0.out.c0; have p1 := xa0.out.c1; have p2 := xa0.out.c2; have p3 := xa0.out.c3; have p4 := xb0.out.c0; have p5 := xb0.out.c1; have p6 := xb0.out.c2; have p7 := xb0.out.c3; have q0 := World.new_ne _ _ p0; have q4 := World.new_ne _ _ p4
   go_region_held3 (fun w' => w'.cell? ⟨r, 0, none⟩ = some (.bool p.g) /\ w'.cell? ⟨r, 1, none⟩ = some (.slice p.A p.n p.c) /\ w'.cell? ⟨r, 2, none⟩ = some (.bool p.gd) /\ w'.cell? ⟨r, 3, none⟩ = some (.slice p.Ad p.nd p.cd) /\ w'.cell? ⟨(r + 1), 0, none⟩ = some (.bool q.g) /\ w'.cell? ⟨(r + 1), 1, none⟩ = some (.slice q.A q.n q.c) /\ w'.cell? ⟨(r + 1), 2, none⟩ = some (.bool q.gd) /\ w'.cell? ⟨(r + 1), 3, none⟩ = some (.slice q.Ad q.nd q.cd)) (go_keep)
    (first
     | (go_at_call 18; (first | (have C := HE.out f1 f2 v2 J1.out I2.out.1 I1.out.2.1 I1.out.2.2 I2.out.2.1 I2.out.2.2; (with_reducible refine C.mono ?_); clear C; rintro e v3 ⟨f3, rfl, hi, hv, hv2, hbn⟩; have xa3 := hI (xa2.out.on hbn); have xb3 := hI (xb2.out.on hbn); have D3 := hI (zA D2.out D2.out.size hbn); have I3 := hI hi; have V3 := hI hv; have W3 := hI hv2; clear hi hv hv2; (try replace bn := bn.on hbn); clear hbn p0 p1 p2 p3 p4 p5 p6 p7 q0 q4; have p0 := xa3.out.c0; have p1 := xa3.out.c1; have p2 := xa3.out.c2; have p3 := xa3.out.c3; have p4 := xb3.out.c0; have p5 := xb3.out.c1; have p6 := xb3.out.c2; have p7 := xb3.out.c3; have q0 := World.new_ne _ _ p0; have q4 := World.new_ne _ _ p4; (try (have t0 := bn.c0; have t1 := bn.c1; have t2 := bn.c2; have t3 := bn.c3; have u0f := bn.f 0; have u1f := bn.f 1; have u2f := bn.f 2; have u3f := bn.f 3; have bb := hI bn; clear bn))) | (have C := HE.out f1 f2 (v2.alloc (.cells #[.bool false, .slice none 0 0, .bool false, .slice none 0 0] 26)) (J1.out.on (zA0 v2 (.cells #[.bool false, .slice none 0 0, .bool false, .slice none 0 0] 26))) (I2.out.1.on (zA0 v2 (.cells #[.bool false, .slice none 0 0, .bool false, .slice none 0 0] 26))) I1.out.2.1 I1.out.2.2 I2.out.2.1 I2.out.2.2; (with_reducible refine C.mono ?_); clear C; rintro e v3 ⟨f3, rfl, hi, hv, hv2, hbn⟩; have bn : Rb v3 v2.heap.size RVal.nil := (Rb.new (q := RVal.nil) (RVal.nil_in v2)).on hbn; have nz : Hid (w11.heap.size <= v2.heap.size) := hI D2.out.size; have xa3 := hI ((xa2.out.on (zA0 v2 (.cells #[.bool false, .slice none 0 0, .bool false, .slice none 0 0] 26))).on hbn); have xb3 := hI ((xb2.out.on (zA0 v2 (.cells #[.bool false, .slice none 0 0, .bool false, .slice none 0 0] 26))).on hbn); have D3 := hI (zA (zA D2.out D2.out.size (zA0 v2 (.cells #[.bool false, .slice none 0 0, .bool false, .slice none 0 0] 26))) (Nat.le_trans D2.out.size (zA0 v2 (.cells #[.bool false, .slice none 0 0, .bool false, .slice none 0 0] 26)).size) hbn); have I3 := hI hi; have V3 := hI hv; have W3 := hI hv2; clear hi hv hv2; have na : r ≠ v2.heap.size := Nat.ne_of_lt xa2.out.lt; have nb : (r + 1) ≠ v2.heap.size := Nat.ne_of_lt xb2.out.lt; have na2 := na.symm; have nb2 := nb.symm; clear hbn p0 p1 p2 p3 p4 p5 p6 p7 q0 q4; have p0 := xa3.out.c0; have p1 := xa3.out.c1; have p2 := xa3.out.c2; have p3 := xa3.out.c3; have p4 := xb3.out.c0; have p5 := xb3.out.c1; have p6 := xb3.out.c2; have p7 := xb3.out.c3; have q0 := World.new_ne _ _ p0; have q4 := World.new_ne _ _ p4; (try (have t0 := bn.c0; have t1 := bn.c1; have t2 := bn.c2; have t3 := bn.c3; have u0f := bn.f 0; have u1f := bn.f 1; have u2f := bn.f 2; have u3f := bn.f 3; have bb := hI bn; clear bn)))))
     | (go_at_call 20; (first | (have C := pneg_q (w := v1) xa1.out.sl H1.out.1 H1.out.2; (with_reducible refine C.mono ?_); clear C; rintro e v2 ⟨f2, rfl, hi, ho, hod, hbn⟩; have xa2 := hI (xa1.out.on hbn); have xb2 := hI (xb1.out.on hbn); have D2 := hI (zA D1.out D1.out.size hbn); have I2 := hI (And.intro hi (And.intro ho hod)); have J1 := hI (I1.out.1.on hbn); clear hi ho hod; (try replace bn := bn.on hbn); clear hbn p0 p1 p2 p3 p4 p5 p6 p7 q0 q4; have p0 := xa2.out.c0; have p1 := xa2.out.c1; have p2 := xa2.out.c2; have p3 := xa2.out.c3; have p4 := xb2.out.c0; have p5 := xb2.out.c1; have p6 := xb2.out.c2; have p7 := xb2.out.c3; have q0 := World.new_ne _ _ p0; have q4 := World.new_ne _ _ p4) | (have C := pneg_q (w := (v1.alloc (.cells #[.bool false, .slice none 0 0, .bool false, .slice none 0 0] 26))) (xa1.out.on (zA0 v1 (.cells #[.bool false, .slice none 0 0, .bool false, .slice none 0 0] 26))).sl H1.out.1 H1.out.2; (with_reducible refine C.mono ?_); clear C; rintro e v2 ⟨f2, rfl, hi, ho, hod, hbn⟩; have bn : Rb v2 v1.heap.size RVal.nil := (Rb.new (q := RVal.nil) (RVal.nil_in v1)).on hbn; have nz : Hid (w11.heap.size <= v1.heap.size) := hI D1.out.size; have xa2 := hI ((xa1.out.on (zA0 v1 (.cells #[.bool false, .slice none 0 0, .bool false, .slice none 0 0] 26))).on hbn); have xb2 := hI ((xb1.out.on (zA0 v1 (.cells #[.bool false, .slice none 0 0, .bool false, .slice none 0 0] 26))).on hbn); have D2 := hI (zA (zA D1.out D1.out.size (zA0 v1 (.cells #[.bool false, .slice none 0 0, .bool false, .slice none 0 0] 26))) (Nat.le_trans D1.out.size (zA0 v1 (.cells #[.bool false, .slice none 0 0, .bool false, .slice none 0 0] 26)).size) hbn); have I2 := hI (And.intro hi (And.intro ho hod)); have J1 := hI ((I1.out.1.on (zA0 v1 (.cells #[.bool false, .slice none 0 0, .bool false, .slice none 0 0] 26))).on hbn); clear hi ho hod; have na : r ≠ v1.heap.size := Nat.ne_of_lt xa1.out.lt; have nb : (r + 1) ≠ v1.heap.size := Nat.ne_of_lt xb1.out.lt; have na2 := na.symm; have nb2 := nb.symm; clear hbn p0 p1 p2 p3 p4 p5 p6 p7 q0 q4; have p0 := xa2.out.c0; have p1 := xa2.out.c1; have p2 := xa2.out.c2; have p3 := xa2.out.c3; have p4 := xb2.out.c0; have p5 := xb2.out.c1; have p6 := xb2.out.c2; have p7 := xb2.out.c3; have q0 := World.new_ne _ _ p0; have q4 := World.new_ne _ _ p4)))
     | (go_at_call 20; (first | (have C := pneg_q (w := w11.drew) xb0.out.sl H2.out.1 H2.out.2; (with_reducible refine C.mono ?_); clear C; rintro e v1 ⟨f1, rfl, hi, ho, hod, hbn⟩; have xa1 := hI (xa0.out.on hbn); have xb1 := hI (xb0.out.on hbn); have D1 := hI (zA D0.out D0.out.size hbn); have I1 := hI (And.intro hi (And.intro ho hod)); clear hi ho hod; (try replace bn := bn.on hbn); clear hbn p0 p1 p2 p3 p4 p5 p6 p7 q0 q4; have p0 := xa1.out.c0; have p1 := xa1.out.c1; have p2 := xa1.out.c2; have p3 := xa1.out.c3; have p4 := xb1.out.c0; have p5 := xb1.out.c1; have p6 := xb1.out.c2; have p7 := xb1.out.c3; have q0 := World.new_ne _ _ p0; have q4 := World.new_ne _ _ p4) | (have C := pneg_q (w := ((w11.alloc (.cells #[.bool false, .slice none 0 0, .bool false, .slice none 0 0] 26)).drew)) ((Xb_13.out.on (zA0 w11 (.cells #[.bool false, .slice none 0 0, .bool false, .slice none 0 0] 26))).drew).sl H2.out.1 H2.out.2; (with_reducible refine C.mono ?_); clear C; rintro e v1 ⟨f1, rfl, hi, ho, hod, hbm⟩; have hbn : Below (w11.drew.alloc (.cells #[.bool false, .slice none 0 0, .bool false, .slice none 0 0] 26)).heap.size (w11.drew.alloc (.cells #[.bool false, .slice none 0 0, .bool false, .slice none 0 0] 26)) v1 := ⟨hbm.os, hbm.tape, hbm.output, hbm.size, hbm.block⟩; clear hbm; have bn : Rb v1 w11.heap.size RVal.nil := (Rb.new (q := RVal.nil) (RVal.nil_in w11.drew)).on hbn; have nz : Hid (w11.heap.size <= w11.heap.size) := hI (Nat.le_refl _); have xa1 := hI ((xa0.out.on (zA0 w11.drew (.cells #[.bool false, .slice none 0 0, .bool false, .slice none 0 0] 26))).on hbn); have xb1 := hI ((xb0.out.on (zA0 w11.drew (.cells #[.bool false, .slice none 0 0, .bool false, .slice none 0 0] 26))).on hbn); have D1 := hI (zA (zA D0.out D0.out.size (zA0 w11.drew (.cells #[.bool false, .slice none 0 0, .bool false, .slice none 0 0] 26))) (Nat.le_trans D0.out.size (zA0 w11.drew (.cells #[.bool false, .slice none 0 0, .bool false, .slice none 0 0] 26)).size) hbn); have I1 := hI (And.intro hi (And.intro ho hod)); clear hi ho hod; have na : r ≠ w11.heap.size := Nat.ne_of_lt xa0.out.lt; have nb : (r + 1) ≠ w11.heap.size := Nat.ne_of_lt xb0.out.lt; have na2 := na.symm; have nb2 := nb.symm; clear hbn p0 p1 p2 p3 p4 p5 p6 p7 q0 q4; have p0 := xa1.out.c0; have p1 := xa1.out.c1; have p2 := xa1.out.c2; have p3 := xa1.out.c3; have p4 := xb1.out.c0; have p5 := xb1.out.c1; have p6 := xb1.out.c2; have p7 := xb1.out.c3; have q0 := World.new_ne _ _ p0; have q4 := World.new_ne _ _ p4))))
   all_goals (go_wp2_with fail; go_meet; first
    | exact qMid_new D3.out D3.out.size I3.out V3.out W3.out
    | exact zR7 bb.out D3.out nz.out I3.out V3.out W3.out
    | exact zR7 bb.out D3.out (Nat.le_refl _) I3.out V3.out W3.out)
  case rest =>
  have B_15 := hI (B_11.out.drew)
  have Xa_16 := hI (Xa_12.out.drew)
  have Xb_17 := hI (Xb_13.out.drew)
  have Xe_18 := hI (Xe_14.out.drew)
  obtain ⟨b9, tk, rfl, rfl, hx, ho, hod, hle, hb⟩ := hcut
  have B_19 := hI (bch B_15.out HRr.out hb)
  have Xa_20 := hI (Xa_16.out.on hb)
  have Xb_21 := hI (Xb_17.out.on hb)
  have Xe_22 := hI (Xe_18.out.on hb)
  have Vk := hI (And.intro ho hod)
  have Xk_23 := hI hx
  clear hx ho hod hb hle B_11 Xa_12 Xb_13 Xe_14 B_15 Xa_16 Xb_17 Xe_18
  obtain ⟨we, rfl⟩ : ∃ u : World, u = wc := ⟨_, rfl⟩
  by_cases h0 : er = 0
  . have HB := hI (HZ.out.1 h0)
    subst h0
    obtain ⟨kk0, kk1, kk2, kk3⟩ := Xk_23.out.cs
    have lk := Xk_23.out.lt
    go_wp2_with fail
    refine (pneg_q Xk_23.out.sl Vk.out.1 Vk.out.2).mono ?_
    clear kk0 kk1 kk2 kk3 lk
    rintro e w24 ⟨tm, rfl, hi, hv, hv2, hb⟩
    have B_24 := hI (bch B_19.out HRr.out hb)
    have Xa_25 := hI (Xa_20.out.on hb)
    have Xb_26 := hI (Xb_21.out.on hb)
    have Xe_27 := hI (Xe_22.out.on hb)
    have Xk_28 := hI (Xk_23.out.on hb)
    have Im_29 : Hid (tm.In w24) := hI hi
    clear hb B_19 Xa_20 Xb_21 Xe_22 Xk_23 hi
    have Vm := hI (And.intro hv hv2)
    clear hv hv2
    clear Xa_25 Xb_26 Xk_28
    obtain ⟨ke0, ke1, ke2, ke3⟩ := Xe_27.out.cs
    obtain ⟨fe0, fe1, fe2, fe3⟩ := Xe_27.out.fs
    simp only [RVal.nil] at ke0 ke1 ke2 ke3
    have le := Xe_27.out.lt
    go_wp2
    clear ke0 ke1 ke2 ke3 fe0 fe1 fe2 fe3 le
    generalize hW : World.setCell (World.setCell (World.setCell (World.setCell w24 _ _) _ _) _ _) _ _ = W30
    have B_30 : Hid (Below r w W30) := by rw [<- hW]; exact hI (zA5 B_24.out (by omega) _ _ _ _)
    have Xe_31 : Hid (Rb W30 (r + 1 + 1) tm) := by rw [<- hW]; exact hI (Rb.put (q' := tm) Xe_27.out Im_29.out)
    clear hW B_24 Xe_27 Im_29
    obtain ⟨j0, j1, j2, j3⟩ := Xe_31.out.cs
    try dsimp only at j0 j1 j2 j3
    refine bodyPost_ret (v := .tuple #[.agg #[.bool tm.g, .slice tm.A tm.n tm.c, .bool tm.gd, .slice tm.Ad tm.nd tm.cd], .int .i64 0]) (by simp [results, Tryz.results5, go_sem, j0, j1, j2, j3]) rfl ?_
    rw [HB.out.1, HB.out.2]
    exact RetR.of Xe_31.out Vm.out.1 Vm.out.2 (by rw [HRr.out]; exact B_30.out)
  . have h1 : (er != 0) = true := bne_iff_ne.2 h0
    have HB := HZ.out.2 h0
    clear h0
    clear Xa_20 Xb_21 Xk_23
    obtain ⟨ke0, ke1, ke2, ke3⟩ := Xe_22.out.cs
    obtain ⟨fe0, fe1, fe2, fe3⟩ := Xe_22.out.fs
    simp only [RVal.nil] at ke0 ke1 ke2 ke3
    have le := Xe_22.out.lt
    go_wp2
    clear ke0 ke1 ke2 ke3 fe0 fe1 fe2 fe3 le
    clear h1
    generalize hW : World.setCell (World.setCell (World.setCell (World.setCell we _ _) _ _) _ _) _ _ = W24
    have B_24 : Hid (Below r w W24) := by rw [<- hW]; exact hI (zA5 B_19.out (by omega) _ _ _ _)
    have Xe_25 : Hid (Rb W24 (r + 1 + 1) RVal.nil) := by rw [<- hW]; exact hI (Rb.put (q' := RVal.nil) Xe_22.out (RVal.nil_in we))
    clear hW B_19 Xe_22
    obtain ⟨j0, j1, j2, j3⟩ := Xe_25.out.cs
    try dsimp only at j0 j1 j2 j3
    simp only [RVal.nil] at j0 j1 j2 j3
    refine bodyPost_ret (v := .tuple #[.agg #[.bool false, .slice none 0 0, .bool false, .slice none 0 0], .int .i64 er]) (by simp [results, Tryz.results5, go_sem, j0, j1, j2, j3]) rfl ?_
    rw [HB.1, HB.2]
    exact RetR.of Xe_25.out rfl rfl (by rw [HRr.out]; exact B_24.out)
end Go.Proofs.YtphinlongdoedaaGreat
namespace Go.Proofs.YtphinlongdoedaaGreat
open Go.RowKit
def FitQ (z : Rat) : Prop := Fits z.num (z.den : Int)
def SimpE (x y : Rat) : Prop := ∀ (q q' : RVal) (w : World), q.In w -> q'.In w -> rv q.o q.od = some x -> rv q'.o q'.od = some y -> Calls Tryz.prog 5 #[.agg #[.bool q.g, .slice q.A q.n q.c, .bool q.gd, .slice q.Ad q.nd q.cd], .agg #[.bool q'.g, .slice q'.A q'.n q'.c, .bool q'.gd, .slice q'.Ad q'.nd q'.cd]] w (RetR 0 0 2 w)
theorem zQ9 {x y : Rat} (h0 : 0 <= x.num) (h : Lt x y) (bx : Bd 4096 x) (by' : Bd 4096 y) : ∃ z : Rat, zO0 x y z /\ (FitQ z -> Simp x y z /\ Simp (-y) (-x) (-z)) /\ (¬ FitQ z -> SimpE x y /\ SimpE (-y) (-x)) := by
 have B : ∀ {u : Rat}, Bd 4096 u -> u.num.natAbs < BIG /\ (u.den : Int).natAbs < BIG := fun b => ⟨big_le b.num (Nat.le_refl _), big_le b.den (Nat.le_refl _)⟩
 obtain ⟨N, D, g, d0, lo, hi, least, CY, CN⟩ := expand_all h0 (zD0 x) (zD0 y) h (B bx).1 (B bx).2 (B by').1 (B by').2
 have e := qn N D d0 g
 have hN : 0 <= N := by
  have a : 0 <= x.num * D := Int.mul_nonneg h0 (Int.le_of_lt d0)
  by_cases k : N < 0
  . have := Int.mul_neg_of_neg_of_pos k (zD0 x); omega
  . omega
 have hy : 0 < y.num := by
  have a : 0 <= N * (y.den : Int) := Int.mul_nonneg hN (Int.le_of_lt (zD0 y))
  by_cases k : y.num <= 0
  . have : y.num * D <= 0 * D := Int.mul_le_mul_of_nonneg_right k (Int.le_of_lt d0)
    omega
  . omega
 refine ⟨Rat.divInt N D, ⟨?_, ?_, fun t a b => ?_⟩, fun ft => ?_, fun ft => ?_⟩
 . unfold Lt; rw [e.1, e.2]; exact lo
 . unfold Lt; rw [e.1, e.2]; exact hi
 . have k := least t.num t.den (zD0 t) a b
   have e2 := e.2
   rw [e.1]
   exact ⟨by omega, by omega⟩
 . have C := CY (by unfold FitQ at ft; rwa [e.1, e.2] at ft)
   have CV : ∀ (q q' : RVal) (w : World), q.In w -> q'.In w -> q.o = some x.num -> q.od = some (x.den : Int) -> q'.o = some y.num -> q'.od = some (y.den : Int) -> Calls Tryz.prog 18 #[.agg #[.bool q.g, .slice q.A q.n q.c, .bool q.gd, .slice q.Ad q.nd q.cd], .agg #[.bool q'.g, .slice q'.A q'.n q'.c, .bool q'.gd, .slice q'.Ad q'.nd q'.cd]] w (RetV (Rat.divInt N D) w) := fun q q' w h h' o1 o2 o3 o4 =>
    (C q q' w h h' o1 o2 o3 o4).mono fun _ _ k => RetR.v e.1.symm e.2.symm k
   refine ⟨fun q q' w hq hq' hx hy' => ?_, fun q q' w hq hq' hx hy' => ?_⟩
   . have s := zN7 hq hx
     have o := zC1 hx
     have o' := zC1 hy'
     refine (zM4 q q' w hq hq' (fun w a b => cmp_q a b hx hy' _ (zN4 h)) (by rw [<- s.1, decide_eq_false (by omega)]) N D 0 (fun w h h' => C q q' w h h' o.1 o.2 o'.1 o'.2)).mono fun _ _ k => RetR.v e.1.symm e.2.symm k
   . have s := zN7 hq hx
     have s' := zN7 hq' hy'
     have o := zC1 hx
     have o' := zC1 hy'
     have hc : ∀ w : World, q.In w -> q'.In w -> Calls Tryz.prog 17 #[.agg #[.bool q.g, .slice q.A q.n q.c, .bool q.gd, .slice q.Ad q.nd q.cd], .agg #[.bool q'.g, .slice q'.A q'.n q'.c, .bool q'.gd, .slice q'.Ad q'.nd q'.cd]] w (RetC (-1) 0 w) := fun w a b => cmp_q a b hx hy' _ (zN4 (zR0 h))
     have g1 : q.g = true := by rw [<- s.1]; exact decide_eq_true (by show -y.num < 0; omega)
     have hnq : ((q'.g = true /\ decide (0 < q'.n) = true) \/ (q'.g = false /\ decide (0 < q'.n) = false)) /\ True := by
      refine ⟨?_, trivial⟩
      by_cases hz : x.num = 0
      . right
        exact ⟨by rw [<- s'.1]; exact decide_eq_false (by show ¬ -x.num < 0; omega), by rw [s'.2, decide_eq_true (show (-x).num = 0 from by show -x.num = 0; omega)]; rfl⟩
      . left
        exact ⟨by rw [<- s'.1]; exact decide_eq_true (by show -x.num < 0; omega), by rw [s'.2, decide_eq_false (show ¬ (-x).num = 0 from by show ¬ -x.num = 0; omega)]; rfl⟩
     have he : ∀ (f1 f2 : RVal) (w : World), f1.In w -> f2.In w -> f1.o = some (-(-x).num) -> f1.od = some ((-x).den : Int) -> f2.o = some (-(-y).num) -> f2.od = some ((-y).den : Int) -> Calls Tryz.prog 18 #[.agg #[.bool f1.g, .slice f1.A f1.n f1.c, .bool f1.gd, .slice f1.Ad f1.nd f1.cd], .agg #[.bool f2.g, .slice f2.A f2.n f2.c, .bool f2.gd, .slice f2.Ad f2.nd f2.cd]] w (RetR N D 0 w) := fun f1 f2 w a b o1 o2 o3 o4 =>
      C f1 f2 w a b (by rw [o1]; show some (- -x.num) = _; rw [Int.neg_neg]) o2 (by rw [o3]; show some (- -y.num) = _; rw [Int.neg_neg]) o4
     have hz : ((0 : Int) = 0 -> -N = -N /\ D = D) /\ ((0 : Int) ≠ 0 -> -N = 0 /\ D = 0) := ⟨fun _ => ⟨rfl, rfl⟩, fun k => absurd rfl k⟩
     have fin : ∀ {e' : Ending} {w' : World}, RetR (-N) D 0 w e' w' -> RetV (-Rat.divInt N D) w e' w' := fun k => RetR.v (by show -N = -(Rat.divInt N D).num; rw [e.1]) (by show D = ((Rat.divInt N D).den : Int); rw [e.2]) k
     exact (simp_neg q q' w hq hq' hc _ _ _ _ _ _ _ _ _ _ _ (hnq.1) ⟨g1, rfl, rfl⟩ ⟨o.1, o.2⟩ ⟨o'.1, o'.2⟩ he hz).mono fun _ _ k => fin k
 . have CB := CN (by unfold FitQ at ft; rwa [e.1, e.2] at ft)
   refine ⟨fun q q' w hq hq' hx hy' => ?_, fun q q' w hq hq' hx hy' => ?_⟩
   . have s := zN7 hq hx
     have o := zC1 hx
     have o' := zC1 hy'
     exact (zM4 q q' w hq hq' (fun w a b => cmp_q a b hx hy' _ (zN4 h)) (by rw [<- s.1, decide_eq_false (by omega)]) 0 0 2 (fun w h h' => CB q q' w h h' o.1 o.2 o'.1 o'.2))
   . have s := zN7 hq hx
     have s' := zN7 hq' hy'
     have o := zC1 hx
     have o' := zC1 hy'
     have hc : ∀ w : World, q.In w -> q'.In w -> Calls Tryz.prog 17 #[.agg #[.bool q.g, .slice q.A q.n q.c, .bool q.gd, .slice q.Ad q.nd q.cd], .agg #[.bool q'.g, .slice q'.A q'.n q'.c, .bool q'.gd, .slice q'.Ad q'.nd q'.cd]] w (RetC (-1) 0 w) := fun w a b => cmp_q a b hx hy' _ (zN4 (zR0 h))
     have g1 : q.g = true := by rw [<- s.1]; exact decide_eq_true (by show -y.num < 0; omega)
     have hnq : ((q'.g = true /\ decide (0 < q'.n) = true) \/ (q'.g = false /\ decide (0 < q'.n) = false)) /\ True := by
      refine ⟨?_, trivial⟩
      by_cases hz : x.num = 0
      . right
        exact ⟨by rw [<- s'.1]; exact decide_eq_false (by show ¬ -x.num < 0; omega), by rw [s'.2, decide_eq_true (show (-x).num = 0 from by show -x.num = 0; omega)]; rfl⟩
      . left
        exact ⟨by rw [<- s'.1]; exact decide_eq_true (by show -x.num < 0; omega), by rw [s'.2, decide_eq_false (show ¬ (-x).num = 0 from by show ¬ -x.num = 0; omega)]; rfl⟩
     have he : ∀ (f1 f2 : RVal) (w : World), f1.In w -> f2.In w -> f1.o = some (-(-x).num) -> f1.od = some ((-x).den : Int) -> f2.o = some (-(-y).num) -> f2.od = some ((-y).den : Int) -> Calls Tryz.prog 18 #[.agg #[.bool f1.g, .slice f1.A f1.n f1.c, .bool f1.gd, .slice f1.Ad f1.nd f1.cd], .agg #[.bool f2.g, .slice f2.A f2.n f2.c, .bool f2.gd, .slice f2.Ad f2.nd f2.cd]] w (RetR 0 0 2 w) := fun f1 f2 w a b o1 o2 o3 o4 =>
      CB f1 f2 w a b (by rw [o1]; show some (- -x.num) = _; rw [Int.neg_neg]) o2 (by rw [o3]; show some (- -y.num) = _; rw [Int.neg_neg]) o4
     exact simp_neg q q' w hq hq' hc _ _ _ _ _ _ _ _ _ _ _ (hnq.1) ⟨g1, rfl, rfl⟩ ⟨o.1, o.2⟩ ⟨o'.1, o'.2⟩ he ⟨fun k => absurd k (by decide), fun _ => ⟨rfl, rfl⟩⟩
theorem simp_all {x y : Rat} (h : Lt x y) (bx : Bd 4096 x) (by' : Bd 4096 y) : ∃ z : Rat, zO0 x y z /\ (FitQ z -> Simp x y z) /\ (¬ FitQ z -> SimpE x y) := by
 by_cases hx : 0 <= x.num
 . obtain ⟨z, b, f1, f2⟩ := zQ9 hx h bx by'
   exact ⟨z, b, fun k => (f1 k).1, fun k => (f2 k).1⟩
 . by_cases hy : 0 < y.num
   . refine ⟨0, ⟨?_, ?_, fun t _ _ => ⟨?_, Nat.zero_le _⟩⟩, fun _ => simp_zero (by omega) hy h, fun k => absurd ?_ k⟩
     . unfold Lt; show x.num * ((1 : Nat) : Int) < 0 * (x.den : Int); rw [Int.zero_mul]; omega
     . unfold Lt; show 0 * (y.den : Int) < y.num * ((1 : Nat) : Int); rw [Int.zero_mul]; omega
     . show 1 <= t.den
       exact t.den_pos
     . exact ⟨zH (by decide), zH (by decide)⟩
   . have nb : ∀ {u : Rat}, Bd 4096 u -> Bd 4096 (-u) := fun {u} b => ⟨by show (-u.num).natAbs < _; rw [Int.natAbs_neg]; exact b.1, b.2⟩
     obtain ⟨z, b, f1, f2⟩ := zQ9 (x := -y) (y := -x) (by show 0 <= -y.num; omega) (zR0 h) (nb by') (nb bx)
     have b2 := zT4 b
     rw [Rat.neg_neg, Rat.neg_neg] at b2
     rw [Rat.neg_neg, Rat.neg_neg] at f1 f2
     have ff : FitQ (-z) -> FitQ z := fun k => ⟨by have := k.1; show z.num.natAbs < BIG; rw [show (-z).num = -z.num from rfl, Int.natAbs_neg] at this; exact this, k.2⟩
     have fg : FitQ z -> FitQ (-z) := fun k => ⟨by show (-z.num).natAbs < BIG; rw [Int.natAbs_neg]; exact k.1, k.2⟩
     exact ⟨-z, b2, fun k => (f1 (ff k)).2, fun k => (f2 fun m => k (fg m)).2⟩
end Go.Proofs.YtphinlongdoedaaGreat
namespace Go.Proofs.YtphinlongdoedaaGreat
open Go.RowKit
structure IV where
 g : Bool
 A : Option Addr
 n : Nat
 c : Nat
 xs : List Nat
def icells (L : List IV) : List Value := L.flatMap fun x => [.bool x.g, .slice x.A x.n x.c]
theorem icells_at : ∀ {L : List IV} {k : Nat} {x : IV}, L[k]? = some x -> (icells L)[k * 2]? = some (.bool x.g) /\ (icells L)[k * 2 + 1]? = some (.slice x.A x.n x.c)
 | [], _, _, h => by cases h
 | y :: L, 0, x, h => by
   injection h with h
   subst h
   exact ⟨rfl, rfl⟩
 | y :: L, k + 1, x, h => by
   have := icells_at (L := L) (k := k) (x := x) (by simpa using h)
   have e1 : (k + 1) * 2 = k * 2 + 2 := by omega
   have e2 : (k + 1) * 2 + 1 = k * 2 + 1 + 2 := by omega
   rw [e1, show k * 2 + 2 + 1 = k * 2 + 1 + 2 by omega]
   exact this
structure zF3 (w : World) (base : Nat) (v : Value) (L : List IV) (ps : List Int) : Prop where
 own : OwnC w base 24 2 v L.length (icells L)
 sl : ∀ x ∈ L, Sl w w.heap.size x.A x.n x.c x.xs
 val : L.map (fun x => ov x.g x.xs) = ps.map some
section
variable {w w' : World} {base : Nat} {v : Value} {L : List IV} {ps : List Int}
theorem zF3.nil (w : World) (base : Nat) : zF3 w base (.slice none 0 0) [] [] := ⟨OwnC.nil _ _ _ _, fun _ hx => (nomatch hx), rfl⟩
theorem zF3.on (h : zF3 w base v L ps) (hb : Below w.heap.size w w') : zF3 w' base v L ps := ⟨h.own.below hb, fun x hx => (h.sl x hx).on hb, h.val⟩
theorem zF3.drew (h : zF3 w base v L ps) : zF3 w.drew base v L ps := ⟨h.own.drew, fun x hx => (h.sl x hx).drew, h.val⟩
theorem zF3.lt (h : zF3 w base v L ps) : ∀ g, v.ownBlock = some g -> g < w.heap.size := fun g k => (h.own.own.lt g k).2
theorem zF3.ge (h : zF3 w base v L ps) : ∀ g, v.ownBlock = some g -> base <= g := fun g k => (h.own.own.lt g k).1
theorem zF3.len (h : zF3 w base v L ps) : L.length = ps.length := by have := congrArg List.length h.val; simpa using this
theorem zF3.ret {r : Nat} {g : Bool} {A : Option Addr} {n c : Nat} (h : zF3 w base v L ps) (hx : Bx w r g A n c) (hne : ∀ k, v.ownBlock = some k -> k ≠ r) (b : Bool) (u : Value) : zF3 ((w.setCell ⟨r, 0, none⟩ (.bool b)).setCell ⟨r, 1, none⟩ u) base v L ps :=
 ⟨(h.own.setCell (p := ⟨r, 0, none⟩) hne _).setCell (p := ⟨r, 1, none⟩) hne _, fun x k => (h.sl x k).ret hx b u, h.val⟩
theorem zF3.put4 {r : Nat} {q : RVal} (h : zF3 w base v L ps) (hx : Rb w r q) (hne : ∀ k, v.ownBlock = some k -> k ≠ r) (a : Bool) (b : Value) (c : Bool) (d : Value) : zF3 (put4 w r a b c d) base v L ps :=
 ⟨(((h.own.setCell (p := ⟨r, 0, none⟩) hne _).setCell (p := ⟨r, 1, none⟩) hne _).setCell (p := ⟨r, 2, none⟩) hne _).setCell (p := ⟨r, 3, none⟩) hne _, fun x k => (h.sl x k).put4 hx.bx _ _ _ _, h.val⟩
theorem zF3.at_ (h : zF3 w base v L ps) {k : Nat} (hk : k < ps.length) : ∃ (g cap : Nat) (x : IV), v = .slice (some ⟨g, 0, none⟩) ps.length cap /\ w.cell? ⟨g, k * 2, none⟩ = some (.bool x.g) /\ w.cell? ⟨g, k * 2 + 1, none⟩ = some (.slice x.A x.n x.c) /\ Sl w w.heap.size x.A x.n x.c x.xs /\ ov x.g x.xs = some (ps.getD k 0) /\ ps.length <= cap := by
 have l := h.len
 have hk' : k < L.length := by omega
 have e := List.getElem?_eq_getElem hk'
 have ic := icells_at e
 rcases h.own.own.2 with ⟨rfl, n0⟩ | ⟨g, cap, cur, rfl, _, hg, hc, _, _, _⟩
 . omega
 . have cc := h.own.own.cells (g := g) rfl
   have add : ∀ j, (⟨g, 0, none⟩ : Addr).add j = ⟨g, j, none⟩ := fun j => by unfold Addr.add; split <;> simp_all
   refine ⟨g, cap, L[k], by rw [<- l], ?_, ?_, h.sl _ (List.getElem_mem hk'), ?_, by omega⟩
   . rw [<- add]; exact cc _ _ ic.1
   . rw [<- add]; exact cc _ _ ic.2
   . have hv := congrArg (fun t => t[k]?) h.val
     simp only [List.getElem?_map, e, Option.map_some] at hv
     rw [List.getElem?_eq_getElem hk, Option.map_some] at hv
     injection hv with hv
     rw [hv, List.getD_eq_getElem?_getD, List.getElem?_eq_getElem hk]
     rfl
theorem Ba.rowC {r : Nat} {g : Bool} {A : Option Addr} {n c : Nat} {xs : List Nat} (h : Ba w r g A n c xs) (o : zF3 w base v L ps) (hg : w.grownBy w' v.ownBlock) (hne : ∀ k, v.ownBlock = some k -> k ≠ r) : Ba w' r g A n c xs :=
 ⟨Blk.grown h.bx hg (fun e => hne r e.symm rfl), h.sl.rowC o.own hg⟩
theorem Rb.rowC {r : Nat} {q : RVal} (h : Rb w r q) (o : zF3 w base v L ps) (hg : w.grownBy w' v.ownBlock) (hne : ∀ k, v.ownBlock = some k -> k ≠ r) : Rb w' r q :=
 ⟨Blk.grown h.bx hg (fun e => hne r e.symm rfl), h.sl.1.rowC o.own hg, h.sl.2.rowC o.own hg⟩
theorem zU2 {B : Nat} {a : World} (h : Below B a w) (o : zF3 w base v L ps) (hg : w.grownBy w' v.ownBlock) (hB : B <= base) (hs : B <= w.heap.size) : Below B a w' :=
 h.grown hg hs (fun k hk => Nat.le_trans hB (o.ge k hk))
theorem no_bool {u : Value} {b : Bool} (h : u = .bool b) : NoInt u := by subst h; intro k x e; cases e
theorem no_slice {u : Value} {A : Option Addr} {n c : Nat} (h : u = .slice A n c) : NoInt u := by subst h; intro k x e; cases e
theorem Int_info : (Tryz.prog.info? 24).map (fun i => (i.zero, i.size, i.bytes)) = some (some (.agg #[.bool false, .slice none 0 0]), 2, 32) := by kernel_rfl
theorem zT1 {ops : Array Oper} {rest : List Oper} {o : Oper} {a : Act} {Q : Exit -> Act -> World -> Prop} (hgd : o.guard = none) (s x : Operand)
 (ho : o.op = .call { callee := .builtin .append, args := #[s, x], argTypes := #[75, 75] }) (b : Nat) (y : IV) (p : Int) (hp : zF3 w base v L ps) (hs : a.eval s = v) (hx : a.eval x = .slice (some ⟨b, 0, none⟩) 1 1)
 (hb : Bx w b y.g y.A y.n y.c) (hy : Sl w w.heap.size y.A y.n y.c y.xs) (hv : ov y.g y.xs = some p) (hn : ps.length <= 100000) (hbase : base <= w.heap.size)
 (h : ∀ v' w', zF3 w' base v' (L ++ [y]) (ps ++ [p]) -> w.grownBy w' v.ownBlock -> (v'.ownBlock = v.ownBlock \/ v'.ownBlock = some w.heap.size) -> wpList Tryz.prog ops Q rest (a.put o.dst v') w') :
 wpList Tryz.prog ops Q (o :: rest) a w := by
 obtain ⟨i0, hi0, hz0, hz1, hz2⟩ := info_parts Int_info
 have l := hp.len
 have add : ∀ j, (⟨b, 0, none⟩ : Addr).add j = ⟨b, j, none⟩ := fun j => by unfold Addr.add; split <;> simp_all
 obtain ⟨v', w', hr, h2, h3, h4⟩ := zR3 (P := Tryz.prog) (w := w) 75 o.type i0 _ 32 Tryz.underlying75 hi0 hz0 hz1 hz2 rfl (by decide) hp.own ⟨b, 0, none⟩ 1 [.bool y.g, .slice y.A y.n y.c] rfl
  (by
   intro j u hu
   rw [add]
   match j, hu with
   | 0, hu => rw [List.getElem?_cons_zero, Option.some.injEq] at hu; subst hu; exact hb.c0
   | 1, hu => rw [List.getElem?_cons_succ, List.getElem?_cons_zero, Option.some.injEq] at hu; subst hu; exact hb.c1)
  (by intro u hu; simp only [List.mem_cons, List.not_mem_nil, or_false] at hu; rcases hu with rfl | rfl <;> rfl)
  (by
   intro j hj
   match j, hj with
   | 0, _ => exact no_bool rfl
   | 1, _ => exact no_slice rfl)
  (by intro u hu; simp only [List.mem_cons, List.not_mem_nil, or_false] at hu; rcases hu with rfl | rfl <;> (intro k x e; cases e))
  (by unfold maxLen; omega) (by omega) hbase
 refine wpList_plain hgd fun _ hK => ?_
 unfold Oper.wp execOp
 simp only [ho, resolve, invoke, builtin, Sem.run_bind, Sem.run_pure, Result.andThen_ok, List.map_toArray, List.map_cons, List.map_nil, hs, hx, hr]
 refine hK _ _ (h v' w' ⟨?_, ?_, ?_⟩ h3 h4)
 . have e1 : icells (L ++ [y]) = icells L ++ [.bool y.g, .slice y.A y.n y.c] := by unfold icells; rw [List.flatMap_append]; rfl
   rw [e1, List.length_append]
   exact h2
 . intro x hx
   rcases List.mem_append.1 hx with m | m
   . exact (hp.sl x m).rowC hp.own h3
   . rw [List.mem_singleton] at m
     subst m
     exact hy.rowC hp.own h3
 . rw [List.map_append, List.map_append, hp.val]
   show _ ++ [ov y.g y.xs] = _
   rw [hv]
   rfl
end
end Go.Proofs.YtphinlongdoedaaGreat
