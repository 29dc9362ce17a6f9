/-
 Stage 2: the reference's isOne, isZero, Valid and Short. Stage 2: the laws' valid. Stage 2: what the laws' walks stand on: calls of rationals by their values, under bounds. Stage 2: square roots by values. Stage 2: calls of integers by their values, and the worlds behind a call in a drawn region whose result goes to a box of its own.
-/
import Derived.Test.YtphinlongdoedaaGreatBaseF
import Derived.Test.YtphinlongdoedaaGreatRatM
import Derived.Test.YtphinlongdoedaaGreatRatJ
import Derived.Test.YtphinlongdoedaaGreatRatY
namespace Go.Proofs.YtphinlongdoedaaGreat
open Go.RowKit
set_option maxHeartbeats 1000000
theorem lim_one {xs : List Nat} {n : Nat} {z : Int} (hx : Ok xs) (nx : Nz xs) (hl : xs.length = n) (hv : val xs = z.natAbs) (hz : 0 <= z) : (decide (n = 1) && decide (lim xs 0 = 1)) = decide (z = 1) := by
 subst hl
 by_cases h : z = 1
 . subst h
   have e : xs = [1] := uniq hx (by intro x hx; simp at hx; omega) nx (by simp [Nz]) (by rw [hv]; rfl)
   subst e
   rfl
 . rw [decide_eq_false h]
   rcases xs with _ | ⟨x, _ | ⟨y, ys⟩⟩
   . rfl
   . have : x ≠ 1 := by
      rintro rfl
      simp [val] at hv
      omega
     simp [lim, this]
   . simp
theorem risone_any (neg : Bool) (A : Option Addr) (n c : Nat) (xs : List Nat) (w : World) (h : Sl w w.heap.size A n c xs) :
 Calls Tryz.prog 82 #[.agg #[.bool neg, .slice A n c]] w fun e w' => e = .returned (.bool (!neg && (decide (n = 1) && decide (lim xs 0 = 1)))) /\ Below w.heap.size w w' := by
 have HS := hI h
 have HB := hI (zA0 w (.cells #[.bool neg, .slice A n c] 24))
 rcases neg with _ | _
 . by_cases hn : n = 1
   . subst hn
     have hs := h.on HB.out
     obtain ⟨ad, rfl, _, hc⟩ := hs.cell (k := 0) (by omega)
     have hx : (((lim xs 0 : Nat) : Int) == 1) = decide (lim xs 0 = 1) := by
      by_cases hl : lim xs 0 = 1
      . rw [hl]; rfl
      . rw [decide_eq_false hl, beq_eq_false_iff_ne]; omega
     have e0 : ad.add 0 = ad := by cases ad; simp [Addr.add]
     rw [e0] at hc
     have hcap := hs.cap
     have HX := hI hx
     clear h hs hx
     go_enter Tryz.func82, Tryz.ntmps82
     go_wp2
     go_ret
     exact ⟨by simp; exact HX.out, HB.out⟩
   . have e1 : ((n : Int) == 1) = false := by rw [beq_eq_false_iff_ne]; omega
     have e2 : (n == 1) = false := by rw [beq_eq_false_iff_ne]; exact hn
     have hd := hI (decide_eq_false hn)
     clear h
     go_enter Tryz.func82, Tryz.ntmps82
     go_wp2
     go_ret
     exact ⟨by simp [hd.out], HB.out⟩
 . clear h
   go_enter Tryz.func82, Tryz.ntmps82
   go_wp2
   go_ret
   exact ⟨rfl, HB.out⟩
theorem zB2 (neg : Bool) (A : Option Addr) (n c : Nat) (w : World) :
 Calls Tryz.prog 23 #[.agg #[.bool neg, .slice A n c]] w fun e w' => e = .returned (.bool (decide (n = 0))) /\ Below w.heap.size w w' := by
 have HB := hI (zA0 w (.cells #[.bool neg, .slice A n c] 24))
 by_cases hn : n = 0
 . subst hn
   go_enter Tryz.func23, Tryz.ntmps23
   go_wp2
   go_ret
   exact ⟨rfl, HB.out⟩
 . have e1 : ((n : Int) == 0) = false := by rw [beq_eq_false_iff_ne]; omega
   have e2 : (n == 0) = false := by rw [beq_eq_false_iff_ne]; exact hn
   have hd := hI (decide_eq_false hn)
   go_enter Tryz.func23, Tryz.ntmps23
   go_wp2
   go_ret
   exact ⟨by simp [hd.out], HB.out⟩
theorem rv2_a (q : RVal) (w : World) (h : q.In w) (v1 : vld q.g q.xs = false) (b : Bool) (v2 : vld q.gd q.ys = b) :
 Calls Tryz.prog 47 #[.agg #[.bool q.g, .slice q.A q.n q.c, .bool q.gd, .slice q.Ad q.nd q.cd]] w fun e w' => e = .returned (.bool (false)) /\ Below w.heap.size w w' := by
 have HS := hI h
 have HB0 := hI (zA0 w (.cells #[.bool q.g, .slice q.A q.n q.c, .bool q.gd, .slice q.Ad q.nd q.cd] 26))
 have H00 := hI (Rb.new h)
 have HV1 := hI v1
 have HV2 := hI v2
 clear v1 v2
 clear h
 go_enter Tryz.func47, Tryz.ntmps47
 go_wp2_with fail
 generalize hW : World.alloc w _ = V
 have hb0 := HB0.out
 have h0 := H00.out
 rw [hW] at hb0 h0
 have HB := hI hb0
 have H0 := hI h0
 clear hb0 h0 HB0 H00 hW
 generalize hr : w.heap.size = r at *
 have HRr := hI hr
 clear hr
 have a0 := H0.out.c0
 have a1 := H0.out.c1
 go_wp2_with fail
 have C := zA3 q.g q.A q.n q.c _ q.xs V H0.out.sl.1 (Nat.le_refl _)
 rw [HV1.out] at C
 refine C.mono ?_
 clear C a0 a1
 rintro e w1 ⟨rfl, hb1⟩
 have B1 := hI (zA HB.out (by have := HB.out.size; have := HRr.out; omega) hb1)
 have H1 := hI (H0.out.on hb1)
 clear hb1 H0 HB
 have a2 := H1.out.c2
 have a3 := H1.out.c3
 go_wp2_with fail
 have C := zA3 q.gd q.Ad q.nd q.cd _ q.ys w1 H1.out.sl.2 (Nat.le_refl _)
 rw [HV2.out] at C
 refine C.mono ?_
 clear C a2 a3
 rintro e w2 ⟨rfl, hb2⟩
 have B2 := hI (zA B1.out (by have := B1.out.size; have := HRr.out; omega) hb2)
 have H2 := hI (H1.out.on hb2)
 clear hb2 H1 B1
 go_wp2
 go_ret
 exact ⟨rfl, by rw [HRr.out]; exact B2.out⟩
theorem rv2_b (q : RVal) (w : World) (h : q.In w) (v1 : vld q.g q.xs = true) (v2 : vld q.gd q.ys = false) :
 Calls Tryz.prog 47 #[.agg #[.bool q.g, .slice q.A q.n q.c, .bool q.gd, .slice q.Ad q.nd q.cd]] w fun e w' => e = .returned (.bool (false)) /\ Below w.heap.size w w' := by
 have HS := hI h
 have HB0 := hI (zA0 w (.cells #[.bool q.g, .slice q.A q.n q.c, .bool q.gd, .slice q.Ad q.nd q.cd] 26))
 have H00 := hI (Rb.new h)
 have HV1 := hI v1
 have HV2 := hI v2
 clear v1 v2
 clear h
 go_enter Tryz.func47, Tryz.ntmps47
 go_wp2_with fail
 generalize hW : World.alloc w _ = V
 have hb0 := HB0.out
 have h0 := H00.out
 rw [hW] at hb0 h0
 have HB := hI hb0
 have H0 := hI h0
 clear hb0 h0 HB0 H00 hW
 generalize hr : w.heap.size = r at *
 have HRr := hI hr
 clear hr
 have a0 := H0.out.c0
 have a1 := H0.out.c1
 go_wp2_with fail
 have C := zA3 q.g q.A q.n q.c _ q.xs V H0.out.sl.1 (Nat.le_refl _)
 rw [HV1.out] at C
 refine C.mono ?_
 clear C a0 a1
 rintro e w1 ⟨rfl, hb1⟩
 have B1 := hI (zA HB.out (by have := HB.out.size; have := HRr.out; omega) hb1)
 have H1 := hI (H0.out.on hb1)
 clear hb1 H0 HB
 have a2 := H1.out.c2
 have a3 := H1.out.c3
 go_wp2_with fail
 have C := zA3 q.gd q.Ad q.nd q.cd _ q.ys w1 H1.out.sl.2 (Nat.le_refl _)
 rw [HV2.out] at C
 refine C.mono ?_
 clear C a2 a3
 rintro e w2 ⟨rfl, hb2⟩
 have B2 := hI (zA B1.out (by have := B1.out.size; have := HRr.out; omega) hb2)
 have H2 := hI (H1.out.on hb2)
 clear hb2 H1 B1
 go_wp2
 go_ret
 exact ⟨rfl, by rw [HRr.out]; exact B2.out⟩
theorem rv2_c (q : RVal) (w : World) (h : q.In w) (v1 : vld q.g q.xs = true) (v2 : vld q.gd q.ys = true) (v3 : q.gd = true) :
 Calls Tryz.prog 47 #[.agg #[.bool q.g, .slice q.A q.n q.c, .bool q.gd, .slice q.Ad q.nd q.cd]] w fun e w' => e = .returned (.bool (false)) /\ Below w.heap.size w w' := by
 have HS := hI h
 have HB0 := hI (zA0 w (.cells #[.bool q.g, .slice q.A q.n q.c, .bool q.gd, .slice q.Ad q.nd q.cd] 26))
 have H00 := hI (Rb.new h)
 have HV1 := hI v1
 have HV2 := hI v2
 have HV3 := hI v3
 clear v1 v2 v3
 clear h
 go_enter Tryz.func47, Tryz.ntmps47
 go_wp2_with fail
 generalize hW : World.alloc w _ = V
 have hb0 := HB0.out
 have h0 := H00.out
 rw [hW] at hb0 h0
 have HB := hI hb0
 have H0 := hI h0
 clear hb0 h0 HB0 H00 hW
 generalize hr : w.heap.size = r at *
 have HRr := hI hr
 clear hr
 have a0 := H0.out.c0
 have a1 := H0.out.c1
 go_wp2_with fail
 have C := zA3 q.g q.A q.n q.c _ q.xs V H0.out.sl.1 (Nat.le_refl _)
 rw [HV1.out] at C
 refine C.mono ?_
 clear C a0 a1
 rintro e w1 ⟨rfl, hb1⟩
 have B1 := hI (zA HB.out (by have := HB.out.size; have := HRr.out; omega) hb1)
 have H1 := hI (H0.out.on hb1)
 clear hb1 H0 HB
 have a2 := H1.out.c2
 have a3 := H1.out.c3
 go_wp2_with fail
 have C := zA3 q.gd q.Ad q.nd q.cd _ q.ys w1 H1.out.sl.2 (Nat.le_refl _)
 rw [HV2.out] at C
 refine C.mono ?_
 clear C a2 a3
 rintro e w2 ⟨rfl, hb2⟩
 have B2 := hI (zA B1.out (by have := B1.out.size; have := HRr.out; omega) hb2)
 have H2 := hI (H1.out.on hb2)
 clear hb2 H1 B1
 have a2 := H2.out.c2
 rw [HV3.out] at a2
 go_wp2
 go_ret
 exact ⟨rfl, by rw [HRr.out]; exact B2.out⟩
theorem rv2_d (q : RVal) (w : World) (h : q.In w) (v1 : vld q.g q.xs = true) (v2 : vld q.gd q.ys = true) (v3 : q.gd = false) (v4 : decide (q.nd = 0) = true) :
 Calls Tryz.prog 47 #[.agg #[.bool q.g, .slice q.A q.n q.c, .bool q.gd, .slice q.Ad q.nd q.cd]] w fun e w' => e = .returned (.bool (false)) /\ Below w.heap.size w w' := by
 have HS := hI h
 have HB0 := hI (zA0 w (.cells #[.bool q.g, .slice q.A q.n q.c, .bool q.gd, .slice q.Ad q.nd q.cd] 26))
 have H00 := hI (Rb.new h)
 have HV1 := hI v1
 have HV2 := hI v2
 have HV3 := hI v3
 have HV4 := hI v4
 clear v1 v2 v3 v4
 clear h
 go_enter Tryz.func47, Tryz.ntmps47
 go_wp2_with fail
 generalize hW : World.alloc w _ = V
 have hb0 := HB0.out
 have h0 := H00.out
 rw [hW] at hb0 h0
 have HB := hI hb0
 have H0 := hI h0
 clear hb0 h0 HB0 H00 hW
 generalize hr : w.heap.size = r at *
 have HRr := hI hr
 clear hr
 have a0 := H0.out.c0
 have a1 := H0.out.c1
 go_wp2_with fail
 have C := zA3 q.g q.A q.n q.c _ q.xs V H0.out.sl.1 (Nat.le_refl _)
 rw [HV1.out] at C
 refine C.mono ?_
 clear C a0 a1
 rintro e w1 ⟨rfl, hb1⟩
 have B1 := hI (zA HB.out (by have := HB.out.size; have := HRr.out; omega) hb1)
 have H1 := hI (H0.out.on hb1)
 clear hb1 H0 HB
 have a2 := H1.out.c2
 have a3 := H1.out.c3
 go_wp2_with fail
 have C := zA3 q.gd q.Ad q.nd q.cd _ q.ys w1 H1.out.sl.2 (Nat.le_refl _)
 rw [HV2.out] at C
 refine C.mono ?_
 clear C a2 a3
 rintro e w2 ⟨rfl, hb2⟩
 have B2 := hI (zA B1.out (by have := B1.out.size; have := HRr.out; omega) hb2)
 have H2 := hI (H1.out.on hb2)
 clear hb2 H1 B1
 have a2 := H2.out.c2
 rw [HV3.out] at a2
 have a3 := H2.out.c3
 go_wp2_with fail
 have C := zB2 false q.Ad q.nd q.cd w2
 rw [HV4.out] at C
 refine C.mono ?_
 clear C a2 a3
 rintro e w3 ⟨rfl, hb3⟩
 have B3 := hI (zA B2.out (by have := B2.out.size; have := HRr.out; omega) hb3)
 have H3 := hI (H2.out.on hb3)
 clear hb3 H2 B2
 go_wp2
 go_ret
 exact ⟨rfl, by rw [HRr.out]; exact B3.out⟩
theorem rv2_e (q : RVal) (w : World) (h : q.In w) (v1 : vld q.g q.xs = true) (v2 : vld q.gd q.ys = true) (v3 : q.gd = false) (v4 : decide (q.nd = 0) = false) (z e : Int) (v5 : o2Z gcdZ q.o q.od = z) (v6 : o2E gcdZ q.o q.od = e) (v7 : 0 <= z) (v8 : z.natAbs < BIG) :
 Calls Tryz.prog 47 #[.agg #[.bool q.g, .slice q.A q.n q.c, .bool q.gd, .slice q.Ad q.nd q.cd]] w fun e w' => e = .returned (.bool (decide (z = 1))) /\ Below w.heap.size w w' := by
 have HS := hI h
 have HB0 := hI (zA0 w (.cells #[.bool q.g, .slice q.A q.n q.c, .bool q.gd, .slice q.Ad q.nd q.cd] 26))
 have H00 := hI (Rb.new h)
 have HV1 := hI v1
 have HV2 := hI v2
 have HV3 := hI v3
 have HV4 := hI v4
 have HV5 := hI (And.intro v5 v6)
 have HV7 := hI (And.intro v7 v8)
 clear v1 v2 v3 v4 v5 v6 v7 v8
 clear h
 go_enter Tryz.func47, Tryz.ntmps47
 go_wp2_with fail
 generalize hW : World.alloc w _ = V
 have hb0 := HB0.out
 have h0 := H00.out
 rw [hW] at hb0 h0
 have HB := hI hb0
 have H0 := hI h0
 clear hb0 h0 HB0 H00 hW
 generalize hr : w.heap.size = r at *
 have HRr := hI hr
 clear hr
 have a0 := H0.out.c0
 have a1 := H0.out.c1
 go_wp2_with fail
 have C := zA3 q.g q.A q.n q.c _ q.xs V H0.out.sl.1 (Nat.le_refl _)
 rw [HV1.out] at C
 refine C.mono ?_
 clear C a0 a1
 rintro e1 w1 ⟨rfl, hb1⟩
 have B1 := hI (zA HB.out (by have := HB.out.size; have := HRr.out; omega) hb1)
 have H1 := hI (H0.out.on hb1)
 clear hb1 H0 HB
 have a2 := H1.out.c2
 have a3 := H1.out.c3
 go_wp2_with fail
 have C := zA3 q.gd q.Ad q.nd q.cd _ q.ys w1 H1.out.sl.2 (Nat.le_refl _)
 rw [HV2.out] at C
 refine C.mono ?_
 clear C a2 a3
 rintro e1 w2 ⟨rfl, hb2⟩
 have B2 := hI (zA B1.out (by have := B1.out.size; have := HRr.out; omega) hb2)
 have H2 := hI (H1.out.on hb2)
 clear hb2 H1 B1
 have a2 := H2.out.c2
 rw [HV3.out] at a2
 have a3 := H2.out.c3
 go_wp2_with fail
 have C := zB2 false q.Ad q.nd q.cd w2
 rw [HV4.out] at C
 refine C.mono ?_
 clear C a2 a3
 rintro e1 w3 ⟨rfl, hb3⟩
 have B3 := hI (zA B2.out (by have := B2.out.size; have := HRr.out; omega) hb3)
 have H3 := hI (H2.out.on hb3)
 clear hb3 H2 B2
 have a0 := H3.out.c0
 have a1 := H3.out.c1
 have a2 := H3.out.c2
 have a3 := H3.out.c3
 go_wp2_with fail
 have C := rgcd_ov (neg := q.g) (neg' := q.gd) H3.out.sl.1 H3.out.sl.2
 rw [show o2Z gcdZ (ov q.g q.xs) (ov q.gd q.ys) = z from HV5.out.1, show o2E gcdZ (ov q.g q.xs) (ov q.gd q.ys) = e from HV5.out.2] at C
 refine C.mono ?_
 clear C a0 a1 a2 a3
 rintro e1 w4 ⟨A4, n4, c4, xs4, rfl, hs4, hx4, hv4, hb4⟩
 have B4 := hI (zA B3.out (by have := B3.out.size; have := HRr.out; omega) hb4)
 have G4 := hI (And.intro hs4 (And.intro hx4 hv4))
 have HD := hI (show decide (z < 0) = false by have := HV7.out.1; rw [decide_eq_false_iff_not]; omega)
 clear hs4 hx4 hv4 hb4 B3 H3
 rw [HD.out]
 go_wp2_with fail
 generalize hW : World.alloc w4 _ = V4
 have hn := zA0 w4 (.cells #[.bool false, .slice A4 n4 c4] 24)
 rw [hW] at hn
 have B5 := hI (zA B4.out (by have := B4.out.size; have := HRr.out; omega) hn)
 have S5 := hI (G4.out.1.on hn)
 clear hn hW
 have C := risone_any false A4 n4 c4 xs4 V4 S5.out
 rw [show (!false && (decide (n4 = 1) && decide (lim xs4 0 = 1))) = decide (z = 1) from (Bool.true_and _).trans (lim_one S5.out.ok G4.out.2.1 S5.out.len G4.out.2.2 HV7.out.1)] at C
 refine C.mono ?_
 clear C
 rintro e1 w6 ⟨rfl, hb6⟩
 have B6 := hI (zA B5.out (by have := B5.out.size; have := HRr.out; omega) hb6)
 clear hb6 B5
 go_wp2
 go_ret
 exact ⟨rfl, by rw [HRr.out]; exact B6.out⟩
theorem rvalid2 {q : RVal} {w : World} (h : q.In w) : Calls Tryz.prog 47 #[.agg #[.bool q.g, .slice q.A q.n q.c, .bool q.gd, .slice q.Ad q.nd q.cd]] w fun e w' => e = .returned (.bool (rv q.o q.od).isSome) /\ Below w.heap.size w w' := by
 rcases v1 : vld q.g q.xs with _ | _
 . have := rv2_a q w h v1 _ rfl
   rwa [show (rv q.o q.od).isSome = false by rw [show q.o = none from zG v1]; rfl]
 . rcases v2 : vld q.gd q.ys with _ | _
   . have := rv2_b q w h v1 v2
     rwa [show (rv q.o q.od).isSome = false by rw [show q.od = none from zG v2]; cases q.o <;> rfl]
   . have e := rvB_rv (g := q.g) (gd := q.gd) h.1.ok h.2.ok h.2.len
     change _ = (rv q.o q.od).isSome at e
     rw [<- e]
     have hgd : q.gd = false \/ q.gd = true := by cases q.gd <;> simp
     rcases hgd with v3 | v3
     . have hnd : decide (q.nd = 0) = false \/ decide (q.nd = 0) = true := by cases decide (q.nd = 0) <;> simp
       rcases hnd with v4 | v4
       . obtain ⟨a, ha⟩ : ∃ a, q.o = some a := ⟨_, zE4 v1⟩
         obtain ⟨b, hb⟩ : ∃ b, q.od = some b := ⟨_, zE4 v2⟩
         have hg := zS (zE7 h.1.ok ha) (zE7 h.2.ok hb)
         have C := rv2_e q w h v1 v2 v3 v4 (gcdZ a b) 0 (by rw [ha, hb]; exact hg.2) (by rw [ha, hb]; exact hg.1) (Int.natCast_nonneg _) (zT8 (zE7 h.1.ok ha) (zE7 h.2.ok hb))
         have hh : rvB q.gd q.nd (ov q.g q.xs) (ov q.gd q.ys) = decide (gcdZ a b = 1) := by
          unfold rvB
          rw [show ov q.g q.xs = some a from ha, show ov q.gd q.ys = some b from hb, v3, v4]
          show (true && true && (fitE (gcdZ a b) == 0) && oneB (some (fitZ (gcdZ a b)))) = _
          rw [hg.1, hg.2]
          have h1 := oneB_iff (some (gcdZ a b))
          by_cases hc : gcdZ a b = 1
          . rw [h1.2 (by rw [hc]), decide_eq_true hc]; rfl
          . have : oneB (some (gcdZ a b)) = false := by
             rcases he : oneB (some (gcdZ a b)) with _ | _
             . rfl
             . exact absurd (Option.some.inj (h1.1 he)) hc
            rw [this, decide_eq_false hc]; rfl
         rw [hh]
         exact C
       . have C := rv2_d q w h v1 v2 v3 v4
         rwa [show rvB q.gd q.nd (ov q.g q.xs) (ov q.gd q.ys) = false by unfold rvB; rw [v4]; simp]
     . have C := rv2_c q w h v1 v2 v3
       rwa [show rvB q.gd q.nd (ov q.g q.xs) (ov q.gd q.ys) = false by unfold rvB; rw [v3]; simp]
end Go.Proofs.YtphinlongdoedaaGreat
namespace Go.Proofs.YtphinlongdoedaaGreat
open Go.RowKit
end Go.Proofs.YtphinlongdoedaaGreat
namespace Go.Proofs.YtphinlongdoedaaGreat
open Go.RowKit
def RetV (x : Rat) (w : World) (e : Ending) (w' : World) : Prop := ∃ q : RVal, e = .returned (.tuple #[.agg #[.bool q.g, .slice q.A q.n q.c, .bool q.gd, .slice q.Ad q.nd q.cd], .int .i64 0]) /\ q.In w' /\ rv q.o q.od = some x /\ Below w.heap.size w w'
theorem RetR.v {x : Rat} {n d : Int} (hn : n = x.num) (hd : d = (x.den : Int)) {w : World} {e : Ending} {w' : World} (h : RetR n d 0 w e w') : RetV x w e w' := by
 obtain ⟨q, rfl, hi, o1, o2, hb⟩ := h
 exact ⟨q, rfl, hi, by rw [o1, o2, hn, hd]; exact rv_of x, hb⟩
section
variable {q q' : RVal} {x y : Rat} {w : World} {e f : Nat}
def RetW (x : Rat) (w : World) (e : Ending) (w' : World) : Prop := ∃ q : RVal, e = .returned (.agg #[.bool q.g, .slice q.A q.n q.c, .bool q.gd, .slice q.Ad q.nd q.cd]) /\ q.In w' /\ rv q.o q.od = some x /\ Below w.heap.size w w'
end
end Go.Proofs.YtphinlongdoedaaGreat
namespace Go.Proofs.YtphinlongdoedaaGreat
open Go.RowKit
section
variable {q : RVal} {x : Rat} {w : World}
end
end Go.Proofs.YtphinlongdoedaaGreat
namespace Go.Proofs.YtphinlongdoedaaGreat
open Go.RowKit
def RetN (z : Int) (w : World) (e : Ending) (w' : World) : Prop := ∃ g A n c xs, e = .returned (.agg #[.bool g, .slice A n c]) /\ Sl w' w'.heap.size A n c xs /\ ov g xs = some z /\ Below w.heap.size w w'
def RetZZ (z : Int) (w : World) (e : Ending) (w' : World) : Prop := ∃ g A n c xs, e = .returned (.tuple #[.agg #[.bool g, .slice A n c], .int .i64 0]) /\ Sl w' w'.heap.size A n c xs /\ ov g xs = some z /\ Below w.heap.size w w'
theorem RetI.n {z : Int} {w : World} {e : Ending} {w' : World} (hz : z.natAbs < BIG) (h : RetI z w e w') : RetN z w e w' := by
 obtain ⟨A, n, c, xs, rfl, hs, hx, hv, hb⟩ := h
 exact ⟨_, A, n, c, xs, rfl, hs, zD5 hs.ok hx hv hz, hb⟩
theorem zB0.zz {z : Int} {w : World} {e : Ending} {w' : World} (hz : z.natAbs < BIG) (h : zB0 z 0 w e w') : RetZZ z w e w' := by
 obtain ⟨A, n, c, xs, rfl, hs, hx, hv, hb⟩ := h
 exact ⟨_, A, n, c, xs, rfl, hs, zD5 hs.ok hx hv hz, hb⟩
theorem big_small {z : Int} (h1 : -9223372036854775808 <= z) (h2 : z <= 9223372036854775807) : z.natAbs < BIG :=
 big_le (e := 64) (show z.natAbs < pw 64 by rw [show pw 64 = 18446744073709551616 from by decide]; omega) (by decide)
section
variable {g g' : Bool} {A A' : Option Addr} {n c n' c' : Nat} {xs ys : List Nat} {w : World} {a b : Int}
end
theorem Ba.drewZ {w : World} {r : Nat} {g : Bool} {A : Option Addr} {n c : Nat} {xs : List Nat} (h : Ba w r g A n c xs) : Ba w.drew r g A n c xs := ⟨h.bx.drew, h.sl.drew⟩
section
variable {B r : Nat} {w0 v : World} {z : Int} {x : Rat} {g : Bool} {A : Option Addr} {n c : Nat} {xs : List Nat} {q : RVal}
end
end Go.Proofs.YtphinlongdoedaaGreat
