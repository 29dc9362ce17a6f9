/-
  Stage 2: Add, Sub, Mul and Div of the program and of the reference hand back the same; RationalMatchesArithmetic, its walk.
-/
import Derived.Test.YtlibjampolcbhaaGreatRatRd
import Derived.Test.YtlibjampolcbhaaGreatRatY
namespace Go.Proofs.YtlibjampolcbhaaGreat
open Go.RowKit
theorem two_ne : ((2 : Int) != 0) = true := by decide
/-- What two functions of two rationals both hand back. -/
def Pair (f g : Nat) (q q' : RVal) : Prop := ∃ z zd er : Int, (∀ w : World, q.In w → q'.In w → Calls Tryz.prog f #[.agg #[.bool q.g, .slice q.A q.n q.c, .bool q.gd, .slice q.Ad q.nd q.cd], .agg #[.bool q'.g, .slice q'.A q'.n q'.c, .bool q'.gd, .slice q'.Ad q'.nd q'.cd]] w (RetR z zd er w)) ∧ ∀ w : World, q.In w → q'.In w → Calls Tryz.prog g #[.agg #[.bool q.g, .slice q.A q.n q.c, .bool q.gd, .slice q.Ad q.nd q.cd], .agg #[.bool q'.g, .slice q'.A q'.n q'.c, .bool q'.gd, .slice q'.Ad q'.nd q'.cd]] w (RetR z zd er w)
section
variable {q q' : RVal} {x y : Rat}
theorem den2 (x y : Rat) : (x.den : Int) * (y.den : Int) ≠ 0 := by
  have := x.den_pos; have := y.den_pos
  exact Int.ne_of_gt (Int.mul_pos (by omega) (by omega))
theorem add_pair_v (hx : rv q.o q.od = some x) (hy : rv q'.o q'.od = some y) : Pair 23 24 q q' := by
  by_cases f1 : (x.num * (y.den : Int)).natAbs < BIG
  · by_cases f2 : (y.num * (x.den : Int)).natAbs < BIG
    · by_cases f3 : (x.num * (y.den : Int) + y.num * (x.den : Int)).natAbs < BIG
      · by_cases f4 : ((x.den : Int) * (y.den : Int)).natAbs < BIG
        · refine ⟨_, _, _, fun w h h' => add_ok h h' hx hy f1 f2 f3 f4, fun w h h' => raddq_run q q' w h h' _ _ _ fun w h h' => ?_⟩
          have k := rsum_5f q q' w h h' x y hx hy _ _ _ _ (fit_yes f1) (fit_yes f2) (show _ ∧ _ from by exact fit_yes f3) (fit_yes f4) (den2 x y)
          rwa [rat_add] at k
        · exact ⟨0, 0, 2, fun w h h' => add_no h h' hx hy (fun k => f4 k.2.2.2), fun w h h' => raddq_run q q' w h h' _ _ _ fun w h h' => rsum_4f q q' w h h' x y hx hy _ _ _ _ _ (fit_yes f1) (fit_yes f2) (show _ ∧ _ from by exact fit_yes f3) (fit_no f4) two_ne⟩
      · exact ⟨0, 0, 2, fun w h h' => add_no h h' hx hy (fun k => f3 k.2.2.1), fun w h h' => raddq_run q q' w h h' _ _ _ fun w h h' => rsum_3f q q' w h h' x y hx hy _ _ _ _ (fit_yes f1) (fit_yes f2) (show _ ∧ _ from by exact fit_no f3) two_ne⟩
    · exact ⟨0, 0, 2, fun w h h' => add_no h h' hx hy (fun k => f2 k.2.1), fun w h h' => raddq_run q q' w h h' _ _ _ fun w h h' => rsum_2 q q' w h h' x y hx hy _ _ _ (fit_yes f1) (fit_no f2) two_ne _⟩
  · exact ⟨0, 0, 2, fun w h h' => add_no h h' hx hy (fun k => f1 k.1), fun w h h' => raddq_run q q' w h h' _ _ _ fun w h h' => rsum_1 q q' w h h' x y hx hy _ _ (fit_no f1) two_ne _⟩
theorem add_pair (q q' : RVal) : Pair 23 24 q q' := by
  rcases hv : ((rv q.o q.od).isSome && (rv q'.o q'.od).isSome) with _ | _
  · exact ⟨0, 0, 1, fun w h h' => add_bad q q' w h h' hv, fun w h h' => raddq_run q q' w h h' _ _ _ fun w h h' => rsum_bad q q' w h h' _ hv⟩
  · rw [Bool.and_eq_true] at hv
    obtain ⟨x, hx⟩ := Option.isSome_iff_exists.1 hv.1
    obtain ⟨y, hy⟩ := Option.isSome_iff_exists.1 hv.2
    exact add_pair_v hx hy
theorem sub_pair_v (hx : rv q.o q.od = some x) (hy : rv q'.o q'.od = some y) : Pair 25 26 q q' := by
  by_cases f1 : (x.num * (y.den : Int)).natAbs < BIG
  · by_cases f2 : (y.num * (x.den : Int)).natAbs < BIG
    · by_cases f3 : (x.num * (y.den : Int) - y.num * (x.den : Int)).natAbs < BIG
      · by_cases f4 : ((x.den : Int) * (y.den : Int)).natAbs < BIG
        · refine ⟨_, _, _, fun w h h' => sub_ok h h' hx hy f1 f2 f3 f4, fun w h h' => rsubq_run q q' w h h' _ _ _ fun w h h' => ?_⟩
          have k := rsum_5t q q' w h h' x y hx hy _ _ _ _ (fit_yes f1) (fit_yes f2) (show _ ∧ _ from by rw [← Int.sub_eq_add_neg]; exact fit_yes f3) (fit_yes f4) (den2 x y)
          rwa [rat_sub] at k
        · exact ⟨0, 0, 2, fun w h h' => sub_no h h' hx hy (fun k => f4 k.2.2.2), fun w h h' => rsubq_run q q' w h h' _ _ _ fun w h h' => rsum_4t q q' w h h' x y hx hy _ _ _ _ _ (fit_yes f1) (fit_yes f2) (show _ ∧ _ from by rw [← Int.sub_eq_add_neg]; exact fit_yes f3) (fit_no f4) two_ne⟩
      · exact ⟨0, 0, 2, fun w h h' => sub_no h h' hx hy (fun k => f3 k.2.2.1), fun w h h' => rsubq_run q q' w h h' _ _ _ fun w h h' => rsum_3t q q' w h h' x y hx hy _ _ _ _ (fit_yes f1) (fit_yes f2) (show _ ∧ _ from by rw [← Int.sub_eq_add_neg]; exact fit_no f3) two_ne⟩
    · exact ⟨0, 0, 2, fun w h h' => sub_no h h' hx hy (fun k => f2 k.2.1), fun w h h' => rsubq_run q q' w h h' _ _ _ fun w h h' => rsum_2 q q' w h h' x y hx hy _ _ _ (fit_yes f1) (fit_no f2) two_ne _⟩
  · exact ⟨0, 0, 2, fun w h h' => sub_no h h' hx hy (fun k => f1 k.1), fun w h h' => rsubq_run q q' w h h' _ _ _ fun w h h' => rsum_1 q q' w h h' x y hx hy _ _ (fit_no f1) two_ne _⟩
theorem sub_pair (q q' : RVal) : Pair 25 26 q q' := by
  rcases hv : ((rv q.o q.od).isSome && (rv q'.o q'.od).isSome) with _ | _
  · exact ⟨0, 0, 1, fun w h h' => sub_bad q q' w h h' hv, fun w h h' => rsubq_run q q' w h h' _ _ _ fun w h h' => rsum_bad q q' w h h' _ hv⟩
  · rw [Bool.and_eq_true] at hv
    obtain ⟨x, hx⟩ := Option.isSome_iff_exists.1 hv.1
    obtain ⟨y, hy⟩ := Option.isSome_iff_exists.1 hv.2
    exact sub_pair_v hx hy
theorem mul_pair (q q' : RVal) : Pair 27 28 q q' := by
  rcases hv : ((rv q.o q.od).isSome && (rv q'.o q'.od).isSome) with _ | _
  · exact ⟨0, 0, 1, fun w h h' => mul_bad q q' w h h' hv, fun w h h' => rmulq_bad q q' w h h' hv⟩
  · rw [Bool.and_eq_true] at hv
    obtain ⟨x, hx⟩ := Option.isSome_iff_exists.1 hv.1
    obtain ⟨y, hy⟩ := Option.isSome_iff_exists.1 hv.2
    by_cases f1 : (x.num * y.num).natAbs < BIG
    · by_cases f2 : ((x.den : Int) * (y.den : Int)).natAbs < BIG
      · refine ⟨_, _, _, fun w h h' => mul_ok h h' hx hy f1 f2, fun w h h' => ?_⟩
        have k := rmulq_3 q q' w h h' x y hx hy _ _ (fit_yes f1) (fit_yes f2) (den2 x y)
        rwa [rat_mul] at k
      · exact ⟨0, 0, 2, fun w h h' => mul_no h h' hx hy (fun k => f2 k.2), fun w h h' => rmulq_2 q q' w h h' x y hx hy _ _ _ (fit_yes f1) (fit_no f2) two_ne⟩
    · exact ⟨0, 0, 2, fun w h h' => mul_no h h' hx hy (fun k => f1 k.1), fun w h h' => rmulq_1 q q' w h h' x y hx hy _ _ (fit_no f1) two_ne⟩
theorem div_pair (q q' : RVal) (w0 : World) (h0 : q.In w0) (h1 : q'.In w0) : Pair 29 30 q q' := by
  rcases hv : ((rv q.o q.od).isSome && (rv q'.o q'.od).isSome) with _ | _
  · exact ⟨0, 0, 1, fun w h h' => div_bad q q' w h h' hv, fun w h h' => rdivq_bad q q' w h h' hv⟩
  · rw [Bool.and_eq_true] at hv
    obtain ⟨x, hx⟩ := Option.isSome_iff_exists.1 hv.1
    obtain ⟨y, hy⟩ := Option.isSome_iff_exists.1 hv.2
    have o := rv_some hx
    have o' := rv_some hy
    have l := ov_len0 h1.1 (show ov q'.g q'.xs = some y.num from o'.1)
    by_cases hz : y.num = 0
    · have hd : y.den = 1 := by
        have := y.reduced
        rw [hz] at this
        simpa using this
      have b1 := ov_lt h0.1.ok (show ov q.g q.xs = some x.num from o.1)
      refine ⟨0, 0, 4, fun w h h' => div_zero h h' hx hy hz ?_ ?_, fun w h h' => rdivq_0 q q' w h h' x y hx hy (by rw [l, decide_eq_true hz])⟩
      · rw [hd]; simpa using b1
      · rw [hz, Int.mul_zero]; exact big_gt
    · have hn : decide (q'.n = 0) = false := by rw [l, decide_eq_false hz]
      by_cases f1 : (x.num * (y.den : Int)).natAbs < BIG
      · by_cases f2 : ((x.den : Int) * y.num).natAbs < BIG
        · refine ⟨_, _, _, fun w h h' => div_ok h h' hx hy hz f1 f2, fun w h h' => ?_⟩
          have hd := x.den_pos
          have k := rdivq_3 q q' w h h' x y hx hy _ _ hn (fit_yes f1) (fit_yes f2) (Int.mul_ne_zero (by omega) hz)
          rwa [rat_div] at k
        · exact ⟨0, 0, 2, fun w h h' => div_no h h' hx hy (fun k => f2 k.2), fun w h h' => rdivq_2 q q' w h h' x y hx hy _ _ _ hn (fit_yes f1) (fit_no f2) two_ne⟩
      · exact ⟨0, 0, 2, fun w h h' => div_no h h' hx hy (fun k => f1 k.1), fun w h h' => rdivq_1 q q' w h h' x y hx hy _ _ hn (fit_no f1) two_ne⟩
end
set_option linter.unusedSimpArgs false in
set_option maxRecDepth 20000 in
set_option maxHeartbeats 2000000 in
theorem arith_run (p q : RVal) (w : World) (ha : p.In w) (hb : q.In w) (z0 d0 e0 : Int) (z1 d1 e1 : Int) (z2 d2 e2 : Int) (z3 d3 e3 : Int) (c0 : (∀ w : World, p.In w → q.In w → Calls Tryz.prog 23 #[.agg #[.bool p.g, .slice p.A p.n p.c, .bool p.gd, .slice p.Ad p.nd p.cd], .agg #[.bool q.g, .slice q.A q.n q.c, .bool q.gd, .slice q.Ad q.nd q.cd]] w (RetR z0 d0 e0 w)) ∧ ∀ w : World, p.In w → q.In w → Calls Tryz.prog 24 #[.agg #[.bool p.g, .slice p.A p.n p.c, .bool p.gd, .slice p.Ad p.nd p.cd], .agg #[.bool q.g, .slice q.A q.n q.c, .bool q.gd, .slice q.Ad q.nd q.cd]] w (RetR z0 d0 e0 w)) (c1 : (∀ w : World, p.In w → q.In w → Calls Tryz.prog 25 #[.agg #[.bool p.g, .slice p.A p.n p.c, .bool p.gd, .slice p.Ad p.nd p.cd], .agg #[.bool q.g, .slice q.A q.n q.c, .bool q.gd, .slice q.Ad q.nd q.cd]] w (RetR z1 d1 e1 w)) ∧ ∀ w : World, p.In w → q.In w → Calls Tryz.prog 26 #[.agg #[.bool p.g, .slice p.A p.n p.c, .bool p.gd, .slice p.Ad p.nd p.cd], .agg #[.bool q.g, .slice q.A q.n q.c, .bool q.gd, .slice q.Ad q.nd q.cd]] w (RetR z1 d1 e1 w)) (c2 : (∀ w : World, p.In w → q.In w → Calls Tryz.prog 27 #[.agg #[.bool p.g, .slice p.A p.n p.c, .bool p.gd, .slice p.Ad p.nd p.cd], .agg #[.bool q.g, .slice q.A q.n q.c, .bool q.gd, .slice q.Ad q.nd q.cd]] w (RetR z2 d2 e2 w)) ∧ ∀ w : World, p.In w → q.In w → Calls Tryz.prog 28 #[.agg #[.bool p.g, .slice p.A p.n p.c, .bool p.gd, .slice p.Ad p.nd p.cd], .agg #[.bool q.g, .slice q.A q.n q.c, .bool q.gd, .slice q.Ad q.nd q.cd]] w (RetR z2 d2 e2 w)) (c3 : (∀ w : World, p.In w → q.In w → Calls Tryz.prog 29 #[.agg #[.bool p.g, .slice p.A p.n p.c, .bool p.gd, .slice p.Ad p.nd p.cd], .agg #[.bool q.g, .slice q.A q.n q.c, .bool q.gd, .slice q.Ad q.nd q.cd]] w (RetR z3 d3 e3 w)) ∧ ∀ w : World, p.In w → q.In w → Calls Tryz.prog 30 #[.agg #[.bool p.g, .slice p.A p.n p.c, .bool p.gd, .slice p.Ad p.nd p.cd], .agg #[.bool q.g, .slice q.A q.n q.c, .bool q.gd, .slice q.Ad q.nd q.cd]] w (RetR z3 d3 e3 w)) (hne : ∀ e : Int, (e != e) = false) :
    Calls Tryz.prog 4 #[.agg #[.bool p.g, .slice p.A p.n p.c, .bool p.gd, .slice p.Ad p.nd p.cd], .agg #[.bool q.g, .slice q.A q.n q.c, .bool q.gd, .slice q.Ad q.nd q.cd]] w fun e w' => e = .returned (.bool true) ∧ Below w.heap.size w w' := by
  have C0 := hI c0
  have C1 := hI c1
  have C2 := hI c2
  have C3 := hI c3
  have HN := hI hne
  clear c0 c1 c2 c3 hne
  have Ia_0 := hI ha
  clear ha
  have Ib_0 := hI hb
  clear hb
  have B_0 : Hid (Below w.heap.size w w) := hI (Below.refl _ _)
  go_enter Tryz.func4, Tryz.ntmps4
  go_wp2_with fail
  generalize hW : World.alloc w _ = W1
  have hn := below_new w (.cells #[.bool p.g, .slice p.A p.n p.c, .bool p.gd, .slice p.Ad p.nd p.cd] 27)
  rw [hW] at hn
  have hz : W1.heap.size = w.heap.size + 1 := by rw [← hW]; simp
  have hx : Rb W1 w.heap.size p := by rw [← hW]; exact Rb.new (q := p) Ia_0.out
  have Ib_1 := hI (Ib_0.out.on hn)
  have B_2 := hI (below_chain B_0.out B_0.out.size hn)
  generalize hr : w.heap.size = r at *
  have HRr := hI hr
  clear hr
  have Xa_3 : Hid (Rb W1 r p) := hI hx
  have HT3 := hz
  clear hn hx hz hW Ib_0 B_0 Ia_0
  generalize hW : World.alloc W1 _ = W4
  have hn := below_new W1 (.cells #[.bool q.g, .slice q.A q.n q.c, .bool q.gd, .slice q.Ad q.nd q.cd] 27)
  rw [hW] at hn
  have hx : Rb W4 W1.heap.size q := by rw [← hW]; exact Rb.new (q := q) Ib_1.out
  have hlt : r < W1.heap.size := Xa_3.out.lt
  have B_4 := hI (bch B_2.out HRr.out hn)
  have Xa_5 := hI (Xa_3.out.on hn)
  rw [HT3] at hx hlt
  have Xb_6 : Hid (Rb W4 (r + 1) q) := hI hx
  clear hn hx hW hlt B_2 Xa_3 Ib_1
  clear HT3
  refine (sane W4).mono ?_
  rintro e w7 ⟨rfl, hb⟩
  have B_7 := hI (bch B_4.out HRr.out hb)
  have Xa_8 := hI (Xa_5.out.on hb)
  have Xb_9 := hI (Xb_6.out.on hb)
  clear hb B_4 Xa_5 Xb_6
  obtain ⟨ka0, ka1, ka2, ka3⟩ := Xa_8.out.cs
  have la := Xa_8.out.lt
  obtain ⟨kb0, kb1, kb2, kb3⟩ := Xb_9.out.cs
  have lb := Xb_9.out.lt
  go_wp2_with fail
  refine (C0.out.1 w7 Xa_8.out.sl Xb_9.out.sl).mono ?_
  clear ka0 ka1 ka2 ka3 la kb0 kb1 kb2 kb3 lb
  rintro e w10 ⟨tx0, rfl, hi, hv, hv2, hb⟩
  have B_10 := hI (bch B_7.out HRr.out hb)
  have Xa_11 := hI (Xa_8.out.on hb)
  have Xb_12 := hI (Xb_9.out.on hb)
  have Ix0_13 : Hid (tx0.In w10) := hI hi
  clear hb B_7 Xa_8 Xb_9 hi
  have Vx0 := hI (And.intro hv hv2)
  clear hv hv2
  obtain ⟨ka0, ka1, ka2, ka3⟩ := (Xa_11.out.on (below_new w10 (.cells #[.bool tx0.g, .slice tx0.A tx0.n tx0.c, .bool tx0.gd, .slice tx0.Ad tx0.nd tx0.cd] 27))).cs
  have la := Xa_11.out.lt
  obtain ⟨kb0, kb1, kb2, kb3⟩ := (Xb_12.out.on (below_new w10 (.cells #[.bool tx0.g, .slice tx0.A tx0.n tx0.c, .bool tx0.gd, .slice tx0.Ad tx0.nd tx0.cd] 27))).cs
  have lb := Xb_12.out.lt
  go_wp2_with fail
  generalize hW : World.alloc w10 _ = W14
  have hn := below_new w10 (.cells #[.bool tx0.g, .slice tx0.A tx0.n tx0.c, .bool tx0.gd, .slice tx0.Ad tx0.nd tx0.cd] 27)
  rw [hW] at hn
  have hx : Rb W14 w10.heap.size tx0 := by rw [← hW]; exact Rb.new (q := tx0) Ix0_13.out
  have hlt : (r + 1) < w10.heap.size := Xb_12.out.lt
  have B_14 := hI (bch B_10.out HRr.out hn)
  have Xa_15 := hI (Xa_11.out.on hn)
  have Xb_16 := hI (Xb_12.out.on hn)
  generalize hbb : w10.heap.size = b1 at *
  clear hbb
  have Xm_17 : Hid (Rb W14 b1 tx0) := hI hx
  have O17 := hI hlt
  clear hn hx hW hlt B_10 Xa_11 Xb_12 Ix0_13
  refine (C0.out.2 W14 Xa_15.out.sl Xb_16.out.sl).mono ?_
  clear ka0 ka1 ka2 ka3 la kb0 kb1 kb2 kb3 lb
  rintro e w18 ⟨ty0, rfl, hi, hv, hv2, hb⟩
  have B_18 := hI (bch B_14.out HRr.out hb)
  have Xa_19 := hI (Xa_15.out.on hb)
  have Xb_20 := hI (Xb_16.out.on hb)
  have Xm_21 := hI (Xm_17.out.on hb)
  have Iy0_22 : Hid (ty0.In w18) := hI hi
  clear hb B_14 Xa_15 Xb_16 Xm_17 hi
  have Vy0 := hI (And.intro hv hv2)
  clear hv hv2
  have hne := HN.out e0
  obtain ⟨km0, km1, km2, km3⟩ := (Xm_21.out.on (below_new w18 (.cells #[.bool ty0.g, .slice ty0.A ty0.n ty0.c, .bool ty0.gd, .slice ty0.Ad ty0.nd ty0.cd] 27))).cs
  have lm := Xm_21.out.lt
  go_wp2_with fail
  generalize hW : World.alloc w18 _ = W23
  have hn := below_new w18 (.cells #[.bool ty0.g, .slice ty0.A ty0.n ty0.c, .bool ty0.gd, .slice ty0.Ad ty0.nd ty0.cd] 27)
  rw [hW] at hn
  have hx : Rb W23 w18.heap.size ty0 := by rw [← hW]; exact Rb.new (q := ty0) Iy0_22.out
  have hlt : b1 < w18.heap.size := Xm_21.out.lt
  have B_23 := hI (bch B_18.out HRr.out hn)
  have Xa_24 := hI (Xa_19.out.on hn)
  have Xb_25 := hI (Xb_20.out.on hn)
  have Xm_26 := hI (Xm_21.out.on hn)
  generalize hbb : w18.heap.size = b2 at *
  clear hbb
  have Xo_27 : Hid (Rb W23 b2 ty0) := hI hx
  have O27 := hI hlt
  clear hn hx hW hlt B_18 Xa_19 Xb_20 Xm_21 Iy0_22
  refine (same_q _ _ W23 Xm_26.out.sl Xo_27.out.sl _ _ Vx0.out.1 Vx0.out.2 Vy0.out.1 Vy0.out.2).mono ?_
  clear km0 km1 km2 km3 lm
  rintro e w28 ⟨rfl, hb⟩
  have B_28 := hI (bch B_23.out HRr.out hb)
  have Xa_29 := hI (Xa_24.out.on hb)
  have Xb_30 := hI (Xb_25.out.on hb)
  have Xm_31 := hI (Xm_26.out.on hb)
  have Xo_32 := hI (Xo_27.out.on hb)
  clear hb B_23 Xa_24 Xb_25 Xm_26 Xo_27
  clear hne
  obtain ⟨ka0, ka1, ka2, ka3⟩ := Xa_29.out.cs
  have la := Xa_29.out.lt
  obtain ⟨kb0, kb1, kb2, kb3⟩ := Xb_30.out.cs
  have lb := Xb_30.out.lt
  go_wp2_with fail
  refine (C1.out.1 w28 Xa_29.out.sl Xb_30.out.sl).mono ?_
  clear ka0 ka1 ka2 ka3 la kb0 kb1 kb2 kb3 lb
  rintro e w33 ⟨tx1, rfl, hi, hv, hv2, hb⟩
  have B_33 := hI (bch B_28.out HRr.out hb)
  have Xa_34 := hI (Xa_29.out.on hb)
  have Xb_35 := hI (Xb_30.out.on hb)
  have Xm_36 := hI (Xm_31.out.on hb)
  have Xo_37 := hI (Xo_32.out.on hb)
  have Ix1_38 : Hid (tx1.In w33) := hI hi
  clear hb B_28 Xa_29 Xb_30 Xm_31 Xo_32 hi
  have Vx1 := hI (And.intro hv hv2)
  clear hv hv2
  obtain ⟨ka0, ka1, ka2, ka3⟩ := Xa_34.out.cs
  have la := Xa_34.out.lt
  obtain ⟨kb0, kb1, kb2, kb3⟩ := Xb_35.out.cs
  have lb := Xb_35.out.lt
  obtain ⟨km0, km1, km2, km3⟩ := Xm_36.out.cs
  obtain ⟨fm0, fm1, fm2, fm3⟩ := Xm_36.out.fs
  have lm := Xm_36.out.lt
  have nma : b1 ≠ r := by have := O17.out; omega
  have nam := nma.symm
  have nmb : b1 ≠ (r + 1) := by have := O17.out; omega
  have nbm := nmb.symm
  go_wp2_with fail
  clear ka0 ka1 ka2 ka3 la kb0 kb1 kb2 kb3 lb km0 km1 km2 km3 fm0 fm1 fm2 fm3 lm nma nam nmb nbm
  generalize hW : World.setCell (World.setCell (World.setCell (World.setCell w33 _ _) _ _) _ _) _ _ = W39
  have B_39 : Hid (Below r w W39) := by rw [← hW]; exact hI (below_put4 B_33.out (by have := O17.out; omega) _ _ _ _)
  have Xa_40 : Hid (Rb W39 r p) := by rw [← hW]; exact hI (Xa_34.out.pass Xm_36.out (by have := O17.out; omega) _ _ _ _)
  have Xb_41 : Hid (Rb W39 (r + 1) q) := by rw [← hW]; exact hI (Xb_35.out.pass Xm_36.out (by have := O17.out; omega) _ _ _ _)
  have Xm_42 : Hid (Rb W39 b1 tx1) := by rw [← hW]; exact hI (Rb.put (q' := tx1) Xm_36.out Ix1_38.out)
  have Xo_43 : Hid (Rb W39 b2 ty0) := by rw [← hW]; exact hI (Xo_37.out.pass Xm_36.out (by have := O27.out; omega) _ _ _ _)
  clear hW B_33 Xa_34 Xb_35 Xm_36 Xo_37 Ix1_38
  refine (C1.out.2 W39 Xa_40.out.sl Xb_41.out.sl).mono ?_
  rintro e w44 ⟨ty1, rfl, hi, hv, hv2, hb⟩
  have B_44 := hI (bch B_39.out HRr.out hb)
  have Xa_45 := hI (Xa_40.out.on hb)
  have Xb_46 := hI (Xb_41.out.on hb)
  have Xm_47 := hI (Xm_42.out.on hb)
  have Xo_48 := hI (Xo_43.out.on hb)
  have Iy1_49 : Hid (ty1.In w44) := hI hi
  clear hb B_39 Xa_40 Xb_41 Xm_42 Xo_43 hi
  have Vy1 := hI (And.intro hv hv2)
  clear hv hv2
  have hne := HN.out e1
  obtain ⟨km0, km1, km2, km3⟩ := Xm_47.out.cs
  have lm := Xm_47.out.lt
  obtain ⟨ko0, ko1, ko2, ko3⟩ := Xo_48.out.cs
  obtain ⟨fo0, fo1, fo2, fo3⟩ := Xo_48.out.fs
  have lo := Xo_48.out.lt
  have nmo : b1 ≠ b2 := by have := O27.out; omega
  have nom := nmo.symm
  go_wp2_with fail
  clear km0 km1 km2 km3 lm ko0 ko1 ko2 ko3 fo0 fo1 fo2 fo3 lo nmo nom
  generalize hW : World.setCell (World.setCell (World.setCell (World.setCell w44 _ _) _ _) _ _) _ _ = W50
  have B_50 : Hid (Below r w W50) := by rw [← hW]; exact hI (below_put4 B_44.out (by have := O17.out; have := O27.out; omega) _ _ _ _)
  have Xa_51 : Hid (Rb W50 r p) := by rw [← hW]; exact hI (Xa_45.out.pass Xo_48.out (by have := O17.out; have := O27.out; omega) _ _ _ _)
  have Xb_52 : Hid (Rb W50 (r + 1) q) := by rw [← hW]; exact hI (Xb_46.out.pass Xo_48.out (by have := O17.out; have := O27.out; omega) _ _ _ _)
  have Xm_53 : Hid (Rb W50 b1 tx1) := by rw [← hW]; exact hI (Xm_47.out.pass Xo_48.out (by have := O27.out; omega) _ _ _ _)
  have Xo_54 : Hid (Rb W50 b2 ty1) := by rw [← hW]; exact hI (Rb.put (q' := ty1) Xo_48.out Iy1_49.out)
  clear hW B_44 Xa_45 Xb_46 Xm_47 Xo_48 Iy1_49
  refine (same_q _ _ W50 Xm_53.out.sl Xo_54.out.sl _ _ Vx1.out.1 Vx1.out.2 Vy1.out.1 Vy1.out.2).mono ?_
  rintro e w55 ⟨rfl, hb⟩
  have B_55 := hI (bch B_50.out HRr.out hb)
  have Xa_56 := hI (Xa_51.out.on hb)
  have Xb_57 := hI (Xb_52.out.on hb)
  have Xm_58 := hI (Xm_53.out.on hb)
  have Xo_59 := hI (Xo_54.out.on hb)
  clear hb B_50 Xa_51 Xb_52 Xm_53 Xo_54
  clear hne
  obtain ⟨ka0, ka1, ka2, ka3⟩ := Xa_56.out.cs
  have la := Xa_56.out.lt
  obtain ⟨kb0, kb1, kb2, kb3⟩ := Xb_57.out.cs
  have lb := Xb_57.out.lt
  go_wp2_with fail
  refine (C2.out.1 w55 Xa_56.out.sl Xb_57.out.sl).mono ?_
  clear ka0 ka1 ka2 ka3 la kb0 kb1 kb2 kb3 lb
  rintro e w60 ⟨tx2, rfl, hi, hv, hv2, hb⟩
  have B_60 := hI (bch B_55.out HRr.out hb)
  have Xa_61 := hI (Xa_56.out.on hb)
  have Xb_62 := hI (Xb_57.out.on hb)
  have Xm_63 := hI (Xm_58.out.on hb)
  have Xo_64 := hI (Xo_59.out.on hb)
  have Ix2_65 : Hid (tx2.In w60) := hI hi
  clear hb B_55 Xa_56 Xb_57 Xm_58 Xo_59 hi
  have Vx2 := hI (And.intro hv hv2)
  clear hv hv2
  obtain ⟨ka0, ka1, ka2, ka3⟩ := Xa_61.out.cs
  have la := Xa_61.out.lt
  obtain ⟨kb0, kb1, kb2, kb3⟩ := Xb_62.out.cs
  have lb := Xb_62.out.lt
  obtain ⟨km0, km1, km2, km3⟩ := Xm_63.out.cs
  obtain ⟨fm0, fm1, fm2, fm3⟩ := Xm_63.out.fs
  have lm := Xm_63.out.lt
  have nma : b1 ≠ r := by have := O17.out; omega
  have nam := nma.symm
  have nmb : b1 ≠ (r + 1) := by have := O17.out; omega
  have nbm := nmb.symm
  go_wp2_with fail
  clear ka0 ka1 ka2 ka3 la kb0 kb1 kb2 kb3 lb km0 km1 km2 km3 fm0 fm1 fm2 fm3 lm nma nam nmb nbm
  generalize hW : World.setCell (World.setCell (World.setCell (World.setCell w60 _ _) _ _) _ _) _ _ = W66
  have B_66 : Hid (Below r w W66) := by rw [← hW]; exact hI (below_put4 B_60.out (by have := O17.out; omega) _ _ _ _)
  have Xa_67 : Hid (Rb W66 r p) := by rw [← hW]; exact hI (Xa_61.out.pass Xm_63.out (by have := O17.out; omega) _ _ _ _)
  have Xb_68 : Hid (Rb W66 (r + 1) q) := by rw [← hW]; exact hI (Xb_62.out.pass Xm_63.out (by have := O17.out; omega) _ _ _ _)
  have Xm_69 : Hid (Rb W66 b1 tx2) := by rw [← hW]; exact hI (Rb.put (q' := tx2) Xm_63.out Ix2_65.out)
  have Xo_70 : Hid (Rb W66 b2 ty1) := by rw [← hW]; exact hI (Xo_64.out.pass Xm_63.out (by have := O27.out; omega) _ _ _ _)
  clear hW B_60 Xa_61 Xb_62 Xm_63 Xo_64 Ix2_65
  refine (C2.out.2 W66 Xa_67.out.sl Xb_68.out.sl).mono ?_
  rintro e w71 ⟨ty2, rfl, hi, hv, hv2, hb⟩
  have B_71 := hI (bch B_66.out HRr.out hb)
  have Xa_72 := hI (Xa_67.out.on hb)
  have Xb_73 := hI (Xb_68.out.on hb)
  have Xm_74 := hI (Xm_69.out.on hb)
  have Xo_75 := hI (Xo_70.out.on hb)
  have Iy2_76 : Hid (ty2.In w71) := hI hi
  clear hb B_66 Xa_67 Xb_68 Xm_69 Xo_70 hi
  have Vy2 := hI (And.intro hv hv2)
  clear hv hv2
  have hne := HN.out e2
  obtain ⟨km0, km1, km2, km3⟩ := Xm_74.out.cs
  have lm := Xm_74.out.lt
  obtain ⟨ko0, ko1, ko2, ko3⟩ := Xo_75.out.cs
  obtain ⟨fo0, fo1, fo2, fo3⟩ := Xo_75.out.fs
  have lo := Xo_75.out.lt
  have nmo : b1 ≠ b2 := by have := O27.out; omega
  have nom := nmo.symm
  go_wp2_with fail
  clear km0 km1 km2 km3 lm ko0 ko1 ko2 ko3 fo0 fo1 fo2 fo3 lo nmo nom
  generalize hW : World.setCell (World.setCell (World.setCell (World.setCell w71 _ _) _ _) _ _) _ _ = W77
  have B_77 : Hid (Below r w W77) := by rw [← hW]; exact hI (below_put4 B_71.out (by have := O17.out; have := O27.out; omega) _ _ _ _)
  have Xa_78 : Hid (Rb W77 r p) := by rw [← hW]; exact hI (Xa_72.out.pass Xo_75.out (by have := O17.out; have := O27.out; omega) _ _ _ _)
  have Xb_79 : Hid (Rb W77 (r + 1) q) := by rw [← hW]; exact hI (Xb_73.out.pass Xo_75.out (by have := O17.out; have := O27.out; omega) _ _ _ _)
  have Xm_80 : Hid (Rb W77 b1 tx2) := by rw [← hW]; exact hI (Xm_74.out.pass Xo_75.out (by have := O27.out; omega) _ _ _ _)
  have Xo_81 : Hid (Rb W77 b2 ty2) := by rw [← hW]; exact hI (Rb.put (q' := ty2) Xo_75.out Iy2_76.out)
  clear hW B_71 Xa_72 Xb_73 Xm_74 Xo_75 Iy2_76
  refine (same_q _ _ W77 Xm_80.out.sl Xo_81.out.sl _ _ Vx2.out.1 Vx2.out.2 Vy2.out.1 Vy2.out.2).mono ?_
  rintro e w82 ⟨rfl, hb⟩
  have B_82 := hI (bch B_77.out HRr.out hb)
  have Xa_83 := hI (Xa_78.out.on hb)
  have Xb_84 := hI (Xb_79.out.on hb)
  have Xm_85 := hI (Xm_80.out.on hb)
  have Xo_86 := hI (Xo_81.out.on hb)
  clear hb B_77 Xa_78 Xb_79 Xm_80 Xo_81
  clear hne
  obtain ⟨ka0, ka1, ka2, ka3⟩ := Xa_83.out.cs
  have la := Xa_83.out.lt
  obtain ⟨kb0, kb1, kb2, kb3⟩ := Xb_84.out.cs
  have lb := Xb_84.out.lt
  go_wp2_with fail
  refine (C3.out.1 w82 Xa_83.out.sl Xb_84.out.sl).mono ?_
  clear ka0 ka1 ka2 ka3 la kb0 kb1 kb2 kb3 lb
  rintro e w87 ⟨tx3, rfl, hi, hv, hv2, hb⟩
  have B_87 := hI (bch B_82.out HRr.out hb)
  have Xa_88 := hI (Xa_83.out.on hb)
  have Xb_89 := hI (Xb_84.out.on hb)
  have Xm_90 := hI (Xm_85.out.on hb)
  have Xo_91 := hI (Xo_86.out.on hb)
  have Ix3_92 : Hid (tx3.In w87) := hI hi
  clear hb B_82 Xa_83 Xb_84 Xm_85 Xo_86 hi
  have Vx3 := hI (And.intro hv hv2)
  clear hv hv2
  obtain ⟨ka0, ka1, ka2, ka3⟩ := Xa_88.out.cs
  have la := Xa_88.out.lt
  obtain ⟨kb0, kb1, kb2, kb3⟩ := Xb_89.out.cs
  have lb := Xb_89.out.lt
  obtain ⟨km0, km1, km2, km3⟩ := Xm_90.out.cs
  obtain ⟨fm0, fm1, fm2, fm3⟩ := Xm_90.out.fs
  have lm := Xm_90.out.lt
  have nma : b1 ≠ r := by have := O17.out; omega
  have nam := nma.symm
  have nmb : b1 ≠ (r + 1) := by have := O17.out; omega
  have nbm := nmb.symm
  go_wp2_with fail
  clear ka0 ka1 ka2 ka3 la kb0 kb1 kb2 kb3 lb km0 km1 km2 km3 fm0 fm1 fm2 fm3 lm nma nam nmb nbm
  generalize hW : World.setCell (World.setCell (World.setCell (World.setCell w87 _ _) _ _) _ _) _ _ = W93
  have B_93 : Hid (Below r w W93) := by rw [← hW]; exact hI (below_put4 B_87.out (by have := O17.out; omega) _ _ _ _)
  have Xa_94 : Hid (Rb W93 r p) := by rw [← hW]; exact hI (Xa_88.out.pass Xm_90.out (by have := O17.out; omega) _ _ _ _)
  have Xb_95 : Hid (Rb W93 (r + 1) q) := by rw [← hW]; exact hI (Xb_89.out.pass Xm_90.out (by have := O17.out; omega) _ _ _ _)
  have Xm_96 : Hid (Rb W93 b1 tx3) := by rw [← hW]; exact hI (Rb.put (q' := tx3) Xm_90.out Ix3_92.out)
  have Xo_97 : Hid (Rb W93 b2 ty2) := by rw [← hW]; exact hI (Xo_91.out.pass Xm_90.out (by have := O27.out; omega) _ _ _ _)
  clear hW B_87 Xa_88 Xb_89 Xm_90 Xo_91 Ix3_92
  refine (C3.out.2 W93 Xa_94.out.sl Xb_95.out.sl).mono ?_
  rintro e w98 ⟨ty3, rfl, hi, hv, hv2, hb⟩
  have B_98 := hI (bch B_93.out HRr.out hb)
  have Xa_99 := hI (Xa_94.out.on hb)
  have Xb_100 := hI (Xb_95.out.on hb)
  have Xm_101 := hI (Xm_96.out.on hb)
  have Xo_102 := hI (Xo_97.out.on hb)
  have Iy3_103 : Hid (ty3.In w98) := hI hi
  clear hb B_93 Xa_94 Xb_95 Xm_96 Xo_97 hi
  have Vy3 := hI (And.intro hv hv2)
  clear hv hv2
  have hne := HN.out e3
  obtain ⟨km0, km1, km2, km3⟩ := Xm_101.out.cs
  have lm := Xm_101.out.lt
  obtain ⟨ko0, ko1, ko2, ko3⟩ := Xo_102.out.cs
  obtain ⟨fo0, fo1, fo2, fo3⟩ := Xo_102.out.fs
  have lo := Xo_102.out.lt
  have nmo : b1 ≠ b2 := by have := O27.out; omega
  have nom := nmo.symm
  go_wp2_with fail
  clear km0 km1 km2 km3 lm ko0 ko1 ko2 ko3 fo0 fo1 fo2 fo3 lo nmo nom
  generalize hW : World.setCell (World.setCell (World.setCell (World.setCell w98 _ _) _ _) _ _) _ _ = W104
  have B_104 : Hid (Below r w W104) := by rw [← hW]; exact hI (below_put4 B_98.out (by have := O17.out; have := O27.out; omega) _ _ _ _)
  have Xa_105 : Hid (Rb W104 r p) := by rw [← hW]; exact hI (Xa_99.out.pass Xo_102.out (by have := O17.out; have := O27.out; omega) _ _ _ _)
  have Xb_106 : Hid (Rb W104 (r + 1) q) := by rw [← hW]; exact hI (Xb_100.out.pass Xo_102.out (by have := O17.out; have := O27.out; omega) _ _ _ _)
  have Xm_107 : Hid (Rb W104 b1 tx3) := by rw [← hW]; exact hI (Xm_101.out.pass Xo_102.out (by have := O27.out; omega) _ _ _ _)
  have Xo_108 : Hid (Rb W104 b2 ty3) := by rw [← hW]; exact hI (Rb.put (q' := ty3) Xo_102.out Iy3_103.out)
  clear hW B_98 Xa_99 Xb_100 Xm_101 Xo_102 Iy3_103
  refine (same_q _ _ W104 Xm_107.out.sl Xo_108.out.sl _ _ Vx3.out.1 Vx3.out.2 Vy3.out.1 Vy3.out.2).mono ?_
  rintro e w109 ⟨rfl, hb⟩
  have B_109 := hI (bch B_104.out HRr.out hb)
  have Xa_110 := hI (Xa_105.out.on hb)
  have Xb_111 := hI (Xb_106.out.on hb)
  have Xm_112 := hI (Xm_107.out.on hb)
  have Xo_113 := hI (Xo_108.out.on hb)
  clear hb B_104 Xa_105 Xb_106 Xm_107 Xo_108
  clear hne
  go_wp2
  go_ret
  exact ⟨rfl, (by rw [HRr.out]; exact B_109.out)⟩
theorem rationalMatchesArithmetic_any (p q : RVal) (w : World) (h : p.In w) (h' : q.In w) :
    Calls Tryz.prog 4 #[.agg #[.bool p.g, .slice p.A p.n p.c, .bool p.gd, .slice p.Ad p.nd p.cd], .agg #[.bool q.g, .slice q.A q.n q.c, .bool q.gd, .slice q.Ad q.nd q.cd]] w fun e w' => e = .returned (.bool true) ∧ Below w.heap.size w w' := by
  obtain ⟨z0, d0, e0, c0⟩ := add_pair p q
  obtain ⟨z1, d1, e1, c1⟩ := sub_pair p q
  obtain ⟨z2, d2, e2, c2⟩ := mul_pair p q
  obtain ⟨z3, d3, e3, c3⟩ := div_pair p q w h h'
  exact arith_run p q w h h' z0 d0 e0 z1 d1 e1 z2 d2 e2 z3 d3 e3 c0 c1 c2 c3 (fun e => bne_self_eq_false e)
end Go.Proofs.YtlibjampolcbhaaGreat
