/-
  Stage 2: RationalMatchesOrder, its walk.
-/
import Derived.Test.YtlibjampolcbhaaGreatRatCq
import Derived.Test.YtlibjampolcbhaaGreatRatCm
import Derived.Test.YtlibjampolcbhaaGreatRatJ
import Derived.Test.YtlibjampolcbhaaGreatRatSqA
import Derived.Test.YtlibjampolcbhaaGreatRatY
namespace Go.Proofs.YtlibjampolcbhaaGreat
open Go.RowKit
theorem cmp_pair (q q' : RVal) : ∃ u e : Int, (∀ w : World, q.In w → q'.In w → Calls Tryz.prog 31 #[.agg #[.bool q.g, .slice q.A q.n q.c, .bool q.gd, .slice q.Ad q.nd q.cd], .agg #[.bool q'.g, .slice q'.A q'.n q'.c, .bool q'.gd, .slice q'.Ad q'.nd q'.cd]] w (RetC u e w)) ∧ ∀ w : World, q.In w → q'.In w → Calls Tryz.prog 32 #[.agg #[.bool q.g, .slice q.A q.n q.c, .bool q.gd, .slice q.Ad q.nd q.cd], .agg #[.bool q'.g, .slice q'.A q'.n q'.c, .bool q'.gd, .slice q'.Ad q'.nd q'.cd]] w (RetC u e w) := by
  rcases hv : ((rv q.o q.od).isSome && (rv q'.o q'.od).isSome) with _ | _
  · exact ⟨0, 1, fun w h h' => rcm_bad q q' w h h' _ _ rfl rfl hv, fun w h h' => rcmpq_bad q q' w h h' hv⟩
  · rw [Bool.and_eq_true] at hv
    obtain ⟨x, hx⟩ := Option.isSome_iff_exists.1 hv.1
    obtain ⟨y, hy⟩ := Option.isSome_iff_exists.1 hv.2
    exact ⟨_, 0, fun w h h' => cmp_q h h' hx hy _ rfl, fun w h h' => rcmpq_ok q q' w h h' x y hx hy _ rfl⟩
theorem sign_pair (q : RVal) : ∃ u : Int, (∀ w : World, q.In w → Calls Tryz.prog 37 #[.agg #[.bool q.g, .slice q.A q.n q.c, .bool q.gd, .slice q.Ad q.nd q.cd]] w fun e w' => e = .returned (.int .i64 u) ∧ Below w.heap.size w w') ∧ ∀ w : World, q.In w → Calls Tryz.prog 38 #[.agg #[.bool q.g, .slice q.A q.n q.c, .bool q.gd, .slice q.Ad q.nd q.cd]] w fun e w' => e = .returned (.int .i64 u) ∧ Below w.heap.size w w' := by
  rcases hv : (rv q.o q.od).isSome with _ | _
  · exact ⟨0, fun w h => sign_bad q w h hv, fun w h => rsign_bad q w h hv⟩
  · obtain ⟨x, hx⟩ := Option.isSome_iff_exists.1 hv
    exact ⟨_, fun w h => sign_q h hx, fun w h => rsign_q h hx⟩
theorem floor_pair (q : RVal) (w0 : World) (h0 : q.In w0) (s : Int) (h1 : -9223372036854775808 ≤ s) (h2 : s ≤ 9223372036854775807) : ∃ z e : Int, (∀ w : World, q.In w → Calls Tryz.prog 33 #[.agg #[.bool q.g, .slice q.A q.n q.c, .bool q.gd, .slice q.Ad q.nd q.cd], .int .i64 s] w (RetZE z e w)) ∧ ∀ w : World, q.In w → Calls Tryz.prog 34 #[.agg #[.bool q.g, .slice q.A q.n q.c, .bool q.gd, .slice q.Ad q.nd q.cd], .int .i64 s] w (RetZE z e w) := by
  rcases hv : (rv q.o q.od).isSome with _ | _
  · exact ⟨0, 1, fun w h => (floor_bad q s w h hv).mono fun _ _ k => RetIE.ze big_gt k, fun w h => rfloor_bad q s w h hv⟩
  · obtain ⟨x, hx⟩ := Option.isSome_iff_exists.1 hv
    have hd : 0 < (x.den : Int) := by have := x.den_pos; omega
    have hd0 : (x.den : Int) ≠ 0 := by omega
    have hb := ov_lt h0.1.ok (show ov q.g q.xs = some x.num from (rv_some hx).1)
    have qb : ∀ n : Int, n.natAbs < BIG → (n / (x.den : Int)).natAbs < BIG := fun n h => Nat.lt_of_le_of_lt (Int.natAbs_ediv_le_natAbs _ _) h
    rcases Int.lt_trichotomy s 0 with k | k | k
    · have e1 : shf x.num s = x.num / ((pw (-s).toNat : Nat) : Int) := by unfold shf; rw [if_neg (by omega)]
      have f1 : (shf x.num s).natAbs < BIG := by rw [e1]; exact Nat.lt_of_le_of_lt (Int.natAbs_ediv_le_natAbs _ _) hb
      have e2 : shf (x.num / (x.den : Int)) s = shf x.num s / (x.den : Int) := by
        rw [e1]; unfold shf
        rw [if_neg (by omega), Int.ediv_ediv_of_nonneg (Int.natCast_nonneg _), Int.ediv_ediv_of_nonneg (Int.natCast_nonneg _), Int.mul_comm]
      have f2 := fit_yes (qb _ f1)
      exact ⟨shf x.num s / (x.den : Int), 0, fun w h => (floor_ok q s w h x _ 0 _ hx h1 h2 f1 rfl rfl rfl).mono fun _ _ k => RetIE.ze (qb _ f1) k,
        fun w h => rfloor_neg q s w h x hx ⟨decide_eq_false (by omega), decide_eq_false (by omega), h1, h2⟩ (x.num / (x.den : Int)) _ _ ⟨hd0, fq_pos _ _ hd, qb _ hb⟩ (by rw [e2]; exact f2)⟩
    · subst k
      have e1 : shf x.num 0 = x.num := by unfold shf; rw [if_pos (by decide)]; show x.num * ((1 : Nat) : Int) = x.num; simp
      have f1 : (shf x.num 0).natAbs < BIG := by rw [e1]; exact hb
      exact ⟨x.num / (x.den : Int), 0, fun w h => (floor_ok q 0 w h x _ 0 _ hx h1 h2 f1 e1 rfl rfl).mono fun _ _ k => RetIE.ze (qb _ hb) k,
        fun w h => rfloor_zero q 0 w h x hx ⟨by decide, by decide⟩ _ ⟨hd0, fq_pos _ _ hd, qb _ hb⟩⟩
    · by_cases f : (shf x.num s).natAbs < BIG
      · exact ⟨shf x.num s / (x.den : Int), 0, fun w h => (floor_ok q s w h x _ 0 _ hx h1 h2 f rfl rfl rfl).mono fun _ _ k => RetIE.ze (qb _ f) k,
          fun w h => rfloor_pos q s w h x hx ⟨decide_eq_true k, h1, h2⟩ _ _ (fit_yes f) ⟨hd0, fq_pos _ _ hd, qb _ f, trivial, decide_eq_true (by omega)⟩⟩
      · have fn := fit_no f
        exact ⟨0, 2, fun w h => (floor_big q s w h x _ _ hx h1 h2 rfl fn.2 (by decide)).mono fun _ _ k => RetIE.ze big_gt k,
          fun w h => rfloor_big q s w h x hx ⟨decide_eq_true k, h1, h2⟩ _ _ fn (by decide)⟩
theorem sqrt_pair (q : RVal) : ∃ (z zd : Int) (b : Bool) (e : Int), (∀ w : World, q.In w → Calls Tryz.prog 35 #[.agg #[.bool q.g, .slice q.A q.n q.c, .bool q.gd, .slice q.Ad q.nd q.cd]] w (RetRB z zd b e w)) ∧ ∀ w : World, q.In w → Calls Tryz.prog 36 #[.agg #[.bool q.g, .slice q.A q.n q.c, .bool q.gd, .slice q.Ad q.nd q.cd]] w (RetRB z zd b e w) := by
  rcases hv : (rv q.o q.od).isSome with _ | _
  · exact ⟨0, 0, false, 1, fun w h => rsq_bad q w h hv, fun w h => rsqq_bad q w h hv⟩
  · obtain ⟨x, hx⟩ := Option.isSome_iff_exists.1 hv
    have sg := ov_sign (show ov q.g q.xs = some x.num from (rv_some hx).1)
    by_cases hn : x.num < 0
    · exact ⟨0, 0, false, 5, fun w h => rsq_neg q w h x hx hn, fun w h => rsqq_neg q w h hv (by rw [← sg, decide_eq_true hn])⟩
    · have h0 : 0 ≤ x.num ∧ q.g = false := ⟨by omega, by rw [← sg, decide_eq_false hn]⟩
      obtain ⟨s, s1, s2⟩ := has_sqrt x.num.natAbs
      obtain ⟨t, t1, t2⟩ := has_sqrt x.den
      have ed : (x.den : Int).natAbs = x.den := Int.natAbs_natCast _
      by_cases e1 : s * s = x.num.natAbs
      · by_cases e2 : t * t = x.den
        · exact ⟨s, t, true, 0, fun w h => rsq_yes q w h x s t hx h0.1 s1 s2 t1 t2 e1 e2, fun w h => rsqq_yes q w h x hx s t h0 ⟨s1, s2, decide_eq_true e1⟩ (by rw [ed]; exact ⟨t1, t2, decide_eq_true e2⟩)⟩
        · exact ⟨0, 0, false, 0, fun w h => rsq_no2 q w h x s t hx h0.1 s1 s2 t1 t2 e1 e2, fun w h => rsqq_no2 q w h x hx s t h0 ⟨s1, s2, decide_eq_true e1⟩ (by rw [ed]; exact ⟨t1, t2, decide_eq_false e2⟩)⟩
      · exact ⟨0, 0, false, 0, fun w h => rsq_no1 q w h x s hx h0.1 s1 s2 e1, fun w h => rsqq_no1 q w h x hx s t _ h0 ⟨s1, s2, decide_eq_false e1⟩ (by rw [ed]; exact ⟨t1, t2, rfl⟩)⟩
set_option linter.unusedSimpArgs false in
set_option maxRecDepth 20000 in
set_option maxHeartbeats 2000000 in
theorem order_false (p q : RVal) (s : Int) (w : World) (ha : p.In w) (hb : q.In w) (u e z ez v zs ds es : Int) (c0 : (∀ w : World, p.In w → q.In w → Calls Tryz.prog 31 #[.agg #[.bool p.g, .slice p.A p.n p.c, .bool p.gd, .slice p.Ad p.nd p.cd], .agg #[.bool q.g, .slice q.A q.n q.c, .bool q.gd, .slice q.Ad q.nd q.cd]] w (RetC u e w)) ∧ ∀ w : World, p.In w → q.In w → Calls Tryz.prog 32 #[.agg #[.bool p.g, .slice p.A p.n p.c, .bool p.gd, .slice p.Ad p.nd p.cd], .agg #[.bool q.g, .slice q.A q.n q.c, .bool q.gd, .slice q.Ad q.nd q.cd]] w (RetC u e w)) (c1 : (∀ w : World, p.In w → Calls Tryz.prog 33 #[.agg #[.bool p.g, .slice p.A p.n p.c, .bool p.gd, .slice p.Ad p.nd p.cd], .int .i64 s] w (RetZE z ez w)) ∧ ∀ w : World, p.In w → Calls Tryz.prog 34 #[.agg #[.bool p.g, .slice p.A p.n p.c, .bool p.gd, .slice p.Ad p.nd p.cd], .int .i64 s] w (RetZE z ez w)) (c2 : (∀ w : World, p.In w → Calls Tryz.prog 37 #[.agg #[.bool p.g, .slice p.A p.n p.c, .bool p.gd, .slice p.Ad p.nd p.cd]] w (fun e w' => e = .returned (.int .i64 v) ∧ Below w.heap.size w w')) ∧ ∀ w : World, p.In w → Calls Tryz.prog 38 #[.agg #[.bool p.g, .slice p.A p.n p.c, .bool p.gd, .slice p.Ad p.nd p.cd]] w (fun e w' => e = .returned (.int .i64 v) ∧ Below w.heap.size w w')) (c3 : (∀ w : World, p.In w → Calls Tryz.prog 35 #[.agg #[.bool p.g, .slice p.A p.n p.c, .bool p.gd, .slice p.Ad p.nd p.cd]] w (RetRB zs ds false es w)) ∧ ∀ w : World, p.In w → Calls Tryz.prog 36 #[.agg #[.bool p.g, .slice p.A p.n p.c, .bool p.gd, .slice p.Ad p.nd p.cd]] w (RetRB zs ds false es w)) (hne : ∀ e : Int, (e == e) = true) :
    Calls Tryz.prog 5 #[.agg #[.bool p.g, .slice p.A p.n p.c, .bool p.gd, .slice p.Ad p.nd p.cd], .agg #[.bool q.g, .slice q.A q.n q.c, .bool q.gd, .slice q.Ad q.nd q.cd], .int .i64 s] w fun e w' => e = .returned (.bool true) ∧ Below w.heap.size w w' := by
  have C0 := hI c0
  have C1 := hI c1
  have C2 := hI c2
  have C3 := hI c3
  have HN := hI hne
  clear c0 c1 c2 c3 hne
  have Ia_0 := hI ha
  clear ha
  have Ib_0 := hI hb
  clear hb
  have B_0 : Hid (Below w.heap.size w w) := hI (Below.refl _ _)
  go_enter Tryz.func5, Tryz.ntmps5
  go_wp2_with fail
  generalize hW : World.alloc w _ = W1
  have hn := below_new w (.cells #[.bool p.g, .slice p.A p.n p.c, .bool p.gd, .slice p.Ad p.nd p.cd] 27)
  rw [hW] at hn
  have hz : W1.heap.size = w.heap.size + 1 := by rw [← hW]; simp
  have hx : Rb W1 w.heap.size p := by rw [← hW]; exact Rb.new (q := p) Ia_0.out
  have Ib_1 := hI (Ib_0.out.on hn)
  have B_2 := hI (below_chain B_0.out B_0.out.size hn)
  generalize hr : w.heap.size = r at *
  have HRr := hI hr
  clear hr
  have Xa_3 : Hid (Rb W1 r p) := hI hx
  have HT3 := hz
  clear hn hx hz hW Ib_0 B_0 Ia_0
  generalize hW : World.alloc W1 _ = W4
  have hn := below_new W1 (.cells #[.bool q.g, .slice q.A q.n q.c, .bool q.gd, .slice q.Ad q.nd q.cd] 27)
  rw [hW] at hn
  have hx : Rb W4 W1.heap.size q := by rw [← hW]; exact Rb.new (q := q) Ib_1.out
  have hlt : r < W1.heap.size := Xa_3.out.lt
  have B_4 := hI (bch B_2.out HRr.out hn)
  have Xa_5 := hI (Xa_3.out.on hn)
  rw [HT3] at hx hlt
  have Xb_6 : Hid (Rb W4 (r + 1) q) := hI hx
  clear hn hx hW hlt B_2 Xa_3 Ib_1
  clear HT3
  refine (sane W4).mono ?_
  rintro e w7 ⟨rfl, hb⟩
  have B_7 := hI (bch B_4.out HRr.out hb)
  have Xa_8 := hI (Xa_5.out.on hb)
  have Xb_9 := hI (Xb_6.out.on hb)
  clear hb B_4 Xa_5 Xb_6
  obtain ⟨ka0, ka1, ka2, ka3⟩ := Xa_8.out.cs
  have la := Xa_8.out.lt
  obtain ⟨kb0, kb1, kb2, kb3⟩ := Xb_9.out.cs
  have lb := Xb_9.out.lt
  go_wp2_with fail
  refine (C0.out.1 w7 Xa_8.out.sl Xb_9.out.sl).mono ?_
  clear ka0 ka1 ka2 ka3 la kb0 kb1 kb2 kb3 lb
  rintro e w10 ⟨rfl, hb⟩
  have B_10 := hI (bch B_7.out HRr.out hb)
  have Xa_11 := hI (Xa_8.out.on hb)
  have Xb_12 := hI (Xb_9.out.on hb)
  clear hb B_7 Xa_8 Xb_9
  obtain ⟨ka0, ka1, ka2, ka3⟩ := Xa_11.out.cs
  have la := Xa_11.out.lt
  obtain ⟨kb0, kb1, kb2, kb3⟩ := Xb_12.out.cs
  have lb := Xb_12.out.lt
  go_wp2_with fail
  refine (C0.out.2 w10 Xa_11.out.sl Xb_12.out.sl).mono ?_
  clear ka0 ka1 ka2 ka3 la kb0 kb1 kb2 kb3 lb
  rintro e w13 ⟨rfl, hb⟩
  have B_13 := hI (bch B_10.out HRr.out hb)
  have Xa_14 := hI (Xa_11.out.on hb)
  have Xb_15 := hI (Xb_12.out.on hb)
  clear hb B_10 Xa_11 Xb_12
  clear Xb_15
  obtain ⟨ka0, ka1, ka2, ka3⟩ := Xa_14.out.cs
  have la := Xa_14.out.lt
  go_wp2_with fail
  refine (C1.out.1 w13 Xa_14.out.sl).mono ?_
  clear ka0 ka1 ka2 ka3 la
  rintro e w16 ⟨gn, An, nn, cn, xsn, rfl, hs, ho, hb⟩
  have B_16 := hI (bch B_13.out HRr.out hb)
  have Xa_17 := hI (Xa_14.out.on hb)
  have Jn_18 : Hid (Sl w16 w16.heap.size An nn cn xsn) := hI hs
  clear hb B_13 Xa_14 hs
  have Vn := hI ho
  clear ho
  obtain ⟨ka0, ka1, ka2, ka3⟩ := (Xa_17.out.on (below_new w16 (.cells #[.bool gn, .slice An nn cn] 24))).cs
  have la := Xa_17.out.lt
  go_wp2_with fail
  generalize hW : World.alloc w16 _ = W19
  have hn := below_new w16 (.cells #[.bool gn, .slice An nn cn] 24)
  rw [hW] at hn
  have hx : Ba W19 w16.heap.size gn An nn cn xsn := by rw [← hW]; exact ⟨Bx.new w16 _ _ _ _, Jn_18.out.on (below_new _ _)⟩
  have hlt : r < w16.heap.size := Xa_17.out.lt
  have B_19 := hI (bch B_16.out HRr.out hn)
  have Xa_20 := hI (Xa_17.out.on hn)
  generalize hbb : w16.heap.size = b1 at *
  clear hbb
  have Zn_21 : Hid (Ba W19 b1 gn An nn cn xsn) := hI hx
  have O21 := hI hlt
  clear hn hx hW hlt B_16 Xa_17 Jn_18
  refine (C1.out.2 W19 Xa_20.out.sl).mono ?_
  clear ka0 ka1 ka2 ka3 la
  rintro e w22 ⟨gm, Am, nm, cm, xsm, rfl, hs, ho, hb⟩
  have B_22 := hI (bch B_19.out HRr.out hb)
  have Xa_23 := hI (Xa_20.out.on hb)
  have Zn_24 := hI (Zn_21.out.on hb)
  have Jm_25 : Hid (Sl w22 w22.heap.size Am nm cm xsm) := hI hs
  clear hb B_19 Xa_20 Zn_21 hs
  have Vm := hI ho
  clear ho
  obtain ⟨ka0, ka1, ka2, ka3⟩ := (Xa_23.out.on (below_new w22 (.cells #[.bool gm, .slice Am nm cm] 24))).cs
  have la := Xa_23.out.lt
  go_wp2_with fail
  generalize hW : World.alloc w22 _ = W26
  have hn := below_new w22 (.cells #[.bool gm, .slice Am nm cm] 24)
  rw [hW] at hn
  have hx : Ba W26 w22.heap.size gm Am nm cm xsm := by rw [← hW]; exact ⟨Bx.new w22 _ _ _ _, Jm_25.out.on (below_new _ _)⟩
  have hlt : b1 < w22.heap.size := Zn_24.out.bx.lt
  have B_26 := hI (bch B_22.out HRr.out hn)
  have Xa_27 := hI (Xa_23.out.on hn)
  have Zn_28 := hI (Zn_24.out.on hn)
  generalize hbb : w22.heap.size = b2 at *
  clear hbb
  have Zm_29 : Hid (Ba W26 b2 gm Am nm cm xsm) := hI hx
  have O29 := hI hlt
  clear hn hx hW hlt B_22 Xa_23 Zn_24 Jm_25
  refine (C3.out.1 W26 Xa_27.out.sl).mono ?_
  clear ka0 ka1 ka2 ka3 la
  rintro e w30 ⟨tk, rfl, hi, hv, hv2, hb⟩
  have B_30 := hI (bch B_26.out HRr.out hb)
  have Xa_31 := hI (Xa_27.out.on hb)
  have Zn_32 := hI (Zn_28.out.on hb)
  have Zm_33 := hI (Zm_29.out.on hb)
  have Ik_34 : Hid (tk.In w30) := hI hi
  clear hb B_26 Xa_27 Zn_28 Zm_29 hi
  have Vk := hI (And.intro hv hv2)
  clear hv hv2
  obtain ⟨ka0, ka1, ka2, ka3⟩ := (Xa_31.out.on (below_new w30 (.cells #[.bool tk.g, .slice tk.A tk.n tk.c, .bool tk.gd, .slice tk.Ad tk.nd tk.cd] 27))).cs
  have la := Xa_31.out.lt
  go_wp2_with fail
  generalize hW : World.alloc w30 _ = W35
  have hn := below_new w30 (.cells #[.bool tk.g, .slice tk.A tk.n tk.c, .bool tk.gd, .slice tk.Ad tk.nd tk.cd] 27)
  rw [hW] at hn
  have hx : Rb W35 w30.heap.size tk := by rw [← hW]; exact Rb.new (q := tk) Ik_34.out
  have hlt : b2 < w30.heap.size := Zm_33.out.bx.lt
  have B_35 := hI (bch B_30.out HRr.out hn)
  have Xa_36 := hI (Xa_31.out.on hn)
  have Zn_37 := hI (Zn_32.out.on hn)
  have Zm_38 := hI (Zm_33.out.on hn)
  generalize hbb : w30.heap.size = b3 at *
  clear hbb
  have Xk_39 : Hid (Rb W35 b3 tk) := hI hx
  have O39 := hI hlt
  clear hn hx hW hlt B_30 Xa_31 Zn_32 Zm_33 Ik_34
  refine (C3.out.2 W35 Xa_36.out.sl).mono ?_
  clear ka0 ka1 ka2 ka3 la
  rintro e w40 ⟨tf, rfl, hi, hv, hv2, hb⟩
  have B_40 := hI (bch B_35.out HRr.out hb)
  have Xa_41 := hI (Xa_36.out.on hb)
  have Zn_42 := hI (Zn_37.out.on hb)
  have Zm_43 := hI (Zm_38.out.on hb)
  have Xk_44 := hI (Xk_39.out.on hb)
  have If_45 : Hid (tf.In w40) := hI hi
  clear hb B_35 Xa_36 Zn_37 Zm_38 Xk_39 hi
  have Vf := hI (And.intro hv hv2)
  clear hv hv2
  go_upto_region 8 with fail
  generalize hW : World.alloc w40 _ = W46
  have hn := below_new w40 (.cells #[.bool tf.g, .slice tf.A tf.n tf.c, .bool tf.gd, .slice tf.Ad tf.nd tf.cd] 27)
  rw [hW] at hn
  have hx : Rb W46 w40.heap.size tf := by rw [← hW]; exact Rb.new (q := tf) If_45.out
  have hlt : b3 < w40.heap.size := Xk_44.out.lt
  have B_46 := hI (bch B_40.out HRr.out hn)
  have Xa_47 := hI (Xa_41.out.on hn)
  have Zn_48 := hI (Zn_42.out.on hn)
  have Zm_49 := hI (Zm_43.out.on hn)
  have Xk_50 := hI (Xk_44.out.on hn)
  generalize hbb : w40.heap.size = b4 at *
  clear hbb
  have Xf_51 : Hid (Rb W46 b4 tf) := hI hx
  have O51 := hI hlt
  clear hn hx hW hlt B_40 Xa_41 Zn_42 Zm_43 Xk_44 If_45
  have q1 := HN.out u
  have q2 := HN.out e
  have q3 := HN.out v
  have q4 := HN.out ez
  have q5 := HN.out es
  obtain ⟨ka0, ka1, ka2, ka3⟩ := Xa_47.out.cs
  have la := Xa_47.out.lt
  obtain ⟨kn0, kn1⟩ := Zn_48.out.cs
  have ln := Zn_48.out.bx.lt
  obtain ⟨km0, km1⟩ := Zm_49.out.cs
  have lm := Zm_49.out.bx.lt
  obtain ⟨kk0, kk1, kk2, kk3⟩ := Xk_50.out.cs
  have lk := Xk_50.out.lt
  obtain ⟨kf0, kf1, kf2, kf3⟩ := Xf_51.out.cs
  have lf := Xf_51.out.lt
  have B_52 := hI (B_46.out.drew)
  have Xa_53 := hI (Xa_47.out.drew)
  have Zn_54 := hI (Zn_48.out.drewZ)
  have Zm_55 := hI (Zm_49.out.drewZ)
  have Xk_56 := hI (Xk_50.out.drew)
  have Xf_57 := hI (Xf_51.out.drew)
  go_region_held3 (fun w' => w'.cell? ⟨r, 0, none⟩ = some (.bool p.g) ∧ w'.cell? ⟨r, 1, none⟩ = some (.slice p.A p.n p.c) ∧ w'.cell? ⟨r, 2, none⟩ = some (.bool p.gd) ∧ w'.cell? ⟨r, 3, none⟩ = some (.slice p.Ad p.nd p.cd) ∧ w'.cell? ⟨b1, 0, none⟩ = some (.bool gn) ∧ w'.cell? ⟨b1, 1, none⟩ = some (.slice An nn cn) ∧ w'.cell? ⟨b2, 0, none⟩ = some (.bool gm) ∧ w'.cell? ⟨b2, 1, none⟩ = some (.slice Am nm cm) ∧ w'.cell? ⟨b3, 0, none⟩ = some (.bool tk.g) ∧ w'.cell? ⟨b3, 1, none⟩ = some (.slice tk.A tk.n tk.c) ∧ w'.cell? ⟨b3, 2, none⟩ = some (.bool tk.gd) ∧ w'.cell? ⟨b3, 3, none⟩ = some (.slice tk.Ad tk.nd tk.cd) ∧ w'.cell? ⟨b4, 0, none⟩ = some (.bool tf.g) ∧ w'.cell? ⟨b4, 1, none⟩ = some (.slice tf.A tf.n tf.c) ∧ w'.cell? ⟨b4, 2, none⟩ = some (.bool tf.gd) ∧ w'.cell? ⟨b4, 3, none⟩ = some (.slice tf.Ad tf.nd tf.cd)) (go_keep)
    (first
      | (go_at_call 22; have C := same_q _ _ _ Xk_74.out.sl Xf_75.out.sl _ _ Vk.out.1 Vk.out.2 Vf.out.1 Vf.out.2; (with_reducible refine C.mono ?_); clear C; rintro e w76 ⟨rfl, hb⟩; have B_76 := hI (bch B_70.out HRr.out hb); have Xa_77 := hI (Xa_71.out.on hb); have Zn_78 := hI (Zn_72.out.on hb); have Zm_79 := hI (Zm_73.out.on hb); have Xk_80 := hI (Xk_74.out.on hb); have Xf_81 := hI (Xf_75.out.on hb); clear hb B_70 Xa_71 Zn_72 Zm_73 Xk_74 Xf_75 ka0 ka1 ka2 ka3 la kn0 kn1 ln km0 km1 lm kk0 kk1 kk2 kk3 lk kf0 kf1 kf2 kf3 lf; obtain ⟨ka0, ka1, ka2, ka3⟩ := Xa_77.out.cs; have la := Xa_77.out.lt; obtain ⟨kn0, kn1⟩ := Zn_78.out.cs; have ln := Zn_78.out.bx.lt; obtain ⟨km0, km1⟩ := Zm_79.out.cs; have lm := Zm_79.out.bx.lt; obtain ⟨kk0, kk1, kk2, kk3⟩ := Xk_80.out.cs; have lk := Xk_80.out.lt; obtain ⟨kf0, kf1, kf2, kf3⟩ := Xf_81.out.cs; have lf := Xf_81.out.lt)
      | (go_at_call 39; have C := ints_yes _ _ _ _ _ _ _ _ _ _ _ Zn_66.out.sl Zm_67.out.sl (ov_same Zn_66.out.sl Zm_67.out.sl Vn.out Vm.out).1 (ov_same Zn_66.out.sl Zm_67.out.sl Vn.out Vm.out).2; (with_reducible refine C.mono ?_); clear C; rintro e w70 ⟨rfl, hb⟩; have B_70 := hI (bch B_64.out HRr.out hb); have Xa_71 := hI (Xa_65.out.on hb); have Zn_72 := hI (Zn_66.out.on hb); have Zm_73 := hI (Zm_67.out.on hb); have Xk_74 := hI (Xk_68.out.on hb); have Xf_75 := hI (Xf_69.out.on hb); clear hb B_64 Xa_65 Zn_66 Zm_67 Xk_68 Xf_69 ka0 ka1 ka2 ka3 la kn0 kn1 ln km0 km1 lm kk0 kk1 kk2 kk3 lk kf0 kf1 kf2 kf3 lf; obtain ⟨ka0, ka1, ka2, ka3⟩ := Xa_71.out.cs; have la := Xa_71.out.lt; obtain ⟨kn0, kn1⟩ := Zn_72.out.cs; have ln := Zn_72.out.bx.lt; obtain ⟨km0, km1⟩ := Zm_73.out.cs; have lm := Zm_73.out.bx.lt; obtain ⟨kk0, kk1, kk2, kk3⟩ := Xk_74.out.cs; have lk := Xk_74.out.lt; obtain ⟨kf0, kf1, kf2, kf3⟩ := Xf_75.out.cs; have lf := Xf_75.out.lt)
      | (go_at_call 38; have C := C2.out.2 _ Xa_59.out.sl; (with_reducible refine C.mono ?_); clear C; rintro e w64 ⟨rfl, hb⟩; have B_64 := hI (bch B_58.out HRr.out hb); have Xa_65 := hI (Xa_59.out.on hb); have Zn_66 := hI (Zn_60.out.on hb); have Zm_67 := hI (Zm_61.out.on hb); have Xk_68 := hI (Xk_62.out.on hb); have Xf_69 := hI (Xf_63.out.on hb); clear hb B_58 Xa_59 Zn_60 Zm_61 Xk_62 Xf_63 ka0 ka1 ka2 ka3 la kn0 kn1 ln km0 km1 lm kk0 kk1 kk2 kk3 lk kf0 kf1 kf2 kf3 lf; obtain ⟨ka0, ka1, ka2, ka3⟩ := Xa_65.out.cs; have la := Xa_65.out.lt; obtain ⟨kn0, kn1⟩ := Zn_66.out.cs; have ln := Zn_66.out.bx.lt; obtain ⟨km0, km1⟩ := Zm_67.out.cs; have lm := Zm_67.out.bx.lt; obtain ⟨kk0, kk1, kk2, kk3⟩ := Xk_68.out.cs; have lk := Xk_68.out.lt; obtain ⟨kf0, kf1, kf2, kf3⟩ := Xf_69.out.cs; have lf := Xf_69.out.lt)
      | (go_at_call 37; have C := C2.out.1 _ Xa_53.out.sl; (with_reducible refine C.mono ?_); clear C; rintro e w58 ⟨rfl, hb⟩; have B_58 := hI (bch B_52.out HRr.out hb); have Xa_59 := hI (Xa_53.out.on hb); have Zn_60 := hI (Zn_54.out.on hb); have Zm_61 := hI (Zm_55.out.on hb); have Xk_62 := hI (Xk_56.out.on hb); have Xf_63 := hI (Xf_57.out.on hb); clear hb B_52 Xa_53 Zn_54 Zm_55 Xk_56 Xf_57 ka0 ka1 ka2 ka3 la kn0 kn1 ln km0 km1 lm kk0 kk1 kk2 kk3 lk kf0 kf1 kf2 kf3 lf; obtain ⟨ka0, ka1, ka2, ka3⟩ := Xa_59.out.cs; have la := Xa_59.out.lt; obtain ⟨kn0, kn1⟩ := Zn_60.out.cs; have ln := Zn_60.out.bx.lt; obtain ⟨km0, km1⟩ := Zm_61.out.cs; have lm := Zm_61.out.bx.lt; obtain ⟨kk0, kk1, kk2, kk3⟩ := Xk_62.out.cs; have lk := Xk_62.out.lt; obtain ⟨kf0, kf1, kf2, kf3⟩ := Xf_63.out.cs; have lf := Xf_63.out.lt))
  skip
  clear ka0 ka1 ka2 ka3 la kn0 kn1 ln km0 km1 lm kk0 kk1 kk2 kk3 lk kf0 kf1 kf2 kf3 lf
  clear q1 q2 q3 q4 q5
  go_wp2
  go_ret
  exact ⟨rfl, (by rw [HRr.out]; exact B_76.out)⟩
set_option linter.unusedSimpArgs false in
set_option maxRecDepth 20000 in
set_option maxHeartbeats 2000000 in
theorem order_true (p q : RVal) (s : Int) (w : World) (ha : p.In w) (hb : q.In w) (u e z ez v zs ds es : Int) (c0 : (∀ w : World, p.In w → q.In w → Calls Tryz.prog 31 #[.agg #[.bool p.g, .slice p.A p.n p.c, .bool p.gd, .slice p.Ad p.nd p.cd], .agg #[.bool q.g, .slice q.A q.n q.c, .bool q.gd, .slice q.Ad q.nd q.cd]] w (RetC u e w)) ∧ ∀ w : World, p.In w → q.In w → Calls Tryz.prog 32 #[.agg #[.bool p.g, .slice p.A p.n p.c, .bool p.gd, .slice p.Ad p.nd p.cd], .agg #[.bool q.g, .slice q.A q.n q.c, .bool q.gd, .slice q.Ad q.nd q.cd]] w (RetC u e w)) (c1 : (∀ w : World, p.In w → Calls Tryz.prog 33 #[.agg #[.bool p.g, .slice p.A p.n p.c, .bool p.gd, .slice p.Ad p.nd p.cd], .int .i64 s] w (RetZE z ez w)) ∧ ∀ w : World, p.In w → Calls Tryz.prog 34 #[.agg #[.bool p.g, .slice p.A p.n p.c, .bool p.gd, .slice p.Ad p.nd p.cd], .int .i64 s] w (RetZE z ez w)) (c2 : (∀ w : World, p.In w → Calls Tryz.prog 37 #[.agg #[.bool p.g, .slice p.A p.n p.c, .bool p.gd, .slice p.Ad p.nd p.cd]] w (fun e w' => e = .returned (.int .i64 v) ∧ Below w.heap.size w w')) ∧ ∀ w : World, p.In w → Calls Tryz.prog 38 #[.agg #[.bool p.g, .slice p.A p.n p.c, .bool p.gd, .slice p.Ad p.nd p.cd]] w (fun e w' => e = .returned (.int .i64 v) ∧ Below w.heap.size w w')) (c3 : (∀ w : World, p.In w → Calls Tryz.prog 35 #[.agg #[.bool p.g, .slice p.A p.n p.c, .bool p.gd, .slice p.Ad p.nd p.cd]] w (RetRB zs ds true es w)) ∧ ∀ w : World, p.In w → Calls Tryz.prog 36 #[.agg #[.bool p.g, .slice p.A p.n p.c, .bool p.gd, .slice p.Ad p.nd p.cd]] w (RetRB zs ds true es w)) (hne : ∀ e : Int, (e == e) = true) :
    Calls Tryz.prog 5 #[.agg #[.bool p.g, .slice p.A p.n p.c, .bool p.gd, .slice p.Ad p.nd p.cd], .agg #[.bool q.g, .slice q.A q.n q.c, .bool q.gd, .slice q.Ad q.nd q.cd], .int .i64 s] w fun e w' => e = .returned (.bool true) ∧ Below w.heap.size w w' := by
  have C0 := hI c0
  have C1 := hI c1
  have C2 := hI c2
  have C3 := hI c3
  have HN := hI hne
  clear c0 c1 c2 c3 hne
  have Ia_0 := hI ha
  clear ha
  have Ib_0 := hI hb
  clear hb
  have B_0 : Hid (Below w.heap.size w w) := hI (Below.refl _ _)
  go_enter Tryz.func5, Tryz.ntmps5
  go_wp2_with fail
  generalize hW : World.alloc w _ = W1
  have hn := below_new w (.cells #[.bool p.g, .slice p.A p.n p.c, .bool p.gd, .slice p.Ad p.nd p.cd] 27)
  rw [hW] at hn
  have hz : W1.heap.size = w.heap.size + 1 := by rw [← hW]; simp
  have hx : Rb W1 w.heap.size p := by rw [← hW]; exact Rb.new (q := p) Ia_0.out
  have Ib_1 := hI (Ib_0.out.on hn)
  have B_2 := hI (below_chain B_0.out B_0.out.size hn)
  generalize hr : w.heap.size = r at *
  have HRr := hI hr
  clear hr
  have Xa_3 : Hid (Rb W1 r p) := hI hx
  have HT3 := hz
  clear hn hx hz hW Ib_0 B_0 Ia_0
  generalize hW : World.alloc W1 _ = W4
  have hn := below_new W1 (.cells #[.bool q.g, .slice q.A q.n q.c, .bool q.gd, .slice q.Ad q.nd q.cd] 27)
  rw [hW] at hn
  have hx : Rb W4 W1.heap.size q := by rw [← hW]; exact Rb.new (q := q) Ib_1.out
  have hlt : r < W1.heap.size := Xa_3.out.lt
  have B_4 := hI (bch B_2.out HRr.out hn)
  have Xa_5 := hI (Xa_3.out.on hn)
  rw [HT3] at hx hlt
  have Xb_6 : Hid (Rb W4 (r + 1) q) := hI hx
  clear hn hx hW hlt B_2 Xa_3 Ib_1
  clear HT3
  refine (sane W4).mono ?_
  rintro e w7 ⟨rfl, hb⟩
  have B_7 := hI (bch B_4.out HRr.out hb)
  have Xa_8 := hI (Xa_5.out.on hb)
  have Xb_9 := hI (Xb_6.out.on hb)
  clear hb B_4 Xa_5 Xb_6
  obtain ⟨ka0, ka1, ka2, ka3⟩ := Xa_8.out.cs
  have la := Xa_8.out.lt
  obtain ⟨kb0, kb1, kb2, kb3⟩ := Xb_9.out.cs
  have lb := Xb_9.out.lt
  go_wp2_with fail
  refine (C0.out.1 w7 Xa_8.out.sl Xb_9.out.sl).mono ?_
  clear ka0 ka1 ka2 ka3 la kb0 kb1 kb2 kb3 lb
  rintro e w10 ⟨rfl, hb⟩
  have B_10 := hI (bch B_7.out HRr.out hb)
  have Xa_11 := hI (Xa_8.out.on hb)
  have Xb_12 := hI (Xb_9.out.on hb)
  clear hb B_7 Xa_8 Xb_9
  obtain ⟨ka0, ka1, ka2, ka3⟩ := Xa_11.out.cs
  have la := Xa_11.out.lt
  obtain ⟨kb0, kb1, kb2, kb3⟩ := Xb_12.out.cs
  have lb := Xb_12.out.lt
  go_wp2_with fail
  refine (C0.out.2 w10 Xa_11.out.sl Xb_12.out.sl).mono ?_
  clear ka0 ka1 ka2 ka3 la kb0 kb1 kb2 kb3 lb
  rintro e w13 ⟨rfl, hb⟩
  have B_13 := hI (bch B_10.out HRr.out hb)
  have Xa_14 := hI (Xa_11.out.on hb)
  have Xb_15 := hI (Xb_12.out.on hb)
  clear hb B_10 Xa_11 Xb_12
  clear Xb_15
  obtain ⟨ka0, ka1, ka2, ka3⟩ := Xa_14.out.cs
  have la := Xa_14.out.lt
  go_wp2_with fail
  refine (C1.out.1 w13 Xa_14.out.sl).mono ?_
  clear ka0 ka1 ka2 ka3 la
  rintro e w16 ⟨gn, An, nn, cn, xsn, rfl, hs, ho, hb⟩
  have B_16 := hI (bch B_13.out HRr.out hb)
  have Xa_17 := hI (Xa_14.out.on hb)
  have Jn_18 : Hid (Sl w16 w16.heap.size An nn cn xsn) := hI hs
  clear hb B_13 Xa_14 hs
  have Vn := hI ho
  clear ho
  obtain ⟨ka0, ka1, ka2, ka3⟩ := (Xa_17.out.on (below_new w16 (.cells #[.bool gn, .slice An nn cn] 24))).cs
  have la := Xa_17.out.lt
  go_wp2_with fail
  generalize hW : World.alloc w16 _ = W19
  have hn := below_new w16 (.cells #[.bool gn, .slice An nn cn] 24)
  rw [hW] at hn
  have hx : Ba W19 w16.heap.size gn An nn cn xsn := by rw [← hW]; exact ⟨Bx.new w16 _ _ _ _, Jn_18.out.on (below_new _ _)⟩
  have hlt : r < w16.heap.size := Xa_17.out.lt
  have B_19 := hI (bch B_16.out HRr.out hn)
  have Xa_20 := hI (Xa_17.out.on hn)
  generalize hbb : w16.heap.size = b1 at *
  clear hbb
  have Zn_21 : Hid (Ba W19 b1 gn An nn cn xsn) := hI hx
  have O21 := hI hlt
  clear hn hx hW hlt B_16 Xa_17 Jn_18
  refine (C1.out.2 W19 Xa_20.out.sl).mono ?_
  clear ka0 ka1 ka2 ka3 la
  rintro e w22 ⟨gm, Am, nm, cm, xsm, rfl, hs, ho, hb⟩
  have B_22 := hI (bch B_19.out HRr.out hb)
  have Xa_23 := hI (Xa_20.out.on hb)
  have Zn_24 := hI (Zn_21.out.on hb)
  have Jm_25 : Hid (Sl w22 w22.heap.size Am nm cm xsm) := hI hs
  clear hb B_19 Xa_20 Zn_21 hs
  have Vm := hI ho
  clear ho
  obtain ⟨ka0, ka1, ka2, ka3⟩ := (Xa_23.out.on (below_new w22 (.cells #[.bool gm, .slice Am nm cm] 24))).cs
  have la := Xa_23.out.lt
  go_wp2_with fail
  generalize hW : World.alloc w22 _ = W26
  have hn := below_new w22 (.cells #[.bool gm, .slice Am nm cm] 24)
  rw [hW] at hn
  have hx : Ba W26 w22.heap.size gm Am nm cm xsm := by rw [← hW]; exact ⟨Bx.new w22 _ _ _ _, Jm_25.out.on (below_new _ _)⟩
  have hlt : b1 < w22.heap.size := Zn_24.out.bx.lt
  have B_26 := hI (bch B_22.out HRr.out hn)
  have Xa_27 := hI (Xa_23.out.on hn)
  have Zn_28 := hI (Zn_24.out.on hn)
  generalize hbb : w22.heap.size = b2 at *
  clear hbb
  have Zm_29 : Hid (Ba W26 b2 gm Am nm cm xsm) := hI hx
  have O29 := hI hlt
  clear hn hx hW hlt B_22 Xa_23 Zn_24 Jm_25
  refine (C3.out.1 W26 Xa_27.out.sl).mono ?_
  clear ka0 ka1 ka2 ka3 la
  rintro e w30 ⟨tk, rfl, hi, hv, hv2, hb⟩
  have B_30 := hI (bch B_26.out HRr.out hb)
  have Xa_31 := hI (Xa_27.out.on hb)
  have Zn_32 := hI (Zn_28.out.on hb)
  have Zm_33 := hI (Zm_29.out.on hb)
  have Ik_34 : Hid (tk.In w30) := hI hi
  clear hb B_26 Xa_27 Zn_28 Zm_29 hi
  have Vk := hI (And.intro hv hv2)
  clear hv hv2
  obtain ⟨ka0, ka1, ka2, ka3⟩ := (Xa_31.out.on (below_new w30 (.cells #[.bool tk.g, .slice tk.A tk.n tk.c, .bool tk.gd, .slice tk.Ad tk.nd tk.cd] 27))).cs
  have la := Xa_31.out.lt
  go_wp2_with fail
  generalize hW : World.alloc w30 _ = W35
  have hn := below_new w30 (.cells #[.bool tk.g, .slice tk.A tk.n tk.c, .bool tk.gd, .slice tk.Ad tk.nd tk.cd] 27)
  rw [hW] at hn
  have hx : Rb W35 w30.heap.size tk := by rw [← hW]; exact Rb.new (q := tk) Ik_34.out
  have hlt : b2 < w30.heap.size := Zm_33.out.bx.lt
  have B_35 := hI (bch B_30.out HRr.out hn)
  have Xa_36 := hI (Xa_31.out.on hn)
  have Zn_37 := hI (Zn_32.out.on hn)
  have Zm_38 := hI (Zm_33.out.on hn)
  generalize hbb : w30.heap.size = b3 at *
  clear hbb
  have Xk_39 : Hid (Rb W35 b3 tk) := hI hx
  have O39 := hI hlt
  clear hn hx hW hlt B_30 Xa_31 Zn_32 Zm_33 Ik_34
  refine (C3.out.2 W35 Xa_36.out.sl).mono ?_
  clear ka0 ka1 ka2 ka3 la
  rintro e w40 ⟨tf, rfl, hi, hv, hv2, hb⟩
  have B_40 := hI (bch B_35.out HRr.out hb)
  have Xa_41 := hI (Xa_36.out.on hb)
  have Zn_42 := hI (Zn_37.out.on hb)
  have Zm_43 := hI (Zm_38.out.on hb)
  have Xk_44 := hI (Xk_39.out.on hb)
  have If_45 : Hid (tf.In w40) := hI hi
  clear hb B_35 Xa_36 Zn_37 Zm_38 Xk_39 hi
  have Vf := hI (And.intro hv hv2)
  clear hv hv2
  go_upto_region 8 with fail
  generalize hW : World.alloc w40 _ = W46
  have hn := below_new w40 (.cells #[.bool tf.g, .slice tf.A tf.n tf.c, .bool tf.gd, .slice tf.Ad tf.nd tf.cd] 27)
  rw [hW] at hn
  have hx : Rb W46 w40.heap.size tf := by rw [← hW]; exact Rb.new (q := tf) If_45.out
  have hlt : b3 < w40.heap.size := Xk_44.out.lt
  have B_46 := hI (bch B_40.out HRr.out hn)
  have Xa_47 := hI (Xa_41.out.on hn)
  have Zn_48 := hI (Zn_42.out.on hn)
  have Zm_49 := hI (Zm_43.out.on hn)
  have Xk_50 := hI (Xk_44.out.on hn)
  generalize hbb : w40.heap.size = b4 at *
  clear hbb
  have Xf_51 : Hid (Rb W46 b4 tf) := hI hx
  have O51 := hI hlt
  clear hn hx hW hlt B_40 Xa_41 Zn_42 Zm_43 Xk_44 If_45
  have q1 := HN.out u
  have q2 := HN.out e
  have q3 := HN.out v
  have q4 := HN.out ez
  have q5 := HN.out es
  obtain ⟨ka0, ka1, ka2, ka3⟩ := Xa_47.out.cs
  have la := Xa_47.out.lt
  obtain ⟨kn0, kn1⟩ := Zn_48.out.cs
  have ln := Zn_48.out.bx.lt
  obtain ⟨km0, km1⟩ := Zm_49.out.cs
  have lm := Zm_49.out.bx.lt
  obtain ⟨kk0, kk1, kk2, kk3⟩ := Xk_50.out.cs
  have lk := Xk_50.out.lt
  obtain ⟨kf0, kf1, kf2, kf3⟩ := Xf_51.out.cs
  have lf := Xf_51.out.lt
  have B_52 := hI (B_46.out.drew)
  have Xa_53 := hI (Xa_47.out.drew)
  have Zn_54 := hI (Zn_48.out.drewZ)
  have Zm_55 := hI (Zm_49.out.drewZ)
  have Xk_56 := hI (Xk_50.out.drew)
  have Xf_57 := hI (Xf_51.out.drew)
  go_region_held3 (fun w' => w'.cell? ⟨r, 0, none⟩ = some (.bool p.g) ∧ w'.cell? ⟨r, 1, none⟩ = some (.slice p.A p.n p.c) ∧ w'.cell? ⟨r, 2, none⟩ = some (.bool p.gd) ∧ w'.cell? ⟨r, 3, none⟩ = some (.slice p.Ad p.nd p.cd) ∧ w'.cell? ⟨b1, 0, none⟩ = some (.bool gn) ∧ w'.cell? ⟨b1, 1, none⟩ = some (.slice An nn cn) ∧ w'.cell? ⟨b2, 0, none⟩ = some (.bool gm) ∧ w'.cell? ⟨b2, 1, none⟩ = some (.slice Am nm cm) ∧ w'.cell? ⟨b3, 0, none⟩ = some (.bool tk.g) ∧ w'.cell? ⟨b3, 1, none⟩ = some (.slice tk.A tk.n tk.c) ∧ w'.cell? ⟨b3, 2, none⟩ = some (.bool tk.gd) ∧ w'.cell? ⟨b3, 3, none⟩ = some (.slice tk.Ad tk.nd tk.cd) ∧ w'.cell? ⟨b4, 0, none⟩ = some (.bool tf.g) ∧ w'.cell? ⟨b4, 1, none⟩ = some (.slice tf.A tf.n tf.c) ∧ w'.cell? ⟨b4, 2, none⟩ = some (.bool tf.gd) ∧ w'.cell? ⟨b4, 3, none⟩ = some (.slice tf.Ad tf.nd tf.cd)) (go_keep)
    (first
      | (go_at_call 22; have C := same_q _ _ _ Xk_74.out.sl Xf_75.out.sl _ _ Vk.out.1 Vk.out.2 Vf.out.1 Vf.out.2; (with_reducible refine C.mono ?_); clear C; rintro e w76 ⟨rfl, hb⟩; have B_76 := hI (bch B_70.out HRr.out hb); have Xa_77 := hI (Xa_71.out.on hb); have Zn_78 := hI (Zn_72.out.on hb); have Zm_79 := hI (Zm_73.out.on hb); have Xk_80 := hI (Xk_74.out.on hb); have Xf_81 := hI (Xf_75.out.on hb); clear hb B_70 Xa_71 Zn_72 Zm_73 Xk_74 Xf_75 ka0 ka1 ka2 ka3 la kn0 kn1 ln km0 km1 lm kk0 kk1 kk2 kk3 lk kf0 kf1 kf2 kf3 lf; obtain ⟨ka0, ka1, ka2, ka3⟩ := Xa_77.out.cs; have la := Xa_77.out.lt; obtain ⟨kn0, kn1⟩ := Zn_78.out.cs; have ln := Zn_78.out.bx.lt; obtain ⟨km0, km1⟩ := Zm_79.out.cs; have lm := Zm_79.out.bx.lt; obtain ⟨kk0, kk1, kk2, kk3⟩ := Xk_80.out.cs; have lk := Xk_80.out.lt; obtain ⟨kf0, kf1, kf2, kf3⟩ := Xf_81.out.cs; have lf := Xf_81.out.lt)
      | (go_at_call 39; have C := ints_yes _ _ _ _ _ _ _ _ _ _ _ Zn_66.out.sl Zm_67.out.sl (ov_same Zn_66.out.sl Zm_67.out.sl Vn.out Vm.out).1 (ov_same Zn_66.out.sl Zm_67.out.sl Vn.out Vm.out).2; (with_reducible refine C.mono ?_); clear C; rintro e w70 ⟨rfl, hb⟩; have B_70 := hI (bch B_64.out HRr.out hb); have Xa_71 := hI (Xa_65.out.on hb); have Zn_72 := hI (Zn_66.out.on hb); have Zm_73 := hI (Zm_67.out.on hb); have Xk_74 := hI (Xk_68.out.on hb); have Xf_75 := hI (Xf_69.out.on hb); clear hb B_64 Xa_65 Zn_66 Zm_67 Xk_68 Xf_69 ka0 ka1 ka2 ka3 la kn0 kn1 ln km0 km1 lm kk0 kk1 kk2 kk3 lk kf0 kf1 kf2 kf3 lf; obtain ⟨ka0, ka1, ka2, ka3⟩ := Xa_71.out.cs; have la := Xa_71.out.lt; obtain ⟨kn0, kn1⟩ := Zn_72.out.cs; have ln := Zn_72.out.bx.lt; obtain ⟨km0, km1⟩ := Zm_73.out.cs; have lm := Zm_73.out.bx.lt; obtain ⟨kk0, kk1, kk2, kk3⟩ := Xk_74.out.cs; have lk := Xk_74.out.lt; obtain ⟨kf0, kf1, kf2, kf3⟩ := Xf_75.out.cs; have lf := Xf_75.out.lt)
      | (go_at_call 38; have C := C2.out.2 _ Xa_59.out.sl; (with_reducible refine C.mono ?_); clear C; rintro e w64 ⟨rfl, hb⟩; have B_64 := hI (bch B_58.out HRr.out hb); have Xa_65 := hI (Xa_59.out.on hb); have Zn_66 := hI (Zn_60.out.on hb); have Zm_67 := hI (Zm_61.out.on hb); have Xk_68 := hI (Xk_62.out.on hb); have Xf_69 := hI (Xf_63.out.on hb); clear hb B_58 Xa_59 Zn_60 Zm_61 Xk_62 Xf_63 ka0 ka1 ka2 ka3 la kn0 kn1 ln km0 km1 lm kk0 kk1 kk2 kk3 lk kf0 kf1 kf2 kf3 lf; obtain ⟨ka0, ka1, ka2, ka3⟩ := Xa_65.out.cs; have la := Xa_65.out.lt; obtain ⟨kn0, kn1⟩ := Zn_66.out.cs; have ln := Zn_66.out.bx.lt; obtain ⟨km0, km1⟩ := Zm_67.out.cs; have lm := Zm_67.out.bx.lt; obtain ⟨kk0, kk1, kk2, kk3⟩ := Xk_68.out.cs; have lk := Xk_68.out.lt; obtain ⟨kf0, kf1, kf2, kf3⟩ := Xf_69.out.cs; have lf := Xf_69.out.lt)
      | (go_at_call 37; have C := C2.out.1 _ Xa_53.out.sl; (with_reducible refine C.mono ?_); clear C; rintro e w58 ⟨rfl, hb⟩; have B_58 := hI (bch B_52.out HRr.out hb); have Xa_59 := hI (Xa_53.out.on hb); have Zn_60 := hI (Zn_54.out.on hb); have Zm_61 := hI (Zm_55.out.on hb); have Xk_62 := hI (Xk_56.out.on hb); have Xf_63 := hI (Xf_57.out.on hb); clear hb B_52 Xa_53 Zn_54 Zm_55 Xk_56 Xf_57 ka0 ka1 ka2 ka3 la kn0 kn1 ln km0 km1 lm kk0 kk1 kk2 kk3 lk kf0 kf1 kf2 kf3 lf; obtain ⟨ka0, ka1, ka2, ka3⟩ := Xa_59.out.cs; have la := Xa_59.out.lt; obtain ⟨kn0, kn1⟩ := Zn_60.out.cs; have ln := Zn_60.out.bx.lt; obtain ⟨km0, km1⟩ := Zm_61.out.cs; have lm := Zm_61.out.bx.lt; obtain ⟨kk0, kk1, kk2, kk3⟩ := Xk_62.out.cs; have lk := Xk_62.out.lt; obtain ⟨kf0, kf1, kf2, kf3⟩ := Xf_63.out.cs; have lf := Xf_63.out.lt))
  skip
  clear ka0 ka1 ka2 ka3 la kn0 kn1 ln km0 km1 lm kk0 kk1 kk2 kk3 lk kf0 kf1 kf2 kf3 lf
  clear q1 q2 q3 q4 q5
  go_wp2
  go_ret
  exact ⟨rfl, (by rw [HRr.out]; exact B_76.out)⟩
theorem rationalMatchesOrder_any (p q : RVal) (s : Int) (w : World) (h : p.In w) (h' : q.In w) (h1 : -9223372036854775808 ≤ s) (h2 : s ≤ 9223372036854775807) :
    Calls Tryz.prog 5 #[.agg #[.bool p.g, .slice p.A p.n p.c, .bool p.gd, .slice p.Ad p.nd p.cd], .agg #[.bool q.g, .slice q.A q.n q.c, .bool q.gd, .slice q.Ad q.nd q.cd], .int .i64 s] w fun e w' => e = .returned (.bool true) ∧ Below w.heap.size w w' := by
  obtain ⟨u, e, c0⟩ := cmp_pair p q
  obtain ⟨z, ez, c1⟩ := floor_pair p w h s h1 h2
  obtain ⟨v, c2⟩ := sign_pair p
  obtain ⟨zs, ds, b, es, c3⟩ := sqrt_pair p
  rcases b with _ | _
  · exact order_false p q s w h h' u e z ez v zs ds es c0 c1 c2 c3 (fun e => beq_self_eq_true e)
  · exact order_true p q s w h h' u e z ez v zs ds es c0 c1 c2 c3 (fun e => beq_self_eq_true e)
end Go.Proofs.YtlibjampolcbhaaGreat
