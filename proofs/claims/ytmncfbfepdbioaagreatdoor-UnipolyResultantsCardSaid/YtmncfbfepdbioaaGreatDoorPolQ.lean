/-
 Stage 2: Add, Sub, Mul and Div of the rationals. Stage 2: Floor of the rationals. Stage 2: Sqrt of the rationals. Stage 3: polynomials on lists of rationals: sums, products and their laws by coefficients, the value, the derivative, the division. Stage 3: the program's functions on lists of rationals have the coefficients that polynomials have. Stage 3: the derivative of sums, products and compositions; the division by x - n. Stage 3: on lists of small integers the program's functions make no error: what they compute, and how great it may be. Stage 3: divisors of polynomials, and the greatest c
-/
import Derived.Test.YtmncfbfepdbioaaGreatDoorRatH
import Derived.Test.YtmncfbfepdbioaaGreatDoorPolX
set_option maxHeartbeats 1000000
namespace Go.Proofs.YtmncfbfepdbioaaGreatDoor
open Go.RowKit
theorem kf_zero {e : Int} (h : e = 0) : Kf 0 e 0 := Or.inl ⟨rfl, h.symm⟩
theorem kp_two {e : Int} (f : Int) (h : f = 2) : kp f e = 2 := by subst h; rfl
theorem fitE_or (z : Int) : fitE z = 0 /\ fitZ z = z /\ z.natAbs < BIG \/ fitE z = 2 := by
 by_cases h : z.natAbs < BIG
 . exact Or.inl ⟨(fit_yes h).2, (fit_yes h).1, h⟩
 . exact Or.inr (fit_no h).2
theorem mk_ok {s d : Int} (h : d ≠ 0) : mkN (some s) (some d) = (Rat.divInt s d).num /\ mkD (some s) (some d) = ((Rat.divInt s d).den : Int) /\ mkE (some s) (some d) = 0 :=
 ⟨if_neg h, if_neg h, if_neg h⟩
theorem isSome_of {o o' : Option Int} {x : Rat} (h : rv o o' = some x) : (rv o o').isSome = true := by rw [h]; rfl
theorem walk_Add (q q' : RVal) (N D E : Int) (w : World) (h : q.In w) (h' : q'.In w)
 (HC : Hid (∀ (W : World) (ca cb : Nat), Rb W ca q -> Rb W cb q' -> Calls Tryz.prog 85 #[.agg #[.bool q.g, .slice q.A q.n q.c, .bool q.gd, .slice q.Ad q.nd q.cd], .agg #[.bool q'.g, .slice q'.A q'.n q'.c, .bool q'.gd, .slice q'.Ad q'.nd q'.cd], .func (.func 86) #[] #[.pointer (some ⟨ca, 0, none⟩), .pointer (some ⟨cb, 0, none⟩)]] W (RetR N D E W))) :
 Calls Tryz.prog 38 #[.agg #[.bool q.g, .slice q.A q.n q.c, .bool q.gd, .slice q.Ad q.nd q.cd], .agg #[.bool q'.g, .slice q'.A q'.n q'.c, .bool q'.gd, .slice q'.Ad q'.nd q'.cd]] w (RetR N D E w) := by
 have hmf : ∀ (fn : Fn) (first cap : Array Value) (w : World), (Instr.makeFunc fn first cap).run Tryz.prog w = .ok (.func fn first cap) w := fun _ _ _ _ => rfl
 have HS := Lib.hid (And.intro h h')
 clear h h'
 go_enter Tryz.func38, Tryz.ntmps38
 go_wp2_with fail
 generalize hW : World.alloc (World.alloc (World.alloc w _) _) _ = V
 obtain ⟨hb, ra, rb, rr⟩ := two_rats_nil q q' w V HS.out.1 HS.out.2 hW
 have HB := Lib.hid hb
 have HR := Lib.hid (And.intro ra (And.intro rb rr))
 clear hW hb ra rb rr
 refine (HC.out V _ _ HR.out.1 HR.out.2.1).mono ?_
 rintro e w3 ⟨t, rfl, hq, ho, hod, hb3⟩
 have R3 := Lib.hid (HR.out.2.2.on hb3)
 have B3 := Lib.hid (below_chain HB.out HB.out.size hb3)
 have HQ := Lib.hid (And.intro hq (And.intro ho hod))
 clear hq ho hod hb3 HR HB
 have f0 := R3.out.f 0
 have f1 := R3.out.f 1
 have f2 := R3.out.f 2
 have f3 := R3.out.f 3
 have q0 := R3.out.c0
 have q1 := R3.out.c1
 have q2 := R3.out.c2
 have q3 := R3.out.c3
 simp only [RVal.nil] at q0 q1 q2 q3
 go_wp2
 generalize hU : World.setCell (World.setCell (World.setCell (World.setCell w3 _ _) _ _) _ _) _ _ = U
 have RU' := (Rb.put R3.out HQ.out.1)
 have RU : Rb U (w.heap.size + 1 + 1) t := by rw [<- hU]; exact RU'
 have HU : Below w.heap.size w U := by rw [<- hU]; exact (below_put4 B3.out (show w.heap.size <= w.heap.size + 1 + 1 by omega) _ _ _ _)
 have j0 := RU.c0
 have j1 := RU.c1
 have j2 := RU.c2
 have j3 := RU.c3
 refine bodyPost_ret (v := .tuple #[.agg #[.bool t.g, .slice t.A t.n t.c, .bool t.gd, .slice t.Ad t.nd t.cd], .int .i64 E]) (by simp [results, Tryz.results38, go_sem, j0, j1, j2, j3]) rfl ?_
 exact RetR.of RU HQ.out.2.1 HQ.out.2.2 HU
theorem add_ok {q q' : RVal} {x y : Rat} {w : World} (h : q.In w) (h' : q'.In w) (hx : rv q.o q.od = some x) (hy : rv q'.o q'.od = some y) (f1 : (x.num * y.den).natAbs < BIG) (f2 : (y.num * x.den).natAbs < BIG) (f3 : (x.num * y.den + y.num * x.den).natAbs < BIG) (f4 : ((x.den : Int) * y.den).natAbs < BIG) :
 Calls Tryz.prog 38 #[.agg #[.bool q.g, .slice q.A q.n q.c, .bool q.gd, .slice q.Ad q.nd q.cd], .agg #[.bool q'.g, .slice q'.A q'.n q'.c, .bool q'.gd, .slice q'.Ad q'.nd q'.cd]] w (RetR (x + y).num ((x + y).den : Int) 0 w) := by
 have ox := rv_some hx
 have oy := rv_some hy
 have g1 := fit_yes f1
 have g2 := fit_yes f2
 have g3 := fit_yes f3
 have g4 := fit_yes f4
 have m := mk_ok (s := x.num * y.den + y.num * x.den) (den2_ne x y)
 rw [rat_add] at m
 refine walk_Add q q' _ _ _ w h h' (Lib.hid fun W ca cb ra rb => ?_)
 refine combine_Add_ok q q' W ra.sl rb.sl ca cb _ _ _ _ _ (isSome_of hx) (isSome_of hy) (Lib.hid fun W1 p hb hp hc => ?_) m.1 m.2.1 m.2.2
 exact clo_Add q q' ca cb p _ _ _ _ _ _ _ _ 0 0 0 0 W1 (ra.on hb) (rb.on hb) hc ox.1 ox.2 oy.1 oy.2 g1.1 g2.1 g3.1 g4.1 (kf_zero g1.2) (kf_zero g2.2) (kf_zero g3.2) (kf_zero g4.2)
theorem add_no {q q' : RVal} {x y : Rat} {w : World} (h : q.In w) (h' : q'.In w) (hx : rv q.o q.od = some x) (hy : rv q'.o q'.od = some y) (hn : ¬ ((x.num * y.den).natAbs < BIG /\ (y.num * x.den).natAbs < BIG /\ (x.num * y.den + y.num * x.den).natAbs < BIG /\ ((x.den : Int) * y.den).natAbs < BIG)) :
 Calls Tryz.prog 38 #[.agg #[.bool q.g, .slice q.A q.n q.c, .bool q.gd, .slice q.Ad q.nd q.cd], .agg #[.bool q'.g, .slice q'.A q'.n q'.c, .bool q'.gd, .slice q'.Ad q'.nd q'.cd]] w (RetR 0 0 2 w) := by
 have ox := rv_some hx
 have oy := rv_some hy
 have k : kp (kp (kp (kp 0 (fitE (x.num * y.den))) (fitE (y.num * x.den))) (fitE (fitZ (x.num * y.den) + fitZ (y.num * x.den)))) (fitE ((x.den : Int) * y.den)) = 2 := by
  rcases fitE_or (x.num * y.den) with ⟨e1, z1, l1⟩ | e1
  . rw [e1]
    rcases fitE_or (y.num * x.den) with ⟨e2, z2, l2⟩ | e2
    . rw [e2, z1, z2]
      rcases fitE_or (x.num * y.den + y.num * x.den) with ⟨e3, _, l3⟩ | e3
      . rw [e3]
        rcases fitE_or ((x.den : Int) * y.den) with ⟨_, _, l4⟩ | e4
        . exact absurd ⟨l1, l2, l3, l4⟩ hn
        . rw [e4]; rfl
      . rw [e3]; exact kp_two _ rfl
    . rw [e2]; exact kp_two _ (kp_two _ rfl)
  . rw [e1]; exact kp_two _ (kp_two _ (kp_two _ rfl))
 refine walk_Add q q' _ _ _ w h h' (Lib.hid fun W ca cb ra rb => ?_)
 refine combine_Add_no q q' W ra.sl rb.sl ca cb (fitZ (fitZ (x.num * y.den) + fitZ (y.num * x.den))) (fitZ ((x.den : Int) * y.den)) 2 (isSome_of hx) (isSome_of hy) (Lib.hid fun W1 p hb hp hc => ?_) (by decide)
 refine clo_Add q q' ca cb p _ _ _ _ _ _ _ _ _ _ _ 2 W1 (ra.on hb) (rb.on hb) hc ox.1 ox.2 oy.1 oy.2 rfl rfl rfl rfl (kp_or _ _) (kp_or _ _) (kp_or _ _) ?_
 have := kp_or (kp (kp (kp 0 (fitE (x.num * y.den))) (fitE (y.num * x.den))) (fitE (fitZ (x.num * y.den) + fitZ (y.num * x.den)))) (fitE ((x.den : Int) * y.den))
 rwa [k] at this
theorem walk_Sub (q q' : RVal) (N D E : Int) (w : World) (h : q.In w) (h' : q'.In w)
 (HC : Hid (∀ (W : World) (ca cb : Nat), Rb W ca q -> Rb W cb q' -> Calls Tryz.prog 85 #[.agg #[.bool q.g, .slice q.A q.n q.c, .bool q.gd, .slice q.Ad q.nd q.cd], .agg #[.bool q'.g, .slice q'.A q'.n q'.c, .bool q'.gd, .slice q'.Ad q'.nd q'.cd], .func (.func 165) #[] #[.pointer (some ⟨ca, 0, none⟩), .pointer (some ⟨cb, 0, none⟩)]] W (RetR N D E W))) :
 Calls Tryz.prog 129 #[.agg #[.bool q.g, .slice q.A q.n q.c, .bool q.gd, .slice q.Ad q.nd q.cd], .agg #[.bool q'.g, .slice q'.A q'.n q'.c, .bool q'.gd, .slice q'.Ad q'.nd q'.cd]] w (RetR N D E w) := by
 have hmf : ∀ (fn : Fn) (first cap : Array Value) (w : World), (Instr.makeFunc fn first cap).run Tryz.prog w = .ok (.func fn first cap) w := fun _ _ _ _ => rfl
 have HS := Lib.hid (And.intro h h')
 clear h h'
 go_enter Tryz.func129, Tryz.ntmps129
 go_wp2_with fail
 generalize hW : World.alloc (World.alloc (World.alloc w _) _) _ = V
 obtain ⟨hb, ra, rb, rr⟩ := two_rats_nil q q' w V HS.out.1 HS.out.2 hW
 have HB := Lib.hid hb
 have HR := Lib.hid (And.intro ra (And.intro rb rr))
 clear hW hb ra rb rr
 refine (HC.out V _ _ HR.out.1 HR.out.2.1).mono ?_
 rintro e w3 ⟨t, rfl, hq, ho, hod, hb3⟩
 have R3 := Lib.hid (HR.out.2.2.on hb3)
 have B3 := Lib.hid (below_chain HB.out HB.out.size hb3)
 have HQ := Lib.hid (And.intro hq (And.intro ho hod))
 clear hq ho hod hb3 HR HB
 have f0 := R3.out.f 0
 have f1 := R3.out.f 1
 have f2 := R3.out.f 2
 have f3 := R3.out.f 3
 have q0 := R3.out.c0
 have q1 := R3.out.c1
 have q2 := R3.out.c2
 have q3 := R3.out.c3
 simp only [RVal.nil] at q0 q1 q2 q3
 go_wp2
 generalize hU : World.setCell (World.setCell (World.setCell (World.setCell w3 _ _) _ _) _ _) _ _ = U
 have RU' := (Rb.put R3.out HQ.out.1)
 have RU : Rb U (w.heap.size + 1 + 1) t := by rw [<- hU]; exact RU'
 have HU : Below w.heap.size w U := by rw [<- hU]; exact (below_put4 B3.out (show w.heap.size <= w.heap.size + 1 + 1 by omega) _ _ _ _)
 have j0 := RU.c0
 have j1 := RU.c1
 have j2 := RU.c2
 have j3 := RU.c3
 refine bodyPost_ret (v := .tuple #[.agg #[.bool t.g, .slice t.A t.n t.c, .bool t.gd, .slice t.Ad t.nd t.cd], .int .i64 E]) (by simp [results, Tryz.results129, go_sem, j0, j1, j2, j3]) rfl ?_
 exact RetR.of RU HQ.out.2.1 HQ.out.2.2 HU
theorem sub_ok {q q' : RVal} {x y : Rat} {w : World} (h : q.In w) (h' : q'.In w) (hx : rv q.o q.od = some x) (hy : rv q'.o q'.od = some y) (f1 : (x.num * y.den).natAbs < BIG) (f2 : (y.num * x.den).natAbs < BIG) (f3 : (x.num * y.den - y.num * x.den).natAbs < BIG) (f4 : ((x.den : Int) * y.den).natAbs < BIG) :
 Calls Tryz.prog 129 #[.agg #[.bool q.g, .slice q.A q.n q.c, .bool q.gd, .slice q.Ad q.nd q.cd], .agg #[.bool q'.g, .slice q'.A q'.n q'.c, .bool q'.gd, .slice q'.Ad q'.nd q'.cd]] w (RetR (x - y).num ((x - y).den : Int) 0 w) := by
 have ox := rv_some hx
 have oy := rv_some hy
 have g1 := fit_yes f1
 have g2 := fit_yes f2
 have g3 := fit_yes f3
 have g4 := fit_yes f4
 have m := mk_ok (s := x.num * y.den - y.num * x.den) (den2_ne x y)
 rw [rat_sub] at m
 refine walk_Sub q q' _ _ _ w h h' (Lib.hid fun W ca cb ra rb => ?_)
 refine combine_Sub_ok q q' W ra.sl rb.sl ca cb _ _ _ _ _ (isSome_of hx) (isSome_of hy) (Lib.hid fun W1 p hb hp hc => ?_) m.1 m.2.1 m.2.2
 exact clo_Sub q q' ca cb p _ _ _ _ _ _ _ _ 0 0 0 0 W1 (ra.on hb) (rb.on hb) hc ox.1 ox.2 oy.1 oy.2 g1.1 g2.1 g3.1 g4.1 (kf_zero g1.2) (kf_zero g2.2) (kf_zero g3.2) (kf_zero g4.2)
theorem sub_no {q q' : RVal} {x y : Rat} {w : World} (h : q.In w) (h' : q'.In w) (hx : rv q.o q.od = some x) (hy : rv q'.o q'.od = some y) (hn : ¬ ((x.num * y.den).natAbs < BIG /\ (y.num * x.den).natAbs < BIG /\ (x.num * y.den - y.num * x.den).natAbs < BIG /\ ((x.den : Int) * y.den).natAbs < BIG)) :
 Calls Tryz.prog 129 #[.agg #[.bool q.g, .slice q.A q.n q.c, .bool q.gd, .slice q.Ad q.nd q.cd], .agg #[.bool q'.g, .slice q'.A q'.n q'.c, .bool q'.gd, .slice q'.Ad q'.nd q'.cd]] w (RetR 0 0 2 w) := by
 have ox := rv_some hx
 have oy := rv_some hy
 have k : kp (kp (kp (kp 0 (fitE (x.num * y.den))) (fitE (y.num * x.den))) (fitE (fitZ (x.num * y.den) - fitZ (y.num * x.den)))) (fitE ((x.den : Int) * y.den)) = 2 := by
  rcases fitE_or (x.num * y.den) with ⟨e1, z1, l1⟩ | e1
  . rw [e1]
    rcases fitE_or (y.num * x.den) with ⟨e2, z2, l2⟩ | e2
    . rw [e2, z1, z2]
      rcases fitE_or (x.num * y.den - y.num * x.den) with ⟨e3, _, l3⟩ | e3
      . rw [e3]
        rcases fitE_or ((x.den : Int) * y.den) with ⟨_, _, l4⟩ | e4
        . exact absurd ⟨l1, l2, l3, l4⟩ hn
        . rw [e4]; rfl
      . rw [e3]; exact kp_two _ rfl
    . rw [e2]; exact kp_two _ (kp_two _ rfl)
  . rw [e1]; exact kp_two _ (kp_two _ (kp_two _ rfl))
 refine walk_Sub q q' _ _ _ w h h' (Lib.hid fun W ca cb ra rb => ?_)
 refine combine_Sub_no q q' W ra.sl rb.sl ca cb (fitZ (fitZ (x.num * y.den) - fitZ (y.num * x.den))) (fitZ ((x.den : Int) * y.den)) 2 (isSome_of hx) (isSome_of hy) (Lib.hid fun W1 p hb hp hc => ?_) (by decide)
 refine clo_Sub q q' ca cb p _ _ _ _ _ _ _ _ _ _ _ 2 W1 (ra.on hb) (rb.on hb) hc ox.1 ox.2 oy.1 oy.2 rfl rfl rfl rfl (kp_or _ _) (kp_or _ _) (kp_or _ _) ?_
 have := kp_or (kp (kp (kp 0 (fitE (x.num * y.den))) (fitE (y.num * x.den))) (fitE (fitZ (x.num * y.den) - fitZ (y.num * x.den)))) (fitE ((x.den : Int) * y.den))
 rwa [k] at this
theorem walk_Mul (q q' : RVal) (N D E : Int) (w : World) (h : q.In w) (h' : q'.In w)
 (HC : Hid (∀ (W : World) (ca cb : Nat), Rb W ca q -> Rb W cb q' -> Calls Tryz.prog 85 #[.agg #[.bool q.g, .slice q.A q.n q.c, .bool q.gd, .slice q.Ad q.nd q.cd], .agg #[.bool q'.g, .slice q'.A q'.n q'.c, .bool q'.gd, .slice q'.Ad q'.nd q'.cd], .func (.func 89) #[] #[.pointer (some ⟨ca, 0, none⟩), .pointer (some ⟨cb, 0, none⟩)]] W (RetR N D E W))) :
 Calls Tryz.prog 39 #[.agg #[.bool q.g, .slice q.A q.n q.c, .bool q.gd, .slice q.Ad q.nd q.cd], .agg #[.bool q'.g, .slice q'.A q'.n q'.c, .bool q'.gd, .slice q'.Ad q'.nd q'.cd]] w (RetR N D E w) := by
 have hmf : ∀ (fn : Fn) (first cap : Array Value) (w : World), (Instr.makeFunc fn first cap).run Tryz.prog w = .ok (.func fn first cap) w := fun _ _ _ _ => rfl
 have HS := Lib.hid (And.intro h h')
 clear h h'
 go_enter Tryz.func39, Tryz.ntmps39
 go_wp2_with fail
 generalize hW : World.alloc (World.alloc (World.alloc w _) _) _ = V
 obtain ⟨hb, ra, rb, rr⟩ := two_rats_nil q q' w V HS.out.1 HS.out.2 hW
 have HB := Lib.hid hb
 have HR := Lib.hid (And.intro ra (And.intro rb rr))
 clear hW hb ra rb rr
 refine (HC.out V _ _ HR.out.1 HR.out.2.1).mono ?_
 rintro e w3 ⟨t, rfl, hq, ho, hod, hb3⟩
 have R3 := Lib.hid (HR.out.2.2.on hb3)
 have B3 := Lib.hid (below_chain HB.out HB.out.size hb3)
 have HQ := Lib.hid (And.intro hq (And.intro ho hod))
 clear hq ho hod hb3 HR HB
 have f0 := R3.out.f 0
 have f1 := R3.out.f 1
 have f2 := R3.out.f 2
 have f3 := R3.out.f 3
 have q0 := R3.out.c0
 have q1 := R3.out.c1
 have q2 := R3.out.c2
 have q3 := R3.out.c3
 simp only [RVal.nil] at q0 q1 q2 q3
 go_wp2
 generalize hU : World.setCell (World.setCell (World.setCell (World.setCell w3 _ _) _ _) _ _) _ _ = U
 have RU' := (Rb.put R3.out HQ.out.1)
 have RU : Rb U (w.heap.size + 1 + 1) t := by rw [<- hU]; exact RU'
 have HU : Below w.heap.size w U := by rw [<- hU]; exact (below_put4 B3.out (show w.heap.size <= w.heap.size + 1 + 1 by omega) _ _ _ _)
 have j0 := RU.c0
 have j1 := RU.c1
 have j2 := RU.c2
 have j3 := RU.c3
 refine bodyPost_ret (v := .tuple #[.agg #[.bool t.g, .slice t.A t.n t.c, .bool t.gd, .slice t.Ad t.nd t.cd], .int .i64 E]) (by simp [results, Tryz.results39, go_sem, j0, j1, j2, j3]) rfl ?_
 exact RetR.of RU HQ.out.2.1 HQ.out.2.2 HU
theorem mul_no {q q' : RVal} {x y : Rat} {w : World} (h : q.In w) (h' : q'.In w) (hx : rv q.o q.od = some x) (hy : rv q'.o q'.od = some y) (hn : ¬ ((x.num * y.num).natAbs < BIG /\ ((x.den : Int) * y.den).natAbs < BIG)) :
 Calls Tryz.prog 39 #[.agg #[.bool q.g, .slice q.A q.n q.c, .bool q.gd, .slice q.Ad q.nd q.cd], .agg #[.bool q'.g, .slice q'.A q'.n q'.c, .bool q'.gd, .slice q'.Ad q'.nd q'.cd]] w (RetR 0 0 2 w) := by
 have ox := rv_some hx
 have oy := rv_some hy
 have k : kp (kp 0 (fitE (x.num * y.num))) (fitE ((x.den : Int) * y.den)) = 2 := by
  rcases fitE_or (x.num * y.num) with ⟨e1, _, l1⟩ | e1
  . rw [e1]
    rcases fitE_or ((x.den : Int) * y.den) with ⟨_, _, l2⟩ | e2
    . exact absurd ⟨l1, l2⟩ hn
    . rw [e2]; rfl
  . rw [e1]; exact kp_two _ rfl
 refine walk_Mul q q' _ _ _ w h h' (Lib.hid fun W ca cb ra rb => ?_)
 refine combine_Mul_no q q' W ra.sl rb.sl ca cb (fitZ (x.num * y.num)) (fitZ ((x.den : Int) * y.den)) 2 (isSome_of hx) (isSome_of hy) (Lib.hid fun W1 p hb hp hc => ?_) (by decide)
 refine clo_Mul q q' ca cb p _ _ _ _ _ _ _ 2 W1 (ra.on hb) (rb.on hb) hc ox.1 ox.2 oy.1 oy.2 rfl rfl (kp_or _ _) ?_
 have := kp_or (kp 0 (fitE (x.num * y.num))) (fitE ((x.den : Int) * y.den))
 rwa [k] at this
theorem mul_ok {q q' : RVal} {x y : Rat} {w : World} (h : q.In w) (h' : q'.In w) (hx : rv q.o q.od = some x) (hy : rv q'.o q'.od = some y) (f1 : (x.num * y.num).natAbs < BIG) (f2 : ((x.den : Int) * y.den).natAbs < BIG) :
 Calls Tryz.prog 39 #[.agg #[.bool q.g, .slice q.A q.n q.c, .bool q.gd, .slice q.Ad q.nd q.cd], .agg #[.bool q'.g, .slice q'.A q'.n q'.c, .bool q'.gd, .slice q'.Ad q'.nd q'.cd]] w (RetR (x * y).num ((x * y).den : Int) 0 w) := by
 have ox := rv_some hx
 have oy := rv_some hy
 have g1 := fit_yes f1
 have g2 := fit_yes f2
 have m := mk_ok (s := x.num * y.num) (den2_ne x y)
 rw [rat_mul] at m
 refine walk_Mul q q' _ _ _ w h h' (Lib.hid fun W ca cb ra rb => ?_)
 refine combine_Mul_ok q q' W ra.sl rb.sl ca cb _ _ _ _ _ (isSome_of hx) (isSome_of hy) (Lib.hid fun W1 p hb hp hc => ?_) m.1 m.2.1 m.2.2
 exact clo_Mul q q' ca cb p _ _ _ _ _ _ 0 0 W1 (ra.on hb) (rb.on hb) hc ox.1 ox.2 oy.1 oy.2 g1.1 g2.1 (kf_zero g1.2) (kf_zero g2.2)
theorem walk_Div (q q' : RVal) (N D E : Int) (w : World) (h : q.In w) (h' : q'.In w)
 (HC : Hid (∀ (W : World) (ca cb : Nat), Rb W ca q -> Rb W cb q' -> Calls Tryz.prog 85 #[.agg #[.bool q.g, .slice q.A q.n q.c, .bool q.gd, .slice q.Ad q.nd q.cd], .agg #[.bool q'.g, .slice q'.A q'.n q'.c, .bool q'.gd, .slice q'.Ad q'.nd q'.cd], .func (.func 194) #[] #[.pointer (some ⟨ca, 0, none⟩), .pointer (some ⟨cb, 0, none⟩)]] W (RetR N D E W))) :
 Calls Tryz.prog 168 #[.agg #[.bool q.g, .slice q.A q.n q.c, .bool q.gd, .slice q.Ad q.nd q.cd], .agg #[.bool q'.g, .slice q'.A q'.n q'.c, .bool q'.gd, .slice q'.Ad q'.nd q'.cd]] w (RetR N D E w) := by
 have hmf : ∀ (fn : Fn) (first cap : Array Value) (w : World), (Instr.makeFunc fn first cap).run Tryz.prog w = .ok (.func fn first cap) w := fun _ _ _ _ => rfl
 have HS := Lib.hid (And.intro h h')
 clear h h'
 go_enter Tryz.func168, Tryz.ntmps168
 go_wp2_with fail
 generalize hW : World.alloc (World.alloc (World.alloc w _) _) _ = V
 obtain ⟨hb, ra, rb, rr⟩ := two_rats_nil q q' w V HS.out.1 HS.out.2 hW
 have HB := Lib.hid hb
 have HR := Lib.hid (And.intro ra (And.intro rb rr))
 clear hW hb ra rb rr
 refine (HC.out V _ _ HR.out.1 HR.out.2.1).mono ?_
 rintro e w3 ⟨t, rfl, hq, ho, hod, hb3⟩
 have R3 := Lib.hid (HR.out.2.2.on hb3)
 have B3 := Lib.hid (below_chain HB.out HB.out.size hb3)
 have HQ := Lib.hid (And.intro hq (And.intro ho hod))
 clear hq ho hod hb3 HR HB
 have f0 := R3.out.f 0
 have f1 := R3.out.f 1
 have f2 := R3.out.f 2
 have f3 := R3.out.f 3
 have q0 := R3.out.c0
 have q1 := R3.out.c1
 have q2 := R3.out.c2
 have q3 := R3.out.c3
 simp only [RVal.nil] at q0 q1 q2 q3
 go_wp2
 generalize hU : World.setCell (World.setCell (World.setCell (World.setCell w3 _ _) _ _) _ _) _ _ = U
 have RU' := (Rb.put R3.out HQ.out.1)
 have RU : Rb U (w.heap.size + 1 + 1) t := by rw [<- hU]; exact RU'
 have HU : Below w.heap.size w U := by rw [<- hU]; exact (below_put4 B3.out (show w.heap.size <= w.heap.size + 1 + 1 by omega) _ _ _ _)
 have j0 := RU.c0
 have j1 := RU.c1
 have j2 := RU.c2
 have j3 := RU.c3
 refine bodyPost_ret (v := .tuple #[.agg #[.bool t.g, .slice t.A t.n t.c, .bool t.gd, .slice t.Ad t.nd t.cd], .int .i64 E]) (by simp [results, Tryz.results168, go_sem, j0, j1, j2, j3]) rfl ?_
 exact RetR.of RU HQ.out.2.1 HQ.out.2.2 HU
theorem div_no {q q' : RVal} {x y : Rat} {w : World} (h : q.In w) (h' : q'.In w) (hx : rv q.o q.od = some x) (hy : rv q'.o q'.od = some y) (hn : ¬ ((x.num * y.den).natAbs < BIG /\ ((x.den : Int) * y.num).natAbs < BIG)) :
 Calls Tryz.prog 168 #[.agg #[.bool q.g, .slice q.A q.n q.c, .bool q.gd, .slice q.Ad q.nd q.cd], .agg #[.bool q'.g, .slice q'.A q'.n q'.c, .bool q'.gd, .slice q'.Ad q'.nd q'.cd]] w (RetR 0 0 2 w) := by
 have ox := rv_some hx
 have oy := rv_some hy
 have k : kp (kp 0 (fitE (x.num * y.den))) (fitE ((x.den : Int) * y.num)) = 2 := by
  rcases fitE_or (x.num * y.den) with ⟨e1, _, l1⟩ | e1
  . rw [e1]
    rcases fitE_or ((x.den : Int) * y.num) with ⟨_, _, l2⟩ | e2
    . exact absurd ⟨l1, l2⟩ hn
    . rw [e2]; rfl
  . rw [e1]; exact kp_two _ rfl
 refine walk_Div q q' _ _ _ w h h' (Lib.hid fun W ca cb ra rb => ?_)
 refine combine_Div_no q q' W ra.sl rb.sl ca cb (fitZ (x.num * y.den)) (fitZ ((x.den : Int) * y.num)) 2 (isSome_of hx) (isSome_of hy) (Lib.hid fun W1 p hb hp hc => ?_) (by decide)
 refine clo_Div q q' ca cb p _ _ _ _ _ _ _ 2 W1 (ra.on hb) (rb.on hb) hc ox.1 ox.2 oy.1 oy.2 rfl rfl (kp_or _ _) ?_
 have := kp_or (kp 0 (fitE (x.num * y.den))) (fitE ((x.den : Int) * y.num))
 rwa [k] at this
theorem div_ok {q q' : RVal} {x y : Rat} {w : World} (h : q.In w) (h' : q'.In w) (hx : rv q.o q.od = some x) (hy : rv q'.o q'.od = some y) (hz : y.num ≠ 0) (f1 : (x.num * y.den).natAbs < BIG) (f2 : ((x.den : Int) * y.num).natAbs < BIG) :
 Calls Tryz.prog 168 #[.agg #[.bool q.g, .slice q.A q.n q.c, .bool q.gd, .slice q.Ad q.nd q.cd], .agg #[.bool q'.g, .slice q'.A q'.n q'.c, .bool q'.gd, .slice q'.Ad q'.nd q'.cd]] w (RetR (x / y).num ((x / y).den : Int) 0 w) := by
 have ox := rv_some hx
 have oy := rv_some hy
 have g1 := fit_yes f1
 have g2 := fit_yes f2
 have m := mk_ok (s := x.num * y.den) (Int.mul_ne_zero (den_ne x) hz)
 rw [rat_div] at m
 refine walk_Div q q' _ _ _ w h h' (Lib.hid fun W ca cb ra rb => ?_)
 refine combine_Div_ok q q' W ra.sl rb.sl ca cb _ _ _ _ _ (isSome_of hx) (isSome_of hy) (Lib.hid fun W1 p hb hp hc => ?_) m.1 m.2.1 m.2.2
 exact clo_Div q q' ca cb p _ _ _ _ _ _ 0 0 W1 (ra.on hb) (rb.on hb) hc ox.1 ox.2 oy.1 oy.2 g1.1 g2.1 (kf_zero g1.2) (kf_zero g2.2)
end Go.Proofs.YtmncfbfepdbioaaGreatDoor
namespace Go.Proofs.YtmncfbfepdbioaaGreatDoor
open Go.RowKit
theorem Bx.put {w : World} {r : Nat} {g : Bool} {A : Option Addr} {n c : Nat} (h : Bx w r g A n c) (g' : Bool) (A' : Option Addr) (n' c' : Nat) : Bx ((w.setCell ⟨r, 0, none⟩ (.bool g')).setCell ⟨r, 1, none⟩ (.slice A' n' c')) r g' A' n' c' := by
 have := Blk.set_ (Blk.set_ h 0 (.bool g')) 1 (.slice A' n' c')
 exact this
end Go.Proofs.YtmncfbfepdbioaaGreatDoor
namespace Go.Proofs.YtmncfbfepdbioaaGreatDoor
open Go.RowKit
def RetRB (z zd : Int) (b : Bool) (er : Int) (w : World) (e : Ending) (w' : World) : Prop := ∃ q : RVal, e = .returned (.tuple #[.agg #[.bool q.g, .slice q.A q.n q.c, .bool q.gd, .slice q.Ad q.nd q.cd], .bool b, .int .i64 er]) /\ q.In w' /\ q.o = some z /\ q.od = some zd /\ Below w.heap.size w w'
theorem RetRB.of {z zd er : Int} {b : Bool} {w U : World} {r : Nat} {q : RVal} (h : Rb U r q) (hz : q.o = some z) (hd : q.od = some zd) (hb : Below w.heap.size w U) : RetRB z zd b er w (.returned (.tuple #[.agg #[.bool q.g, .slice q.A q.n q.c, .bool q.gd, .slice q.Ad q.nd q.cd], .bool b, .int .i64 er])) U := ⟨q, rfl, h.sl, hz, hd, hb⟩
end Go.Proofs.YtmncfbfepdbioaaGreatDoor
namespace Go.Proofs.YtmncfbfepdbioaaGreatDoor
theorem sm_congr {f g : Nat -> Rat} : ∀ {n : Nat}, (∀ i, i < n -> f i = g i) -> sm n f = sm n g
 | 0, _ => rfl
 | n + 1, h => by rw [sm, sm, sm_congr (fun i hi => h i (by omega)), h n (by omega)]
theorem sm_add (f g : Nat -> Rat) : ∀ n, sm n (fun i => f i + g i) = sm n f + sm n g
 | 0 => by rw [sm, sm, sm]; grind
 | n + 1 => by rw [sm, sm, sm, sm_add f g n]; grind
theorem sm_mul (c : Rat) (f : Nat -> Rat) : ∀ n, sm n (fun i => c * f i) = c * sm n f
 | 0 => by rw [sm, sm]; grind
 | n + 1 => by rw [sm, sm, sm_mul c f n]; grind
theorem sm_zero {f : Nat -> Rat} {n : Nat} (h : ∀ i, i < n -> f i = 0) : sm n f = 0 := by
 rw [sm_congr (g := fun _ => 0) h]
 induction n with
 | zero => rfl
 | succ n ih => rw [sm, ih (fun i hi => h i (by omega))]; grind
theorem sm_head (f : Nat -> Rat) : ∀ n, sm (n + 1) f = f 0 + sm n (fun i => f (i + 1))
 | 0 => by rw [sm, sm, sm]; grind
 | n + 1 => by rw [sm, sm_head f n, sm]; grind
theorem sm_rev (f : Nat -> Rat) : ∀ n, sm n f = sm n (fun i => f (n - 1 - i))
 | 0 => rfl
 | n + 1 => by
   rw [sm_head (fun i => f (n + 1 - 1 - i)) n, sm, sm_rev f n]
   rw [sm_congr (n := n) (g := fun i => f (n + 1 - 1 - (i + 1))) (fun i hi => by rw [show n - 1 - i = n + 1 - 1 - (i + 1) by omega])]
   rw [show n + 1 - 1 - 0 = n by omega]
   grind
theorem sm_more (f : Nat -> Rat) (n : Nat) : ∀ k, (∀ i, n <= i -> i < n + k -> f i = 0) -> sm (n + k) f = sm n f
 | 0, _ => rfl
 | k + 1, h => by
   rw [show n + (k + 1) = n + k + 1 by omega, sm, sm_more f n k (fun i a b => h i a (by omega)), h (n + k) (by omega) (by omega)]
   grind
theorem sm_tri (f : Nat -> Nat -> Rat) : ∀ n, sm (n + 1) (fun i => sm (i + 1) (fun j => f j (i - j))) = sm (n + 1) (fun j => sm (n - j + 1) (fun m => f j m))
 | 0 => rfl
 | n + 1 => by
   rw [sm, sm_tri f n]
   rw [show sm (n + 1 + 1) (fun j => sm (n + 1 - j + 1) fun m => f j m) = sm (n + 1) (fun j => sm (n - j + 1) (fun m => f j m) + f j (n + 1 - j)) + f (n + 1) 0 from ?_]
   . rw [sm_add]
     have e : sm (n + 1 + 1) (fun j => f j (n + 1 - j)) = sm (n + 1) (fun j => f j (n + 1 - j)) + f (n + 1) 0 := by
      show sm (n + 1) _ + f (n + 1) (n + 1 - (n + 1)) = _
      rw [Nat.sub_self]
     rw [e]
     grind
   . show sm (n + 1) _ + sm (n + 1 - (n + 1) + 1) _ = _
     rw [Nat.sub_self]
     congr 1
     . refine sm_congr fun j hj => ?_
       rw [show n + 1 - j + 1 = n - j + 1 + 1 by omega, sm, show n - j + 1 = n + 1 - j by omega]
     . show 0 + f (n + 1) 0 = _
       grind
def cv (a b : Nat -> Rat) (k : Nat) : Rat := sm (k + 1) fun i => a i * b (k - i)
theorem cv_comm (a b : Nat -> Rat) (k : Nat) : cv a b k = cv b a k := by
 unfold cv
 rw [sm_rev]
 refine sm_congr fun i hi => ?_
 rw [show k + 1 - 1 - i = k - i by omega, show k - (k - i) = i by omega]
 grind
theorem cv_congr {a a' b b' : Nat -> Rat} {k : Nat} (ha : ∀ i, i <= k -> a i = a' i) (hb : ∀ i, i <= k -> b i = b' i) : cv a b k = cv a' b' k := by
 unfold cv
 exact sm_congr fun i hi => by rw [ha i (by omega), hb (k - i) (by omega)]
theorem cv_add (a b c : Nat -> Rat) (k : Nat) : cv a (fun i => b i + c i) k = cv a b k + cv a c k := by
 unfold cv
 rw [<- sm_add]
 exact sm_congr fun i _ => by grind
theorem cv_assoc (a b c : Nat -> Rat) (k : Nat) : cv (cv a b) c k = cv a (cv b c) k := by
 have e1 : cv (cv a b) c k = sm (k + 1) (fun i => sm (i + 1) (fun j => a j * b (i - j) * c (k - i))) := by
  unfold cv
  refine sm_congr fun i _ => ?_
  rw [show sm (i + 1) (fun j => a j * b (i - j) * c (k - i)) = sm (i + 1) (fun j => c (k - i) * (a j * b (i - j))) from sm_congr fun j _ => by grind, sm_mul]
  grind
 have e2 : sm (k + 1) (fun i => sm (i + 1) (fun j => a j * b (i - j) * c (k - i))) = sm (k + 1) (fun i => sm (i + 1) (fun j => (fun j m => a j * b m * c (k - (j + m))) j (i - j))) := by
  refine sm_congr fun i _ => sm_congr fun j hj => ?_
  show _ = a j * b (i - j) * c (k - (j + (i - j)))
  rw [show j + (i - j) = i by omega]
 rw [e1, e2, sm_tri (fun j m => a j * b m * c (k - (j + m)))]
 unfold cv
 refine sm_congr fun j hj => ?_
 rw [<- sm_mul]
 refine sm_congr fun m hm => ?_
 rw [show k - (j + m) = k - j - m by omega]
 grind
theorem coef_nil (i : Nat) : coef [] i = 0 := rfl
theorem coef_zero (a : Rat) (p : List Rat) : coef (a :: p) 0 = a := rfl
theorem coef_succ (a : Rat) (p : List Rat) (i : Nat) : coef (a :: p) (i + 1) = coef p i := by unfold coef; rw [List.getD_eq_getElem?_getD, List.getElem?_cons_succ, <- List.getD_eq_getElem?_getD]
theorem coef_past {p : List Rat} {i : Nat} (h : p.length <= i) : coef p i = 0 := by unfold coef; rw [List.getD_eq_getElem?_getD, List.getElem?_eq_none h]; rfl
theorem ptrim_coef : ∀ (p : List Rat) (i : Nat), coef (ptrim p) i = coef p i
 | [], _ => rfl
 | a :: p, i => by
   have ih := ptrim_coef p
   rw [ptrim]
   split
   . rename_i h
     rw [h] at ih
     split
     . rename_i h0
       have : a = 0 := Rat.num_eq_zero.1 h0
       subst this
       cases i with
       | zero => rfl
       | succ i => rw [coef_succ, <- ih i]; rfl
     . cases i with
       | zero => rfl
       | succ i => rw [coef_succ, coef_succ, ih i]
   . rename_i b q h
     rw [h] at ih
     cases i with
     | zero => rfl
     | succ i => rw [coef_succ, coef_succ, ih i]
theorem ptrim_zero : ∀ {p : List Rat}, (∀ i, coef p i = 0) -> ptrim p = []
 | [], _ => rfl
 | a :: p, h => by
   rw [ptrim, ptrim_zero (p := p) fun i => by have := h (i + 1); rwa [coef_succ] at this]
   have : a = 0 := h 0
   subst this
   rfl
theorem ptrim_ext : ∀ {p q : List Rat}, (∀ i, coef p i = coef q i) -> ptrim p = ptrim q
 | [], q, h => (ptrim_zero fun i => (h i).symm.trans (coef_nil i)).symm
 | a :: p, [], h => ptrim_zero fun i => (h i).trans (coef_nil i)
 | a :: p, b :: q, h => by
   have e : a = b := h 0
   subst e
   rw [ptrim, ptrim, ptrim_ext (p := p) (q := q) fun i => by have := h (i + 1); rwa [coef_succ, coef_succ] at this]
theorem ptrim_idem (p : List Rat) : ptrim (ptrim p) = ptrim p := ptrim_ext (ptrim_coef p)
theorem ptrim_len : ∀ p : List Rat, (ptrim p).length <= p.length
 | [] => Nat.le_refl _
 | a :: p => by
   have ih := ptrim_len p
   rw [ptrim]
   split
   . split
     . exact Nat.zero_le _
     . show 1 <= p.length + 1; omega
   . rename_i b q h
     rw [h] at ih
     show (b :: q).length + 1 <= p.length + 1
     omega
theorem ptrim_self {p q : List Rat} (hp : ptrim p = p) (hq : ptrim q = q) (h : ∀ i, coef p i = coef q i) : p = q := by rw [<- hp, <- hq]; exact ptrim_ext h
def dv (a : Nat -> Rat) (i : Nat) : Rat := ((i + 1 : Nat) : Rat) * a (i + 1)
theorem cast_split {i k : Nat} (h : i <= k) : ((k : Nat) : Rat) = ((i : Nat) : Rat) + ((k - i : Nat) : Rat) := by
 have : k = i + (k - i) := by omega
 rw [<- Rat.natCast_add, <- this]
theorem cast_zero' : ((0 : Nat) : Rat) = 0 := rfl
theorem dv_cv (a b : Nat -> Rat) (k : Nat) : dv (cv a b) k = cv (dv a) b k + cv a (dv b) k := by
 have e1 : dv (cv a b) k = sm (k + 1 + 1) (fun i => ((i : Nat) : Rat) * a i * b (k + 1 - i)) + sm (k + 1 + 1) (fun i => a i * (((k + 1 - i : Nat) : Rat) * b (k + 1 - i))) := by
  show ((k + 1 : Nat) : Rat) * sm (k + 1 + 1) (fun i => a i * b (k + 1 - i)) = _
  rw [<- sm_mul, <- sm_add]
  refine sm_congr fun i hi => ?_
  rw [cast_split (show i <= k + 1 by omega)]
  grind
 have e2 : sm (k + 1 + 1) (fun i => ((i : Nat) : Rat) * a i * b (k + 1 - i)) = cv (dv a) b k := by
  rw [sm_head, cast_zero']
  rw [show cv (dv a) b k = sm (k + 1) (fun i => ((i + 1 : Nat) : Rat) * a (i + 1) * b (k + 1 - (i + 1))) from sm_congr fun i hi => by
   show ((i + 1 : Nat) : Rat) * a (i + 1) * b (k - i) = _
   rw [show k + 1 - (i + 1) = k - i by omega]]
  grind
 have e3 : sm (k + 1 + 1) (fun i => a i * (((k + 1 - i : Nat) : Rat) * b (k + 1 - i))) = cv a (dv b) k := by
  rw [sm, Nat.sub_self, cast_zero']
  rw [show cv a (dv b) k = sm (k + 1) (fun i => a i * (((k + 1 - i : Nat) : Rat) * b (k + 1 - i))) from sm_congr fun i hi => by
   show a i * (((k - i + 1 : Nat) : Rat) * b (k - i + 1)) = _
   rw [show k + 1 - i = k - i + 1 by omega]]
  grind
 rw [e1, e2, e3]
theorem ev_sm (x : Rat) : ∀ (p : List Rat) (n : Nat), p.length <= n -> ev p x = sm n (fun i => coef p i * x ^ i)
 | [], n, _ => (sm_zero fun i _ => by rw [coef_nil]; grind).symm
 | a :: p, 0, h => absurd h (by rw [List.length_cons]; omega)
 | a :: p, n + 1, h => by
   rw [sm_head, ev, ev_sm x p n (by rw [List.length_cons] at h; omega)]
   rw [show sm n (fun i => coef (a :: p) (i + 1) * x ^ (i + 1)) = sm n (fun i => x * (coef p i * x ^ i)) from sm_congr fun i _ => by rw [coef_succ, Rat.pow_succ]; grind, sm_mul]
   rw [coef_zero, Rat.pow_zero]
   grind
theorem ev_ext {p q : List Rat} (h : ∀ i, coef p i = coef q i) (x : Rat) : ev p x = ev q x := by
 rw [ev_sm x p (max p.length q.length) (by omega), ev_sm x q (max p.length q.length) (by omega)]
 exact sm_congr fun i _ => by rw [h i]
theorem ev_trim (p : List Rat) (x : Rat) : ev (ptrim p) x = ev p x := ev_ext (ptrim_coef p) x
theorem ev_sum {p q r : List Rat} (h : ∀ i, coef r i = coef p i + coef q i) (x : Rat) : ev r x = ev p x + ev q x := by
 have n1 : p.length <= max p.length (max q.length r.length) := by omega
 have n2 : q.length <= max p.length (max q.length r.length) := by omega
 have n3 : r.length <= max p.length (max q.length r.length) := by omega
 rw [ev_sm x p _ n1, ev_sm x q _ n2, ev_sm x r _ n3, <- sm_add]
 exact sm_congr fun i _ => by rw [h i]; grind
theorem qpow_add (x : Rat) (i : Nat) : ∀ j, x ^ (i + j) = x ^ i * x ^ j
 | 0 => by rw [Nat.add_zero, Rat.pow_zero]; grind
 | j + 1 => by rw [<- Nat.add_assoc, Rat.pow_succ, Rat.pow_succ, qpow_add x i j]; grind
theorem ev_prod {p q r : List Rat} (h : ∀ i, coef r i = cv (coef p) (coef q) i) (x : Rat) : ev r x = ev p x * ev q x := by
 obtain ⟨K, hK⟩ : ∃ K, K = p.length + q.length + r.length := ⟨_, rfl⟩
 rw [ev_sm x r (K + 1) (by omega), ev_sm x p (K + 1) (by omega), ev_sm x q q.length (Nat.le_refl _)]
 have e1 : sm (K + 1) (fun k => coef r k * x ^ k) = sm (K + 1) (fun i => sm (i + 1) (fun j => (fun j m => coef p j * x ^ j * (coef q m * x ^ m)) j (i - j))) := by
  refine sm_congr fun k _ => ?_
  rw [h k]
  unfold cv
  rw [show sm (k + 1) (fun i => coef p i * coef q (k - i)) * x ^ k = x ^ k * sm (k + 1) (fun i => coef p i * coef q (k - i)) by grind, <- sm_mul]
  refine sm_congr fun i hi => ?_
  show x ^ k * (coef p i * coef q (k - i)) = coef p i * x ^ i * (coef q (k - i) * x ^ (k - i))
  rw [show x ^ k = x ^ i * x ^ (k - i) by rw [<- qpow_add]; congr 1; omega]
  grind
 rw [e1, sm_tri (fun j m => coef p j * x ^ j * (coef q m * x ^ m))]
 rw [show sm (K + 1) (fun i => coef p i * x ^ i) * sm q.length (fun i => coef q i * x ^ i) = sm q.length (fun i => coef q i * x ^ i) * sm (K + 1) (fun i => coef p i * x ^ i) by grind, <- sm_mul]
 refine sm_congr fun j hj => ?_
 by_cases hp : p.length <= j
 . rw [sm_zero (fun m _ => by rw [coef_past hp]; grind), coef_past hp]; grind
 . rw [sm_mul]
   rw [show K - j + 1 = q.length + (K - j + 1 - q.length) by omega, sm_more _ _ _ (fun i hi _ => by rw [coef_past hi]; grind)]
   grind
theorem coef_map_range (n : Nat) (f : Nat -> Rat) (i : Nat) : coef ((List.range n).map f) i = if i < n then f i else 0 := by
 unfold coef
 rw [List.getD_eq_getElem?_getD, List.getElem?_map]
 split
 . rename_i h; rw [List.getElem?_range h]; rfl
 . rename_i h; rw [List.getElem?_eq_none (by rw [List.length_range]; omega)]; rfl
theorem coef_take (p : List Rat) (n i : Nat) : coef (p.take n) i = if i < n then coef p i else 0 := by
 unfold coef
 rw [List.getD_eq_getElem?_getD, List.getElem?_take]
 split
 . rw [<- List.getD_eq_getElem?_getD]
 . rfl
def shf' (k : Nat) (L : List Rat) (i : Nat) : Rat := if k <= i then coef L (i - k) else 0
theorem cv_delta (c : Rat) (k : Nat) (b : Nat -> Rat) (i : Nat) : cv (fun j => if j = k then c else 0) b i = if k <= i then c * b (i - k) else 0 := by
 rw [cv_comm]
 unfold cv
 by_cases h : k <= i
 . rw [if_pos h]
   have e : sm (i + 1) (fun j => b j * (if i - j = k then c else 0)) = sm (i + 1) (fun j => if j = i - k then c * b (i - k) else 0) := by
    refine sm_congr fun j hj => ?_
    by_cases hk : i - j = k
    . rw [if_pos hk, if_pos (by omega), show j = i - k by omega]; grind
    . rw [if_neg hk, if_neg (by omega)]; grind
   rw [e]
   have one : ∀ n m (v : Rat), m < n -> sm n (fun j => if j = m then v else 0) = v := by
    intro n
    induction n with
    | zero => intro m v h; omega
    | succ n ih =>
      intro m v hm
      rw [sm]
      by_cases e : m = n
      . subst e
        rw [sm_zero (fun j hj => by rw [if_neg (by omega)]), if_pos rfl]; grind
      . rw [ih m v (by omega), if_neg (by omega)]; grind
   exact one _ _ _ (by omega)
 . rw [if_neg h]
   exact sm_zero fun j hj => by show b j * (if i - j = k then c else 0) = 0; rw [if_neg (by omega)]; grind
theorem cv_cons (c : Rat) (L : List Rat) (k : Nat) (b : Nat -> Rat) (i : Nat) : cv (shf' k (c :: L)) b i = cv (shf' (k + 1) L) b i + (if k <= i then c * b (i - k) else 0) := by
 rw [<- cv_delta, cv_comm (shf' (k + 1) L), cv_comm (fun j => if j = k then c else 0), <- cv_add, cv_comm]
 refine cv_congr (fun _ _ => rfl) fun j _ => ?_
 unfold shf'
 by_cases h1 : k + 1 <= j
 . rw [if_pos (by omega), if_pos h1, if_neg (by omega), show j - k = j - (k + 1) + 1 by omega, coef_succ]; grind
 . by_cases h2 : j = k
   . subst h2
     rw [if_pos (Nat.le_refl _), if_neg h1, if_pos rfl, Nat.sub_self, coef_zero]; grind
   . rw [if_neg (by omega), if_neg h1, if_neg h2]; grind
theorem pdivs_keep {q p : List Rat} (hq : coef q (q.length - 1) ≠ 0) : ∀ (k : Nat) (quot rest : List Rat), rest.length = p.length -> k + (q.length - 1) <= p.length \/ k = 0 →
 (∀ i, coef p i = cv (shf' k quot) (coef q) i + (if i < k + (q.length - 1) then coef rest i else 0)) →
 (pdivs q k quot rest).2.length = p.length /\ (pdivs q k quot rest).1.length = quot.length + k /\ ∀ i, coef p i = cv (shf' 0 (pdivs q k quot rest).1) (coef q) i + (if i < q.length - 1 then coef (pdivs q k quot rest).2 i else 0)
 | 0, quot, rest, hl, _, h => ⟨hl, rfl, fun i => by have := h i; rwa [Nat.zero_add] at this⟩
 | k + 1, quot, rest, hl, hk, h => by
   have hk' : k + 1 + (q.length - 1) <= p.length := by omega
   obtain ⟨d, hd⟩ : ∃ d, q.length - 1 = d := ⟨_, rfl⟩
   have r := pdivs_keep (p := p) hq k ((pstep q k rest).1 :: quot) (pstep q k rest).2 (by show (List.map _ (List.range rest.length)).length = _; rw [List.length_map, List.length_range, hl]) (Or.inl (by omega)) ?_
   . refine ⟨r.1, ?_, r.2.2⟩
     have := r.2.1
     rw [List.length_cons] at this
     show (pdivs q k ((pstep q k rest).1 :: quot) (pstep q k rest).2).1.length = _
     omega
   . intro i
     have hi := h i
     rw [cv_cons]
     rw [hd] at hq hi hk' ⊢
     have c0 : (pstep q k rest).1 = coef rest (k + d) / coef q d := by show coef rest (k + (q.length - 1)) / coef q (q.length - 1) = _; rw [hd]
     have r0 : coef (pstep q k rest).2 i = if i < rest.length then (if k <= i /\ i < k + d then coef rest i - (pstep q k rest).1 * coef q (i - k) else coef rest i) else 0 := by
      rw [c0]
      show coef ((List.range rest.length).map fun j => if k <= j /\ j < k + (q.length - 1) then coef rest j - coef rest (k + (q.length - 1)) / coef q (q.length - 1) * coef q (j - k) else coef rest j) i = _
      rw [hd, coef_map_range]
     rw [hi, r0]
     generalize cv (shf' (k + 1) quot) (coef q) i = s
     generalize hc : (pstep q k rest).1 = c at *
     by_cases a : i < k
     . rw [if_pos (by omega), if_neg (by omega), if_pos (by omega), if_pos (by omega), if_neg (by omega)]; grind
     . by_cases b : i < k + d
       . rw [if_pos (by omega), if_pos (by omega), if_pos (by omega), if_pos (by omega), if_pos ⟨by omega, b⟩]; grind
       . by_cases e : i = k + d
         . subst e
           rw [if_pos (by omega), if_pos (by omega), if_neg (by omega), show k + d - k = d by omega, c0]
           grind
         . rw [if_neg (by omega), if_pos (by omega), if_neg (by omega), coef_past (p := q) (i := i - k) (by omega)]; grind
theorem pdiv_spec {p q : List Rat} (hq : coef q (q.length - 1) ≠ 0) : (∀ i, coef p i = cv (coef (pdiv p q).1) (coef q) i + coef (pdiv p q).2 i) /\ (pdiv p q).2.length <= q.length - 1 /\ ptrim (pdiv p q).2 = (pdiv p q).2 := by
 obtain ⟨d, hd⟩ : ∃ d, q.length - 1 = d := ⟨_, rfl⟩
 have r := pdivs_keep (p := p) hq (p.length - d) [] p rfl (by omega) (fun i => by
  rw [show cv (shf' (p.length - d) []) (coef q) i = 0 from sm_zero fun j _ => by
   show shf' (p.length - d) [] j * _ = 0
   have : shf' (p.length - d) [] j = 0 := by unfold shf'; split <;> rfl
   rw [this]; grind]
  by_cases h : i < p.length - d + (q.length - 1)
  . rw [if_pos h]; grind
  . rw [if_neg h, coef_past (p := p) (by omega)]; grind)
 refine ⟨fun i => ?_, ?_, ptrim_idem _⟩
 . have k := r.2.2 i
   rw [k]
   show _ = cv (coef (pdivs q (p.length - (q.length - 1)) [] p).1) (coef q) i + coef (ptrim ((pdivs q (p.length - (q.length - 1)) [] p).2.take (min (q.length - 1) p.length))) i
   rw [ptrim_coef, coef_take, hd]
   congr 1
   by_cases h : i < d
   . rw [if_pos h]
     by_cases h2 : i < p.length
     . rw [if_pos (by omega)]
     . rw [if_neg (by omega), coef_past (by rw [r.1]; omega)]
   . rw [if_neg h, if_neg (by omega)]
 . have a := ptrim_len ((pdivs q (p.length - (q.length - 1)) [] p).2.take (min (q.length - 1) p.length))
   rw [List.length_take] at a
   show (ptrim ((pdivs q (p.length - (q.length - 1)) [] p).2.take (min (q.length - 1) p.length))).length <= _
   omega
end Go.Proofs.YtmncfbfepdbioaaGreatDoor
namespace Go.Proofs.YtmncfbfepdbioaaGreatDoor
theorem padd_coef (p q : List Rat) (i : Nat) : coef (padd p q) i = coef p i + coef q i := by
 unfold padd pcomb
 rw [ptrim_coef, coef_map_range]
 split
 . rfl
 . rename_i h
   rw [coef_past (p := p) (by omega), coef_past (p := q) (by omega)]; grind
theorem psub_coef (p q : List Rat) (i : Nat) : coef (psub p q) i = coef p i - coef q i := by
 unfold psub pcomb
 rw [ptrim_coef, coef_map_range]
 split
 . rfl
 . rename_i h
   rw [coef_past (p := p) (by omega), coef_past (p := q) (by omega)]; grind
theorem padd_trim (p q : List Rat) : ptrim (padd p q) = padd p q := ptrim_idem _
theorem psub_trim (p q : List Rat) : ptrim (psub p q) = psub p q := ptrim_idem _
theorem sm_from (f : Nat -> Rat) (lo : Nat) : ∀ n, (∀ i, i < lo -> f i = 0) -> sm (lo + n) f = sm n (fun j => f (lo + j))
 | 0, h => sm_zero h
 | n + 1, h => by rw [<- Nat.add_assoc, sm, sm, sm_from f lo n h]
theorem pmulc_cv (p q : List Rat) (k : Nat) : pmulc p q k = cv (coef p) (coef q) k := by
 have z1 : ∀ i, i < k + 1 - q.length -> coef p i * coef q (k - i) = 0 := fun i h => by rw [coef_past (p := q) (i := k - i) (by omega)]; grind
 have z2 : ∀ i, min k (p.length - 1) + 1 <= i -> i < k + 1 -> coef p i * coef q (k - i) = 0 := fun i h1 h2 => by rw [coef_past (p := p) (i := i) (by omega)]; grind
 unfold pmulc cv
 by_cases h : k + 1 - q.length <= min k (p.length - 1) + 1
 . rw [<- sm_from (fun i => coef p i * coef q (k - i)) (k + 1 - q.length) _ z1]
   rw [show k + 1 - q.length + (min k (p.length - 1) + 1 - (k + 1 - q.length)) = min k (p.length - 1) + 1 by omega]
   rw [<- sm_more _ (min k (p.length - 1) + 1) (k + 1 - (min k (p.length - 1) + 1)) (fun i a b => z2 i a (by omega))]
   congr 1; omega
 . rw [show min k (p.length - 1) + 1 - (k + 1 - q.length) = 0 by omega]
   exact (sm_zero fun i hi => by
    by_cases g : i < k + 1 - q.length
    . exact z1 i g
    . exact z2 i (by omega) hi).symm
theorem pmul_coef (p q : List Rat) (k : Nat) : coef (pmul p q) k = cv (coef p) (coef q) k := by
 unfold pmul
 by_cases h : p.length = 0 \/ q.length = 0
 . rw [if_pos h, coef_nil]
   exact (sm_zero fun i _ => by
    rcases h with h | h
    . rw [coef_past (p := p) (by omega)]; grind
    . rw [coef_past (p := q) (by omega)]; grind).symm
 . rw [if_neg h, coef_map_range]
   split
   . exact pmulc_cv p q k
   . rename_i g
     exact (sm_zero fun i _ => by
      by_cases a : p.length <= i
      . rw [coef_past a]; grind
      . rw [coef_past (p := q) (i := k - i) (by omega)]; grind).symm
theorem trim_iff : ∀ {p : List Rat}, ptrim p = p ↔ p = [] \/ coef p (p.length - 1) ≠ 0
 | [] => ⟨fun _ => Or.inl rfl, fun _ => rfl⟩
 | [a] => by
   constructor
   . intro h
     right
     intro k
     have e : a = 0 := k
     subst e
     exact absurd h (by decide)
   . intro h
     rcases h with h | h
     . cases h
     . show (if a.num = 0 then [] else [a]) = [a]
       rw [if_neg]
       intro k
       exact h (Rat.num_eq_zero.1 k)
 | a :: b :: p => by
   have ih := trim_iff (p := b :: p)
   have e : coef (a :: b :: p) ((a :: b :: p).length - 1) = coef (b :: p) ((b :: p).length - 1) := by
    show coef (a :: b :: p) (p.length + 1) = coef (b :: p) p.length
    rw [coef_succ]
   rw [e]
   constructor
   . intro h
     right
     have l := ptrim_len (b :: p)
     rw [ptrim] at h
     split at h
     . split at h
       . cases h
       . injection h with _ h; cases h
     . rename_i c q g
       injection h with _ h
       exact (ih.1 (g.trans h)).resolve_left (List.cons_ne_nil _ _)
   . intro h
     rcases h with h | h
     . cases h
     . have k := ih.2 (Or.inr h)
       rw [ptrim, k]
theorem pmul_len {p q : List Rat} (hp : p.length ≠ 0) (hq : q.length ≠ 0) : (pmul p q).length = p.length - 1 + (q.length - 1) + 1 := by
 unfold pmul
 rw [if_neg (by omega), List.length_map, List.length_range]
theorem pmul_top {p q : List Rat} : cv (coef p) (coef q) (p.length - 1 + (q.length - 1)) = coef p (p.length - 1) * coef q (q.length - 1) := by
 unfold cv
 have e : ∀ i, i < p.length - 1 + (q.length - 1) + 1 -> coef p i * coef q (p.length - 1 + (q.length - 1) - i) = if i = p.length - 1 then coef p (p.length - 1) * coef q (q.length - 1) else 0 := fun i hi => by
  by_cases a : i = p.length - 1
  . rw [if_pos a, a, show p.length - 1 + (q.length - 1) - (p.length - 1) = q.length - 1 by omega]
  . rw [if_neg a]
    by_cases b : p.length <= i
    . rw [coef_past b]; grind
    . rw [coef_past (p := q) (i := p.length - 1 + (q.length - 1) - i) (by omega)]; grind
 rw [sm_congr e]
 have one : ∀ n m (v : Rat), m < n -> sm n (fun j => if j = m then v else 0) = v := by
  intro n
  induction n with
  | zero => intro m v h; omega
  | succ n ih =>
    intro m v hm
    rw [sm]
    by_cases e : m = n
    . subst e
      rw [sm_zero (fun j hj => by rw [if_neg (by omega)]), if_pos rfl]; grind
    . rw [ih m v (by omega), if_neg (by omega)]; grind
 exact one _ _ _ (by omega)
theorem pmul_trim {p q : List Rat} (hp : ptrim p = p) (hq : ptrim q = q) : ptrim (pmul p q) = pmul p q := by
 by_cases h : p.length = 0 \/ q.length = 0
 . unfold pmul; rw [if_pos h]; rfl
 . rw [trim_iff]
   right
   rw [pmul_len (by omega) (by omega), Nat.add_sub_cancel, pmul_coef, pmul_top]
   rcases trim_iff.1 hp with a | a
   . rw [a] at h; exact absurd (Or.inl rfl) h
   . rcases trim_iff.1 hq with b | b
     . rw [b] at h; exact absurd (Or.inr rfl) h
     . intro k
       rcases Rat.mul_eq_zero.1 k with k | k
       . exact a k
       . exact b k
theorem ev_padd (p q : List Rat) (x : Rat) : ev (padd p q) x = ev p x + ev q x := ev_sum (padd_coef p q) x
theorem ev_pmul (p q : List Rat) (x : Rat) : ev (pmul p q) x = ev p x * ev q x := ev_prod (pmul_coef p q) x
theorem pmul_comm {p q : List Rat} (hp : ptrim p = p) (hq : ptrim q = q) : pmul p q = pmul q p :=
 ptrim_self (pmul_trim hp hq) (pmul_trim hq hp) fun i => by rw [pmul_coef, pmul_coef, cv_comm]
theorem pmul_assoc {p q r : List Rat} (hp : ptrim p = p) (hq : ptrim q = q) (hr : ptrim r = r) : pmul p (pmul q r) = pmul (pmul p q) r :=
 ptrim_self (pmul_trim hp (pmul_trim hq hr)) (pmul_trim (pmul_trim hp hq) hr) fun i => by
  rw [pmul_coef, pmul_coef, cv_congr (a' := cv (coef p) (coef q)) (b' := coef r) (fun j _ => pmul_coef p q j) (fun _ _ => rfl), cv_assoc]
  exact cv_congr (fun _ _ => rfl) fun j _ => pmul_coef q r j
end Go.Proofs.YtmncfbfepdbioaaGreatDoor
namespace Go.Proofs.YtmncfbfepdbioaaGreatDoor
theorem pderiv_coef (p : List Rat) (i : Nat) : coef (pderiv p) i = dv (coef p) i := by
 unfold pderiv dv
 rw [coef_map_range]
 split
 . rfl
 . rename_i h
   rw [coef_past (p := p) (by omega)]; grind
theorem cast_ne {n : Nat} (h : n ≠ 0) : ((n : Nat) : Rat) ≠ 0 := by
 intro k
 have : ((n : Nat) : Rat) = ((0 : Nat) : Rat) := k
 exact h (Rat.natCast_inj.1 this)
theorem pderiv_trim {p : List Rat} (hp : ptrim p = p) : ptrim (pderiv p) = pderiv p := by
 rw [trim_iff]
 by_cases h : p.length <= 1
 . left
   unfold pderiv
   rw [show p.length - 1 = 0 by omega]; rfl
 . right
   have l : (pderiv p).length = p.length - 1 := by unfold pderiv; rw [List.length_map, List.length_range]
   rw [l, pderiv_coef]
   unfold dv
   rw [show p.length - 1 - 1 + 1 = p.length - 1 by omega]
   intro k
   rcases Rat.mul_eq_zero.1 k with k | k
   . exact cast_ne (by omega) k
   . rcases trim_iff.1 hp with m | m
     . rw [m] at h; exact h (by decide)
     . exact m k
theorem pderiv_mul {p q : List Rat} (hp : ptrim p = p) (hq : ptrim q = q) : pderiv (pmul p q) = padd (pmul (pderiv p) q) (pmul p (pderiv q)) :=
 ptrim_self (pderiv_trim (pmul_trim hp hq)) (padd_trim _ _) fun i => by
  rw [pderiv_coef, padd_coef, pmul_coef, pmul_coef]
  have e : dv (coef (pmul p q)) i = dv (cv (coef p) (coef q)) i := by unfold dv; rw [pmul_coef]
  rw [e, dv_cv]
  congr 1
  . exact cv_congr (fun j _ => (pderiv_coef p j).symm) fun _ _ => rfl
  . exact cv_congr (fun _ _ => rfl) fun j _ => (pderiv_coef q j).symm
theorem cv_scale (c : Rat) (a b : Nat -> Rat) (k : Nat) : cv (fun i => c * a i) b k = c * cv a b k := by
 unfold cv
 rw [<- sm_mul]
 exact sm_congr fun i _ => by grind
theorem pdiv_lin {p : List Rat} (n : Rat) : (pdiv p [-n, 1]).2 = ptrim [ev p n] := by
 have c : coef [-n, 1] ([-n, 1].length - 1) ≠ 0 := by show (1 : Rat) ≠ 0; decide
 have s := pdiv_spec (p := p) c
 rw [<- s.2.2]
 refine ptrim_ext fun i => ?_
 have l : (pdiv p [-n, 1]).2.length <= 1 := s.2.1
 have v : ev p n = ev (pdiv p [-n, 1]).1 n * ev [-n, 1] n + ev (pdiv p [-n, 1]).2 n := by
  rw [<- ev_pmul]
  exact ev_sum (fun i => by rw [pmul_coef]; exact s.1 i) n
 have z : ev [-n, 1] n = 0 := by show (0 * n + 1) * n + -n = 0; grind
 rw [z] at v
 cases i with
 | zero =>
   rw [coef_zero, v]
   rcases hr : (pdiv p [-n, 1]).2 with _ | ⟨a, t⟩
   . show (0 : Rat) = _ * 0 + 0; grind
   . rw [hr] at l
     have : t = [] := by cases t with
      | nil => rfl
      | cons _ _ => rw [List.length_cons, List.length_cons] at l; omega
     subst this
     show a = _ * 0 + (0 * n + a)
     grind
 | succ i => rw [coef_succ, coef_past (by omega), coef_nil]
end Go.Proofs.YtmncfbfepdbioaaGreatDoor
namespace Go.Proofs.YtmncfbfepdbioaaGreatDoor
def Ib (B : Nat) (x : Rat) : Prop := ∃ z : Int, x = (z : Rat) /\ z.natAbs <= B
def IbL (B : Nat) (l : List Rat) : Prop := ∀ i, Ib B (coef l i)
theorem Ib.zero (B : Nat) : Ib B 0 := ⟨0, rfl, Nat.zero_le _⟩
theorem Ib.mono {A B : Nat} {x : Rat} (h : Ib A x) (k : A <= B) : Ib B x := by obtain ⟨z, e, l⟩ := h; exact ⟨z, e, Nat.le_trans l k⟩
theorem Ib.int (z : Int) : Ib z.natAbs (z : Rat) := ⟨z, rfl, Nat.le_refl _⟩
theorem Ib.add {A B : Nat} {x y : Rat} (h : Ib A x) (k : Ib B y) : Ib (A + B) (x + y) := by
 obtain ⟨z, rfl, l⟩ := h
 obtain ⟨u, rfl, m⟩ := k
 exact ⟨z + u, by push_cast; rfl, by omega⟩
theorem Ib.sub {A B : Nat} {x y : Rat} (h : Ib A x) (k : Ib B y) : Ib (A + B) (x - y) := by
 obtain ⟨z, rfl, l⟩ := h
 obtain ⟨u, rfl, m⟩ := k
 exact ⟨z - u, by push_cast; rfl, by omega⟩
theorem Ib.mul {A B : Nat} {x y : Rat} (h : Ib A x) (k : Ib B y) : Ib (A * B) (x * y) := by
 obtain ⟨z, rfl, l⟩ := h
 obtain ⟨u, rfl, m⟩ := k
 exact ⟨z * u, by push_cast; rfl, by rw [Int.natAbs_mul]; exact Nat.mul_le_mul l m⟩
theorem fz_of {z : Int} {B : Nat} (h : z.natAbs <= B) (k : B < BIG) : fz z = true := by unfold fz; exact decide_eq_true (Nat.lt_of_le_of_lt h k)
theorem one_big : (1 : Nat) < BIG := by decide +kernel
theorem addO_ok {A B : Nat} {x y : Rat} (h : Ib A x) (k : Ib B y) (hb : A + B < BIG) : addO x y = .ok (x + y) := by
 obtain ⟨z, rfl, l⟩ := h
 obtain ⟨u, rfl, m⟩ := k
 unfold addO
 rw [if_pos]
 rw [Rat.num_intCast, Rat.num_intCast, Rat.den_intCast, Rat.den_intCast]
 rw [fz_of (B := A + B) (by omega) hb, fz_of (B := A + B) (by omega) hb, fz_of (B := A + B) (by omega) hb, fz_of (B := 1) (by decide) one_big]
 rfl
theorem subO_ok {A B : Nat} {x y : Rat} (h : Ib A x) (k : Ib B y) (hb : A + B < BIG) : subO x y = .ok (x - y) := by
 obtain ⟨z, rfl, l⟩ := h
 obtain ⟨u, rfl, m⟩ := k
 unfold subO
 rw [if_pos]
 rw [Rat.num_intCast, Rat.num_intCast, Rat.den_intCast, Rat.den_intCast]
 rw [fz_of (B := A + B) (by omega) hb, fz_of (B := A + B) (by omega) hb, fz_of (B := A + B) (by omega) hb, fz_of (B := 1) (by decide) one_big]
 rfl
theorem mulO_ok {A B : Nat} {x y : Rat} (h : Ib A x) (k : Ib B y) (hb : A * B < BIG) : mulO x y = .ok (x * y) := by
 obtain ⟨z, rfl, l⟩ := h
 obtain ⟨u, rfl, m⟩ := k
 unfold mulO
 rw [if_pos]
 rw [Rat.num_intCast, Rat.num_intCast, Rat.den_intCast, Rat.den_intCast]
 rw [fz_of (B := A * B) (by rw [Int.natAbs_mul]; exact Nat.mul_le_mul l m) hb, fz_of (B := 1) (by decide) one_big]
 rfl
theorem listO_ok {f : Nat -> Except Int Rat} {g : Nat -> Rat} : ∀ {n : Nat}, (∀ i, i < n -> f i = .ok (g i)) -> listO f n = .ok ((List.range n).map g)
 | 0, _ => rfl
 | n + 1, h => by
   have ih := listO_ok (f := f) (g := g) (n := n) (fun i hi => h i (by omega))
   unfold listO at *
   rw [stepsO_succ, thenO_ok ih, thenO_ok (h n (by omega)), List.range_succ, List.map_append]
   rfl
theorem sum_ok {f g : Nat -> Rat} {A B : Nat} : ∀ {n : Nat}, (∀ i, Ib A (f i)) -> (∀ i, Ib B (g i)) -> n * (A * B) < BIG →
 stepsO (fun j r => thenO (mulO (f j) (g j)) fun t => addO r t) 0 n = .ok (sm n fun j => f j * g j) /\ Ib (n * (A * B)) (sm n fun j => f j * g j)
 | 0, _, _, _ => ⟨rfl, Ib.zero _⟩
 | n + 1, hf, hg, h => by
   have e : (n + 1) * (A * B) = n * (A * B) + A * B := Nat.succ_mul _ _
   rw [e] at h
   obtain ⟨h1, h2⟩ := sum_ok (n := n) hf hg (by omega)
   refine ⟨?_, by rw [e]; exact h2.add ((hf n).mul (hg n))⟩
   rw [stepsO_succ, thenO_ok h1, thenO_ok (mulO_ok (hf n) (hg n) (by omega)), addO_ok h2 ((hf n).mul (hg n)) h]
   rfl
theorem coef_range_ib {n B : Nat} {f : Nat -> Rat} (h : ∀ i, Ib B (f i)) : IbL B ((List.range n).map f) := fun i => by
 rw [coef_map_range]
 split
 . exact h i
 . exact Ib.zero _
theorem IbL.trim {B : Nat} {l : List Rat} (h : IbL B l) : IbL B (ptrim l) := fun i => by rw [ptrim_coef]; exact h i
theorem IbL.mono {A B : Nat} {l : List Rat} (h : IbL A l) (k : A <= B) : IbL B l := fun i => (h i).mono k
theorem IbL.nil (B : Nat) : IbL B [] := fun i => by rw [coef_nil]; exact Ib.zero _
theorem pmulO_ok {p q : List Rat} {A B n : Nat} (hp : IbL A p) (hq : IbL B q) (hn : p.length <= n) (hd : p.length - 1 + (q.length - 1) <= 64) (hb : n * (A * B) < BIG) : pmulO p q = .ok (pmul p q) /\ IbL (n * (A * B)) (pmul p q) := by
 unfold pmulO pmul
 by_cases h0 : p.length = 0 \/ q.length = 0
 . rw [if_pos h0, if_pos h0]
   exact ⟨rfl, IbL.nil _⟩
 . rw [if_neg h0, if_neg h0, if_neg (by omega)]
   have key : ∀ k, mulcO p q k = .ok (pmulc p q k) /\ Ib (n * (A * B)) (pmulc p q k) := by
    intro k
    have hm : (min k (p.length - 1) + 1 - (k + 1 - q.length)) * (A * B) <= n * (A * B) := Nat.mul_le_mul_right _ (by omega)
    have := sum_ok (n := min k (p.length - 1) + 1 - (k + 1 - q.length)) (f := fun j => coef p (k + 1 - q.length + j)) (g := fun j => coef q (k - (k + 1 - q.length + j))) (fun i => hp _) (fun i => hq _) (by omega)
    exact ⟨this.1, this.2.mono hm⟩
   exact ⟨listO_ok fun i _ => (key i).1, coef_range_ib fun i => (key i).2⟩
theorem addL_ok {p q : List Rat} {A B : Nat} (hp : IbL A p) (hq : IbL B q) (hb : A + B < BIG) : combO addO p q = .ok (padd p q) /\ IbL (A + B) (padd p q) := by
 unfold combO padd pcomb
 rw [thenO_ok (listO_ok fun i _ => addO_ok (hp i) (hq i) hb)]
 exact ⟨rfl, (coef_range_ib fun i => (hp i).add (hq i)).trim⟩
theorem subL_ok {p q : List Rat} {A B : Nat} (hp : IbL A p) (hq : IbL B q) (hb : A + B < BIG) : combO subO p q = .ok (psub p q) /\ IbL (A + B) (psub p q) := by
 unfold combO psub pcomb
 rw [thenO_ok (listO_ok fun i _ => subO_ok (hp i) (hq i) hb)]
 exact ⟨rfl, (coef_range_ib fun i => (hp i).sub (hq i)).trim⟩
theorem pmul_le (p q : List Rat) : (pmul p q).length <= p.length + q.length := by
 unfold pmul
 split
 . exact Nat.zero_le _
 . rw [List.length_map, List.length_range]; omega
theorem pcomb_le (f : Rat -> Rat -> Rat) (p q : List Rat) : (pcomb f p q).length <= max p.length q.length := by
 unfold pcomb
 refine Nat.le_trans (ptrim_len _) ?_
 rw [List.length_map, List.length_range]
 exact Nat.le_refl _
structure Kn (l : List Rat) (n B : Nat) : Prop where
 t : ptrim l = l
 n : l.length <= n
 b : IbL B l
theorem Kn.nil (n B : Nat) : Kn [] n B := ⟨rfl, Nat.zero_le _, IbL.nil _⟩
theorem Kn.mul {p q : List Rat} {n m A B : Nat} (h : Kn p n A) (k : Kn q m B) (hn : n + m <= 64) (hb : n * (A * B) < BIG) : pmulO p q = .ok (pmul p q) /\ Kn (pmul p q) (n + m) (n * (A * B)) := by
 have hp := h.n
 have hq := k.n
 have := pmulO_ok h.b k.b hp (by omega) hb
 have hl := pmul_le p q
 exact ⟨this.1, pmul_trim h.t k.t, by omega, this.2⟩
theorem Kn.add {p q : List Rat} {n m A B : Nat} (h : Kn p n A) (k : Kn q m B) (hb : A + B < BIG) : combO addO p q = .ok (padd p q) /\ Kn (padd p q) (max n m) (A + B) := by
 have hp := h.n
 have hq := k.n
 have := addL_ok h.b k.b hb
 have hl := pcomb_le (· + ·) p q
 exact ⟨this.1, padd_trim p q, by unfold padd; omega, this.2⟩
theorem Kn.sub {p q : List Rat} {n m A B : Nat} (h : Kn p n A) (k : Kn q m B) (hb : A + B < BIG) : combO subO p q = .ok (psub p q) /\ Kn (psub p q) (max n m) (A + B) := by
 have hp := h.n
 have hq := k.n
 have := subL_ok h.b k.b hb
 have hl := pcomb_le (· - ·) p q
 exact ⟨this.1, psub_trim p q, by unfold psub; omega, this.2⟩
def cb (A B m : Nat) : Nat -> Nat
 | 0 => 0
 | k + 1 => cb A B m k + (k * (m + 1)) * (cb A B m k * B) + A
end Go.Proofs.YtmncfbfepdbioaaGreatDoor
namespace Go.Proofs.YtmncfbfepdbioaaGreatDoor
def Dvp (d p : List Rat) : Prop := ∃ u : List Rat, ∀ i, coef p i = cv (coef u) (coef d) i
theorem coef_one (c : Rat) (i : Nat) : coef [c] i = if i = 0 then c else 0 := by
 cases i with
 | zero => rfl
 | succ i => rw [coef_succ, if_neg (by omega), coef_nil]
theorem cv_one (c : Rat) (b : Nat -> Rat) (i : Nat) : cv (coef [c]) b i = c * b i := by
 rw [cv_congr (a' := fun j => if j = 0 then c else 0) (b' := b) (fun j _ => coef_one c j) (fun _ _ => rfl), cv_delta, if_pos (Nat.zero_le _), Nat.sub_zero]
theorem Dvp.refl (d : List Rat) : Dvp d d := ⟨[1], fun i => by rw [cv_one]; grind⟩
theorem Dvp.trans {d e p : List Rat} (h : Dvp d e) (k : Dvp e p) : Dvp d p := by
 obtain ⟨u, hu⟩ := h
 obtain ⟨v, hv⟩ := k
 refine ⟨pmul v u, fun i => ?_⟩
 rw [hv i, cv_congr (a' := coef v) (b' := cv (coef u) (coef d)) (fun _ _ => rfl) (fun j _ => hu j), <- cv_assoc]
 exact cv_congr (fun j _ => (pmul_coef v u j).symm) fun _ _ => rfl
theorem Dvp.add {d p q r : List Rat} (h : Dvp d p) (k : Dvp d q) (e : ∀ i, coef r i = coef p i + coef q i) : Dvp d r := by
 obtain ⟨u, hu⟩ := h
 obtain ⟨v, hv⟩ := k
 refine ⟨padd u v, fun i => ?_⟩
 rw [e i, hu i, hv i, cv_comm (coef u), cv_comm (coef v), <- cv_add, cv_comm]
 exact cv_congr (fun j _ => (padd_coef u v j).symm) fun _ _ => rfl
theorem Dvp.mul {d p r : List Rat} (w : List Rat) (h : Dvp d p) (e : ∀ i, coef r i = cv (coef w) (coef p) i) : Dvp d r := h.trans ⟨w, e⟩
theorem Dvp.zero (d : List Rat) : Dvp d [] := ⟨[], fun i => (sm_zero fun j _ => by rw [coef_nil]; grind).symm⟩
theorem Dvp.ext {d p q : List Rat} (h : Dvp d p) (e : ∀ i, coef q i = coef p i) : Dvp d q := by
 obtain ⟨u, hu⟩ := h
 exact ⟨u, fun i => (e i).trans (hu i)⟩
theorem pmonic_coef (p : List Rat) (i : Nat) : coef (pmonic p) i = coef p i / coef p (p.length - 1) := by
 unfold pmonic
 have e : ∀ (f : Rat -> Rat) (L : List Rat), f 0 = 0 -> coef (L.map f) i = f (coef L i) := by
  intro f L h0
  unfold coef
  rw [List.getD_eq_getElem?_getD, List.getElem?_map, List.getD_eq_getElem?_getD]
  cases L[i]? with
  | none => exact h0.symm
  | some a => rfl
 exact e _ _ (by rw [Rat.div_def]; grind)
theorem pmonic_len (p : List Rat) : (pmonic p).length = p.length := by unfold pmonic; rw [List.length_map]
theorem pmonic_lead {p : List Rat} (h : coef p (p.length - 1) ≠ 0) : coef (pmonic p) ((pmonic p).length - 1) = 1 := by
 rw [pmonic_len, pmonic_coef, Rat.div_def]
 exact Rat.mul_inv_cancel _ h
theorem pmonic_trim {p : List Rat} (hp : ptrim p = p) : ptrim (pmonic p) = pmonic p := by
 rw [trim_iff]
 rcases trim_iff.1 hp with h | h
 . left; rw [h]; rfl
 . right
   rw [pmonic_lead h]
   decide
theorem dv_monic {p : List Rat} (h : coef p (p.length - 1) ≠ 0) : Dvp p (pmonic p) /\ Dvp (pmonic p) p := by
 refine ⟨⟨[(coef p (p.length - 1))⁻¹], fun i => ?_⟩, ⟨[coef p (p.length - 1)], fun i => ?_⟩⟩
 . rw [cv_one, pmonic_coef, Rat.div_def]; grind
 . rw [cv_one, pmonic_coef, Rat.div_def]
   have := Rat.mul_inv_cancel _ h
   grind
theorem dv_monic2 {d p : List Rat} (hp : ptrim p = p) (h : Dvp d (pmonic p)) : Dvp d p := by
 rcases trim_iff.1 hp with k | k
 . rw [k]; exact Dvp.zero d
 . exact h.trans (dv_monic k).2
def Comb (g p q : List Rat) : Prop := ∃ u v : List Rat, ∀ i, coef g i = cv (coef u) (coef p) i + cv (coef v) (coef q) i
structure Gcd (g p q : List Rat) : Prop where
 left : Dvp g p
 right : Dvp g q
 comb : Comb g p q
 trim : ptrim g = g
 lead : g = [] \/ coef g (g.length - 1) = 1
theorem Gcd.least {g p q d : List Rat} (h : Gcd g p q) (h1 : Dvp d p) (h2 : Dvp d q) : Dvp d g := by
 obtain ⟨u, v, e⟩ := h.comb
 exact (h1.mul (r := pmul u p) u (pmul_coef u p)).add (h2.mul (r := pmul v q) v (pmul_coef v q)) fun i => by rw [pmul_coef, pmul_coef, e i]
theorem comb_scale {g p : List Rat} (k : Rat) (q : List Rat) (e : ∀ i, coef g i = k * coef p i) : Comb g p q :=
 ⟨[k], [], fun i => by
   rw [cv_one, e i, show cv (coef []) (coef q) i = 0 from sm_zero fun j _ => by rw [coef_nil]; grind]; grind⟩
theorem monic_gcd {p : List Rat} (hp : ptrim p = p) : Gcd (pmonic p) p [] := by
 refine ⟨dv_monic2 hp (Dvp.refl _), Dvp.zero _, ?_, pmonic_trim hp, ?_⟩
 . exact comb_scale (coef p (p.length - 1))⁻¹ [] fun i => by rw [pmonic_coef, Rat.div_def]; grind
 . rcases trim_iff.1 hp with h | h
   . left; rw [h]; rfl
   . exact Or.inr (pmonic_lead h)
theorem pgcd_gcd : ∀ (n : Nat) (p q : List Rat), ptrim p = p -> ptrim q = q -> q.length <= n -> Gcd (pgcd n p q) p q
 | 0, p, q, hp, _, h => by
   have e : q = [] := List.eq_nil_of_length_eq_zero (by omega)
   subst e
   exact monic_gcd hp
 | n + 1, p, q, hp, hq, h => by
   rw [pgcd]
   split
   . rename_i k
     have e : q = [] := List.eq_nil_of_length_eq_zero k
     subst e
     exact monic_gcd hp
   . rename_i k
     have c : coef q (q.length - 1) ≠ 0 := (trim_iff.1 hq).resolve_left (fun e => k (by rw [e]; rfl))
     have s := pdiv_spec (p := p) c
     have ih := pgcd_gcd n q (pmonic (pdiv p q).2) hq (pmonic_trim s.2.2) (by rw [pmonic_len]; omega)
     have dr := dv_monic2 s.2.2 ih.right
     refine ⟨(ih.left.mul (r := pmul (pdiv p q).1 q) (pdiv p q).1 (pmul_coef _ _)).add dr fun i => by rw [pmul_coef]; exact s.1 i, ih.left, ?_, ih.trim, ih.lead⟩
     obtain ⟨u, v, e⟩ := ih.comb
     obtain ⟨t, ht⟩ : ∃ t : Rat, ∀ i, coef (pmonic (pdiv p q).2) i = t * coef (pdiv p q).2 i := ⟨(coef (pdiv p q).2 ((pdiv p q).2.length - 1))⁻¹, fun i => by rw [pmonic_coef, Rat.div_def]; grind⟩
     generalize pmonic (pdiv p q).2 = m at *
     generalize (pdiv p q).1 = a at *
     generalize (pdiv p q).2 = r at *
     refine ⟨pmul v [t], psub u (pmul (pmul v [t]) a), fun i => ?_⟩
     have v1 : ∀ i, coef (pmul v [t]) i = t * coef v i := fun i => by rw [pmul_coef, cv_comm, cv_one]
     have e1 : cv (coef (pmul v [t])) (coef p) i = t * cv (coef v) (cv (coef a) (coef q)) i + t * cv (coef v) (coef r) i := by
      rw [cv_congr (a' := fun i => t * coef v i) (b' := fun i => cv (coef a) (coef q) i + coef r i) (fun j _ => v1 j) (fun j _ => s.1 j), cv_scale, cv_add]
      grind
     have e2 : cv (coef (psub u (pmul (pmul v [t]) a))) (coef q) i = cv (coef u) (coef q) i - t * cv (coef v) (cv (coef a) (coef q)) i := by
      have x1 : cv (coef (psub u (pmul (pmul v [t]) a))) (coef q) i = cv (fun j => coef u j + (-1) * coef (pmul (pmul v [t]) a) j) (coef q) i := cv_congr (fun j _ => by rw [psub_coef]; grind) fun _ _ => rfl
      rw [x1, cv_comm, cv_add, cv_comm (coef q) (coef u), cv_comm (coef q) (fun j => (-1) * coef (pmul (pmul v [t]) a) j), cv_scale]
      have x2 : cv (coef (pmul (pmul v [t]) a)) (coef q) i = t * cv (coef v) (cv (coef a) (coef q)) i := by
       rw [cv_congr (a' := cv (coef (pmul v [t])) (coef a)) (b' := coef q) (fun j _ => pmul_coef _ _ j) (fun _ _ => rfl), cv_assoc]
       rw [cv_congr (a' := fun i => t * coef v i) (b' := cv (coef a) (coef q)) (fun j _ => v1 j) (fun _ _ => rfl), cv_scale]
      rw [x2]
      grind
     have e3 : cv (coef v) (coef m) i = t * cv (coef v) (coef r) i := by
      rw [cv_comm, cv_congr (a' := fun j => t * coef r j) (b' := coef v) (fun j _ => ht j) (fun _ _ => rfl), cv_scale, cv_comm]
     rw [e i, e1, e2, e3]
     grind
theorem dv_len {d p : List Rat} (hd : ptrim d = d) (hp : ptrim p = p) (h : Dvp d p) (p0 : p ≠ []) : ∃ u : List Rat, ptrim u = u /\ pmul u d = p /\ u ≠ [] /\ d ≠ [] /\ p.length = u.length - 1 + (d.length - 1) + 1 := by
 obtain ⟨u, hu⟩ := h
 have e : pmul (ptrim u) d = p := ptrim_self (pmul_trim (ptrim_idem u) hd) hp fun i => by
  rw [pmul_coef, hu i]
  exact cv_congr (fun j _ => ptrim_coef u j) fun _ _ => rfl
 have n1 : (ptrim u).length ≠ 0 := fun k => p0 (by rw [<- e]; unfold pmul; rw [if_pos (Or.inl k)])
 have n2 : d.length ≠ 0 := fun k => p0 (by rw [<- e]; unfold pmul; rw [if_pos (Or.inr k)])
 exact ⟨ptrim u, ptrim_idem u, e, fun k => n1 (by rw [k]; rfl), fun k => n2 (by rw [k]; rfl), by rw [<- e, pmul_len n1 n2]⟩
theorem dv_same {d e : List Rat} (hd : ptrim d = d) (he : ptrim e = e) (h : Dvp d e) (k : Dvp e d) (d1 : coef d (d.length - 1) = 1) (e0 : e ≠ []) : pmonic e = d := by
 obtain ⟨u, u1, u2, u3, d0, u4⟩ := dv_len hd he h e0
 obtain ⟨v, _, _, _, _, v4⟩ := dv_len he hd k d0
 have ul : u.length = 1 := by
  have : u.length ≠ 0 := fun k => u3 (List.eq_nil_of_length_eq_zero k)
  have : d.length ≠ 0 := fun k => d0 (List.eq_nil_of_length_eq_zero k)
  have : e.length ≠ 0 := fun k => e0 (List.eq_nil_of_length_eq_zero k)
  omega
 obtain ⟨c, rfl⟩ : ∃ c, u = [c] := by
  match u, ul with
  | [c], _ => exact ⟨c, rfl⟩
 have c0 : c ≠ 0 := by
  rcases trim_iff.1 u1 with k | k
  . exact absurd k u3
  . exact k
 have ce : ∀ i, coef e i = c * coef d i := fun i => by rw [<- u2, pmul_coef, cv_one]
 have le : e.length = d.length := by
  have : d.length ≠ 0 := fun k => d0 (List.eq_nil_of_length_eq_zero k)
  rw [List.length_cons, List.length_nil] at u4
  omega
 refine ptrim_self (pmonic_trim he) hd fun i => ?_
 rw [pmonic_coef, le, ce, ce, d1, Rat.div_def]
 have := Rat.mul_inv_cancel _ c0
 grind
theorem rest_zero {d p : List Rat} (hd : ptrim d = d) (d0 : d ≠ []) (h : Dvp d p) : (pdiv p d).2 = [] := by
 have c : coef d (d.length - 1) ≠ 0 := (trim_iff.1 hd).resolve_left d0
 have s := pdiv_spec (p := p) c
 obtain ⟨u, hu⟩ := h
 by_cases r0 : (pdiv p d).2 = []
 . exact r0
 . exfalso
   have k : Dvp d (pdiv p d).2 := ⟨psub u (pdiv p d).1, fun i => by
    have e := s.1 i
    rw [hu i] at e
    have x1 : cv (coef (psub u (pdiv p d).1)) (coef d) i = cv (fun j => coef u j + (-1) * coef (pdiv p d).1 j) (coef d) i := cv_congr (fun j _ => by rw [psub_coef]; grind) fun _ _ => rfl
    rw [x1, cv_comm, cv_add, cv_comm (coef d) (coef u), cv_comm (coef d) (fun j => (-1) * coef (pdiv p d).1 j), cv_scale]
    grind⟩
   obtain ⟨_, _, _, _, _, l⟩ := dv_len hd s.2.2 k r0
   have := s.2.1
   have : d.length ≠ 0 := fun k => d0 (List.eq_nil_of_length_eq_zero k)
   omega
theorem rest_dv {d p : List Rat} (hd : ptrim d = d) (d0 : d ≠ []) (h : (pdiv p d).2 = []) : Dvp d p := by
 have c : coef d (d.length - 1) ≠ 0 := (trim_iff.1 hd).resolve_left d0
 have s := pdiv_spec (p := p) c
 exact ⟨(pdiv p d).1, fun i => by rw [s.1 i, h, coef_nil]; grind⟩
theorem nil_dv {p : List Rat} (hp : ptrim p = p) (h : Dvp [] p) : p = [] := by
 obtain ⟨u, hu⟩ := h
 exact ptrim_self hp rfl fun i => by
  rw [hu i, coef_nil]
  exact sm_zero fun j _ => by rw [coef_nil]; grind
theorem gcd_times {a b c g h : List Rat} (ha : ptrim a = a) (hb : ptrim b = b) (hc : ptrim c = c) (G : Gcd g (pmul a c) (pmul b c)) (H : Gcd h a b) (nz : pmul a c ≠ [] \/ pmul b c ≠ []) : pmonic (pmul h c) = g := by
 have up : ∀ {x : List Rat}, Dvp h x -> Dvp (pmul h c) (pmul x c) := fun {x} k => by
  obtain ⟨u, hu⟩ := k
  refine ⟨u, fun i => ?_⟩
  rw [pmul_coef, cv_congr (a' := cv (coef u) (coef h)) (b' := coef c) (fun j _ => hu j) (fun _ _ => rfl), cv_assoc]
  exact cv_congr (fun _ _ => rfl) fun j _ => (pmul_coef h c j).symm
 have d1 : Dvp (pmul h c) g := G.least (up H.left) (up H.right)
 have d2 : Dvp g (pmul h c) := by
  obtain ⟨u, v, e⟩ := H.comb
  refine (G.left.mul (r := pmul u (pmul a c)) u (pmul_coef _ _)).add (G.right.mul (r := pmul v (pmul b c)) v (pmul_coef _ _)) fun i => ?_
  rw [pmul_coef, pmul_coef, pmul_coef]
  rw [cv_congr (a' := fun i => cv (coef u) (coef a) i + cv (coef v) (coef b) i) (b' := coef c) (fun j _ => e j) (fun _ _ => rfl), cv_comm, cv_add, cv_comm (coef c), cv_comm (coef c), cv_assoc, cv_assoc]
  congr 1
  . exact cv_congr (fun _ _ => rfl) fun j _ => (pmul_coef a c j).symm
  . exact cv_congr (fun _ _ => rfl) fun j _ => (pmul_coef b c j).symm
 have g0 : g ≠ [] := by
  intro k
  have l := G.left
  have r := G.right
  rw [k] at l r
  rcases nz with n | n
  . exact n (nil_dv (pmul_trim ha hc) l)
  . exact n (nil_dv (pmul_trim hb hc) r)
 have e0 : pmul h c ≠ [] := by
  intro k
  rw [k] at d1
  exact g0 (nil_dv G.trim d1)
 exact dv_same G.trim (pmul_trim H.trim hc) d2 d1 (G.lead.resolve_left g0) e0
end Go.Proofs.YtmncfbfepdbioaaGreatDoor
namespace Go.Proofs.YtmncfbfepdbioaaGreatDoor
def lin (r : Rat) : List Rat := [-r, 1]
theorem lin_trim (r : Rat) : ptrim (lin r) = lin r := by rw [trim_iff]; right; show (1 : Rat) ≠ 0; decide
theorem lin_ne (r : Rat) : lin r ≠ [] := List.cons_ne_nil _ _
theorem ev_lin (r x : Rat) : ev (lin r) x = x - r := by show (0 * x + 1) * x + -r = _; grind
theorem pderiv_lin (r : Rat) : pderiv (lin r) = [1] := by
 show [((0 + 1 : Nat) : Rat) * 1] = [1]
 rw [show ((0 + 1 : Nat) : Rat) * 1 = 1 by decide +kernel]
theorem pmul_zero {p q : List Rat} (h : pmul p q = []) : p = [] \/ q = [] := by
 by_cases a : p.length = 0
 . exact Or.inl (List.eq_nil_of_length_eq_zero a)
 . by_cases b : q.length = 0
   . exact Or.inr (List.eq_nil_of_length_eq_zero b)
   . have := pmul_len a b
     rw [h, List.length_nil] at this
     omega
theorem pmul_cancel {p q d : List Rat} (hp : ptrim p = p) (hq : ptrim q = q) (hd : ptrim d = d) (d0 : d ≠ []) (h : pmul p d = pmul q d) : p = q := by
 have e : pmul (psub p q) d = [] := ptrim_self (pmul_trim (psub_trim p q) hd) rfl fun i => by
  rw [pmul_coef, coef_nil]
  have x1 : cv (coef (psub p q)) (coef d) i = cv (fun j => coef p j + (-1) * coef q j) (coef d) i := cv_congr (fun j _ => by rw [psub_coef]; grind) fun _ _ => rfl
  rw [x1, cv_comm, cv_add, cv_comm (coef d) (coef p), cv_comm (coef d) (fun j => (-1) * coef q j), cv_scale, <- pmul_coef, <- pmul_coef, h]
  grind
 rcases pmul_zero e with k | k
 . refine ptrim_self hp hq fun i => ?_
   have := psub_coef p q i
   rw [k, coef_nil] at this
   grind
 . exact absurd k d0
theorem root_lin {p : List Rat} (hp : ptrim p = p) {r : Rat} (h : ev p r = 0) : ∃ u : List Rat, ptrim u = u /\ pmul u (lin r) = p := by
 have e : (pdiv p (lin r)).2 = [] := by
  rw [show lin r = [-r, 1] from rfl, pdiv_lin, h]; rfl
 obtain ⟨u, hu⟩ := rest_dv (lin_trim r) (lin_ne r) e
 refine ⟨ptrim u, ptrim_idem u, ptrim_self (pmul_trim (ptrim_idem u) (lin_trim r)) hp fun i => ?_⟩
 rw [pmul_coef, hu i]
 exact cv_congr (fun j _ => ptrim_coef u j) fun _ _ => rfl
def prodl (c : Rat) : List Rat -> List Rat
 | [] => [c]
 | r :: rs => pmul (prodl c rs) (lin r)
theorem prodl_trim {c : Rat} (hc : c ≠ 0) : ∀ rs, ptrim (prodl c rs) = prodl c rs
 | [] => by rw [trim_iff]; exact Or.inr hc
 | r :: rs => pmul_trim (prodl_trim hc rs) (lin_trim r)
theorem prodl_ne {c : Rat} : ∀ rs, prodl c rs ≠ []
 | [] => List.cons_ne_nil _ _
 | r :: rs => fun h => by
   rcases pmul_zero h with k | k
   . exact prodl_ne rs k
   . exact lin_ne r k
theorem prodl_root {c : Rat} (hc : c ≠ 0) {x : Rat} : ∀ {rs : List Rat}, ev (prodl c rs) x = 0 ↔ x ∈ rs
 | [] => by
   constructor
   . intro h
     have : ev [c] x = 0 := h
     exfalso; apply hc
     have e : ev [c] x = 0 * x + c := rfl
     rw [e] at this; grind
   . intro h; cases h
 | r :: rs => by
   show ev (pmul (prodl c rs) (lin r)) x = 0 ↔ _
   rw [ev_pmul, ev_lin, Rat.mul_eq_zero, prodl_root hc, List.mem_cons]
   constructor
   . rintro (h | h)
     . exact Or.inr h
     . left; grind
   . rintro (h | h)
     . right; grind
     . exact Or.inl h
theorem prodl_lead : ∀ {rs : List Rat}, coef (prodl 1 rs) ((prodl 1 rs).length - 1) = 1
 | [] => rfl
 | r :: rs => by
   have a : (prodl 1 rs).length ≠ 0 := fun k => prodl_ne rs (List.eq_nil_of_length_eq_zero k)
   show coef (pmul (prodl 1 rs) (lin r)) ((pmul (prodl 1 rs) (lin r)).length - 1) = 1
   rw [pmul_len a (show (lin r).length ≠ 0 from Nat.succ_ne_zero 1), Nat.add_sub_cancel, pmul_coef, pmul_top, prodl_lead]
   show (1 : Rat) * 1 = 1
   grind
theorem dv_const {h : List Rat} (ht : ptrim h = h) : ∀ {rs : List Rat} {u : List Rat}, ptrim u = u -> pmul u h = prodl 1 rs -> (∀ r ∈ rs, ev h r ≠ 0) -> h.length = 1
 | [], u, hu, e, _ => by
   have a : u.length ≠ 0 := fun k => prodl_ne (c := 1) [] (by rw [<- e]; unfold pmul; rw [if_pos (Or.inl k)])
   have b : h.length ≠ 0 := fun k => prodl_ne (c := 1) [] (by rw [<- e]; unfold pmul; rw [if_pos (Or.inr k)])
   have := pmul_len a b
   rw [e] at this
   have l : (prodl 1 []).length = 1 := rfl
   omega
 | r :: rs, u, hu, e, hr => by
   have z : ev (pmul u h) r = 0 := by rw [e, prodl_root (by decide)]; exact List.mem_cons_self ..
   rw [ev_pmul] at z
   have u0 : ev u r = 0 := (Rat.mul_eq_zero.1 z).resolve_right (hr r (List.mem_cons_self ..))
   obtain ⟨v, hv, ev'⟩ := root_lin hu u0
   refine dv_const ht hv ?_ fun s hs => hr s (List.mem_cons_of_mem _ hs)
   refine pmul_cancel (pmul_trim hv ht) (prodl_trim (by decide) rs) (lin_trim r) (lin_ne r) ?_
   have e2 : pmul u h = pmul (prodl 1 rs) (lin r) := e
   rw [<- e2, <- ev', <- pmul_assoc hv ht (lin_trim r), <- pmul_assoc hv (lin_trim r) ht, pmul_comm ht (lin_trim r)]
structure SF (P G V : List Rat) (ds : List Rat) : Prop where
 g : ptrim G = G
 g0 : G ≠ []
 v : ptrim V = V
 p : P = pmul (prodl 1 ds) G
 d : pderiv P = pmul V G
 nd : ds.Nodup
 r : ∀ s ∈ ds, ∃ m : Nat, 1 <= m /\ ∀ U : List Rat, ptrim U = U -> pmul U (lin s) = prodl 1 ds -> ev V s = (m : Rat) * ev U s
theorem one_ne : (1 : Rat) ≠ 0 := by decide
theorem pmul_swap {a b c : List Rat} (ha : ptrim a = a) (hb : ptrim b = b) (hc : ptrim c = c) : pmul (pmul a b) c = pmul (pmul a c) b := by
 rw [<- pmul_assoc ha hb hc, <- pmul_assoc ha hc hb, pmul_comm hb hc]
theorem padd_pmul {a b c : List Rat} (hc : ptrim c = c) : padd (pmul a c) (pmul b c) = pmul (padd a b) c :=
 ptrim_self (padd_trim _ _) (pmul_trim (padd_trim a b) hc) fun i => by
  rw [padd_coef, pmul_coef, pmul_coef, pmul_coef, cv_comm (coef a), cv_comm (coef b), <- cv_add, cv_comm]
  exact cv_congr (fun j _ => (padd_coef a b j).symm) fun _ _ => rfl
theorem pmul_one {p : List Rat} (hp : ptrim p = p) : pmul p [1] = p :=
 ptrim_self (pmul_trim hp (by decide)) hp fun i => by rw [pmul_coef, cv_comm, cv_one]; grind
theorem SF.start {c : Rat} (hc : c ≠ 0) : SF [c] [c] [] [] where
 g := by rw [trim_iff]; exact Or.inr hc
 g0 := List.cons_ne_nil _ _
 v := rfl
 p := ptrim_self (by rw [trim_iff]; exact Or.inr hc) (pmul_trim (by decide) (by rw [trim_iff]; exact Or.inr hc)) fun i => by
   rw [pmul_coef]
   show _ = cv (coef [1]) (coef [c]) i
   rw [cv_one]; grind
 d := rfl
 nd := List.nodup_nil
 r := fun s h => by cases h
theorem SF.pt {P G V ds : List Rat} (h : SF P G V ds) : ptrim P = P := by rw [h.p]; exact pmul_trim (prodl_trim one_ne ds) h.g
theorem SF.fresh {P G V ds : List Rat} (h : SF P G V ds) {r : Rat} (hr : r ∉ ds) : SF (pmul P (lin r)) G (padd (pmul V (lin r)) (prodl 1 ds)) (r :: ds) where
 g := h.g
 g0 := h.g0
 v := padd_trim _ _
 p := by
   rw [h.p]
   exact pmul_swap (prodl_trim one_ne ds) h.g (lin_trim r)
 d := by
   rw [pderiv_mul h.pt (lin_trim r), h.d, pderiv_lin, pmul_one h.pt, <- padd_pmul h.g, pmul_swap h.v (lin_trim r) h.g, <- h.p]
 nd := List.nodup_cons.2 ⟨hr, h.nd⟩
 r := fun s hs => by
   rcases List.mem_cons.1 hs with rfl | hs
   . refine ⟨1, Nat.le_refl _, fun U hU e => ?_⟩
     have e2 : U = prodl 1 ds := pmul_cancel hU (prodl_trim one_ne ds) (lin_trim s) (lin_ne s) e
     rw [ev_padd, ev_pmul, ev_lin, e2]
     have : ((1 : Nat) : Rat) = 1 := rfl
     rw [this]
     grind
   . obtain ⟨m, m1, k⟩ := h.r s hs
     refine ⟨m, m1, fun U hU e => ?_⟩
     have sr : ev (prodl 1 ds) s = 0 := (prodl_root one_ne).2 hs
     obtain ⟨u, hu, eu⟩ := root_lin (prodl_trim one_ne ds) sr
     have e3 : U = pmul u (lin r) := by
      refine pmul_cancel hU (pmul_trim hu (lin_trim r)) (lin_trim s) (lin_ne s) ?_
      rw [e, pmul_swap hu (lin_trim r) (lin_trim s), eu]
      rfl
     rw [ev_padd, ev_pmul, sr, k u hu eu, e3, ev_pmul]
     grind
theorem SF.again {P G V ds : List Rat} (h : SF P G V ds) {r : Rat} (hr : r ∈ ds) : ∃ W : List Rat, SF (pmul P (lin r)) (pmul G (lin r)) (padd V W) ds := by
 have sr : ev (prodl 1 ds) r = 0 := (prodl_root one_ne).2 hr
 obtain ⟨W, hW, eW⟩ := root_lin (prodl_trim one_ne ds) sr
 refine ⟨W, pmul_trim h.g (lin_trim r), fun k => ?_, padd_trim _ _, ?_, ?_, h.nd, fun s hs => ?_⟩
 . rcases pmul_zero k with k | k
   . exact h.g0 k
   . exact lin_ne r k
 . rw [h.p, pmul_assoc (prodl_trim one_ne ds) h.g (lin_trim r)]
 . rw [pderiv_mul h.pt (lin_trim r), h.d, pderiv_lin, pmul_one h.pt, <- padd_pmul (pmul_trim h.g (lin_trim r)), pmul_assoc h.v h.g (lin_trim r)]
   congr 1
   rw [pmul_comm h.g (lin_trim r), pmul_assoc hW (lin_trim r) h.g, eW, <- h.p]
 . obtain ⟨m, m1, k⟩ := h.r s hs
   by_cases e : s = r
   . subst e
     refine ⟨m + 1, by omega, fun U hU eU => ?_⟩
     have e2 : U = W := pmul_cancel hU hW (lin_trim s) (lin_ne s) (eU.trans eW.symm)
     rw [ev_padd, k U hU eU, <- e2, Rat.natCast_add]
     show _ = ((m : Rat) + 1) * _
     grind
   . refine ⟨m, m1, fun U hU eU => ?_⟩
     have z : ev (pmul W (lin r)) s = 0 := by rw [eW]; exact (prodl_root one_ne).2 hs
     rw [ev_pmul, ev_lin] at z
     have w0 : ev W s = 0 := (Rat.mul_eq_zero.1 z).resolve_right (fun q => e (by grind))
     rw [ev_padd, k U hU eU, w0]
     grind
theorem SF.apart {P G V ds : List Rat} (h : SF P G V ds) : ∀ s ∈ ds, ev V s ≠ 0 := by
 intro s hs
 obtain ⟨m, m1, k⟩ := h.r s hs
 obtain ⟨U, hU, eU⟩ := root_lin (prodl_trim one_ne ds) ((prodl_root one_ne).2 hs)
 rw [k U hU eU]
 intro z
 rcases Rat.mul_eq_zero.1 z with z | z
 . exact cast_ne (by omega) z
 . -- U has no root at s, as ds holds it once
   have key : ∀ {ds : List Rat} {U : List Rat}, ds.Nodup -> s ∈ ds -> ptrim U = U -> pmul U (lin s) = prodl 1 ds -> ev U s ≠ 0 := by
    intro ds
    induction ds with
    | nil => intro U _ hm; cases hm
    | cons a t ih =>
      intro U nd hm hU e z
      have n := List.nodup_cons.1 nd
      by_cases q : s = a
      . subst q
        have e2 : U = prodl 1 t := pmul_cancel hU (prodl_trim one_ne t) (lin_trim s) (lin_ne s) e
        rw [e2, prodl_root one_ne] at z
        exact n.1 z
      . have hm' : s ∈ t := (List.mem_cons.1 hm).resolve_left q
        obtain ⟨u, hu, eu⟩ := root_lin (prodl_trim one_ne t) ((prodl_root one_ne).2 hm')
        have e3 : U = pmul u (lin a) := by
         refine pmul_cancel hU (pmul_trim hu (lin_trim a)) (lin_trim s) (lin_ne s) ?_
         rw [e, pmul_swap hu (lin_trim a) (lin_trim s), eu]
         rfl
        rw [e3, ev_pmul, ev_lin] at z
        rcases Rat.mul_eq_zero.1 z with z | z
        . exact ih n.2 hm' hu eu z
        . exact q (by grind)
   exact key h.nd hs hU eU z
theorem pdivs_len (q : List Rat) : ∀ (k : Nat) (quot rest : List Rat), (pdivs q k quot rest).1.length = quot.length + k
 | 0, _, _ => rfl
 | k + 1, quot, rest => by
   rw [pdivs, pdivs_len q k, List.length_cons]; omega
theorem pdiv_len (p q : List Rat) : (pdiv p q).1.length = p.length - (q.length - 1) := by
 show (pdivs q (p.length - (q.length - 1)) [] p).1.length = _
 rw [pdivs_len, List.length_nil, Nat.zero_add]
theorem trim_of_len {p : List Rat} (h : (ptrim p).length = p.length) : ptrim p = p := by
 rw [trim_iff]
 rcases trim_iff.1 (ptrim_idem p) with k | k
 . left
   rw [k] at h
   exact List.eq_nil_of_length_eq_zero h.symm
 . right
   rw [h, ptrim_coef] at k
   exact k
theorem pdiv_exact {p d u : List Rat} (hu : ptrim u = u) (hd : ptrim d = d) (d0 : d ≠ []) (e : pmul u d = p) (p0 : p ≠ []) : (pdiv p d).1 = u := by
 have r := rest_zero hd d0 (p := p) ⟨u, fun i => by rw [<- e, pmul_coef]⟩
 have c : coef d (d.length - 1) ≠ 0 := (trim_iff.1 hd).resolve_left d0
 have s := pdiv_spec (p := p) c
 have hp : ptrim p = p := by rw [<- e]; exact pmul_trim hu hd
 have e2 : pmul (ptrim (pdiv p d).1) d = p := ptrim_self (pmul_trim (ptrim_idem _) hd) hp fun i => by
  rw [pmul_coef, s.1 i, r, coef_nil, cv_congr (a' := coef (pdiv p d).1) (b' := coef d) (fun j _ => ptrim_coef _ j) (fun _ _ => rfl)]
  grind
 have q1 : ptrim (pdiv p d).1 = u := pmul_cancel (ptrim_idem _) hu hd d0 (e2.trans e.symm)
 have n1 : u.length ≠ 0 := fun k => p0 (by rw [<- e]; unfold pmul; rw [if_pos (Or.inl k)])
 have n2 : d.length ≠ 0 := fun k => d0 (List.eq_nil_of_length_eq_zero k)
 have l := pmul_len n1 n2
 rw [e] at l
 have t : ptrim (pdiv p d).1 = (pdiv p d).1 := trim_of_len (by rw [q1, pdiv_len]; omega)
 rw [<- t, q1]
theorem gcd_one {W V h : List Rat} {ds : List Rat} (hW : W = prodl 1 ds) (H : Gcd h W V) (ap : ∀ s ∈ ds, ev V s ≠ 0) : h = [1] := by
 have W0 : W ≠ [] := by rw [hW]; exact prodl_ne ds
 have tW : ptrim W = W := by rw [hW]; exact prodl_trim one_ne ds
 obtain ⟨u, hu, e, u0, h0, _⟩ := dv_len H.trim tW H.left W0
 have l := dv_const H.trim hu (e.trans hW) fun r hr z => by
  obtain ⟨v, hv⟩ := H.right
  have k := ap r hr
  rw [ev_prod hv r, z] at k
  exact k (by grind)
 have ld := H.lead.resolve_left h0
 match h, l, ld with
 | [a], _, ld =>
   have : a = 1 := ld
   rw [this]
theorem SF.square {P G V ds g : List Rat} (h : SF P G V ds) (H : Gcd g P (pderiv P)) : pmonic (pdiv P g).1 = prodl 1 ds := by
 have tW := prodl_trim one_ne ds
 have H1 := pgcd_gcd V.length (prodl 1 ds) V tW h.v (Nat.le_refl _)
 have h1 := gcd_one rfl H1 h.apart
 rw [h1] at H1
 have P0 : P ≠ [] := by
  rw [h.p]; intro k
  rcases pmul_zero k with k | k
  . exact prodl_ne ds k
  . exact h.g0 k
 have H2 := H
 rw [h.d] at H2
 have e := gcd_times (a := prodl 1 ds) (b := V) (c := G) tW h.v h.g (by rw [<- h.p]; exact H2) H1 (Or.inl (by rw [<- h.p]; exact P0))
 have one : pmul [1] G = G := ptrim_self (pmul_trim (by decide) h.g) h.g fun i => by rw [pmul_coef, cv_one]; grind
 rw [one] at e
 have l0 : coef G (G.length - 1) ≠ 0 := (trim_iff.1 h.g).resolve_left h.g0
 obtain ⟨l, hl⟩ : ∃ l, coef G (G.length - 1) = l := ⟨_, rfl⟩
 rw [hl] at l0
 have tl : ptrim [l] = [l] := by rw [trim_iff]; exact Or.inr l0
 have tg := H.trim
 have g0 : g ≠ [] := by
  rw [<- e]; intro k
  have := pmonic_len G
  rw [k] at this
  exact h.g0 (List.eq_nil_of_length_eq_zero this.symm)
 have cG : ∀ i, coef G i = l * coef g i := fun i => by
  rw [<- e, pmonic_coef, hl, Rat.div_def]
  have := Rat.mul_inv_cancel _ l0
  grind
 have q : (pdiv P g).1 = pmul [l] (prodl 1 ds) := pdiv_exact (pmul_trim tl tW) tg g0 (by
  refine ptrim_self (pmul_trim (pmul_trim tl tW) tg) h.pt fun i => ?_
  rw [h.p, pmul_coef, pmul_coef]
  rw [cv_congr (a' := fun j => l * coef (prodl 1 ds) j) (b' := coef g) (fun j _ => by rw [pmul_coef, cv_one]) (fun _ _ => rfl), cv_scale]
  rw [cv_comm (coef (prodl 1 ds)) (coef G), cv_congr (a' := fun j => l * coef g j) (b' := coef (prodl 1 ds)) (fun j _ => cG j) (fun _ _ => rfl), cv_scale, cv_comm]) P0
 rw [q]
 refine ptrim_self (pmonic_trim (pmul_trim tl tW)) tW fun i => ?_
 have n1 : ([l] : List Rat).length ≠ 0 := Nat.succ_ne_zero 0
 have n2 : (prodl 1 ds).length ≠ 0 := fun k => prodl_ne ds (List.eq_nil_of_length_eq_zero k)
 rw [pmonic_coef, pmul_coef, cv_one, pmul_len n1 n2, Nat.add_sub_cancel, pmul_coef, pmul_top, prodl_lead, Rat.div_def]
 show _ * (l * 1)⁻¹ = _
 have := Rat.mul_inv_cancel _ l0
 rw [show l * 1 = l by grind]
 grind
end Go.Proofs.YtmncfbfepdbioaaGreatDoor
