/-
  Stage 2: Add, Sub, Mul and Div of the rationals. Stage 2: Floor of the rationals. Stage 2: Sqrt of the rationals. Stage 3: the derivative of sums, products and compositions; the division by x - n. Stage 3: on lists of small integers the program's functions make no error: what they compute, and how great it may be.
-/
import Derived.Test.YtjbnclfbkccieaaGreatDoorPolT
import Derived.Test.YtjbnclfbkccieaaGreatDoorPolR
namespace Go.Proofs.YtjbnclfbkccieaaGreatDoor
open Go.RowKit
theorem kf_zero {e : Int} (h : e = 0) : Kf 0 e 0 := Or.inl ⟨rfl, h.symm⟩
theorem kp_two {e : Int} (f : Int) (h : f = 2) : kp f e = 2 := by subst h; rfl
theorem fitE_or (z : Int) : fitE z = 0 ∧ fitZ z = z ∧ z.natAbs < BIG ∨ fitE z = 2 := by
  by_cases h : z.natAbs < BIG
  · exact Or.inl ⟨(fit_yes h).2, (fit_yes h).1, h⟩
  · exact Or.inr (fit_no h).2
theorem mk_ok {s d : Int} (h : d ≠ 0) : mkN (some s) (some d) = (Rat.divInt s d).num ∧ mkD (some s) (some d) = ((Rat.divInt s d).den : Int) ∧ mkE (some s) (some d) = 0 :=
  ⟨if_neg h, if_neg h, if_neg h⟩
theorem isSome_of {o o' : Option Int} {x : Rat} (h : rv o o' = some x) : (rv o o').isSome = true := by rw [h]; rfl
set_option maxHeartbeats 1000000 in
theorem walk_Add (q q' : RVal) (N D E : Int) (w : World) (h : q.In w) (h' : q'.In w)
    (HC : Hid (∀ (W : World) (ca cb : Nat), Rb W ca q → Rb W cb q' → Calls Tryz.prog 85 #[.agg #[.bool q.g, .slice q.A q.n q.c, .bool q.gd, .slice q.Ad q.nd q.cd], .agg #[.bool q'.g, .slice q'.A q'.n q'.c, .bool q'.gd, .slice q'.Ad q'.nd q'.cd], .func (.func 86) #[] #[.pointer (some ⟨ca, 0, none⟩), .pointer (some ⟨cb, 0, none⟩)]] W (RetR N D E W))) :
    Calls Tryz.prog 38 #[.agg #[.bool q.g, .slice q.A q.n q.c, .bool q.gd, .slice q.Ad q.nd q.cd], .agg #[.bool q'.g, .slice q'.A q'.n q'.c, .bool q'.gd, .slice q'.Ad q'.nd q'.cd]] w (RetR N D E w) := by
  have hmf : ∀ (fn : Fn) (first cap : Array Value) (w : World), (Instr.makeFunc fn first cap).run Tryz.prog w = .ok (.func fn first cap) w := fun _ _ _ _ => rfl
  have HS := Lib.hid (And.intro h h')
  clear h h'
  go_enter Tryz.func38, Tryz.ntmps38
  go_wp2_with fail
  generalize hW : World.alloc (World.alloc (World.alloc w _) _) _ = V
  obtain ⟨hb, ra, rb, rr⟩ := two_rats_nil q q' w V HS.out.1 HS.out.2 hW
  have HB := Lib.hid hb
  have HR := Lib.hid (And.intro ra (And.intro rb rr))
  clear hW hb ra rb rr
  refine (HC.out V _ _ HR.out.1 HR.out.2.1).mono ?_
  rintro e w3 ⟨t, rfl, hq, ho, hod, hb3⟩
  have R3 := Lib.hid (HR.out.2.2.on hb3)
  have B3 := Lib.hid (below_chain HB.out HB.out.size hb3)
  have HQ := Lib.hid (And.intro hq (And.intro ho hod))
  clear hq ho hod hb3 HR HB
  have f0 := R3.out.f 0
  have f1 := R3.out.f 1
  have f2 := R3.out.f 2
  have f3 := R3.out.f 3
  have q0 := R3.out.c0
  have q1 := R3.out.c1
  have q2 := R3.out.c2
  have q3 := R3.out.c3
  simp only [RVal.nil] at q0 q1 q2 q3
  go_wp2
  generalize hU : World.setCell (World.setCell (World.setCell (World.setCell w3 _ _) _ _) _ _) _ _ = U
  have RU' := (Rb.put R3.out HQ.out.1)
  have RU : Rb U (w.heap.size + 1 + 1) t := by rw [← hU]; exact RU'
  have HU : Below w.heap.size w U := by rw [← hU]; exact (below_put4 B3.out (show w.heap.size ≤ w.heap.size + 1 + 1 by omega) _ _ _ _)
  have j0 := RU.c0
  have j1 := RU.c1
  have j2 := RU.c2
  have j3 := RU.c3
  refine bodyPost_ret (v := .tuple #[.agg #[.bool t.g, .slice t.A t.n t.c, .bool t.gd, .slice t.Ad t.nd t.cd], .int .i64 E]) (by simp [results, Tryz.results38, go_sem, j0, j1, j2, j3]) rfl ?_
  exact RetR.of RU HQ.out.2.1 HQ.out.2.2 HU
theorem add_ok {q q' : RVal} {x y : Rat} {w : World} (h : q.In w) (h' : q'.In w) (hx : rv q.o q.od = some x) (hy : rv q'.o q'.od = some y) (f1 : (x.num * y.den).natAbs < BIG) (f2 : (y.num * x.den).natAbs < BIG) (f3 : (x.num * y.den + y.num * x.den).natAbs < BIG) (f4 : ((x.den : Int) * y.den).natAbs < BIG) :
    Calls Tryz.prog 38 #[.agg #[.bool q.g, .slice q.A q.n q.c, .bool q.gd, .slice q.Ad q.nd q.cd], .agg #[.bool q'.g, .slice q'.A q'.n q'.c, .bool q'.gd, .slice q'.Ad q'.nd q'.cd]] w (RetR (x + y).num ((x + y).den : Int) 0 w) := by
  have ox := rv_some hx
  have oy := rv_some hy
  have g1 := fit_yes f1
  have g2 := fit_yes f2
  have g3 := fit_yes f3
  have g4 := fit_yes f4
  have m := mk_ok (s := x.num * y.den + y.num * x.den) (den2_ne x y)
  rw [rat_add] at m
  refine walk_Add q q' _ _ _ w h h' (Lib.hid fun W ca cb ra rb => ?_)
  refine combine_Add_ok q q' W ra.sl rb.sl ca cb _ _ _ _ _ (isSome_of hx) (isSome_of hy) (Lib.hid fun W1 p hb hp hc => ?_) m.1 m.2.1 m.2.2
  exact clo_Add q q' ca cb p _ _ _ _ _ _ _ _ 0 0 0 0 W1 (ra.on hb) (rb.on hb) hc ox.1 ox.2 oy.1 oy.2 g1.1 g2.1 g3.1 g4.1 (kf_zero g1.2) (kf_zero g2.2) (kf_zero g3.2) (kf_zero g4.2)
theorem add_no {q q' : RVal} {x y : Rat} {w : World} (h : q.In w) (h' : q'.In w) (hx : rv q.o q.od = some x) (hy : rv q'.o q'.od = some y) (hn : ¬ ((x.num * y.den).natAbs < BIG ∧ (y.num * x.den).natAbs < BIG ∧ (x.num * y.den + y.num * x.den).natAbs < BIG ∧ ((x.den : Int) * y.den).natAbs < BIG)) :
    Calls Tryz.prog 38 #[.agg #[.bool q.g, .slice q.A q.n q.c, .bool q.gd, .slice q.Ad q.nd q.cd], .agg #[.bool q'.g, .slice q'.A q'.n q'.c, .bool q'.gd, .slice q'.Ad q'.nd q'.cd]] w (RetR 0 0 2 w) := by
  have ox := rv_some hx
  have oy := rv_some hy
  have k : kp (kp (kp (kp 0 (fitE (x.num * y.den))) (fitE (y.num * x.den))) (fitE (fitZ (x.num * y.den) + fitZ (y.num * x.den)))) (fitE ((x.den : Int) * y.den)) = 2 := by
    rcases fitE_or (x.num * y.den) with ⟨e1, z1, l1⟩ | e1
    · rw [e1]
      rcases fitE_or (y.num * x.den) with ⟨e2, z2, l2⟩ | e2
      · rw [e2, z1, z2]
        rcases fitE_or (x.num * y.den + y.num * x.den) with ⟨e3, _, l3⟩ | e3
        · rw [e3]
          rcases fitE_or ((x.den : Int) * y.den) with ⟨_, _, l4⟩ | e4
          · exact absurd ⟨l1, l2, l3, l4⟩ hn
          · rw [e4]; rfl
        · rw [e3]; exact kp_two _ rfl
      · rw [e2]; exact kp_two _ (kp_two _ rfl)
    · rw [e1]; exact kp_two _ (kp_two _ (kp_two _ rfl))
  refine walk_Add q q' _ _ _ w h h' (Lib.hid fun W ca cb ra rb => ?_)
  refine combine_Add_no q q' W ra.sl rb.sl ca cb (fitZ (fitZ (x.num * y.den) + fitZ (y.num * x.den))) (fitZ ((x.den : Int) * y.den)) 2 (isSome_of hx) (isSome_of hy) (Lib.hid fun W1 p hb hp hc => ?_) (by decide)
  refine clo_Add q q' ca cb p _ _ _ _ _ _ _ _ _ _ _ 2 W1 (ra.on hb) (rb.on hb) hc ox.1 ox.2 oy.1 oy.2 rfl rfl rfl rfl (kp_or _ _) (kp_or _ _) (kp_or _ _) ?_
  have := kp_or (kp (kp (kp 0 (fitE (x.num * y.den))) (fitE (y.num * x.den))) (fitE (fitZ (x.num * y.den) + fitZ (y.num * x.den)))) (fitE ((x.den : Int) * y.den))
  rwa [k] at this
set_option maxHeartbeats 1000000 in
theorem walk_Sub (q q' : RVal) (N D E : Int) (w : World) (h : q.In w) (h' : q'.In w)
    (HC : Hid (∀ (W : World) (ca cb : Nat), Rb W ca q → Rb W cb q' → Calls Tryz.prog 85 #[.agg #[.bool q.g, .slice q.A q.n q.c, .bool q.gd, .slice q.Ad q.nd q.cd], .agg #[.bool q'.g, .slice q'.A q'.n q'.c, .bool q'.gd, .slice q'.Ad q'.nd q'.cd], .func (.func 165) #[] #[.pointer (some ⟨ca, 0, none⟩), .pointer (some ⟨cb, 0, none⟩)]] W (RetR N D E W))) :
    Calls Tryz.prog 129 #[.agg #[.bool q.g, .slice q.A q.n q.c, .bool q.gd, .slice q.Ad q.nd q.cd], .agg #[.bool q'.g, .slice q'.A q'.n q'.c, .bool q'.gd, .slice q'.Ad q'.nd q'.cd]] w (RetR N D E w) := by
  have hmf : ∀ (fn : Fn) (first cap : Array Value) (w : World), (Instr.makeFunc fn first cap).run Tryz.prog w = .ok (.func fn first cap) w := fun _ _ _ _ => rfl
  have HS := Lib.hid (And.intro h h')
  clear h h'
  go_enter Tryz.func129, Tryz.ntmps129
  go_wp2_with fail
  generalize hW : World.alloc (World.alloc (World.alloc w _) _) _ = V
  obtain ⟨hb, ra, rb, rr⟩ := two_rats_nil q q' w V HS.out.1 HS.out.2 hW
  have HB := Lib.hid hb
  have HR := Lib.hid (And.intro ra (And.intro rb rr))
  clear hW hb ra rb rr
  refine (HC.out V _ _ HR.out.1 HR.out.2.1).mono ?_
  rintro e w3 ⟨t, rfl, hq, ho, hod, hb3⟩
  have R3 := Lib.hid (HR.out.2.2.on hb3)
  have B3 := Lib.hid (below_chain HB.out HB.out.size hb3)
  have HQ := Lib.hid (And.intro hq (And.intro ho hod))
  clear hq ho hod hb3 HR HB
  have f0 := R3.out.f 0
  have f1 := R3.out.f 1
  have f2 := R3.out.f 2
  have f3 := R3.out.f 3
  have q0 := R3.out.c0
  have q1 := R3.out.c1
  have q2 := R3.out.c2
  have q3 := R3.out.c3
  simp only [RVal.nil] at q0 q1 q2 q3
  go_wp2
  generalize hU : World.setCell (World.setCell (World.setCell (World.setCell w3 _ _) _ _) _ _) _ _ = U
  have RU' := (Rb.put R3.out HQ.out.1)
  have RU : Rb U (w.heap.size + 1 + 1) t := by rw [← hU]; exact RU'
  have HU : Below w.heap.size w U := by rw [← hU]; exact (below_put4 B3.out (show w.heap.size ≤ w.heap.size + 1 + 1 by omega) _ _ _ _)
  have j0 := RU.c0
  have j1 := RU.c1
  have j2 := RU.c2
  have j3 := RU.c3
  refine bodyPost_ret (v := .tuple #[.agg #[.bool t.g, .slice t.A t.n t.c, .bool t.gd, .slice t.Ad t.nd t.cd], .int .i64 E]) (by simp [results, Tryz.results129, go_sem, j0, j1, j2, j3]) rfl ?_
  exact RetR.of RU HQ.out.2.1 HQ.out.2.2 HU
theorem sub_ok {q q' : RVal} {x y : Rat} {w : World} (h : q.In w) (h' : q'.In w) (hx : rv q.o q.od = some x) (hy : rv q'.o q'.od = some y) (f1 : (x.num * y.den).natAbs < BIG) (f2 : (y.num * x.den).natAbs < BIG) (f3 : (x.num * y.den - y.num * x.den).natAbs < BIG) (f4 : ((x.den : Int) * y.den).natAbs < BIG) :
    Calls Tryz.prog 129 #[.agg #[.bool q.g, .slice q.A q.n q.c, .bool q.gd, .slice q.Ad q.nd q.cd], .agg #[.bool q'.g, .slice q'.A q'.n q'.c, .bool q'.gd, .slice q'.Ad q'.nd q'.cd]] w (RetR (x - y).num ((x - y).den : Int) 0 w) := by
  have ox := rv_some hx
  have oy := rv_some hy
  have g1 := fit_yes f1
  have g2 := fit_yes f2
  have g3 := fit_yes f3
  have g4 := fit_yes f4
  have m := mk_ok (s := x.num * y.den - y.num * x.den) (den2_ne x y)
  rw [rat_sub] at m
  refine walk_Sub q q' _ _ _ w h h' (Lib.hid fun W ca cb ra rb => ?_)
  refine combine_Sub_ok q q' W ra.sl rb.sl ca cb _ _ _ _ _ (isSome_of hx) (isSome_of hy) (Lib.hid fun W1 p hb hp hc => ?_) m.1 m.2.1 m.2.2
  exact clo_Sub q q' ca cb p _ _ _ _ _ _ _ _ 0 0 0 0 W1 (ra.on hb) (rb.on hb) hc ox.1 ox.2 oy.1 oy.2 g1.1 g2.1 g3.1 g4.1 (kf_zero g1.2) (kf_zero g2.2) (kf_zero g3.2) (kf_zero g4.2)
theorem sub_no {q q' : RVal} {x y : Rat} {w : World} (h : q.In w) (h' : q'.In w) (hx : rv q.o q.od = some x) (hy : rv q'.o q'.od = some y) (hn : ¬ ((x.num * y.den).natAbs < BIG ∧ (y.num * x.den).natAbs < BIG ∧ (x.num * y.den - y.num * x.den).natAbs < BIG ∧ ((x.den : Int) * y.den).natAbs < BIG)) :
    Calls Tryz.prog 129 #[.agg #[.bool q.g, .slice q.A q.n q.c, .bool q.gd, .slice q.Ad q.nd q.cd], .agg #[.bool q'.g, .slice q'.A q'.n q'.c, .bool q'.gd, .slice q'.Ad q'.nd q'.cd]] w (RetR 0 0 2 w) := by
  have ox := rv_some hx
  have oy := rv_some hy
  have k : kp (kp (kp (kp 0 (fitE (x.num * y.den))) (fitE (y.num * x.den))) (fitE (fitZ (x.num * y.den) - fitZ (y.num * x.den)))) (fitE ((x.den : Int) * y.den)) = 2 := by
    rcases fitE_or (x.num * y.den) with ⟨e1, z1, l1⟩ | e1
    · rw [e1]
      rcases fitE_or (y.num * x.den) with ⟨e2, z2, l2⟩ | e2
      · rw [e2, z1, z2]
        rcases fitE_or (x.num * y.den - y.num * x.den) with ⟨e3, _, l3⟩ | e3
        · rw [e3]
          rcases fitE_or ((x.den : Int) * y.den) with ⟨_, _, l4⟩ | e4
          · exact absurd ⟨l1, l2, l3, l4⟩ hn
          · rw [e4]; rfl
        · rw [e3]; exact kp_two _ rfl
      · rw [e2]; exact kp_two _ (kp_two _ rfl)
    · rw [e1]; exact kp_two _ (kp_two _ (kp_two _ rfl))
  refine walk_Sub q q' _ _ _ w h h' (Lib.hid fun W ca cb ra rb => ?_)
  refine combine_Sub_no q q' W ra.sl rb.sl ca cb (fitZ (fitZ (x.num * y.den) - fitZ (y.num * x.den))) (fitZ ((x.den : Int) * y.den)) 2 (isSome_of hx) (isSome_of hy) (Lib.hid fun W1 p hb hp hc => ?_) (by decide)
  refine clo_Sub q q' ca cb p _ _ _ _ _ _ _ _ _ _ _ 2 W1 (ra.on hb) (rb.on hb) hc ox.1 ox.2 oy.1 oy.2 rfl rfl rfl rfl (kp_or _ _) (kp_or _ _) (kp_or _ _) ?_
  have := kp_or (kp (kp (kp 0 (fitE (x.num * y.den))) (fitE (y.num * x.den))) (fitE (fitZ (x.num * y.den) - fitZ (y.num * x.den)))) (fitE ((x.den : Int) * y.den))
  rwa [k] at this
set_option maxHeartbeats 1000000 in
theorem walk_Mul (q q' : RVal) (N D E : Int) (w : World) (h : q.In w) (h' : q'.In w)
    (HC : Hid (∀ (W : World) (ca cb : Nat), Rb W ca q → Rb W cb q' → Calls Tryz.prog 85 #[.agg #[.bool q.g, .slice q.A q.n q.c, .bool q.gd, .slice q.Ad q.nd q.cd], .agg #[.bool q'.g, .slice q'.A q'.n q'.c, .bool q'.gd, .slice q'.Ad q'.nd q'.cd], .func (.func 89) #[] #[.pointer (some ⟨ca, 0, none⟩), .pointer (some ⟨cb, 0, none⟩)]] W (RetR N D E W))) :
    Calls Tryz.prog 39 #[.agg #[.bool q.g, .slice q.A q.n q.c, .bool q.gd, .slice q.Ad q.nd q.cd], .agg #[.bool q'.g, .slice q'.A q'.n q'.c, .bool q'.gd, .slice q'.Ad q'.nd q'.cd]] w (RetR N D E w) := by
  have hmf : ∀ (fn : Fn) (first cap : Array Value) (w : World), (Instr.makeFunc fn first cap).run Tryz.prog w = .ok (.func fn first cap) w := fun _ _ _ _ => rfl
  have HS := Lib.hid (And.intro h h')
  clear h h'
  go_enter Tryz.func39, Tryz.ntmps39
  go_wp2_with fail
  generalize hW : World.alloc (World.alloc (World.alloc w _) _) _ = V
  obtain ⟨hb, ra, rb, rr⟩ := two_rats_nil q q' w V HS.out.1 HS.out.2 hW
  have HB := Lib.hid hb
  have HR := Lib.hid (And.intro ra (And.intro rb rr))
  clear hW hb ra rb rr
  refine (HC.out V _ _ HR.out.1 HR.out.2.1).mono ?_
  rintro e w3 ⟨t, rfl, hq, ho, hod, hb3⟩
  have R3 := Lib.hid (HR.out.2.2.on hb3)
  have B3 := Lib.hid (below_chain HB.out HB.out.size hb3)
  have HQ := Lib.hid (And.intro hq (And.intro ho hod))
  clear hq ho hod hb3 HR HB
  have f0 := R3.out.f 0
  have f1 := R3.out.f 1
  have f2 := R3.out.f 2
  have f3 := R3.out.f 3
  have q0 := R3.out.c0
  have q1 := R3.out.c1
  have q2 := R3.out.c2
  have q3 := R3.out.c3
  simp only [RVal.nil] at q0 q1 q2 q3
  go_wp2
  generalize hU : World.setCell (World.setCell (World.setCell (World.setCell w3 _ _) _ _) _ _) _ _ = U
  have RU' := (Rb.put R3.out HQ.out.1)
  have RU : Rb U (w.heap.size + 1 + 1) t := by rw [← hU]; exact RU'
  have HU : Below w.heap.size w U := by rw [← hU]; exact (below_put4 B3.out (show w.heap.size ≤ w.heap.size + 1 + 1 by omega) _ _ _ _)
  have j0 := RU.c0
  have j1 := RU.c1
  have j2 := RU.c2
  have j3 := RU.c3
  refine bodyPost_ret (v := .tuple #[.agg #[.bool t.g, .slice t.A t.n t.c, .bool t.gd, .slice t.Ad t.nd t.cd], .int .i64 E]) (by simp [results, Tryz.results39, go_sem, j0, j1, j2, j3]) rfl ?_
  exact RetR.of RU HQ.out.2.1 HQ.out.2.2 HU
theorem mul_no {q q' : RVal} {x y : Rat} {w : World} (h : q.In w) (h' : q'.In w) (hx : rv q.o q.od = some x) (hy : rv q'.o q'.od = some y) (hn : ¬ ((x.num * y.num).natAbs < BIG ∧ ((x.den : Int) * y.den).natAbs < BIG)) :
    Calls Tryz.prog 39 #[.agg #[.bool q.g, .slice q.A q.n q.c, .bool q.gd, .slice q.Ad q.nd q.cd], .agg #[.bool q'.g, .slice q'.A q'.n q'.c, .bool q'.gd, .slice q'.Ad q'.nd q'.cd]] w (RetR 0 0 2 w) := by
  have ox := rv_some hx
  have oy := rv_some hy
  have k : kp (kp 0 (fitE (x.num * y.num))) (fitE ((x.den : Int) * y.den)) = 2 := by
    rcases fitE_or (x.num * y.num) with ⟨e1, _, l1⟩ | e1
    · rw [e1]
      rcases fitE_or ((x.den : Int) * y.den) with ⟨_, _, l2⟩ | e2
      · exact absurd ⟨l1, l2⟩ hn
      · rw [e2]; rfl
    · rw [e1]; exact kp_two _ rfl
  refine walk_Mul q q' _ _ _ w h h' (Lib.hid fun W ca cb ra rb => ?_)
  refine combine_Mul_no q q' W ra.sl rb.sl ca cb (fitZ (x.num * y.num)) (fitZ ((x.den : Int) * y.den)) 2 (isSome_of hx) (isSome_of hy) (Lib.hid fun W1 p hb hp hc => ?_) (by decide)
  refine clo_Mul q q' ca cb p _ _ _ _ _ _ _ 2 W1 (ra.on hb) (rb.on hb) hc ox.1 ox.2 oy.1 oy.2 rfl rfl (kp_or _ _) ?_
  have := kp_or (kp 0 (fitE (x.num * y.num))) (fitE ((x.den : Int) * y.den))
  rwa [k] at this
theorem mul_ok {q q' : RVal} {x y : Rat} {w : World} (h : q.In w) (h' : q'.In w) (hx : rv q.o q.od = some x) (hy : rv q'.o q'.od = some y) (f1 : (x.num * y.num).natAbs < BIG) (f2 : ((x.den : Int) * y.den).natAbs < BIG) :
    Calls Tryz.prog 39 #[.agg #[.bool q.g, .slice q.A q.n q.c, .bool q.gd, .slice q.Ad q.nd q.cd], .agg #[.bool q'.g, .slice q'.A q'.n q'.c, .bool q'.gd, .slice q'.Ad q'.nd q'.cd]] w (RetR (x * y).num ((x * y).den : Int) 0 w) := by
  have ox := rv_some hx
  have oy := rv_some hy
  have g1 := fit_yes f1
  have g2 := fit_yes f2
  have m := mk_ok (s := x.num * y.num) (den2_ne x y)
  rw [rat_mul] at m
  refine walk_Mul q q' _ _ _ w h h' (Lib.hid fun W ca cb ra rb => ?_)
  refine combine_Mul_ok q q' W ra.sl rb.sl ca cb _ _ _ _ _ (isSome_of hx) (isSome_of hy) (Lib.hid fun W1 p hb hp hc => ?_) m.1 m.2.1 m.2.2
  exact clo_Mul q q' ca cb p _ _ _ _ _ _ 0 0 W1 (ra.on hb) (rb.on hb) hc ox.1 ox.2 oy.1 oy.2 g1.1 g2.1 (kf_zero g1.2) (kf_zero g2.2)
set_option maxHeartbeats 1000000 in
theorem walk_Div (q q' : RVal) (N D E : Int) (w : World) (h : q.In w) (h' : q'.In w)
    (HC : Hid (∀ (W : World) (ca cb : Nat), Rb W ca q → Rb W cb q' → Calls Tryz.prog 85 #[.agg #[.bool q.g, .slice q.A q.n q.c, .bool q.gd, .slice q.Ad q.nd q.cd], .agg #[.bool q'.g, .slice q'.A q'.n q'.c, .bool q'.gd, .slice q'.Ad q'.nd q'.cd], .func (.func 194) #[] #[.pointer (some ⟨ca, 0, none⟩), .pointer (some ⟨cb, 0, none⟩)]] W (RetR N D E W))) :
    Calls Tryz.prog 168 #[.agg #[.bool q.g, .slice q.A q.n q.c, .bool q.gd, .slice q.Ad q.nd q.cd], .agg #[.bool q'.g, .slice q'.A q'.n q'.c, .bool q'.gd, .slice q'.Ad q'.nd q'.cd]] w (RetR N D E w) := by
  have hmf : ∀ (fn : Fn) (first cap : Array Value) (w : World), (Instr.makeFunc fn first cap).run Tryz.prog w = .ok (.func fn first cap) w := fun _ _ _ _ => rfl
  have HS := Lib.hid (And.intro h h')
  clear h h'
  go_enter Tryz.func168, Tryz.ntmps168
  go_wp2_with fail
  generalize hW : World.alloc (World.alloc (World.alloc w _) _) _ = V
  obtain ⟨hb, ra, rb, rr⟩ := two_rats_nil q q' w V HS.out.1 HS.out.2 hW
  have HB := Lib.hid hb
  have HR := Lib.hid (And.intro ra (And.intro rb rr))
  clear hW hb ra rb rr
  refine (HC.out V _ _ HR.out.1 HR.out.2.1).mono ?_
  rintro e w3 ⟨t, rfl, hq, ho, hod, hb3⟩
  have R3 := Lib.hid (HR.out.2.2.on hb3)
  have B3 := Lib.hid (below_chain HB.out HB.out.size hb3)
  have HQ := Lib.hid (And.intro hq (And.intro ho hod))
  clear hq ho hod hb3 HR HB
  have f0 := R3.out.f 0
  have f1 := R3.out.f 1
  have f2 := R3.out.f 2
  have f3 := R3.out.f 3
  have q0 := R3.out.c0
  have q1 := R3.out.c1
  have q2 := R3.out.c2
  have q3 := R3.out.c3
  simp only [RVal.nil] at q0 q1 q2 q3
  go_wp2
  generalize hU : World.setCell (World.setCell (World.setCell (World.setCell w3 _ _) _ _) _ _) _ _ = U
  have RU' := (Rb.put R3.out HQ.out.1)
  have RU : Rb U (w.heap.size + 1 + 1) t := by rw [← hU]; exact RU'
  have HU : Below w.heap.size w U := by rw [← hU]; exact (below_put4 B3.out (show w.heap.size ≤ w.heap.size + 1 + 1 by omega) _ _ _ _)
  have j0 := RU.c0
  have j1 := RU.c1
  have j2 := RU.c2
  have j3 := RU.c3
  refine bodyPost_ret (v := .tuple #[.agg #[.bool t.g, .slice t.A t.n t.c, .bool t.gd, .slice t.Ad t.nd t.cd], .int .i64 E]) (by simp [results, Tryz.results168, go_sem, j0, j1, j2, j3]) rfl ?_
  exact RetR.of RU HQ.out.2.1 HQ.out.2.2 HU
theorem div_no {q q' : RVal} {x y : Rat} {w : World} (h : q.In w) (h' : q'.In w) (hx : rv q.o q.od = some x) (hy : rv q'.o q'.od = some y) (hn : ¬ ((x.num * y.den).natAbs < BIG ∧ ((x.den : Int) * y.num).natAbs < BIG)) :
    Calls Tryz.prog 168 #[.agg #[.bool q.g, .slice q.A q.n q.c, .bool q.gd, .slice q.Ad q.nd q.cd], .agg #[.bool q'.g, .slice q'.A q'.n q'.c, .bool q'.gd, .slice q'.Ad q'.nd q'.cd]] w (RetR 0 0 2 w) := by
  have ox := rv_some hx
  have oy := rv_some hy
  have k : kp (kp 0 (fitE (x.num * y.den))) (fitE ((x.den : Int) * y.num)) = 2 := by
    rcases fitE_or (x.num * y.den) with ⟨e1, _, l1⟩ | e1
    · rw [e1]
      rcases fitE_or ((x.den : Int) * y.num) with ⟨_, _, l2⟩ | e2
      · exact absurd ⟨l1, l2⟩ hn
      · rw [e2]; rfl
    · rw [e1]; exact kp_two _ rfl
  refine walk_Div q q' _ _ _ w h h' (Lib.hid fun W ca cb ra rb => ?_)
  refine combine_Div_no q q' W ra.sl rb.sl ca cb (fitZ (x.num * y.den)) (fitZ ((x.den : Int) * y.num)) 2 (isSome_of hx) (isSome_of hy) (Lib.hid fun W1 p hb hp hc => ?_) (by decide)
  refine clo_Div q q' ca cb p _ _ _ _ _ _ _ 2 W1 (ra.on hb) (rb.on hb) hc ox.1 ox.2 oy.1 oy.2 rfl rfl (kp_or _ _) ?_
  have := kp_or (kp 0 (fitE (x.num * y.den))) (fitE ((x.den : Int) * y.num))
  rwa [k] at this
theorem div_ok {q q' : RVal} {x y : Rat} {w : World} (h : q.In w) (h' : q'.In w) (hx : rv q.o q.od = some x) (hy : rv q'.o q'.od = some y) (hz : y.num ≠ 0) (f1 : (x.num * y.den).natAbs < BIG) (f2 : ((x.den : Int) * y.num).natAbs < BIG) :
    Calls Tryz.prog 168 #[.agg #[.bool q.g, .slice q.A q.n q.c, .bool q.gd, .slice q.Ad q.nd q.cd], .agg #[.bool q'.g, .slice q'.A q'.n q'.c, .bool q'.gd, .slice q'.Ad q'.nd q'.cd]] w (RetR (x / y).num ((x / y).den : Int) 0 w) := by
  have ox := rv_some hx
  have oy := rv_some hy
  have g1 := fit_yes f1
  have g2 := fit_yes f2
  have m := mk_ok (s := x.num * y.den) (Int.mul_ne_zero (den_ne x) hz)
  rw [rat_div] at m
  refine walk_Div q q' _ _ _ w h h' (Lib.hid fun W ca cb ra rb => ?_)
  refine combine_Div_ok q q' W ra.sl rb.sl ca cb _ _ _ _ _ (isSome_of hx) (isSome_of hy) (Lib.hid fun W1 p hb hp hc => ?_) m.1 m.2.1 m.2.2
  exact clo_Div q q' ca cb p _ _ _ _ _ _ 0 0 W1 (ra.on hb) (rb.on hb) hc ox.1 ox.2 oy.1 oy.2 g1.1 g2.1 (kf_zero g1.2) (kf_zero g2.2)
end Go.Proofs.YtjbnclfbkccieaaGreatDoor
namespace Go.Proofs.YtjbnclfbkccieaaGreatDoor
open Go.RowKit
theorem Bx.put {w : World} {r : Nat} {g : Bool} {A : Option Addr} {n c : Nat} (h : Bx w r g A n c) (g' : Bool) (A' : Option Addr) (n' c' : Nat) : Bx ((w.setCell ⟨r, 0, none⟩ (.bool g')).setCell ⟨r, 1, none⟩ (.slice A' n' c')) r g' A' n' c' := by
  have := Blk.set_ (Blk.set_ h 0 (.bool g')) 1 (.slice A' n' c')
  exact this
end Go.Proofs.YtjbnclfbkccieaaGreatDoor
namespace Go.Proofs.YtjbnclfbkccieaaGreatDoor
open Go.RowKit
/-- What Sqrt hands back. -/
def RetRB (z zd : Int) (b : Bool) (er : Int) (w : World) (e : Ending) (w' : World) : Prop := ∃ q : RVal, e = .returned (.tuple #[.agg #[.bool q.g, .slice q.A q.n q.c, .bool q.gd, .slice q.Ad q.nd q.cd], .bool b, .int .i64 er]) ∧ q.In w' ∧ q.o = some z ∧ q.od = some zd ∧ Below w.heap.size w w'
theorem RetRB.of {z zd er : Int} {b : Bool} {w U : World} {r : Nat} {q : RVal} (h : Rb U r q) (hz : q.o = some z) (hd : q.od = some zd) (hb : Below w.heap.size w U) : RetRB z zd b er w (.returned (.tuple #[.agg #[.bool q.g, .slice q.A q.n q.c, .bool q.gd, .slice q.Ad q.nd q.cd], .bool b, .int .i64 er])) U := ⟨q, rfl, h.sl, hz, hd, hb⟩
end Go.Proofs.YtjbnclfbkccieaaGreatDoor
namespace Go.Proofs.YtjbnclfbkccieaaGreatDoor
theorem pderiv_coef (p : List Rat) (i : Nat) : coef (pderiv p) i = dv (coef p) i := by
  unfold pderiv dv
  rw [coef_map_range]
  split
  · rfl
  · rename_i h
    rw [coef_past (p := p) (by omega)]; grind
theorem cast_ne {n : Nat} (h : n ≠ 0) : ((n : Nat) : Rat) ≠ 0 := by
  intro k
  have : ((n : Nat) : Rat) = ((0 : Nat) : Rat) := k
  exact h (Rat.natCast_inj.1 this)
theorem pderiv_trim {p : List Rat} (hp : ptrim p = p) : ptrim (pderiv p) = pderiv p := by
  rw [trim_iff]
  by_cases h : p.length ≤ 1
  · left
    unfold pderiv
    rw [show p.length - 1 = 0 by omega]; rfl
  · right
    have l : (pderiv p).length = p.length - 1 := by unfold pderiv; rw [List.length_map, List.length_range]
    rw [l, pderiv_coef]
    unfold dv
    rw [show p.length - 1 - 1 + 1 = p.length - 1 by omega]
    intro k
    rcases Rat.mul_eq_zero.1 k with k | k
    · exact cast_ne (by omega) k
    · rcases trim_iff.1 hp with m | m
      · rw [m] at h; exact h (by decide)
      · exact m k
theorem pderiv_mul {p q : List Rat} (hp : ptrim p = p) (hq : ptrim q = q) : pderiv (pmul p q) = padd (pmul (pderiv p) q) (pmul p (pderiv q)) :=
  ptrim_self (pderiv_trim (pmul_trim hp hq)) (padd_trim _ _) fun i => by
    rw [pderiv_coef, padd_coef, pmul_coef, pmul_coef]
    have e : dv (coef (pmul p q)) i = dv (cv (coef p) (coef q)) i := by unfold dv; rw [pmul_coef]
    rw [e, dv_cv]
    congr 1
    · exact cv_congr (fun j _ => (pderiv_coef p j).symm) fun _ _ => rfl
    · exact cv_congr (fun _ _ => rfl) fun j _ => (pderiv_coef q j).symm
/-- The powers of a polynomial, by coefficients. -/
def qp (b : Nat → Rat) : Nat → Nat → Rat
  | 0 => fun i => if i = 0 then 1 else 0
  | j + 1 => cv (qp b j) b
theorem cv_sm (f : Nat → Nat → Rat) (b : Nat → Rat) (k : Nat) : ∀ n, cv (fun i => sm n (fun j => f j i)) b k = sm n (fun j => cv (f j) b k)
  | 0 => sm_zero fun i _ => by show (0 : Rat) * b (k - i) = 0; grind
  | n + 1 => by
    rw [sm, ← cv_sm f b k n, cv_comm _ b, cv_comm _ b, cv_comm _ b, ← cv_add]
    rfl
theorem cv_scale (c : Rat) (a b : Nat → Rat) (k : Nat) : cv (fun i => c * a i) b k = c * cv a b k := by
  unfold cv
  rw [← sm_mul]
  exact sm_congr fun i _ => by grind
theorem comp_coef (q : List Rat) : ∀ (p : List Rat) (n : Nat), p.length ≤ n → ∀ i, coef (pcompose p q) i = sm n (fun j => coef p j * qp (coef q) j i)
  | [], n, _, i => (sm_zero fun j _ => by rw [coef_nil]; grind).symm
  | a :: p, 0, h, _ => absurd h (by rw [List.length_cons]; omega)
  | a :: p, n + 1, h, i => by
    have hl : p.length ≤ n := by rw [List.length_cons] at h; omega
    rw [pcompose, padd_coef, pmul_coef, sm_head, coef_zero]
    rw [cv_congr (a' := fun i => sm n (fun j => coef p j * qp (coef q) j i)) (b' := coef q) (fun j _ => comp_coef q p n hl j) (fun _ _ => rfl)]
    rw [cv_sm (fun j i => coef p j * qp (coef q) j i)]
    have e1 : sm n (fun j => cv (fun i => coef p j * qp (coef q) j i) (coef q) i) = sm n (fun j => coef (a :: p) (j + 1) * qp (coef q) (j + 1) i) := sm_congr fun j _ => by
      rw [cv_scale, coef_succ]; rfl
    have e2 : coef [a] i = a * qp (coef q) 0 i := by
      show _ = a * (if i = 0 then 1 else 0)
      cases i with
      | zero => rw [coef_zero, if_pos rfl]; grind
      | succ i => rw [coef_succ, if_neg (by omega), coef_nil]; grind
    rw [e1, e2]
    grind
theorem comp_trim : ∀ (p q : List Rat), ptrim (pcompose p q) = pcompose p q
  | [], _ => rfl
  | _ :: _, _ => padd_trim _ _
/-- The rule of the chain. -/
theorem pderiv_comp (q : List Rat) (hq : ptrim q = q) : ∀ p : List Rat, pderiv (pcompose p q) = pmul (pcompose (pderiv p) q) (pderiv q)
  | [] => rfl
  | a :: p => by
    have ih := pderiv_comp q hq p
    refine ptrim_self (pderiv_trim (comp_trim _ _)) (pmul_trim (comp_trim _ _) (pderiv_trim hq)) fun i => ?_
    have e0 : coef (pderiv (pcompose (a :: p) q)) i = coef (pderiv (pmul (pcompose p q) q)) i := by
      rw [pderiv_coef, pderiv_coef]
      unfold dv
      rw [pcompose, padd_coef, coef_succ, coef_nil]; grind
    rw [e0, pderiv_mul (comp_trim _ _) hq, padd_coef, ih]
    -- the derivative of the list with one coefficient more
    have e1 : ∀ i, coef (pcompose (pderiv (a :: p)) q) i = coef (pcompose p q) i + coef (pmul (pcompose (pderiv p) q) q) i := by
      intro i
      have n1 : (pderiv (a :: p)).length ≤ p.length := by unfold pderiv; rw [List.length_map, List.length_range, List.length_cons]; omega
      have n2 : (pderiv p).length ≤ p.length - 1 := by unfold pderiv; rw [List.length_map, List.length_range]; omega
      rw [comp_coef q _ p.length n1 i, comp_coef q p p.length (Nat.le_refl _) i]
      have e2 : coef (pmul (pcompose (pderiv p) q) q) i = sm p.length (fun j => ((j : Nat) : Rat) * coef p j * qp (coef q) j i) := by
        rw [pmul_coef, cv_congr (a' := fun i => sm (p.length - 1) (fun j => coef (pderiv p) j * qp (coef q) j i)) (b' := coef q) (fun j _ => comp_coef q _ _ n2 j) (fun _ _ => rfl), cv_sm (fun j i => coef (pderiv p) j * qp (coef q) j i)]
        by_cases h : p.length = 0
        · rw [h]; rfl
        · obtain ⟨m, hm⟩ : ∃ m, p.length = m + 1 := ⟨p.length - 1, by omega⟩
          rw [hm, sm_head, Nat.add_sub_cancel]
          have e3 : sm m (fun j => cv (fun i => coef (pderiv p) j * qp (coef q) j i) (coef q) i) = sm m (fun j => ((j + 1 : Nat) : Rat) * coef p (j + 1) * qp (coef q) (j + 1) i) := sm_congr fun j _ => by
            rw [cv_scale, pderiv_coef]; rfl
          rw [e3, cast_zero']
          grind
      rw [e2, ← sm_add]
      refine sm_congr fun j _ => ?_
      rw [pderiv_coef]
      unfold dv
      rw [coef_succ, Rat.natCast_add]
      show (((j : Nat) : Rat) + 1) * coef p j * _ = _
      grind
    rw [pmul_coef, pmul_coef, pmul_coef]
    rw [cv_congr (a := coef (pcompose (pderiv (a :: p)) q)) (a' := fun i => coef (pcompose p q) i + coef (pmul (pcompose (pderiv p) q) q) i) (b' := coef (pderiv q)) (fun j _ => e1 j) (fun _ _ => rfl)]
    rw [cv_comm (fun i => coef (pcompose p q) i + coef (pmul (pcompose (pderiv p) q) q) i), cv_add, cv_comm (coef (pderiv q)) (coef (pcompose p q))]
    have e4 : cv (coef (pmul (pcompose (pderiv p) q) (pderiv q))) (coef q) i = cv (coef (pderiv q)) (coef (pmul (pcompose (pderiv p) q) q)) i := by
      have a1 : cv (coef (pmul (pcompose (pderiv p) q) (pderiv q))) (coef q) i = cv (cv (coef (pcompose (pderiv p) q)) (coef (pderiv q))) (coef q) i := cv_congr (fun j _ => pmul_coef _ _ j) fun _ _ => rfl
      have a2 : cv (coef (pderiv q)) (coef (pmul (pcompose (pderiv p) q) q)) i = cv (coef (pderiv q)) (cv (coef (pcompose (pderiv p) q)) (coef q)) i := cv_congr (fun _ _ => rfl) fun j _ => pmul_coef _ _ j
      rw [a1, a2, ← cv_assoc]
      exact cv_congr (fun j _ => cv_comm _ _ j) fun _ _ => rfl
    rw [e4]
    grind
end Go.Proofs.YtjbnclfbkccieaaGreatDoor
namespace Go.Proofs.YtjbnclfbkccieaaGreatDoor
/-- An integer of this size. -/
def Ib (B : Nat) (x : Rat) : Prop := ∃ z : Int, x = (z : Rat) ∧ z.natAbs ≤ B
def IbL (B : Nat) (l : List Rat) : Prop := ∀ i, Ib B (coef l i)
theorem Ib.zero (B : Nat) : Ib B 0 := ⟨0, rfl, Nat.zero_le _⟩
theorem Ib.mono {A B : Nat} {x : Rat} (h : Ib A x) (k : A ≤ B) : Ib B x := by obtain ⟨z, e, l⟩ := h; exact ⟨z, e, Nat.le_trans l k⟩
theorem Ib.int (z : Int) : Ib z.natAbs (z : Rat) := ⟨z, rfl, Nat.le_refl _⟩
theorem Ib.nat (n : Nat) : Ib n ((n : Nat) : Rat) := ⟨(n : Int), by push_cast; rfl, by omega⟩
theorem Ib.add {A B : Nat} {x y : Rat} (h : Ib A x) (k : Ib B y) : Ib (A + B) (x + y) := by
  obtain ⟨z, rfl, l⟩ := h
  obtain ⟨u, rfl, m⟩ := k
  exact ⟨z + u, by push_cast; rfl, by omega⟩
theorem Ib.sub {A B : Nat} {x y : Rat} (h : Ib A x) (k : Ib B y) : Ib (A + B) (x - y) := by
  obtain ⟨z, rfl, l⟩ := h
  obtain ⟨u, rfl, m⟩ := k
  exact ⟨z - u, by push_cast; rfl, by omega⟩
theorem Ib.mul {A B : Nat} {x y : Rat} (h : Ib A x) (k : Ib B y) : Ib (A * B) (x * y) := by
  obtain ⟨z, rfl, l⟩ := h
  obtain ⟨u, rfl, m⟩ := k
  exact ⟨z * u, by push_cast; rfl, by rw [Int.natAbs_mul]; exact Nat.mul_le_mul l m⟩
theorem fz_of {z : Int} {B : Nat} (h : z.natAbs ≤ B) (k : B < BIG) : fz z = true := by unfold fz; exact decide_eq_true (Nat.lt_of_le_of_lt h k)
theorem one_big : (1 : Nat) < BIG := by decide +kernel
theorem addO_ok {A B : Nat} {x y : Rat} (h : Ib A x) (k : Ib B y) (hb : A + B < BIG) : addO x y = .ok (x + y) := by
  obtain ⟨z, rfl, l⟩ := h
  obtain ⟨u, rfl, m⟩ := k
  unfold addO
  rw [if_pos]
  rw [Rat.num_intCast, Rat.num_intCast, Rat.den_intCast, Rat.den_intCast]
  rw [fz_of (B := A + B) (by omega) hb, fz_of (B := A + B) (by omega) hb, fz_of (B := A + B) (by omega) hb, fz_of (B := 1) (by decide) one_big]
  rfl
theorem subO_ok {A B : Nat} {x y : Rat} (h : Ib A x) (k : Ib B y) (hb : A + B < BIG) : subO x y = .ok (x - y) := by
  obtain ⟨z, rfl, l⟩ := h
  obtain ⟨u, rfl, m⟩ := k
  unfold subO
  rw [if_pos]
  rw [Rat.num_intCast, Rat.num_intCast, Rat.den_intCast, Rat.den_intCast]
  rw [fz_of (B := A + B) (by omega) hb, fz_of (B := A + B) (by omega) hb, fz_of (B := A + B) (by omega) hb, fz_of (B := 1) (by decide) one_big]
  rfl
theorem mulO_ok {A B : Nat} {x y : Rat} (h : Ib A x) (k : Ib B y) (hb : A * B < BIG) : mulO x y = .ok (x * y) := by
  obtain ⟨z, rfl, l⟩ := h
  obtain ⟨u, rfl, m⟩ := k
  unfold mulO
  rw [if_pos]
  rw [Rat.num_intCast, Rat.num_intCast, Rat.den_intCast, Rat.den_intCast]
  rw [fz_of (B := A * B) (by rw [Int.natAbs_mul]; exact Nat.mul_le_mul l m) hb, fz_of (B := 1) (by decide) one_big]
  rfl
theorem listO_ok {f : Nat → Except Int Rat} {g : Nat → Rat} : ∀ {n : Nat}, (∀ i, i < n → f i = .ok (g i)) → listO f n = .ok ((List.range n).map g)
  | 0, _ => rfl
  | n + 1, h => by
    have ih := listO_ok (f := f) (g := g) (n := n) (fun i hi => h i (by omega))
    unfold listO at *
    rw [stepsO_succ, thenO_ok ih, thenO_ok (h n (by omega)), List.range_succ, List.map_append]
    rfl
theorem sum_ok {f g : Nat → Rat} {A B : Nat} : ∀ {n : Nat}, (∀ i, Ib A (f i)) → (∀ i, Ib B (g i)) → n * (A * B) < BIG →
    stepsO (fun j r => thenO (mulO (f j) (g j)) fun t => addO r t) 0 n = .ok (sm n fun j => f j * g j) ∧ Ib (n * (A * B)) (sm n fun j => f j * g j)
  | 0, _, _, _ => ⟨rfl, Ib.zero _⟩
  | n + 1, hf, hg, h => by
    have e : (n + 1) * (A * B) = n * (A * B) + A * B := Nat.succ_mul _ _
    rw [e] at h
    obtain ⟨h1, h2⟩ := sum_ok (n := n) hf hg (by omega)
    refine ⟨?_, by rw [e]; exact h2.add ((hf n).mul (hg n))⟩
    rw [stepsO_succ, thenO_ok h1, thenO_ok (mulO_ok (hf n) (hg n) (by omega)), addO_ok h2 ((hf n).mul (hg n)) h]
    rfl
theorem coef_range_ib {n B : Nat} {f : Nat → Rat} (h : ∀ i, Ib B (f i)) : IbL B ((List.range n).map f) := fun i => by
  rw [coef_map_range]
  split
  · exact h i
  · exact Ib.zero _
theorem IbL.trim {B : Nat} {l : List Rat} (h : IbL B l) : IbL B (ptrim l) := fun i => by rw [ptrim_coef]; exact h i
theorem IbL.mono {A B : Nat} {l : List Rat} (h : IbL A l) (k : A ≤ B) : IbL B l := fun i => (h i).mono k
theorem IbL.nil (B : Nat) : IbL B [] := fun i => by rw [coef_nil]; exact Ib.zero _
theorem pmulO_ok {p q : List Rat} {A B n : Nat} (hp : IbL A p) (hq : IbL B q) (hn : p.length ≤ n) (hd : p.length - 1 + (q.length - 1) ≤ 64) (hb : n * (A * B) < BIG) : pmulO p q = .ok (pmul p q) ∧ IbL (n * (A * B)) (pmul p q) := by
  unfold pmulO pmul
  by_cases h0 : p.length = 0 ∨ q.length = 0
  · rw [if_pos h0, if_pos h0]
    exact ⟨rfl, IbL.nil _⟩
  · rw [if_neg h0, if_neg h0, if_neg (by omega)]
    have key : ∀ k, mulcO p q k = .ok (pmulc p q k) ∧ Ib (n * (A * B)) (pmulc p q k) := by
      intro k
      have hm : (min k (p.length - 1) + 1 - (k + 1 - q.length)) * (A * B) ≤ n * (A * B) := Nat.mul_le_mul_right _ (by omega)
      have := sum_ok (n := min k (p.length - 1) + 1 - (k + 1 - q.length)) (f := fun j => coef p (k + 1 - q.length + j)) (g := fun j => coef q (k - (k + 1 - q.length + j))) (fun i => hp _) (fun i => hq _) (by omega)
      exact ⟨this.1, this.2.mono hm⟩
    exact ⟨listO_ok fun i _ => (key i).1, coef_range_ib fun i => (key i).2⟩
theorem addL_ok {p q : List Rat} {A B : Nat} (hp : IbL A p) (hq : IbL B q) (hb : A + B < BIG) : combO addO p q = .ok (padd p q) ∧ IbL (A + B) (padd p q) := by
  unfold combO padd pcomb
  rw [thenO_ok (listO_ok fun i _ => addO_ok (hp i) (hq i) hb)]
  exact ⟨rfl, (coef_range_ib fun i => (hp i).add (hq i)).trim⟩
theorem subL_ok {p q : List Rat} {A B : Nat} (hp : IbL A p) (hq : IbL B q) (hb : A + B < BIG) : combO subO p q = .ok (psub p q) ∧ IbL (A + B) (psub p q) := by
  unfold combO psub pcomb
  rw [thenO_ok (listO_ok fun i _ => subO_ok (hp i) (hq i) hb)]
  exact ⟨rfl, (coef_range_ib fun i => (hp i).sub (hq i)).trim⟩
theorem derivO_ok {p : List Rat} {A n : Nat} (hp : IbL A p) (hn : p.length ≤ n) (hb : n * A < BIG) : derivO p = .ok (pderiv p) ∧ IbL (n * A) (pderiv p) := by
  have key : ∀ i, i < p.length - 1 → mulO ((i + 1 : Nat) : Rat) (coef p (i + 1)) = .ok (((i + 1 : Nat) : Rat) * coef p (i + 1)) := fun i hi =>
    mulO_ok (Ib.nat (i + 1)) (hp _) (Nat.lt_of_le_of_lt (Nat.mul_le_mul_right A (by omega)) hb)
  unfold derivO pderiv
  refine ⟨listO_ok key, fun i => ?_⟩
  rw [coef_map_range]
  split
  · exact ((Ib.nat (i + 1)).mul (hp _)).mono (Nat.mul_le_mul_right A (by omega))
  · exact Ib.zero _
theorem pmul_le (p q : List Rat) : (pmul p q).length ≤ p.length + q.length := by
  unfold pmul
  split
  · exact Nat.zero_le _
  · rw [List.length_map, List.length_range]; omega
theorem pcomb_le (f : Rat → Rat → Rat) (p q : List Rat) : (pcomb f p q).length ≤ max p.length q.length := by
  unfold pcomb
  refine Nat.le_trans (ptrim_len _) ?_
  rw [List.length_map, List.length_range]
  exact Nat.le_refl _
theorem pderiv_le (p : List Rat) : (pderiv p).length ≤ p.length := by unfold pderiv; rw [List.length_map, List.length_range]; omega
/-- What is known of a polynomial in a law: it is trimmed, how long it is, how great its coefficients are. -/
structure Kn (l : List Rat) (n B : Nat) : Prop where
  t : ptrim l = l
  n : l.length ≤ n
  b : IbL B l
theorem Kn.nil (n B : Nat) : Kn [] n B := ⟨rfl, Nat.zero_le _, IbL.nil _⟩
theorem Kn.mul {p q : List Rat} {n m A B : Nat} (h : Kn p n A) (k : Kn q m B) (hn : n + m ≤ 64) (hb : n * (A * B) < BIG) : pmulO p q = .ok (pmul p q) ∧ Kn (pmul p q) (n + m) (n * (A * B)) := by
  have hp := h.n
  have hq := k.n
  have := pmulO_ok h.b k.b hp (by omega) hb
  have hl := pmul_le p q
  exact ⟨this.1, pmul_trim h.t k.t, by omega, this.2⟩
theorem Kn.add {p q : List Rat} {n m A B : Nat} (h : Kn p n A) (k : Kn q m B) (hb : A + B < BIG) : combO addO p q = .ok (padd p q) ∧ Kn (padd p q) (max n m) (A + B) := by
  have hp := h.n
  have hq := k.n
  have := addL_ok h.b k.b hb
  have hl := pcomb_le (· + ·) p q
  exact ⟨this.1, padd_trim p q, by unfold padd; omega, this.2⟩
theorem Kn.sub {p q : List Rat} {n m A B : Nat} (h : Kn p n A) (k : Kn q m B) (hb : A + B < BIG) : combO subO p q = .ok (psub p q) ∧ Kn (psub p q) (max n m) (A + B) := by
  have hp := h.n
  have hq := k.n
  have := subL_ok h.b k.b hb
  have hl := pcomb_le (· - ·) p q
  exact ⟨this.1, psub_trim p q, by unfold psub; omega, this.2⟩
theorem Kn.deriv {p : List Rat} {n A : Nat} (h : Kn p n A) (hb : n * A < BIG) : derivO p = .ok (pderiv p) ∧ Kn (pderiv p) n (n * A) := by
  have := derivO_ok h.b h.n hb
  exact ⟨this.1, pderiv_trim h.t, Nat.le_trans (pderiv_le p) h.n, this.2⟩
/-- How great the coefficients of a composition may be. -/
def cb (A B m : Nat) : Nat → Nat
  | 0 => 0
  | k + 1 => cb A B m k + (k * (m + 1)) * (cb A B m k * B) + A
theorem cb_mono (A B m : Nat) {k n : Nat} (h : k ≤ n) : cb A B m k ≤ cb A B m n := by
  induction n with
  | zero => rw [Nat.le_zero.1 h]; exact Nat.le_refl _
  | succ n ih =>
    rcases Nat.lt_or_ge k (n + 1) with g | g
    · have := ih (by omega)
      show _ ≤ cb A B m n + (n * (m + 1)) * (cb A B m n * B) + A
      omega
    · rw [show k = n + 1 by omega]; exact Nat.le_refl _
theorem drop_step (p : List Rat) {k : Nat} (h : k < p.length) : p.drop (p.length - (k + 1)) = coef p (p.length - 1 - k) :: p.drop (p.length - k) := by
  have e : p.length - k = p.length - (k + 1) + 1 := by omega
  rw [e, List.drop_eq_getElem_cons (by omega : p.length - (k + 1) < p.length)]
  have e2 : p.length - 1 - k = p.length - (k + 1) := by omega
  rw [e2]
  unfold coef
  rw [List.getD_eq_getElem?_getD, List.getElem?_eq_getElem (by omega)]
  rfl
theorem coef_one' {A : Nat} {c : Rat} (h : Ib A c) : IbL A [c] := fun i => by
  cases i with
  | zero => exact h
  | succ i => rw [coef_succ, coef_nil]; exact Ib.zero _
theorem Kn.comp {p q : List Rat} {n m A B : Nat} (hp : Kn p n A) (hq : Kn q m B) (h1 : n * (m + 1) + m ≤ 64) (h2 : (n - 1) * (m - 1) ≤ 64) (h3 : cb A B m n < BIG) :
    compO p q = .ok (pcompose p q) ∧ Kn (pcompose p q) (n * (m + 1)) (cb A B m n) := by
  have key : ∀ k, k ≤ p.length → stepsO (fun i r => thenO (pmulO r q) fun t => combO addO t [coef p (p.length - 1 - i)]) [] k = .ok (pcompose (p.drop (p.length - k)) q) ∧ Kn (pcompose (p.drop (p.length - k)) q) (k * (m + 1)) (cb A B m k) := by
    intro k
    induction k with
    | zero =>
      intro _
      rw [Nat.sub_zero, List.drop_length]
      exact ⟨rfl, rfl, Nat.zero_le _, IbL.nil _⟩
    | succ k ih =>
      intro hk
      obtain ⟨e, kn⟩ := ih (by omega)
      have hkn : k + 1 ≤ n := Nat.le_trans hk hp.n
      have hc := Nat.lt_of_le_of_lt (cb_mono A B m hkn) h3
      have hc2 : cb A B m k + (k * (m + 1)) * (cb A B m k * B) + A < BIG := hc
      have hL : k * (m + 1) + (m + 1) ≤ n * (m + 1) := by
        have := Nat.mul_le_mul_right (m + 1) hkn
        rw [Nat.succ_mul] at this
        exact this
      have hm := Kn.mul kn hq (by omega) (by omega)
      have ha := addL_ok hm.2.b (coef_one' (hp.b (p.length - 1 - k))) (by omega)
      have ed := drop_step p (k := k) (by omega)
      rw [ed]
      refine ⟨?_, comp_trim _ _, ?_, ?_⟩
      · rw [stepsO_succ, thenO_ok e, thenO_ok hm.1, ha.1]
        rfl
      · have hl := pcomb_le (· + ·) (pmul (pcompose (p.drop (p.length - k)) q) q) [coef p (p.length - 1 - k)]
        have hl2 := hm.2.n
        have e1 : (k + 1) * (m + 1) = k * (m + 1) + (m + 1) := Nat.succ_mul _ _
        show (padd _ _).length ≤ _
        unfold padd
        simp only [List.length_singleton] at hl
        omega
      · refine IbL.mono ha.2 ?_
        show _ ≤ cb A B m k + (k * (m + 1)) * (cb A B m k * B) + A
        omega
  obtain ⟨e, kn⟩ := key p.length (Nat.le_refl _)
  rw [Nat.sub_self, List.drop_zero] at e kn
  have hpn := hp.n
  have hqn := hq.n
  have hd : (p.length - 1) * (q.length - 1) ≤ (n - 1) * (m - 1) := Nat.mul_le_mul (by omega) (by omega)
  refine ⟨?_, kn.t, Nat.le_trans kn.n (Nat.mul_le_mul_right _ hpn), kn.b.mono (cb_mono A B m hpn)⟩
  unfold compO
  rw [if_neg (by omega)]
  exact e
end Go.Proofs.YtjbnclfbkccieaaGreatDoor
