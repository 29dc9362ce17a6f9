/-
  Stage 2: Add, Sub, Mul and Div of the rationals. Stage 2: Floor of the rationals. Stage 2: Sqrt of the rationals. Stage 2: Text and Sign of the rationals. Stage 2: Parse of the rationals. Stage 2: Cmp of the rationals, where the products are not too big. Stage 2: the convergent that follows two others. Stage 2: the continued fraction's expansion, over a known course. Stage 2: Simplest, where the lower number is not negative. Stage 2: the continued fraction's expansion, over a known course, where the last convergent is too big. Stage 2: Simplest between a third and a half, a course of the expan
-/
import Derived.Lib.CutLaws
import Derived.BigQuiet
import Derived.Deep.QuietTactic
import Derived.Deep.DeepCutAuto
import Derived.Deep.RegionHeld3
import Derived.Deep.LoopGhost
import Derived.Test.YtjbnclfbkccieaaGreatDoorRatH
import Derived.Test.YtjbnclfbkccieaaGreatDoorRatA
import Derived.Test.YtjbnclfbkccieaaGreatDoorLate
namespace Go.Proofs.YtjbnclfbkccieaaGreatDoor
open Go.RowKit
theorem kf_zero {e : Int} (h : e = 0) : Kf 0 e 0 := Or.inl ⟨rfl, h.symm⟩
theorem kp_two {e : Int} (f : Int) (h : f = 2) : kp f e = 2 := by subst h; rfl
theorem fitE_or (z : Int) : fitE z = 0 ∧ fitZ z = z ∧ z.natAbs < BIG ∨ fitE z = 2 := by
  by_cases h : z.natAbs < BIG
  · exact Or.inl ⟨(fit_yes h).2, (fit_yes h).1, h⟩
  · exact Or.inr (fit_no h).2
theorem mk_ok {s d : Int} (h : d ≠ 0) : mkN (some s) (some d) = (Rat.divInt s d).num ∧ mkD (some s) (some d) = ((Rat.divInt s d).den : Int) ∧ mkE (some s) (some d) = 0 :=
  ⟨if_neg h, if_neg h, if_neg h⟩
theorem isSome_of {o o' : Option Int} {x : Rat} (h : rv o o' = some x) : (rv o o').isSome = true := by rw [h]; rfl
set_option maxHeartbeats 1000000 in
theorem walk_Add (q q' : RVal) (N D E : Int) (w : World) (h : q.In w) (h' : q'.In w)
    (HC : Hid (∀ (W : World) (ca cb : Nat), Rb W ca q → Rb W cb q' → Calls Tryz.prog 85 #[.agg #[.bool q.g, .slice q.A q.n q.c, .bool q.gd, .slice q.Ad q.nd q.cd], .agg #[.bool q'.g, .slice q'.A q'.n q'.c, .bool q'.gd, .slice q'.Ad q'.nd q'.cd], .func (.func 86) #[] #[.pointer (some ⟨ca, 0, none⟩), .pointer (some ⟨cb, 0, none⟩)]] W (RetR N D E W))) :
    Calls Tryz.prog 38 #[.agg #[.bool q.g, .slice q.A q.n q.c, .bool q.gd, .slice q.Ad q.nd q.cd], .agg #[.bool q'.g, .slice q'.A q'.n q'.c, .bool q'.gd, .slice q'.Ad q'.nd q'.cd]] w (RetR N D E w) := by
  have hmf : ∀ (fn : Fn) (first cap : Array Value) (w : World), (Instr.makeFunc fn first cap).run Tryz.prog w = .ok (.func fn first cap) w := fun _ _ _ _ => rfl
  have HS := Lib.hid (And.intro h h')
  clear h h'
  go_enter Tryz.func38, Tryz.ntmps38
  go_wp2_with fail
  generalize hW : World.alloc (World.alloc (World.alloc w _) _) _ = V
  obtain ⟨hb, ra, rb, rr⟩ := two_rats_nil q q' w V HS.out.1 HS.out.2 hW
  have HB := Lib.hid hb
  have HR := Lib.hid (And.intro ra (And.intro rb rr))
  clear hW hb ra rb rr
  refine (HC.out V _ _ HR.out.1 HR.out.2.1).mono ?_
  rintro e w3 ⟨t, rfl, hq, ho, hod, hb3⟩
  have R3 := Lib.hid (HR.out.2.2.on hb3)
  have B3 := Lib.hid (below_chain HB.out HB.out.size hb3)
  have HQ := Lib.hid (And.intro hq (And.intro ho hod))
  clear hq ho hod hb3 HR HB
  have f0 := R3.out.f 0
  have f1 := R3.out.f 1
  have f2 := R3.out.f 2
  have f3 := R3.out.f 3
  have q0 := R3.out.c0
  have q1 := R3.out.c1
  have q2 := R3.out.c2
  have q3 := R3.out.c3
  simp only [RVal.nil] at q0 q1 q2 q3
  go_wp2
  generalize hU : World.setCell (World.setCell (World.setCell (World.setCell w3 _ _) _ _) _ _) _ _ = U
  have RU' := (Rb.put R3.out HQ.out.1)
  have RU : Rb U (w.heap.size + 1 + 1) t := by rw [← hU]; exact RU'
  have HU : Below w.heap.size w U := by rw [← hU]; exact (below_put4 B3.out (show w.heap.size ≤ w.heap.size + 1 + 1 by omega) _ _ _ _)
  have j0 := RU.c0
  have j1 := RU.c1
  have j2 := RU.c2
  have j3 := RU.c3
  refine bodyPost_ret (v := .tuple #[.agg #[.bool t.g, .slice t.A t.n t.c, .bool t.gd, .slice t.Ad t.nd t.cd], .int .i64 E]) (by simp [results, Tryz.results38, go_sem, j0, j1, j2, j3]) rfl ?_
  exact RetR.of RU HQ.out.2.1 HQ.out.2.2 HU
theorem add_ok {q q' : RVal} {x y : Rat} {w : World} (h : q.In w) (h' : q'.In w) (hx : rv q.o q.od = some x) (hy : rv q'.o q'.od = some y) (f1 : (x.num * y.den).natAbs < BIG) (f2 : (y.num * x.den).natAbs < BIG) (f3 : (x.num * y.den + y.num * x.den).natAbs < BIG) (f4 : ((x.den : Int) * y.den).natAbs < BIG) :
    Calls Tryz.prog 38 #[.agg #[.bool q.g, .slice q.A q.n q.c, .bool q.gd, .slice q.Ad q.nd q.cd], .agg #[.bool q'.g, .slice q'.A q'.n q'.c, .bool q'.gd, .slice q'.Ad q'.nd q'.cd]] w (RetR (x + y).num ((x + y).den : Int) 0 w) := by
  have ox := rv_some hx
  have oy := rv_some hy
  have g1 := fit_yes f1
  have g2 := fit_yes f2
  have g3 := fit_yes f3
  have g4 := fit_yes f4
  have m := mk_ok (s := x.num * y.den + y.num * x.den) (den2_ne x y)
  rw [rat_add] at m
  refine walk_Add q q' _ _ _ w h h' (Lib.hid fun W ca cb ra rb => ?_)
  refine combine_Add_ok q q' W ra.sl rb.sl ca cb _ _ _ _ _ (isSome_of hx) (isSome_of hy) (Lib.hid fun W1 p hb hp hc => ?_) m.1 m.2.1 m.2.2
  exact clo_Add q q' ca cb p _ _ _ _ _ _ _ _ 0 0 0 0 W1 (ra.on hb) (rb.on hb) hc ox.1 ox.2 oy.1 oy.2 g1.1 g2.1 g3.1 g4.1 (kf_zero g1.2) (kf_zero g2.2) (kf_zero g3.2) (kf_zero g4.2)
theorem add_no {q q' : RVal} {x y : Rat} {w : World} (h : q.In w) (h' : q'.In w) (hx : rv q.o q.od = some x) (hy : rv q'.o q'.od = some y) (hn : ¬ ((x.num * y.den).natAbs < BIG ∧ (y.num * x.den).natAbs < BIG ∧ (x.num * y.den + y.num * x.den).natAbs < BIG ∧ ((x.den : Int) * y.den).natAbs < BIG)) :
    Calls Tryz.prog 38 #[.agg #[.bool q.g, .slice q.A q.n q.c, .bool q.gd, .slice q.Ad q.nd q.cd], .agg #[.bool q'.g, .slice q'.A q'.n q'.c, .bool q'.gd, .slice q'.Ad q'.nd q'.cd]] w (RetR 0 0 2 w) := by
  have ox := rv_some hx
  have oy := rv_some hy
  have k : kp (kp (kp (kp 0 (fitE (x.num * y.den))) (fitE (y.num * x.den))) (fitE (fitZ (x.num * y.den) + fitZ (y.num * x.den)))) (fitE ((x.den : Int) * y.den)) = 2 := by
    rcases fitE_or (x.num * y.den) with ⟨e1, z1, l1⟩ | e1
    · rw [e1]
      rcases fitE_or (y.num * x.den) with ⟨e2, z2, l2⟩ | e2
      · rw [e2, z1, z2]
        rcases fitE_or (x.num * y.den + y.num * x.den) with ⟨e3, _, l3⟩ | e3
        · rw [e3]
          rcases fitE_or ((x.den : Int) * y.den) with ⟨_, _, l4⟩ | e4
          · exact absurd ⟨l1, l2, l3, l4⟩ hn
          · rw [e4]; rfl
        · rw [e3]; exact kp_two _ rfl
      · rw [e2]; exact kp_two _ (kp_two _ rfl)
    · rw [e1]; exact kp_two _ (kp_two _ (kp_two _ rfl))
  refine walk_Add q q' _ _ _ w h h' (Lib.hid fun W ca cb ra rb => ?_)
  refine combine_Add_no q q' W ra.sl rb.sl ca cb (fitZ (fitZ (x.num * y.den) + fitZ (y.num * x.den))) (fitZ ((x.den : Int) * y.den)) 2 (isSome_of hx) (isSome_of hy) (Lib.hid fun W1 p hb hp hc => ?_) (by decide)
  refine clo_Add q q' ca cb p _ _ _ _ _ _ _ _ _ _ _ 2 W1 (ra.on hb) (rb.on hb) hc ox.1 ox.2 oy.1 oy.2 rfl rfl rfl rfl (kp_or _ _) (kp_or _ _) (kp_or _ _) ?_
  have := kp_or (kp (kp (kp 0 (fitE (x.num * y.den))) (fitE (y.num * x.den))) (fitE (fitZ (x.num * y.den) + fitZ (y.num * x.den)))) (fitE ((x.den : Int) * y.den))
  rwa [k] at this
set_option maxHeartbeats 1000000 in
theorem walk_Sub (q q' : RVal) (N D E : Int) (w : World) (h : q.In w) (h' : q'.In w)
    (HC : Hid (∀ (W : World) (ca cb : Nat), Rb W ca q → Rb W cb q' → Calls Tryz.prog 85 #[.agg #[.bool q.g, .slice q.A q.n q.c, .bool q.gd, .slice q.Ad q.nd q.cd], .agg #[.bool q'.g, .slice q'.A q'.n q'.c, .bool q'.gd, .slice q'.Ad q'.nd q'.cd], .func (.func 165) #[] #[.pointer (some ⟨ca, 0, none⟩), .pointer (some ⟨cb, 0, none⟩)]] W (RetR N D E W))) :
    Calls Tryz.prog 129 #[.agg #[.bool q.g, .slice q.A q.n q.c, .bool q.gd, .slice q.Ad q.nd q.cd], .agg #[.bool q'.g, .slice q'.A q'.n q'.c, .bool q'.gd, .slice q'.Ad q'.nd q'.cd]] w (RetR N D E w) := by
  have hmf : ∀ (fn : Fn) (first cap : Array Value) (w : World), (Instr.makeFunc fn first cap).run Tryz.prog w = .ok (.func fn first cap) w := fun _ _ _ _ => rfl
  have HS := Lib.hid (And.intro h h')
  clear h h'
  go_enter Tryz.func129, Tryz.ntmps129
  go_wp2_with fail
  generalize hW : World.alloc (World.alloc (World.alloc w _) _) _ = V
  obtain ⟨hb, ra, rb, rr⟩ := two_rats_nil q q' w V HS.out.1 HS.out.2 hW
  have HB := Lib.hid hb
  have HR := Lib.hid (And.intro ra (And.intro rb rr))
  clear hW hb ra rb rr
  refine (HC.out V _ _ HR.out.1 HR.out.2.1).mono ?_
  rintro e w3 ⟨t, rfl, hq, ho, hod, hb3⟩
  have R3 := Lib.hid (HR.out.2.2.on hb3)
  have B3 := Lib.hid (below_chain HB.out HB.out.size hb3)
  have HQ := Lib.hid (And.intro hq (And.intro ho hod))
  clear hq ho hod hb3 HR HB
  have f0 := R3.out.f 0
  have f1 := R3.out.f 1
  have f2 := R3.out.f 2
  have f3 := R3.out.f 3
  have q0 := R3.out.c0
  have q1 := R3.out.c1
  have q2 := R3.out.c2
  have q3 := R3.out.c3
  simp only [RVal.nil] at q0 q1 q2 q3
  go_wp2
  generalize hU : World.setCell (World.setCell (World.setCell (World.setCell w3 _ _) _ _) _ _) _ _ = U
  have RU' := (Rb.put R3.out HQ.out.1)
  have RU : Rb U (w.heap.size + 1 + 1) t := by rw [← hU]; exact RU'
  have HU : Below w.heap.size w U := by rw [← hU]; exact (below_put4 B3.out (show w.heap.size ≤ w.heap.size + 1 + 1 by omega) _ _ _ _)
  have j0 := RU.c0
  have j1 := RU.c1
  have j2 := RU.c2
  have j3 := RU.c3
  refine bodyPost_ret (v := .tuple #[.agg #[.bool t.g, .slice t.A t.n t.c, .bool t.gd, .slice t.Ad t.nd t.cd], .int .i64 E]) (by simp [results, Tryz.results129, go_sem, j0, j1, j2, j3]) rfl ?_
  exact RetR.of RU HQ.out.2.1 HQ.out.2.2 HU
theorem sub_ok {q q' : RVal} {x y : Rat} {w : World} (h : q.In w) (h' : q'.In w) (hx : rv q.o q.od = some x) (hy : rv q'.o q'.od = some y) (f1 : (x.num * y.den).natAbs < BIG) (f2 : (y.num * x.den).natAbs < BIG) (f3 : (x.num * y.den - y.num * x.den).natAbs < BIG) (f4 : ((x.den : Int) * y.den).natAbs < BIG) :
    Calls Tryz.prog 129 #[.agg #[.bool q.g, .slice q.A q.n q.c, .bool q.gd, .slice q.Ad q.nd q.cd], .agg #[.bool q'.g, .slice q'.A q'.n q'.c, .bool q'.gd, .slice q'.Ad q'.nd q'.cd]] w (RetR (x - y).num ((x - y).den : Int) 0 w) := by
  have ox := rv_some hx
  have oy := rv_some hy
  have g1 := fit_yes f1
  have g2 := fit_yes f2
  have g3 := fit_yes f3
  have g4 := fit_yes f4
  have m := mk_ok (s := x.num * y.den - y.num * x.den) (den2_ne x y)
  rw [rat_sub] at m
  refine walk_Sub q q' _ _ _ w h h' (Lib.hid fun W ca cb ra rb => ?_)
  refine combine_Sub_ok q q' W ra.sl rb.sl ca cb _ _ _ _ _ (isSome_of hx) (isSome_of hy) (Lib.hid fun W1 p hb hp hc => ?_) m.1 m.2.1 m.2.2
  exact clo_Sub q q' ca cb p _ _ _ _ _ _ _ _ 0 0 0 0 W1 (ra.on hb) (rb.on hb) hc ox.1 ox.2 oy.1 oy.2 g1.1 g2.1 g3.1 g4.1 (kf_zero g1.2) (kf_zero g2.2) (kf_zero g3.2) (kf_zero g4.2)
theorem sub_no {q q' : RVal} {x y : Rat} {w : World} (h : q.In w) (h' : q'.In w) (hx : rv q.o q.od = some x) (hy : rv q'.o q'.od = some y) (hn : ¬ ((x.num * y.den).natAbs < BIG ∧ (y.num * x.den).natAbs < BIG ∧ (x.num * y.den - y.num * x.den).natAbs < BIG ∧ ((x.den : Int) * y.den).natAbs < BIG)) :
    Calls Tryz.prog 129 #[.agg #[.bool q.g, .slice q.A q.n q.c, .bool q.gd, .slice q.Ad q.nd q.cd], .agg #[.bool q'.g, .slice q'.A q'.n q'.c, .bool q'.gd, .slice q'.Ad q'.nd q'.cd]] w (RetR 0 0 2 w) := by
  have ox := rv_some hx
  have oy := rv_some hy
  have k : kp (kp (kp (kp 0 (fitE (x.num * y.den))) (fitE (y.num * x.den))) (fitE (fitZ (x.num * y.den) - fitZ (y.num * x.den)))) (fitE ((x.den : Int) * y.den)) = 2 := by
    rcases fitE_or (x.num * y.den) with ⟨e1, z1, l1⟩ | e1
    · rw [e1]
      rcases fitE_or (y.num * x.den) with ⟨e2, z2, l2⟩ | e2
      · rw [e2, z1, z2]
        rcases fitE_or (x.num * y.den - y.num * x.den) with ⟨e3, _, l3⟩ | e3
        · rw [e3]
          rcases fitE_or ((x.den : Int) * y.den) with ⟨_, _, l4⟩ | e4
          · exact absurd ⟨l1, l2, l3, l4⟩ hn
          · rw [e4]; rfl
        · rw [e3]; exact kp_two _ rfl
      · rw [e2]; exact kp_two _ (kp_two _ rfl)
    · rw [e1]; exact kp_two _ (kp_two _ (kp_two _ rfl))
  refine walk_Sub q q' _ _ _ w h h' (Lib.hid fun W ca cb ra rb => ?_)
  refine combine_Sub_no q q' W ra.sl rb.sl ca cb (fitZ (fitZ (x.num * y.den) - fitZ (y.num * x.den))) (fitZ ((x.den : Int) * y.den)) 2 (isSome_of hx) (isSome_of hy) (Lib.hid fun W1 p hb hp hc => ?_) (by decide)
  refine clo_Sub q q' ca cb p _ _ _ _ _ _ _ _ _ _ _ 2 W1 (ra.on hb) (rb.on hb) hc ox.1 ox.2 oy.1 oy.2 rfl rfl rfl rfl (kp_or _ _) (kp_or _ _) (kp_or _ _) ?_
  have := kp_or (kp (kp (kp 0 (fitE (x.num * y.den))) (fitE (y.num * x.den))) (fitE (fitZ (x.num * y.den) - fitZ (y.num * x.den)))) (fitE ((x.den : Int) * y.den))
  rwa [k] at this
set_option maxHeartbeats 1000000 in
theorem walk_Mul (q q' : RVal) (N D E : Int) (w : World) (h : q.In w) (h' : q'.In w)
    (HC : Hid (∀ (W : World) (ca cb : Nat), Rb W ca q → Rb W cb q' → Calls Tryz.prog 85 #[.agg #[.bool q.g, .slice q.A q.n q.c, .bool q.gd, .slice q.Ad q.nd q.cd], .agg #[.bool q'.g, .slice q'.A q'.n q'.c, .bool q'.gd, .slice q'.Ad q'.nd q'.cd], .func (.func 89) #[] #[.pointer (some ⟨ca, 0, none⟩), .pointer (some ⟨cb, 0, none⟩)]] W (RetR N D E W))) :
    Calls Tryz.prog 39 #[.agg #[.bool q.g, .slice q.A q.n q.c, .bool q.gd, .slice q.Ad q.nd q.cd], .agg #[.bool q'.g, .slice q'.A q'.n q'.c, .bool q'.gd, .slice q'.Ad q'.nd q'.cd]] w (RetR N D E w) := by
  have hmf : ∀ (fn : Fn) (first cap : Array Value) (w : World), (Instr.makeFunc fn first cap).run Tryz.prog w = .ok (.func fn first cap) w := fun _ _ _ _ => rfl
  have HS := Lib.hid (And.intro h h')
  clear h h'
  go_enter Tryz.func39, Tryz.ntmps39
  go_wp2_with fail
  generalize hW : World.alloc (World.alloc (World.alloc w _) _) _ = V
  obtain ⟨hb, ra, rb, rr⟩ := two_rats_nil q q' w V HS.out.1 HS.out.2 hW
  have HB := Lib.hid hb
  have HR := Lib.hid (And.intro ra (And.intro rb rr))
  clear hW hb ra rb rr
  refine (HC.out V _ _ HR.out.1 HR.out.2.1).mono ?_
  rintro e w3 ⟨t, rfl, hq, ho, hod, hb3⟩
  have R3 := Lib.hid (HR.out.2.2.on hb3)
  have B3 := Lib.hid (below_chain HB.out HB.out.size hb3)
  have HQ := Lib.hid (And.intro hq (And.intro ho hod))
  clear hq ho hod hb3 HR HB
  have f0 := R3.out.f 0
  have f1 := R3.out.f 1
  have f2 := R3.out.f 2
  have f3 := R3.out.f 3
  have q0 := R3.out.c0
  have q1 := R3.out.c1
  have q2 := R3.out.c2
  have q3 := R3.out.c3
  simp only [RVal.nil] at q0 q1 q2 q3
  go_wp2
  generalize hU : World.setCell (World.setCell (World.setCell (World.setCell w3 _ _) _ _) _ _) _ _ = U
  have RU' := (Rb.put R3.out HQ.out.1)
  have RU : Rb U (w.heap.size + 1 + 1) t := by rw [← hU]; exact RU'
  have HU : Below w.heap.size w U := by rw [← hU]; exact (below_put4 B3.out (show w.heap.size ≤ w.heap.size + 1 + 1 by omega) _ _ _ _)
  have j0 := RU.c0
  have j1 := RU.c1
  have j2 := RU.c2
  have j3 := RU.c3
  refine bodyPost_ret (v := .tuple #[.agg #[.bool t.g, .slice t.A t.n t.c, .bool t.gd, .slice t.Ad t.nd t.cd], .int .i64 E]) (by simp [results, Tryz.results39, go_sem, j0, j1, j2, j3]) rfl ?_
  exact RetR.of RU HQ.out.2.1 HQ.out.2.2 HU
theorem mul_no {q q' : RVal} {x y : Rat} {w : World} (h : q.In w) (h' : q'.In w) (hx : rv q.o q.od = some x) (hy : rv q'.o q'.od = some y) (hn : ¬ ((x.num * y.num).natAbs < BIG ∧ ((x.den : Int) * y.den).natAbs < BIG)) :
    Calls Tryz.prog 39 #[.agg #[.bool q.g, .slice q.A q.n q.c, .bool q.gd, .slice q.Ad q.nd q.cd], .agg #[.bool q'.g, .slice q'.A q'.n q'.c, .bool q'.gd, .slice q'.Ad q'.nd q'.cd]] w (RetR 0 0 2 w) := by
  have ox := rv_some hx
  have oy := rv_some hy
  have k : kp (kp 0 (fitE (x.num * y.num))) (fitE ((x.den : Int) * y.den)) = 2 := by
    rcases fitE_or (x.num * y.num) with ⟨e1, _, l1⟩ | e1
    · rw [e1]
      rcases fitE_or ((x.den : Int) * y.den) with ⟨_, _, l2⟩ | e2
      · exact absurd ⟨l1, l2⟩ hn
      · rw [e2]; rfl
    · rw [e1]; exact kp_two _ rfl
  refine walk_Mul q q' _ _ _ w h h' (Lib.hid fun W ca cb ra rb => ?_)
  refine combine_Mul_no q q' W ra.sl rb.sl ca cb (fitZ (x.num * y.num)) (fitZ ((x.den : Int) * y.den)) 2 (isSome_of hx) (isSome_of hy) (Lib.hid fun W1 p hb hp hc => ?_) (by decide)
  refine clo_Mul q q' ca cb p _ _ _ _ _ _ _ 2 W1 (ra.on hb) (rb.on hb) hc ox.1 ox.2 oy.1 oy.2 rfl rfl (kp_or _ _) ?_
  have := kp_or (kp 0 (fitE (x.num * y.num))) (fitE ((x.den : Int) * y.den))
  rwa [k] at this
theorem mul_ok {q q' : RVal} {x y : Rat} {w : World} (h : q.In w) (h' : q'.In w) (hx : rv q.o q.od = some x) (hy : rv q'.o q'.od = some y) (f1 : (x.num * y.num).natAbs < BIG) (f2 : ((x.den : Int) * y.den).natAbs < BIG) :
    Calls Tryz.prog 39 #[.agg #[.bool q.g, .slice q.A q.n q.c, .bool q.gd, .slice q.Ad q.nd q.cd], .agg #[.bool q'.g, .slice q'.A q'.n q'.c, .bool q'.gd, .slice q'.Ad q'.nd q'.cd]] w (RetR (x * y).num ((x * y).den : Int) 0 w) := by
  have ox := rv_some hx
  have oy := rv_some hy
  have g1 := fit_yes f1
  have g2 := fit_yes f2
  have m := mk_ok (s := x.num * y.num) (den2_ne x y)
  rw [rat_mul] at m
  refine walk_Mul q q' _ _ _ w h h' (Lib.hid fun W ca cb ra rb => ?_)
  refine combine_Mul_ok q q' W ra.sl rb.sl ca cb _ _ _ _ _ (isSome_of hx) (isSome_of hy) (Lib.hid fun W1 p hb hp hc => ?_) m.1 m.2.1 m.2.2
  exact clo_Mul q q' ca cb p _ _ _ _ _ _ 0 0 W1 (ra.on hb) (rb.on hb) hc ox.1 ox.2 oy.1 oy.2 g1.1 g2.1 (kf_zero g1.2) (kf_zero g2.2)
set_option maxHeartbeats 1000000 in
theorem walk_Div (q q' : RVal) (N D E : Int) (w : World) (h : q.In w) (h' : q'.In w)
    (HC : Hid (∀ (W : World) (ca cb : Nat), Rb W ca q → Rb W cb q' → Calls Tryz.prog 85 #[.agg #[.bool q.g, .slice q.A q.n q.c, .bool q.gd, .slice q.Ad q.nd q.cd], .agg #[.bool q'.g, .slice q'.A q'.n q'.c, .bool q'.gd, .slice q'.Ad q'.nd q'.cd], .func (.func 194) #[] #[.pointer (some ⟨ca, 0, none⟩), .pointer (some ⟨cb, 0, none⟩)]] W (RetR N D E W))) :
    Calls Tryz.prog 168 #[.agg #[.bool q.g, .slice q.A q.n q.c, .bool q.gd, .slice q.Ad q.nd q.cd], .agg #[.bool q'.g, .slice q'.A q'.n q'.c, .bool q'.gd, .slice q'.Ad q'.nd q'.cd]] w (RetR N D E w) := by
  have hmf : ∀ (fn : Fn) (first cap : Array Value) (w : World), (Instr.makeFunc fn first cap).run Tryz.prog w = .ok (.func fn first cap) w := fun _ _ _ _ => rfl
  have HS := Lib.hid (And.intro h h')
  clear h h'
  go_enter Tryz.func168, Tryz.ntmps168
  go_wp2_with fail
  generalize hW : World.alloc (World.alloc (World.alloc w _) _) _ = V
  obtain ⟨hb, ra, rb, rr⟩ := two_rats_nil q q' w V HS.out.1 HS.out.2 hW
  have HB := Lib.hid hb
  have HR := Lib.hid (And.intro ra (And.intro rb rr))
  clear hW hb ra rb rr
  refine (HC.out V _ _ HR.out.1 HR.out.2.1).mono ?_
  rintro e w3 ⟨t, rfl, hq, ho, hod, hb3⟩
  have R3 := Lib.hid (HR.out.2.2.on hb3)
  have B3 := Lib.hid (below_chain HB.out HB.out.size hb3)
  have HQ := Lib.hid (And.intro hq (And.intro ho hod))
  clear hq ho hod hb3 HR HB
  have f0 := R3.out.f 0
  have f1 := R3.out.f 1
  have f2 := R3.out.f 2
  have f3 := R3.out.f 3
  have q0 := R3.out.c0
  have q1 := R3.out.c1
  have q2 := R3.out.c2
  have q3 := R3.out.c3
  simp only [RVal.nil] at q0 q1 q2 q3
  go_wp2
  generalize hU : World.setCell (World.setCell (World.setCell (World.setCell w3 _ _) _ _) _ _) _ _ = U
  have RU' := (Rb.put R3.out HQ.out.1)
  have RU : Rb U (w.heap.size + 1 + 1) t := by rw [← hU]; exact RU'
  have HU : Below w.heap.size w U := by rw [← hU]; exact (below_put4 B3.out (show w.heap.size ≤ w.heap.size + 1 + 1 by omega) _ _ _ _)
  have j0 := RU.c0
  have j1 := RU.c1
  have j2 := RU.c2
  have j3 := RU.c3
  refine bodyPost_ret (v := .tuple #[.agg #[.bool t.g, .slice t.A t.n t.c, .bool t.gd, .slice t.Ad t.nd t.cd], .int .i64 E]) (by simp [results, Tryz.results168, go_sem, j0, j1, j2, j3]) rfl ?_
  exact RetR.of RU HQ.out.2.1 HQ.out.2.2 HU
theorem div_no {q q' : RVal} {x y : Rat} {w : World} (h : q.In w) (h' : q'.In w) (hx : rv q.o q.od = some x) (hy : rv q'.o q'.od = some y) (hn : ¬ ((x.num * y.den).natAbs < BIG ∧ ((x.den : Int) * y.num).natAbs < BIG)) :
    Calls Tryz.prog 168 #[.agg #[.bool q.g, .slice q.A q.n q.c, .bool q.gd, .slice q.Ad q.nd q.cd], .agg #[.bool q'.g, .slice q'.A q'.n q'.c, .bool q'.gd, .slice q'.Ad q'.nd q'.cd]] w (RetR 0 0 2 w) := by
  have ox := rv_some hx
  have oy := rv_some hy
  have k : kp (kp 0 (fitE (x.num * y.den))) (fitE ((x.den : Int) * y.num)) = 2 := by
    rcases fitE_or (x.num * y.den) with ⟨e1, _, l1⟩ | e1
    · rw [e1]
      rcases fitE_or ((x.den : Int) * y.num) with ⟨_, _, l2⟩ | e2
      · exact absurd ⟨l1, l2⟩ hn
      · rw [e2]; rfl
    · rw [e1]; exact kp_two _ rfl
  refine walk_Div q q' _ _ _ w h h' (Lib.hid fun W ca cb ra rb => ?_)
  refine combine_Div_no q q' W ra.sl rb.sl ca cb (fitZ (x.num * y.den)) (fitZ ((x.den : Int) * y.num)) 2 (isSome_of hx) (isSome_of hy) (Lib.hid fun W1 p hb hp hc => ?_) (by decide)
  refine clo_Div q q' ca cb p _ _ _ _ _ _ _ 2 W1 (ra.on hb) (rb.on hb) hc ox.1 ox.2 oy.1 oy.2 rfl rfl (kp_or _ _) ?_
  have := kp_or (kp 0 (fitE (x.num * y.den))) (fitE ((x.den : Int) * y.num))
  rwa [k] at this
theorem div_ok {q q' : RVal} {x y : Rat} {w : World} (h : q.In w) (h' : q'.In w) (hx : rv q.o q.od = some x) (hy : rv q'.o q'.od = some y) (hz : y.num ≠ 0) (f1 : (x.num * y.den).natAbs < BIG) (f2 : ((x.den : Int) * y.num).natAbs < BIG) :
    Calls Tryz.prog 168 #[.agg #[.bool q.g, .slice q.A q.n q.c, .bool q.gd, .slice q.Ad q.nd q.cd], .agg #[.bool q'.g, .slice q'.A q'.n q'.c, .bool q'.gd, .slice q'.Ad q'.nd q'.cd]] w (RetR (x / y).num ((x / y).den : Int) 0 w) := by
  have ox := rv_some hx
  have oy := rv_some hy
  have g1 := fit_yes f1
  have g2 := fit_yes f2
  have m := mk_ok (s := x.num * y.den) (Int.mul_ne_zero (den_ne x) hz)
  rw [rat_div] at m
  refine walk_Div q q' _ _ _ w h h' (Lib.hid fun W ca cb ra rb => ?_)
  refine combine_Div_ok q q' W ra.sl rb.sl ca cb _ _ _ _ _ (isSome_of hx) (isSome_of hy) (Lib.hid fun W1 p hb hp hc => ?_) m.1 m.2.1 m.2.2
  exact clo_Div q q' ca cb p _ _ _ _ _ _ 0 0 W1 (ra.on hb) (rb.on hb) hc ox.1 ox.2 oy.1 oy.2 g1.1 g2.1 (kf_zero g1.2) (kf_zero g2.2)
end Go.Proofs.YtjbnclfbkccieaaGreatDoor
namespace Go.Proofs.YtjbnclfbkccieaaGreatDoor
open Go.RowKit
theorem Bx.put {w : World} {r : Nat} {g : Bool} {A : Option Addr} {n c : Nat} (h : Bx w r g A n c) (g' : Bool) (A' : Option Addr) (n' c' : Nat) : Bx ((w.setCell ⟨r, 0, none⟩ (.bool g')).setCell ⟨r, 1, none⟩ (.slice A' n' c')) r g' A' n' c' := by
  have := Blk.set_ (Blk.set_ h 0 (.bool g')) 1 (.slice A' n' c')
  exact this
end Go.Proofs.YtjbnclfbkccieaaGreatDoor
namespace Go.Proofs.YtjbnclfbkccieaaGreatDoor
open Go.RowKit
/-- What Sqrt hands back. -/
def RetRB (z zd : Int) (b : Bool) (er : Int) (w : World) (e : Ending) (w' : World) : Prop := ∃ q : RVal, e = .returned (.tuple #[.agg #[.bool q.g, .slice q.A q.n q.c, .bool q.gd, .slice q.Ad q.nd q.cd], .bool b, .int .i64 er]) ∧ q.In w' ∧ q.o = some z ∧ q.od = some zd ∧ Below w.heap.size w w'
theorem RetRB.of {z zd er : Int} {b : Bool} {w U : World} {r : Nat} {q : RVal} (h : Rb U r q) (hz : q.o = some z) (hd : q.od = some zd) (hb : Below w.heap.size w U) : RetRB z zd b er w (.returned (.tuple #[.agg #[.bool q.g, .slice q.A q.n q.c, .bool q.gd, .slice q.Ad q.nd q.cd], .bool b, .int .i64 er])) U := ⟨q, rfl, h.sl, hz, hd, hb⟩
end Go.Proofs.YtjbnclfbkccieaaGreatDoor
namespace Go.Proofs.YtjbnclfbkccieaaGreatDoor
open Go.RowKit
/-- The text of a rational. -/
def rtx (x : Rat) : List UInt8 := if x.den = 1 then decT x.num else decT x.num ++ 47 :: decT (x.den : Int)
theorem text_boxes (q : RVal) (w W : World) (h : q.In w) (hW : (w.alloc (.cells #[.bool q.g, .slice q.A q.n q.c, .bool q.gd, .slice q.Ad q.nd q.cd] 27)).alloc (.cells #[.bool q.g, .slice q.A q.n q.c, .bool q.gd, .slice q.Ad q.nd q.cd] 27) = W) :
    Below w.heap.size w W ∧ Rb W w.heap.size q ∧ Blk W (w.heap.size + 1) 27 #[.bool q.g, .slice q.A q.n q.c, .bool q.gd, .slice q.Ad q.nd q.cd] := by
  obtain ⟨b2, h1, h2⟩ := two_rats q q w W h h hW
  exact ⟨b2, h1, h2.bx⟩
theorem oneB_some (z : Int) : oneB (some z) = decide (z = 1) := by
  rcases h : oneB (some z) with _ | _
  · symm; rw [decide_eq_false_iff_not]; intro e; subst e; cases h
  · have := (oneB_iff _).1 h
    injection this with this
    rw [this]; rfl
def RetTx (l : List UInt8) (er : Int) (w : World) (e : Ending) (w' : World) : Prop := e = .returned (.tuple #[.string ⟨l.toArray⟩, .int .i64 er]) ∧ Below w.heap.size w w'
theorem cat_arr (a b : List UInt8) : (⟨a.toArray⟩ : ByteArray) ++ (⟨b.toArray⟩ : ByteArray) = ⟨(a ++ b).toArray⟩ := by
  apply ByteArray.ext
  simp
set_option maxHeartbeats 1000000 in
theorem text_r1 (q : RVal) (w : World) (h : q.In w) (x : Rat) (l1 l2 : List UInt8) (hx : rv q.o q.od = some x) (h1 : decT x.num = l1) (h2 : decT (x.den : Int) = l2) (hb : decide ((x.den : Int) = 1) = true) :
    Calls Tryz.prog 144 #[.agg #[.bool q.g, .slice q.A q.n q.c, .bool q.gd, .slice q.Ad q.nd q.cd]] w (RetTx l1 0 w) := by
  have HE := Lib.hid (isSome_of hx)
  have HO := Lib.hid (rv_some hx)
  have HL := Lib.hid (show decT x.num = l1 ∧ decide ((x.den : Int) = 1) = true ∧ decT (x.den : Int) = l2 from ⟨h1, hb, h2⟩)
  clear hx h1 hb h2
  have HS := Lib.hid h
  clear h
  go_enter Tryz.func144, Tryz.ntmps144
  go_wp2_with fail
  generalize hW : World.alloc (World.alloc w _) _ = V
  obtain ⟨hb, ra, ar⟩ := text_boxes q w V HS.out hW
  have HB := Lib.hid hb
  clear hW hb
  generalize hr : w.heap.size = r at *
  have HRr := Lib.hid hr
  clear hr
  have C := allValid_one q (r + 1) true V ra.sl ar HE.out
  refine C.mono ?_
  clear C ar
  rintro e w1 ⟨rfl, hb1⟩
  have B1 := Lib.hid (below_chain HB.out (by have := HB.out.size; have := HRr.out; omega) hb1)
  have RA := Lib.hid (ra.on hb1)
  clear hb1 ra
  have k0 := RA.out.c0
  have k1 := RA.out.c1
  go_wp2_with fail
  have C := text_ov (neg := q.g) RA.out.sl.1
  rw [show ov q.g q.xs = some x.num from HO.out.1] at C
  have C' : Calls Tryz.prog 176 #[.agg #[.bool q.g, .slice q.A q.n q.c]] w1 fun e w' => e = .returned (.tuple #[.string ⟨l1.toArray⟩, .int .i64 0]) ∧ Below w1.heap.size w1 w' := by rw [← HL.out.1]; exact C
  refine C'.mono ?_
  clear C C' k0 k1
  rintro e w2 ⟨rfl, hb2⟩
  have B2 := Lib.hid (below_chain B1.out (by have := B1.out.size; have := HRr.out; omega) hb2)
  have RA2 := Lib.hid (RA.out.on hb2)
  clear hb2 RA B1
  have k2 := RA2.out.c2
  have k3 := RA2.out.c3
  go_wp2_with fail
  have C := isOne_ov (neg := q.gd) RA2.out.sl.2
  rw [show ov q.gd q.ys = some (x.den : Int) from HO.out.2, oneB_some, HL.out.2.1] at C
  refine C.mono ?_
  clear C k2 k3
  rintro e w3 ⟨rfl, hb3⟩
  have B3 := Lib.hid (below_chain B2.out (by have := B2.out.size; have := HRr.out; omega) hb3)
  have RA3 := Lib.hid (RA2.out.on hb3)
  clear hb3 RA2 B2
  go_wp2
  go_ret2
  exact ⟨rfl, HRr.out.symm ▸ B3.out⟩
set_option maxHeartbeats 1000000 in
theorem text_r2 (q : RVal) (w : World) (h : q.In w) (x : Rat) (l1 l2 : List UInt8) (hx : rv q.o q.od = some x) (h1 : decT x.num = l1) (h2 : decT (x.den : Int) = l2) (hb : decide ((x.den : Int) = 1) = false) (m1 : l1.length ≤ 2000) (m2 : l2.length ≤ 2000) :
    Calls Tryz.prog 144 #[.agg #[.bool q.g, .slice q.A q.n q.c, .bool q.gd, .slice q.Ad q.nd q.cd]] w (RetTx (l1 ++ 47 :: l2) 0 w) := by
  have HE := Lib.hid (isSome_of hx)
  have HO := Lib.hid (rv_some hx)
  have HL := Lib.hid (show decT x.num = l1 ∧ decide ((x.den : Int) = 1) = false ∧ decT (x.den : Int) = l2 from ⟨h1, hb, h2⟩)
  clear hx h1 hb h2
  have HS := Lib.hid h
  clear h
  go_enter Tryz.func144, Tryz.ntmps144
  go_wp2_with fail
  generalize hW : World.alloc (World.alloc w _) _ = V
  obtain ⟨hb, ra, ar⟩ := text_boxes q w V HS.out hW
  have HB := Lib.hid hb
  clear hW hb
  generalize hr : w.heap.size = r at *
  have HRr := Lib.hid hr
  clear hr
  have C := allValid_one q (r + 1) true V ra.sl ar HE.out
  refine C.mono ?_
  clear C ar
  rintro e w1 ⟨rfl, hb1⟩
  have B1 := Lib.hid (below_chain HB.out (by have := HB.out.size; have := HRr.out; omega) hb1)
  have RA := Lib.hid (ra.on hb1)
  clear hb1 ra
  have k0 := RA.out.c0
  have k1 := RA.out.c1
  go_wp2_with fail
  have C := text_ov (neg := q.g) RA.out.sl.1
  rw [show ov q.g q.xs = some x.num from HO.out.1] at C
  have C' : Calls Tryz.prog 176 #[.agg #[.bool q.g, .slice q.A q.n q.c]] w1 fun e w' => e = .returned (.tuple #[.string ⟨l1.toArray⟩, .int .i64 0]) ∧ Below w1.heap.size w1 w' := by rw [← HL.out.1]; exact C
  refine C'.mono ?_
  clear C C' k0 k1
  rintro e w2 ⟨rfl, hb2⟩
  have B2 := Lib.hid (below_chain B1.out (by have := B1.out.size; have := HRr.out; omega) hb2)
  have RA2 := Lib.hid (RA.out.on hb2)
  clear hb2 RA B1
  have k2 := RA2.out.c2
  have k3 := RA2.out.c3
  go_wp2_with fail
  have C := isOne_ov (neg := q.gd) RA2.out.sl.2
  rw [show ov q.gd q.ys = some (x.den : Int) from HO.out.2, oneB_some, HL.out.2.1] at C
  refine C.mono ?_
  clear C k2 k3
  rintro e w3 ⟨rfl, hb3⟩
  have B3 := Lib.hid (below_chain B2.out (by have := B2.out.size; have := HRr.out; omega) hb3)
  have RA3 := Lib.hid (RA2.out.on hb3)
  clear hb3 RA2 B2
  have k2 := RA3.out.c2
  have k3 := RA3.out.c3
  go_wp2_with fail
  have C := text_ov (neg := q.gd) RA3.out.sl.2
  rw [show ov q.gd q.ys = some (x.den : Int) from HO.out.2] at C
  have C' : Calls Tryz.prog 176 #[.agg #[.bool q.gd, .slice q.Ad q.nd q.cd]] w3 fun e w' => e = .returned (.tuple #[.string ⟨l2.toArray⟩, .int .i64 0]) ∧ Below w3.heap.size w3 w' := by rw [← HL.out.2.2]; exact C
  refine C'.mono ?_
  clear C C' k2 k3
  rintro e w4 ⟨rfl, hb4⟩
  have B4 := Lib.hid (below_chain B3.out (by have := B3.out.size; have := HRr.out; omega) hb4)
  clear hb4 RA3 B3
  go_wp2
  go_ret2
  refine ⟨?_, HRr.out.symm ▸ B4.out⟩
  have e1 : (⟨#[47]⟩ : ByteArray) = ⟨([47] : List UInt8).toArray⟩ := rfl
  rw [e1, cat_arr, cat_arr, List.append_assoc]
  rfl
theorem decT_len {z : Int} (h : z.natAbs < BIG) : (decT z).length ≤ 2000 := by
  have key : ∀ k, 4294967296 ^ k = BIG → (dec z.natAbs).length ≤ 10 * k := fun k hk => dec_len (Nat.lt_of_lt_of_le (hk ▸ h) (dec_ten k))
  have h1 := key 128 rfl
  unfold decT
  by_cases h0 : z = 0
  · rw [if_pos h0]; simp
  · rw [if_neg h0, List.length_append]
    by_cases h2 : z < 0
    · rw [if_pos h2]; simp; omega
    · rw [if_neg h2]; simp; omega
theorem text_q {q : RVal} {x : Rat} {w : World} (h : q.In w) (hx : rv q.o q.od = some x) : Calls Tryz.prog 144 #[.agg #[.bool q.g, .slice q.A q.n q.c, .bool q.gd, .slice q.Ad q.nd q.cd]] w (RetTx (rtx x) 0 w) := by
  unfold rtx
  by_cases hd : x.den = 1
  · rw [if_pos hd]
    exact text_r1 q w h x _ _ hx rfl rfl (by rw [decide_eq_true_iff]; omega)
  · rw [if_neg hd]
    exact text_r2 q w h x _ _ hx rfl rfl (by rw [decide_eq_false_iff_not]; omega) (decT_len (ov_lt h.1.ok (rv_some hx).1)) (decT_len (ov_lt h.2.ok (rv_some hx).2))
theorem num_len {w : World} {q : RVal} {x : Rat} (h : Sl w w.heap.size q.A q.n q.c q.xs) (ho : q.o = some x.num) : (((q.n : Int) == 0) = decide (x.num = 0)) := by
  have hp := ov_parts (show ov q.g q.xs = some x.num from ho)
  by_cases h0 : x.num = 0
  · rw [decide_eq_true h0]
    have hx : q.xs = [] := by
      rcases he : q.xs with _ | ⟨y, ys⟩
      · rfl
      · have := val_pos hp.1 (by rw [he]; simp)
        rw [hp.2.1, h0] at this
        simp at this
    have := h.len
    rw [hx] at this
    simp at this
    simp
    omega
  · rw [decide_eq_false h0, beq_eq_false_iff_ne]
    intro e
    have : q.xs = [] := List.eq_nil_of_length_eq_zero (by rw [h.len]; omega)
    rw [this] at hp
    have := hp.2.1
    simp [val] at this
    omega
theorem sign_neg (q : RVal) (w : World) (h : q.In w) (x : Rat) (hx : rv q.o q.od = some x) (h0 : x.num < 0) :
    Calls Tryz.prog 32 #[.agg #[.bool q.g, .slice q.A q.n q.c, .bool q.gd, .slice q.Ad q.nd q.cd]] w (fun e w' => e = .returned (.int .i64 (-1)) ∧ Below w.heap.size w w') := by
  have HE := Lib.hid (isSome_of hx)
  have hn0 : ((q.n : Int) == 0) = false := by rw [num_len h.1 (rv_some hx).1]; exact decide_eq_false (by omega)
  have HG := Lib.hid (show q.g = true by
    have := ov_sign (rv_some hx).1
    rw [← this]; exact decide_eq_true (by omega))
  clear hx h0
  have HB0 := Lib.hid (below_new w (.cells #[.bool q.g, .slice q.A q.n q.c, .bool q.gd, .slice q.Ad q.nd q.cd] 27))
  have HR0 := Lib.hid (Rb.new h)
  clear h
  go_enter Tryz.func32, Tryz.ntmps32
  go_wp2_with fail
  have C := ratValid_r HR0.out.sl
  rw [HE.out] at C
  refine C.mono ?_
  clear C
  rintro e w1 ⟨rfl, hb1⟩
  have HB1 := Lib.hid (below_chain HB0.out HB0.out.size hb1)
  have RA := Lib.hid (HR0.out.on hb1)
  clear hb1
  have k0 := RA.out.c0
  rw [HG.out] at k0
  have k1 := RA.out.c1
  go_wp2
  go_ret
  exact ⟨rfl, HB1.out⟩
end Go.Proofs.YtjbnclfbkccieaaGreatDoor
namespace Go.Proofs.YtjbnclfbkccieaaGreatDoor
open Go.RowKit
end Go.Proofs.YtjbnclfbkccieaaGreatDoor
namespace Go.Proofs.YtjbnclfbkccieaaGreatDoor
open Go.RowKit
section
variable {w v : World} {p a b n1 c1 n2 c2 : Nat} {z1 z2 f : Int} {g1 g2 : Bool} {A1 A2 : Option Addr} {xs1 xs2 : List Nat}
end
end Go.Proofs.YtjbnclfbkccieaaGreatDoor
namespace Go.Proofs.YtjbnclfbkccieaaGreatDoor
open Go.RowKit
theorem Kp.put {w w' : World} {p r : Nat} {f : Int} {q : RVal} (h : Kp w w' p f) (hr : Rb w' r q) (hs : w.heap.size ≤ r) (hp : p < w.heap.size) (a : Bool) (b : Value) (c : Bool) (d : Value) : Kp w (put4 w' r a b c d) p f := by
  refine ⟨fun A n c xs s => (h.sl A n c xs s).put4 hr.bx _ _ _ _, fun g t cs hg k => ?_, ?_, fun B a k h1 h2 => below_put4 (h.bel B a k h1 h2) (by omega) _ _ _ _, by rw [put4_size]; exact h.size⟩
  · have hlt := Blk.lt k
    have hne : g ≠ r := by omega
    exact Blk.far (Blk.far (Blk.far (Blk.far (h.blk g t cs hg k) (p := ⟨r, 0, none⟩) hne _) (p := ⟨r, 1, none⟩) hne _) (p := ⟨r, 2, none⟩) hne _) (p := ⟨r, 3, none⟩) hne _
  · have hne : p ≠ r := by omega
    exact Blk.far (Blk.far (Blk.far (Blk.far h.cl (p := ⟨r, 0, none⟩) hne _) (p := ⟨r, 1, none⟩) hne _) (p := ⟨r, 2, none⟩) hne _) (p := ⟨r, 3, none⟩) hne _
end Go.Proofs.YtjbnclfbkccieaaGreatDoor
namespace Go.Proofs.YtjbnclfbkccieaaGreatDoor
open Go.RowKit
/-- A state of the expansion: both ends, the last two convergents. -/
structure Ex where
  n : Int
  d : Int
  m : Int
  f : Int
  p : Int
  q : Int
  r : Int
  s : Int
/-- The step behind a round that goes on. -/
structure ExS (a b : Ex) (qt rs ab : Int) : Prop where
  ge : decide (Int.sign (a.f - ab) < 0) = false
  c1 : fitZ (qt * a.r) = qt * a.r
  c2 : fitE (qt * a.r) = 0
  c3 : fitZ (qt * a.r + a.p) = b.r
  c4 : fitE (qt * a.r + a.p) = 0
  c5 : fitZ (qt * a.s) = qt * a.s
  c6 : fitE (qt * a.s) = 0
  c7 : fitZ (qt * a.s + a.q) = b.s
  c8 : fitE (qt * a.s + a.q) = 0
  e1 : b.n = a.f
  e2 : b.d = ab
  e3 : b.m = a.d
  e4 : b.f = rs
  e5 : b.p = a.r
  e6 : b.q = a.s
theorem ExS.eq {a b : Ex} {qt rs ab : Int} (h : ExS a b qt rs ab) : b = ⟨a.f, ab, a.d, rs, a.r, a.s, b.r, b.s⟩ := by
  cases b; simp [← h.e1, ← h.e2, ← h.e3, ← h.e4, ← h.e5, ← h.e6]
/-- What a round finds in memory. -/
structure ExW (w0 : World) (r p m a b : Nat) (g : Bool) (A : Option Addr) (n c : Nat) (xs : List Nat) (x : Ex) (lo hi la no : RVal) (wr : World) : Prop where
  blo : Rb wr r lo
  bhi : Rb wr (r + 1) hi
  bre : Rb wr (r + 1 + 1) RVal.nil
  bla : Rb wr a la
  bno : Rb wr b no
  bon : Ba wr m g A n c xs
  cl : Blk wr p 115 #[.int .i64 0]
  l1 : r + 1 + 1 < p
  l2 : p < m
  l3 : m < a
  l4 : m < b
  l5 : a ≠ b
  bel : Below r w0 wr
  o1 : lo.o = some x.n
  o2 : lo.od = some x.d
  o3 : hi.o = some x.m
  o4 : hi.od = some x.f
  o5 : la.o = some x.p
  o6 : la.od = some x.q
  o7 : no.o = some x.r
  o8 : no.od = some x.s
  o9 : ov g xs = some 1
section
variable {w0 : World} {r p m a b : Nat} {g : Bool} {A : Option Addr} {n c : Nat} {xs : List Nat} {x : Ex} {lo hi la no : RVal} {wr wr' : World}
theorem ExW.on (h : ExW w0 r p m a b g A n c xs x lo hi la no wr) (hb : Below wr.heap.size wr wr') (hr : r ≤ wr.heap.size) : ExW w0 r p m a b g A n c xs x lo hi la no wr' :=
  ⟨h.blo.on hb, h.bhi.on hb, h.bre.on hb, h.bla.on hb, h.bno.on hb, h.bon.on hb, Blk.below h.cl hb (Blk.lt h.cl), h.l1, h.l2, h.l3, h.l4, h.l5, below_chain h.bel hr hb, h.o1, h.o2, h.o3, h.o4, h.o5, h.o6, h.o7, h.o8, h.o9⟩
theorem ExW.kp (h : ExW w0 r p m a b g A n c xs x lo hi la no wr) (k : Kp wr wr' p 0) (hr : r ≤ wr.heap.size) : ExW w0 r p m a b g A n c xs x lo hi la no wr' := by
  have := h.l1; have := h.l2; have := h.l3; have := h.l4
  exact ⟨k.rb h.blo (by omega), k.rb h.bhi (by omega), k.rb h.bre (by omega), k.rb h.bla (by omega), k.rb h.bno (by omega), k.ba h.bon (by omega), k.cl, h.l1, h.l2, h.l3, h.l4, h.l5, k.bel _ _ h.bel (by omega) hr, h.o1, h.o2, h.o3, h.o4, h.o5, h.o6, h.o7, h.o8, h.o9⟩
end
theorem Rb.pass {w : World} {r r' : Nat} {q q' : RVal} (h' : Rb w r' q') (h : Rb w r q) (hne : r' ≠ r) (a : Bool) (b : Value) (c : Bool) (d : Value) : Rb (put4 w r a b c d) r' q' :=
  ⟨Blk.far (Blk.far (Blk.far (Blk.far h'.bx (p := ⟨r, 0, none⟩) hne _) (p := ⟨r, 1, none⟩) hne _) (p := ⟨r, 2, none⟩) hne _) (p := ⟨r, 3, none⟩) hne _, h'.sl.1.put4 h.bx _ _ _ _, h'.sl.2.put4 h.bx _ _ _ _⟩
theorem Ba.pass {w : World} {r r' : Nat} {q : RVal} {g : Bool} {A : Option Addr} {n c : Nat} {xs : List Nat} (h' : Ba w r' g A n c xs) (h : Rb w r q) (hne : r' ≠ r) (a : Bool) (b : Value) (c' : Bool) (d : Value) : Ba (put4 w r a b c' d) r' g A n c xs :=
  ⟨Blk.far (Blk.far (Blk.far (Blk.far h'.bx (p := ⟨r, 0, none⟩) hne _) (p := ⟨r, 1, none⟩) hne _) (p := ⟨r, 2, none⟩) hne _) (p := ⟨r, 3, none⟩) hne _, h'.sl.put4 h.bx _ _ _ _⟩
theorem Blk.pass {w : World} {r g : Nat} {t : TypeId} {cs : Array Value} {q : RVal} (h' : Blk w g t cs) (hne : g ≠ r) (_h : Rb w r q) (a : Bool) (b : Value) (c : Bool) (d : Value) : Blk (put4 w r a b c d) g t cs :=
  Blk.far (Blk.far (Blk.far (Blk.far h' (p := ⟨r, 0, none⟩) hne _) (p := ⟨r, 1, none⟩) hne _) (p := ⟨r, 2, none⟩) hne _) (p := ⟨r, 3, none⟩) hne _
theorem Rb.two {w : World} {r r1 r2 : Nat} {q q1 q2 : RVal} (h : Rb w r q) (h1 : Rb w r1 q1) (h2 : Rb w r2 q2) (n1 : r ≠ r1) (n2 : r ≠ r2) (n3 : r2 ≠ r1) (a : Bool) (b : Value) (c : Bool) (d : Value) (a' : Bool) (b' : Value) (c' : Bool) (d' : Value) : Rb (put4 (put4 w r1 a b c d) r2 a' b' c' d') r q :=
  (h.pass h1 n1 a b c d).pass (h2.pass h1 n3 a b c d) n2 _ _ _ _
theorem Ba.two {w : World} {r r1 r2 : Nat} {q1 q2 : RVal} {g : Bool} {A : Option Addr} {n k : Nat} {xs : List Nat} (h : Ba w r g A n k xs) (h1 : Rb w r1 q1) (h2 : Rb w r2 q2) (n1 : r ≠ r1) (n2 : r ≠ r2) (n3 : r2 ≠ r1) (a : Bool) (b : Value) (c : Bool) (d : Value) (a' : Bool) (b' : Value) (c' : Bool) (d' : Value) : Ba (put4 (put4 w r1 a b c d) r2 a' b' c' d') r g A n k xs :=
  (h.pass h1 n1 a b c d).pass (h2.pass h1 n3 a b c d) n2 _ _ _ _
theorem Rb.put_in {w : World} {r : Nat} {q q' : RVal} (h : Rb w r q) (hi : q'.In w) (a : Bool) (b : Value) (c : Bool) (d : Value) : q'.In (put4 w r a b c d) := ⟨hi.1.put4 h.bx _ _ _ _, hi.2.put4 h.bx _ _ _ _⟩
section
variable {w0 : World} {r p m a b : Nat} {g : Bool} {A : Option Addr} {n c : Nat} {xs : List Nat} {x : Ex} {lo hi la no : RVal} {wr wr' : World}
/-- The convergents move on. -/
theorem ExW.turn (h : ExW w0 r p m a b g A n c xs x lo hi la no wr) {t : RVal} (ht : t.In wr) {N D : Int} (o : t.o = some N) (od : t.od = some D) : ExW w0 r p m a b g A n c xs ⟨x.n, x.d, x.m, x.f, x.r, x.s, N, D⟩ lo hi no t (put4 (put4 wr a no.g (.slice no.A no.n no.c) no.gd (.slice no.Ad no.nd no.cd)) b t.g (.slice t.A t.n t.c) t.gd (.slice t.Ad t.nd t.cd)) := by
  have l1 := h.l1; have l2 := h.l2; have l3 := h.l3; have l4 := h.l4; have l5 := h.l5
  have e1 := h.bla.put h.bno.sl
  have e2 := h.bno.pass h.bla l5.symm no.g (.slice no.A no.n no.c) no.gd (.slice no.Ad no.nd no.cd)
  have e3 := h.bla.put_in ht no.g (.slice no.A no.n no.c) no.gd (.slice no.Ad no.nd no.cd)
  exact ⟨h.blo.two h.bla h.bno (by omega) (by omega) l5.symm _ _ _ _ _ _ _ _, h.bhi.two h.bla h.bno (by omega) (by omega) l5.symm _ _ _ _ _ _ _ _, h.bre.two h.bla h.bno (by omega) (by omega) l5.symm _ _ _ _ _ _ _ _, e1.pass e2 l5 _ _ _ _, e2.put e3, h.bon.two h.bla h.bno (by omega) (by omega) l5.symm _ _ _ _ _ _ _ _,
    Blk.pass (Blk.pass h.cl (show p ≠ a by omega) h.bla _ _ _ _) (show p ≠ b by omega) e2 _ _ _ _, l1, l2, l3, l4, l5, below_put4 (below_put4 h.bel (by omega) _ _ _ _) (by omega) _ _ _ _, h.o1, h.o2, h.o3, h.o4, h.o7, h.o8, o, od, h.o9⟩
theorem ExW.drew (h : ExW w0 r p m a b g A n c xs x lo hi la no wr) : ExW w0 r p m a b g A n c xs x lo hi la no wr.drew :=
  ⟨h.blo.drew, h.bhi.drew, h.bre.drew, h.bla.drew, h.bno.drew, ⟨h.bon.bx.drew, h.bon.sl.drew⟩, Blk.drew h.cl, h.l1, h.l2, h.l3, h.l4, h.l5, h.bel.drew, h.o1, h.o2, h.o3, h.o4, h.o5, h.o6, h.o7, h.o8, h.o9⟩
/-- The ends move on. -/
theorem ExW.step (h : ExW w0 r p m a b g A n c xs x lo hi la no wr) {q1 q2 : RVal} (h1 : q1.In wr) (h2 : q2.In wr) {N1 D1 N2 D2 : Int} (o1 : q1.o = some N1) (o2 : q1.od = some D1) (o3 : q2.o = some N2) (o4 : q2.od = some D2) : ExW w0 r p m a b g A n c xs ⟨N1, D1, N2, D2, x.p, x.q, x.r, x.s⟩ q1 q2 la no (put4 (put4 wr r q1.g (.slice q1.A q1.n q1.c) q1.gd (.slice q1.Ad q1.nd q1.cd)) (r + 1) q2.g (.slice q2.A q2.n q2.c) q2.gd (.slice q2.Ad q2.nd q2.cd)) := by
  have l1 := h.l1; have l2 := h.l2; have l3 := h.l3; have l4 := h.l4; have l5 := h.l5
  have n1 : r + 1 ≠ r := by omega
  have e1 := h.blo.put h1
  have e2 := h.bhi.pass h.blo n1 q1.g (.slice q1.A q1.n q1.c) q1.gd (.slice q1.Ad q1.nd q1.cd)
  have e3 := h.blo.put_in h2 q1.g (.slice q1.A q1.n q1.c) q1.gd (.slice q1.Ad q1.nd q1.cd)
  exact ⟨e1.pass e2 n1.symm _ _ _ _, e2.put e3, h.bre.two h.blo h.bhi (by omega) (by omega) n1 _ _ _ _ _ _ _ _, h.bla.two h.blo h.bhi (by omega) (by omega) n1 _ _ _ _ _ _ _ _, h.bno.two h.blo h.bhi (by omega) (by omega) n1 _ _ _ _ _ _ _ _, h.bon.two h.blo h.bhi (by omega) (by omega) n1 _ _ _ _ _ _ _ _,
    Blk.pass (Blk.pass h.cl (show p ≠ r by omega) h.blo _ _ _ _) (show p ≠ r + 1 by omega) e2 _ _ _ _, l1, l2, l3, l4, l5, below_put4 (below_put4 h.bel (by omega) _ _ _ _) (by omega) _ _ _ _, o1, o2, o3, o4, h.o5, h.o6, h.o7, h.o8, h.o9⟩
end
end Go.Proofs.YtjbnclfbkccieaaGreatDoor
namespace Go.Proofs.YtjbnclfbkccieaaGreatDoor
open Go.RowKit
end Go.Proofs.YtjbnclfbkccieaaGreatDoor
namespace Go.Proofs.YtjbnclfbkccieaaGreatDoor
open Go.RowKit
end Go.Proofs.YtjbnclfbkccieaaGreatDoor
namespace Go.Proofs.YtjbnclfbkccieaaGreatDoor
open Go.RowKit
theorem rv_mk {a b : Int} (hb : 0 < b) (hg : gcdZ a b = 1) : rv (some a) (some b) = some (Rat.divInt a b) := by unfold rv; exact if_pos ⟨hb, hg⟩
end Go.Proofs.YtjbnclfbkccieaaGreatDoor
