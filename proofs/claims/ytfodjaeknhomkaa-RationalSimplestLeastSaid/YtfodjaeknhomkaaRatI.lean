/-
  Stage 2: Add, Sub, Mul and Div of the rationals.
-/
import Derived.Test.YtfodjaeknhomkaaRatH
namespace Go.Proofs.Ytfodjaeknhomkaa
open Go.RowKit
theorem kf_zero {e : Int} (h : e = 0) : Kf 0 e 0 := Or.inl ⟨rfl, h.symm⟩
theorem kp_two {e : Int} (f : Int) (h : f = 2) : kp f e = 2 := by subst h; rfl
theorem fitE_or (z : Int) : fitE z = 0 ∧ fitZ z = z ∧ z.natAbs < BIG ∨ fitE z = 2 := by
  by_cases h : z.natAbs < BIG
  · exact Or.inl ⟨(fit_yes h).2, (fit_yes h).1, h⟩
  · exact Or.inr (fit_no h).2
theorem mk_ok {s d : Int} (h : d ≠ 0) : mkN (some s) (some d) = (Rat.divInt s d).num ∧ mkD (some s) (some d) = ((Rat.divInt s d).den : Int) ∧ mkE (some s) (some d) = 0 :=
  ⟨if_neg h, if_neg h, if_neg h⟩
theorem isSome_of {o o' : Option Int} {x : Rat} (h : rv o o' = some x) : (rv o o').isSome = true := by rw [h]; rfl
set_option maxHeartbeats 1000000 in
theorem walk_Add (q q' : RVal) (N D E : Int) (w : World) (h : q.In w) (h' : q'.In w)
    (HC : Hid (∀ (W : World) (ca cb : Nat), Rb W ca q → Rb W cb q' → Calls Try.prog 24 #[.agg #[.bool q.g, .slice q.A q.n q.c, .bool q.gd, .slice q.Ad q.nd q.cd], .agg #[.bool q'.g, .slice q'.A q'.n q'.c, .bool q'.gd, .slice q'.Ad q'.nd q'.cd], .func (.func 25) #[] #[.pointer (some ⟨ca, 0, none⟩), .pointer (some ⟨cb, 0, none⟩)]] W (RetR N D E W))) :
    Calls Try.prog 9 #[.agg #[.bool q.g, .slice q.A q.n q.c, .bool q.gd, .slice q.Ad q.nd q.cd], .agg #[.bool q'.g, .slice q'.A q'.n q'.c, .bool q'.gd, .slice q'.Ad q'.nd q'.cd]] w (RetR N D E w) := by
  have hmf : ∀ (fn : Fn) (first cap : Array Value) (w : World), (Instr.makeFunc fn first cap).run Try.prog w = .ok (.func fn first cap) w := fun _ _ _ _ => rfl
  have HS := Lib.hid (And.intro h h')
  clear h h'
  go_enter Try.func9, Try.ntmps9
  go_wp2_with fail
  generalize hW : World.alloc (World.alloc (World.alloc w _) _) _ = V
  obtain ⟨hb, ra, rb, rr⟩ := two_rats_nil q q' w V HS.out.1 HS.out.2 hW
  have HB := Lib.hid hb
  have HR := Lib.hid (And.intro ra (And.intro rb rr))
  clear hW hb ra rb rr
  refine (HC.out V _ _ HR.out.1 HR.out.2.1).mono ?_
  rintro e w3 ⟨t, rfl, hq, ho, hod, hb3⟩
  have R3 := Lib.hid (HR.out.2.2.on hb3)
  have B3 := Lib.hid (below_chain HB.out HB.out.size hb3)
  have HQ := Lib.hid (And.intro hq (And.intro ho hod))
  clear hq ho hod hb3 HR HB
  have f0 := R3.out.f 0
  have f1 := R3.out.f 1
  have f2 := R3.out.f 2
  have f3 := R3.out.f 3
  have q0 := R3.out.c0
  have q1 := R3.out.c1
  have q2 := R3.out.c2
  have q3 := R3.out.c3
  simp only [RVal.nil] at q0 q1 q2 q3
  go_wp2
  generalize hU : World.setCell (World.setCell (World.setCell (World.setCell w3 _ _) _ _) _ _) _ _ = U
  have RU' := (Rb.put R3.out HQ.out.1)
  have RU : Rb U (w.heap.size + 1 + 1) t := by rw [← hU]; exact RU'
  have HU : Below w.heap.size w U := by rw [← hU]; exact (below_put4 B3.out (show w.heap.size ≤ w.heap.size + 1 + 1 by omega) _ _ _ _)
  have j0 := RU.c0
  have j1 := RU.c1
  have j2 := RU.c2
  have j3 := RU.c3
  refine bodyPost_ret (v := .tuple #[.agg #[.bool t.g, .slice t.A t.n t.c, .bool t.gd, .slice t.Ad t.nd t.cd], .int .i64 E]) (by simp [results, Try.results9, go_sem, j0, j1, j2, j3]) rfl ?_
  exact RetR.of RU HQ.out.2.1 HQ.out.2.2 HU
theorem add_bad (q q' : RVal) (w : World) (h : q.In w) (h' : q'.In w) (hv : ((rv q.o q.od).isSome && (rv q'.o q'.od).isSome) = false) : Calls Try.prog 9 #[.agg #[.bool q.g, .slice q.A q.n q.c, .bool q.gd, .slice q.Ad q.nd q.cd], .agg #[.bool q'.g, .slice q'.A q'.n q'.c, .bool q'.gd, .slice q'.Ad q'.nd q'.cd]] w (RetR 0 0 1 w) :=
  walk_Add q q' 0 0 1 w h h' (Lib.hid fun W _ _ ra rb => combine_bad q q' W ra.sl rb.sl _ _ _ rfl rfl hv)
theorem add_ok {q q' : RVal} {x y : Rat} {w : World} (h : q.In w) (h' : q'.In w) (hx : rv q.o q.od = some x) (hy : rv q'.o q'.od = some y) (f1 : (x.num * y.den).natAbs < BIG) (f2 : (y.num * x.den).natAbs < BIG) (f3 : (x.num * y.den + y.num * x.den).natAbs < BIG) (f4 : ((x.den : Int) * y.den).natAbs < BIG) :
    Calls Try.prog 9 #[.agg #[.bool q.g, .slice q.A q.n q.c, .bool q.gd, .slice q.Ad q.nd q.cd], .agg #[.bool q'.g, .slice q'.A q'.n q'.c, .bool q'.gd, .slice q'.Ad q'.nd q'.cd]] w (RetR (x + y).num ((x + y).den : Int) 0 w) := by
  have ox := rv_some hx
  have oy := rv_some hy
  have g1 := fit_yes f1
  have g2 := fit_yes f2
  have g3 := fit_yes f3
  have g4 := fit_yes f4
  have m := mk_ok (s := x.num * y.den + y.num * x.den) (den2_ne x y)
  rw [rat_add] at m
  refine walk_Add q q' _ _ _ w h h' (Lib.hid fun W ca cb ra rb => ?_)
  refine combine_Add_ok q q' W ra.sl rb.sl ca cb _ _ _ _ _ (isSome_of hx) (isSome_of hy) (Lib.hid fun W1 p hb hp hc => ?_) m.1 m.2.1 m.2.2
  exact clo_Add q q' ca cb p _ _ _ _ _ _ _ _ 0 0 0 0 W1 (ra.on hb) (rb.on hb) hc ox.1 ox.2 oy.1 oy.2 g1.1 g2.1 g3.1 g4.1 (kf_zero g1.2) (kf_zero g2.2) (kf_zero g3.2) (kf_zero g4.2)
theorem add_no {q q' : RVal} {x y : Rat} {w : World} (h : q.In w) (h' : q'.In w) (hx : rv q.o q.od = some x) (hy : rv q'.o q'.od = some y) (hn : ¬ ((x.num * y.den).natAbs < BIG ∧ (y.num * x.den).natAbs < BIG ∧ (x.num * y.den + y.num * x.den).natAbs < BIG ∧ ((x.den : Int) * y.den).natAbs < BIG)) :
    Calls Try.prog 9 #[.agg #[.bool q.g, .slice q.A q.n q.c, .bool q.gd, .slice q.Ad q.nd q.cd], .agg #[.bool q'.g, .slice q'.A q'.n q'.c, .bool q'.gd, .slice q'.Ad q'.nd q'.cd]] w (RetR 0 0 2 w) := by
  have ox := rv_some hx
  have oy := rv_some hy
  have k : kp (kp (kp (kp 0 (fitE (x.num * y.den))) (fitE (y.num * x.den))) (fitE (fitZ (x.num * y.den) + fitZ (y.num * x.den)))) (fitE ((x.den : Int) * y.den)) = 2 := by
    rcases fitE_or (x.num * y.den) with ⟨e1, z1, l1⟩ | e1
    · rw [e1]
      rcases fitE_or (y.num * x.den) with ⟨e2, z2, l2⟩ | e2
      · rw [e2, z1, z2]
        rcases fitE_or (x.num * y.den + y.num * x.den) with ⟨e3, _, l3⟩ | e3
        · rw [e3]
          rcases fitE_or ((x.den : Int) * y.den) with ⟨_, _, l4⟩ | e4
          · exact absurd ⟨l1, l2, l3, l4⟩ hn
          · rw [e4]; rfl
        · rw [e3]; exact kp_two _ rfl
      · rw [e2]; exact kp_two _ (kp_two _ rfl)
    · rw [e1]; exact kp_two _ (kp_two _ (kp_two _ rfl))
  refine walk_Add q q' _ _ _ w h h' (Lib.hid fun W ca cb ra rb => ?_)
  refine combine_Add_no q q' W ra.sl rb.sl ca cb (fitZ (fitZ (x.num * y.den) + fitZ (y.num * x.den))) (fitZ ((x.den : Int) * y.den)) 2 (isSome_of hx) (isSome_of hy) (Lib.hid fun W1 p hb hp hc => ?_) (by decide)
  refine clo_Add q q' ca cb p _ _ _ _ _ _ _ _ _ _ _ 2 W1 (ra.on hb) (rb.on hb) hc ox.1 ox.2 oy.1 oy.2 rfl rfl rfl rfl (kp_or _ _) (kp_or _ _) (kp_or _ _) ?_
  have := kp_or (kp (kp (kp 0 (fitE (x.num * y.den))) (fitE (y.num * x.den))) (fitE (fitZ (x.num * y.den) + fitZ (y.num * x.den)))) (fitE ((x.den : Int) * y.den))
  rwa [k] at this
set_option maxHeartbeats 1000000 in
theorem walk_Div (q q' : RVal) (N D E : Int) (w : World) (h : q.In w) (h' : q'.In w)
    (HC : Hid (∀ (W : World) (ca cb : Nat), Rb W ca q → Rb W cb q' → Calls Try.prog 24 #[.agg #[.bool q.g, .slice q.A q.n q.c, .bool q.gd, .slice q.Ad q.nd q.cd], .agg #[.bool q'.g, .slice q'.A q'.n q'.c, .bool q'.gd, .slice q'.Ad q'.nd q'.cd], .func (.func 28) #[] #[.pointer (some ⟨ca, 0, none⟩), .pointer (some ⟨cb, 0, none⟩)]] W (RetR N D E W))) :
    Calls Try.prog 10 #[.agg #[.bool q.g, .slice q.A q.n q.c, .bool q.gd, .slice q.Ad q.nd q.cd], .agg #[.bool q'.g, .slice q'.A q'.n q'.c, .bool q'.gd, .slice q'.Ad q'.nd q'.cd]] w (RetR N D E w) := by
  have hmf : ∀ (fn : Fn) (first cap : Array Value) (w : World), (Instr.makeFunc fn first cap).run Try.prog w = .ok (.func fn first cap) w := fun _ _ _ _ => rfl
  have HS := Lib.hid (And.intro h h')
  clear h h'
  go_enter Try.func10, Try.ntmps10
  go_wp2_with fail
  generalize hW : World.alloc (World.alloc (World.alloc w _) _) _ = V
  obtain ⟨hb, ra, rb, rr⟩ := two_rats_nil q q' w V HS.out.1 HS.out.2 hW
  have HB := Lib.hid hb
  have HR := Lib.hid (And.intro ra (And.intro rb rr))
  clear hW hb ra rb rr
  refine (HC.out V _ _ HR.out.1 HR.out.2.1).mono ?_
  rintro e w3 ⟨t, rfl, hq, ho, hod, hb3⟩
  have R3 := Lib.hid (HR.out.2.2.on hb3)
  have B3 := Lib.hid (below_chain HB.out HB.out.size hb3)
  have HQ := Lib.hid (And.intro hq (And.intro ho hod))
  clear hq ho hod hb3 HR HB
  have f0 := R3.out.f 0
  have f1 := R3.out.f 1
  have f2 := R3.out.f 2
  have f3 := R3.out.f 3
  have q0 := R3.out.c0
  have q1 := R3.out.c1
  have q2 := R3.out.c2
  have q3 := R3.out.c3
  simp only [RVal.nil] at q0 q1 q2 q3
  go_wp2
  generalize hU : World.setCell (World.setCell (World.setCell (World.setCell w3 _ _) _ _) _ _) _ _ = U
  have RU' := (Rb.put R3.out HQ.out.1)
  have RU : Rb U (w.heap.size + 1 + 1) t := by rw [← hU]; exact RU'
  have HU : Below w.heap.size w U := by rw [← hU]; exact (below_put4 B3.out (show w.heap.size ≤ w.heap.size + 1 + 1 by omega) _ _ _ _)
  have j0 := RU.c0
  have j1 := RU.c1
  have j2 := RU.c2
  have j3 := RU.c3
  refine bodyPost_ret (v := .tuple #[.agg #[.bool t.g, .slice t.A t.n t.c, .bool t.gd, .slice t.Ad t.nd t.cd], .int .i64 E]) (by simp [results, Try.results10, go_sem, j0, j1, j2, j3]) rfl ?_
  exact RetR.of RU HQ.out.2.1 HQ.out.2.2 HU
theorem div_bad (q q' : RVal) (w : World) (h : q.In w) (h' : q'.In w) (hv : ((rv q.o q.od).isSome && (rv q'.o q'.od).isSome) = false) : Calls Try.prog 10 #[.agg #[.bool q.g, .slice q.A q.n q.c, .bool q.gd, .slice q.Ad q.nd q.cd], .agg #[.bool q'.g, .slice q'.A q'.n q'.c, .bool q'.gd, .slice q'.Ad q'.nd q'.cd]] w (RetR 0 0 1 w) :=
  walk_Div q q' 0 0 1 w h h' (Lib.hid fun W _ _ ra rb => combine_bad q q' W ra.sl rb.sl _ _ _ rfl rfl hv)
theorem div_no {q q' : RVal} {x y : Rat} {w : World} (h : q.In w) (h' : q'.In w) (hx : rv q.o q.od = some x) (hy : rv q'.o q'.od = some y) (hn : ¬ ((x.num * y.den).natAbs < BIG ∧ ((x.den : Int) * y.num).natAbs < BIG)) :
    Calls Try.prog 10 #[.agg #[.bool q.g, .slice q.A q.n q.c, .bool q.gd, .slice q.Ad q.nd q.cd], .agg #[.bool q'.g, .slice q'.A q'.n q'.c, .bool q'.gd, .slice q'.Ad q'.nd q'.cd]] w (RetR 0 0 2 w) := by
  have ox := rv_some hx
  have oy := rv_some hy
  have k : kp (kp 0 (fitE (x.num * y.den))) (fitE ((x.den : Int) * y.num)) = 2 := by
    rcases fitE_or (x.num * y.den) with ⟨e1, _, l1⟩ | e1
    · rw [e1]
      rcases fitE_or ((x.den : Int) * y.num) with ⟨_, _, l2⟩ | e2
      · exact absurd ⟨l1, l2⟩ hn
      · rw [e2]; rfl
    · rw [e1]; exact kp_two _ rfl
  refine walk_Div q q' _ _ _ w h h' (Lib.hid fun W ca cb ra rb => ?_)
  refine combine_Div_no q q' W ra.sl rb.sl ca cb (fitZ (x.num * y.den)) (fitZ ((x.den : Int) * y.num)) 2 (isSome_of hx) (isSome_of hy) (Lib.hid fun W1 p hb hp hc => ?_) (by decide)
  refine clo_Div q q' ca cb p _ _ _ _ _ _ _ 2 W1 (ra.on hb) (rb.on hb) hc ox.1 ox.2 oy.1 oy.2 rfl rfl (kp_or _ _) ?_
  have := kp_or (kp 0 (fitE (x.num * y.den))) (fitE ((x.den : Int) * y.num))
  rwa [k] at this
theorem div_ok {q q' : RVal} {x y : Rat} {w : World} (h : q.In w) (h' : q'.In w) (hx : rv q.o q.od = some x) (hy : rv q'.o q'.od = some y) (hz : y.num ≠ 0) (f1 : (x.num * y.den).natAbs < BIG) (f2 : ((x.den : Int) * y.num).natAbs < BIG) :
    Calls Try.prog 10 #[.agg #[.bool q.g, .slice q.A q.n q.c, .bool q.gd, .slice q.Ad q.nd q.cd], .agg #[.bool q'.g, .slice q'.A q'.n q'.c, .bool q'.gd, .slice q'.Ad q'.nd q'.cd]] w (RetR (x / y).num ((x / y).den : Int) 0 w) := by
  have ox := rv_some hx
  have oy := rv_some hy
  have g1 := fit_yes f1
  have g2 := fit_yes f2
  have m := mk_ok (s := x.num * y.den) (Int.mul_ne_zero (den_ne x) hz)
  rw [rat_div] at m
  refine walk_Div q q' _ _ _ w h h' (Lib.hid fun W ca cb ra rb => ?_)
  refine combine_Div_ok q q' W ra.sl rb.sl ca cb _ _ _ _ _ (isSome_of hx) (isSome_of hy) (Lib.hid fun W1 p hb hp hc => ?_) m.1 m.2.1 m.2.2
  exact clo_Div q q' ca cb p _ _ _ _ _ _ 0 0 W1 (ra.on hb) (rb.on hb) hc ox.1 ox.2 oy.1 oy.2 g1.1 g2.1 (kf_zero g1.2) (kf_zero g2.2)
theorem div_zero {q q' : RVal} {x y : Rat} {w : World} (h : q.In w) (h' : q'.In w) (hx : rv q.o q.od = some x) (hy : rv q'.o q'.od = some y) (hz : y.num = 0) (f1 : (x.num * y.den).natAbs < BIG) (f2 : ((x.den : Int) * y.num).natAbs < BIG) :
    Calls Try.prog 10 #[.agg #[.bool q.g, .slice q.A q.n q.c, .bool q.gd, .slice q.Ad q.nd q.cd], .agg #[.bool q'.g, .slice q'.A q'.n q'.c, .bool q'.gd, .slice q'.Ad q'.nd q'.cd]] w (RetR 0 0 4 w) := by
  have ox := rv_some hx
  have oy := rv_some hy
  have g1 := fit_yes f1
  have g2 := fit_yes f2
  have e0 : (x.den : Int) * y.num = 0 := by rw [hz, Int.mul_zero]
  have m : mkN (some (x.num * y.den)) (some ((x.den : Int) * y.num)) = 0 ∧ mkD (some (x.num * y.den)) (some ((x.den : Int) * y.num)) = 0 ∧ mkE (some (x.num * y.den)) (some ((x.den : Int) * y.num)) = 4 := ⟨if_pos e0, if_pos e0, if_pos e0⟩
  refine walk_Div q q' _ _ _ w h h' (Lib.hid fun W ca cb ra rb => ?_)
  refine combine_Div_ok q q' W ra.sl rb.sl ca cb _ _ _ _ _ (isSome_of hx) (isSome_of hy) (Lib.hid fun W1 p hb hp hc => ?_) m.1 m.2.1 m.2.2
  exact clo_Div q q' ca cb p _ _ _ _ _ _ 0 0 W1 (ra.on hb) (rb.on hb) hc ox.1 ox.2 oy.1 oy.2 g1.1 g2.1 (kf_zero g1.2) (kf_zero g2.2)
end Go.Proofs.Ytfodjaeknhomkaa
