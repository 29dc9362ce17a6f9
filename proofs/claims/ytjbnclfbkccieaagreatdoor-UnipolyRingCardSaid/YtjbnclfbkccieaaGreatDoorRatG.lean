/-
  Stage 2: combine, for whatever closure hands it the two terms.
-/
import Derived.Test.YtjbnclfbkccieaaGreatDoorRatO
namespace Go.Proofs.YtjbnclfbkccieaaGreatDoor
open Go.RowKit
/-- What a closure of combine hands back: two integers, and f in the box of the calls. -/
def RetT (z zd f : Int) (p : Nat) (w : World) (e : Ending) (w' : World) : Prop := ∃ neg A n c xs neg' A' n' c' ys, e = .returned (.tuple #[.agg #[.bool neg, .slice A n c], .agg #[.bool neg', .slice A' n' c']]) ∧
  Sl w' w'.heap.size A n c xs ∧ ov neg xs = some z ∧ Sl w' w'.heap.size A' n' c' ys ∧ ov neg' ys = some zd ∧ Kp w w' p f
/-- The boxes that a function of two rationals begins with, its result's among them. -/
theorem two_rats (q q' : RVal) (w W : World) (h : q.In w) (h' : q'.In w) (hW : (w.alloc (.cells #[.bool q.g, .slice q.A q.n q.c, .bool q.gd, .slice q.Ad q.nd q.cd] 27)).alloc (.cells #[.bool q'.g, .slice q'.A q'.n q'.c, .bool q'.gd, .slice q'.Ad q'.nd q'.cd] 27) = W) :
    Below w.heap.size w W ∧ Rb W w.heap.size q ∧ Rb W (w.heap.size + 1) q' := by
  have h1 := Rb.new h
  have hb1 := below_new w (.cells #[.bool q.g, .slice q.A q.n q.c, .bool q.gd, .slice q.Ad q.nd q.cd] 27)
  have h2 := Rb.new (h'.on hb1)
  have hb2 := below_new (w.alloc (.cells #[.bool q.g, .slice q.A q.n q.c, .bool q.gd, .slice q.Ad q.nd q.cd] 27)) (.cells #[.bool q'.g, .slice q'.A q'.n q'.c, .bool q'.gd, .slice q'.Ad q'.nd q'.cd] 27)
  rw [hW] at h2 hb2
  refine ⟨below_chain hb1 hb1.size hb2, h1.on hb2, ?_⟩
  simpa using h2
theorem two_rats_nil (q q' : RVal) (w W : World) (h : q.In w) (h' : q'.In w) (hW : ((w.alloc (.cells #[.bool q.g, .slice q.A q.n q.c, .bool q.gd, .slice q.Ad q.nd q.cd] 27)).alloc (.cells #[.bool q'.g, .slice q'.A q'.n q'.c, .bool q'.gd, .slice q'.Ad q'.nd q'.cd] 27)).alloc (.cells #[.bool false, .slice none 0 0, .bool false, .slice none 0 0] 27) = W) :
    Below w.heap.size w W ∧ Rb W w.heap.size q ∧ Rb W (w.heap.size + 1) q' ∧ Rb W (w.heap.size + 1 + 1) RVal.nil := by
  obtain ⟨hb, h1, h2⟩ := two_rats q q' w _ h h' rfl
  have h3 := Rb.new (RVal.nil_in ((w.alloc (.cells #[.bool q.g, .slice q.A q.n q.c, .bool q.gd, .slice q.Ad q.nd q.cd] 27)).alloc (.cells #[.bool q'.g, .slice q'.A q'.n q'.c, .bool q'.gd, .slice q'.Ad q'.nd q'.cd] 27)))
  have hn := below_new ((w.alloc (.cells #[.bool q.g, .slice q.A q.n q.c, .bool q.gd, .slice q.Ad q.nd q.cd] 27)).alloc (.cells #[.bool q'.g, .slice q'.A q'.n q'.c, .bool q'.gd, .slice q'.Ad q'.nd q'.cd] 27)) (.cells #[.bool false, .slice none 0 0, .bool false, .slice none 0 0] 27)
  rw [hW] at hn
  refine ⟨below_chain hb hb.size hn, h1.on hn, h2.on hn, ?_⟩
  rw [← hW]
  simpa [RVal.nil] using h3
theorem four_blocks (q q' : RVal) (w W : World) (h : q.In w) (h' : q'.In w) (hW : (((w.alloc (.cells #[.bool q.g, .slice q.A q.n q.c, .bool q.gd, .slice q.Ad q.nd q.cd] 27)).alloc (.cells #[.bool q'.g, .slice q'.A q'.n q'.c, .bool q'.gd, .slice q'.Ad q'.nd q'.cd] 27)).alloc (.cells #[.bool false, .slice none 0 0, .bool false, .slice none 0 0] 27)).alloc (.cells #[.bool q.g, .slice q.A q.n q.c, .bool q.gd, .slice q.Ad q.nd q.cd, .bool q'.g, .slice q'.A q'.n q'.c, .bool q'.gd, .slice q'.Ad q'.nd q'.cd] 27) = W) :
    Below w.heap.size w W ∧ Rb W w.heap.size q ∧ Rb W (w.heap.size + 1) q' ∧ Rb W (w.heap.size + 1 + 1) RVal.nil ∧ Blk W (w.heap.size + 1 + 1 + 1) 27 #[.bool q.g, .slice q.A q.n q.c, .bool q.gd, .slice q.Ad q.nd q.cd, .bool q'.g, .slice q'.A q'.n q'.c, .bool q'.gd, .slice q'.Ad q'.nd q'.cd] := by
  obtain ⟨hb, h1, h2, h3⟩ := two_rats_nil q q' w _ h h' rfl
  have hn := below_new (((w.alloc (.cells #[.bool q.g, .slice q.A q.n q.c, .bool q.gd, .slice q.Ad q.nd q.cd] 27)).alloc (.cells #[.bool q'.g, .slice q'.A q'.n q'.c, .bool q'.gd, .slice q'.Ad q'.nd q'.cd] 27)).alloc (.cells #[.bool false, .slice none 0 0, .bool false, .slice none 0 0] 27)) (.cells #[.bool q.g, .slice q.A q.n q.c, .bool q.gd, .slice q.Ad q.nd q.cd, .bool q'.g, .slice q'.A q'.n q'.c, .bool q'.gd, .slice q'.Ad q'.nd q'.cd] 27)
  have h4 := Blk.new (((w.alloc (.cells #[.bool q.g, .slice q.A q.n q.c, .bool q.gd, .slice q.Ad q.nd q.cd] 27)).alloc (.cells #[.bool q'.g, .slice q'.A q'.n q'.c, .bool q'.gd, .slice q'.Ad q'.nd q'.cd] 27)).alloc (.cells #[.bool false, .slice none 0 0, .bool false, .slice none 0 0] 27)) 27 #[.bool q.g, .slice q.A q.n q.c, .bool q.gd, .slice q.Ad q.nd q.cd, .bool q'.g, .slice q'.A q'.n q'.c, .bool q'.gd, .slice q'.Ad q'.nd q'.cd]
  rw [hW] at hn h4
  refine ⟨below_chain hb hb.size hn, h1.on hn, h2.on hn, h3.on hn, ?_⟩
  simpa using h4
set_option maxHeartbeats 2000000 in
theorem combine_Add_ok (q q' : RVal) (w : World) (h : q.In w) (h' : q'.In w) (ca cb : Nat) (z zd N D E : Int) (e1 : (rv q.o q.od).isSome = true) (e2 : (rv q'.o q'.od).isSome = true) (HT : Hid (∀ (W : World) (p : Nat), Below w.heap.size w W → w.heap.size ≤ p → Blk W p 115 #[.int .i64 0] → Calls Tryz.prog 86 #[.pointer (some ⟨p, 0, none⟩), .pointer (some ⟨ca, 0, none⟩), .pointer (some ⟨cb, 0, none⟩)] W (RetT z zd 0 p W))) (hN : mkN (some z) (some zd) = N) (hD : mkD (some z) (some zd) = D) (hE : mkE (some z) (some zd) = E) :
    Calls Tryz.prog 85 #[.agg #[.bool q.g, .slice q.A q.n q.c, .bool q.gd, .slice q.Ad q.nd q.cd], .agg #[.bool q'.g, .slice q'.A q'.n q'.c, .bool q'.gd, .slice q'.Ad q'.nd q'.cd], .func (.func 86) #[] #[.pointer (some ⟨ca, 0, none⟩), .pointer (some ⟨cb, 0, none⟩)]] w (RetR N D E w) := by
  have HE := Lib.hid (And.intro e1 e2)
  clear e1 e2
  have HND := Lib.hid (And.intro hN (And.intro hD hE))
  clear hN hD hE
  have HS := Lib.hid (And.intro h h')
  clear h h'
  go_enter Tryz.func85, Tryz.ntmps85
  go_wp2_with fail
  generalize hW : World.alloc (World.alloc (World.alloc (World.alloc w _) _) _) _ = V
  obtain ⟨hb, ra, rb, rr, ar⟩ := four_blocks q q' w V HS.out.1 HS.out.2 hW
  have HB := Lib.hid hb
  clear hW hb
  generalize hr : w.heap.size = r at *
  have HRr := Lib.hid hr
  clear hr
  have C := allValid_two q q' (r + 1 + 1 + 1) true true V ra.sl rb.sl ar HE.out.1 HE.out.2
  refine C.mono ?_
  clear C ar
  rintro e w1 ⟨rfl, hb1⟩
  have B1 := Lib.hid (below_chain HB.out (by have := HB.out.size; have := HRr.out; omega) hb1)
  have RA := Lib.hid (ra.on hb1)
  have RB := Lib.hid (rb.on hb1)
  have RR := Lib.hid (rr.on hb1)
  clear hb1 ra rb rr

  go_wp2_with fail
  generalize hW : World.alloc w1 _ = V1
  have hn := below_new w1 (.cells #[.int .i64 0] 115)
  have hcl := Blk.new w1 115 #[.int .i64 0]
  rw [hW] at hn hcl
  have B2 := Lib.hid (below_chain B1.out (by have := B1.out.size; have := HRr.out; omega) hn)
  have RR1 := Lib.hid (RR.out.on hn)
  have CL := Lib.hid hcl
  have hs8 : r + 1 + 1 < w1.heap.size := RR.out.lt
  clear hn hcl hW RR RA RB B1
  generalize w1.heap.size = s at *
  refine (HT.out V1 s B2.out (by omega) CL.out).mono ?_
  rintro e w2 ⟨g2, A2, n2, c2, xs2, g2', A2', n2', c2', ys2, rfl, hs2, ho2, hs2', ho2', hk⟩
  have hne : r + 1 + 1 ≠ s := by omega
  have RR2 := Lib.hid (hk.rb RR1.out hne)
  have B3 := Lib.hid (hk.bel _ _ B2.out (by omega) (by have := B2.out.size; have := HRr.out; omega))
  have H2 := Lib.hid (And.intro (And.intro hs2 ho2) (And.intro hs2' ho2'))
  have hcl := hk.cl
  have kc : w2.cell? ⟨s, 0, none⟩ = some (.int .i64 0) := by rw [Blk.cell hcl 0]; rfl
  have ltc := Blk.lt hcl
  clear hk hs2 ho2 hs2' ho2' hcl RR1 B2 CL HT

  go_wp2_with fail
  generalize hW : World.alloc (World.alloc w2 _) _ = V2
  obtain ⟨hb4, bn, bd⟩ := two_boxes g2 g2' A2 A2' n2 c2 n2' c2' xs2 ys2 w2 V2 H2.out.1.1 H2.out.2.1 hW
  have RR3 := Lib.hid (RR2.out.on hb4)
  have B4 := Lib.hid (below_chain B3.out (by have := B3.out.size; have := HRr.out; omega) hb4)
  clear hW hb4 RR2 B3 kc ltc
  have C := make_ov (neg := g2) (neg' := g2') bn.sl bd.sl
  rw [H2.out.1.2, H2.out.2.2, HND.out.1, HND.out.2.1, HND.out.2.2] at C
  refine C.mono ?_
  clear C
  rintro e w3 ⟨t, rfl, hq, ho, hod, hb5⟩
  have R3 := Lib.hid (RR3.out.on hb5)
  have B5 := Lib.hid (below_chain B4.out (by have := B4.out.size; have := HRr.out; omega) hb5)
  have HQ := Lib.hid (And.intro hq (And.intro ho hod))
  clear hq ho hod hb5 RR3 B4 bn bd H2
  have f0 := R3.out.f 0
  have f1 := R3.out.f 1
  have f2 := R3.out.f 2
  have f3 := R3.out.f 3
  have q0 := R3.out.c0
  have q1 := R3.out.c1
  have q2 := R3.out.c2
  have q3 := R3.out.c3
  simp only [RVal.nil] at q0 q1 q2 q3
  go_wp2
  generalize hU : World.setCell (World.setCell (World.setCell (World.setCell w3 _ _) _ _) _ _) _ _ = U
  have RU' := (Rb.put R3.out HQ.out.1)
  have RU : Rb U (r + 1 + 1) t := by rw [← hU]; exact RU'
  have HU : Below w.heap.size w U := by rw [← hU, HRr.out]; exact (below_put4 B5.out (show r ≤ r + 1 + 1 by omega) _ _ _ _)
  have j0 := RU.c0
  have j1 := RU.c1
  have j2 := RU.c2
  have j3 := RU.c3
  refine bodyPost_ret (v := .tuple #[.agg #[.bool t.g, .slice t.A t.n t.c, .bool t.gd, .slice t.Ad t.nd t.cd], .int .i64 E]) (by simp [results, Tryz.results85, go_sem, j0, j1, j2, j3]) rfl ?_
  exact RetR.of RU HQ.out.2.1 HQ.out.2.2 HU
set_option maxHeartbeats 2000000 in
theorem combine_Add_no (q q' : RVal) (w : World) (h : q.In w) (h' : q'.In w) (ca cb : Nat) (z zd f : Int) (e1 : (rv q.o q.od).isSome = true) (e2 : (rv q'.o q'.od).isSome = true) (HT : Hid (∀ (W : World) (p : Nat), Below w.heap.size w W → w.heap.size ≤ p → Blk W p 115 #[.int .i64 0] → Calls Tryz.prog 86 #[.pointer (some ⟨p, 0, none⟩), .pointer (some ⟨ca, 0, none⟩), .pointer (some ⟨cb, 0, none⟩)] W (RetT z zd f p W))) (hf : f ≠ 0) :
    Calls Tryz.prog 85 #[.agg #[.bool q.g, .slice q.A q.n q.c, .bool q.gd, .slice q.Ad q.nd q.cd], .agg #[.bool q'.g, .slice q'.A q'.n q'.c, .bool q'.gd, .slice q'.Ad q'.nd q'.cd], .func (.func 86) #[] #[.pointer (some ⟨ca, 0, none⟩), .pointer (some ⟨cb, 0, none⟩)]] w (RetR 0 0 f w) := by
  have HE := Lib.hid (And.intro e1 e2)
  clear e1 e2
  have hf1 : (f != 0) = true := by simpa using hf
  clear hf
  have HS := Lib.hid (And.intro h h')
  clear h h'
  go_enter Tryz.func85, Tryz.ntmps85
  go_wp2_with fail
  generalize hW : World.alloc (World.alloc (World.alloc (World.alloc w _) _) _) _ = V
  obtain ⟨hb, ra, rb, rr, ar⟩ := four_blocks q q' w V HS.out.1 HS.out.2 hW
  have HB := Lib.hid hb
  clear hW hb
  generalize hr : w.heap.size = r at *
  have HRr := Lib.hid hr
  clear hr
  have C := allValid_two q q' (r + 1 + 1 + 1) true true V ra.sl rb.sl ar HE.out.1 HE.out.2
  refine C.mono ?_
  clear C ar
  rintro e w1 ⟨rfl, hb1⟩
  have B1 := Lib.hid (below_chain HB.out (by have := HB.out.size; have := HRr.out; omega) hb1)
  have RA := Lib.hid (ra.on hb1)
  have RB := Lib.hid (rb.on hb1)
  have RR := Lib.hid (rr.on hb1)
  clear hb1 ra rb rr

  go_wp2_with fail
  generalize hW : World.alloc w1 _ = V1
  have hn := below_new w1 (.cells #[.int .i64 0] 115)
  have hcl := Blk.new w1 115 #[.int .i64 0]
  rw [hW] at hn hcl
  have B2 := Lib.hid (below_chain B1.out (by have := B1.out.size; have := HRr.out; omega) hn)
  have RR1 := Lib.hid (RR.out.on hn)
  have CL := Lib.hid hcl
  have hs8 : r + 1 + 1 < w1.heap.size := RR.out.lt
  clear hn hcl hW RR RA RB B1
  generalize w1.heap.size = s at *
  refine (HT.out V1 s B2.out (by omega) CL.out).mono ?_
  rintro e w2 ⟨g2, A2, n2, c2, xs2, g2', A2', n2', c2', ys2, rfl, hs2, ho2, hs2', ho2', hk⟩
  have hne : r + 1 + 1 ≠ s := by omega
  have RR2 := Lib.hid (hk.rb RR1.out hne)
  have B3 := Lib.hid (hk.bel _ _ B2.out (by omega) (by have := B2.out.size; have := HRr.out; omega))
  have H2 := Lib.hid (And.intro (And.intro hs2 ho2) (And.intro hs2' ho2'))
  have hcl := hk.cl
  have kc : w2.cell? ⟨s, 0, none⟩ = some (.int .i64 f) := by rw [Blk.cell hcl 0]; rfl
  have ltc := Blk.lt hcl
  clear hk hs2 ho2 hs2' ho2' hcl RR1 B2 CL HT

  go_wp2
  generalize hW : World.alloc (World.alloc w2 _) _ = V2
  obtain ⟨hb4, bn, bd⟩ := two_boxes g2 g2' A2 A2' n2 c2 n2' c2' xs2 ys2 w2 V2 H2.out.1.1 H2.out.2.1 hW
  have RR3 := Lib.hid (RR2.out.on hb4)
  have B4 := Lib.hid (below_chain B3.out (by have := B3.out.size; have := HRr.out; omega) hb4)
  have kc' : V2.cell? ⟨s, 0, none⟩ = some (.int .i64 f) := by rw [← kc]; exact hb4.cell ltc
  clear hW hb4 RR2 B3 kc ltc bn bd
  have f0 := RR3.out.f 0
  have f1 := RR3.out.f 1
  have f2 := RR3.out.f 2
  have f3 := RR3.out.f 3
  have q0 := RR3.out.c0
  have q1 := RR3.out.c1
  have q2 := RR3.out.c2
  have q3 := RR3.out.c3
  simp only [RVal.nil] at q0 q1 q2 q3
  go_region
  go_wp2
  generalize hU : World.drew (World.setCell (World.setCell (World.setCell (World.setCell V2 _ _) _ _) _ _) _ _) = U
  have RU' := (Rb.drew (Rb.put RR3.out (RVal.nil_in V2)))
  have RU : Rb U (r + 1 + 1) RVal.nil := by rw [← hU]; exact RU'
  have HU : Below w.heap.size w U := by rw [← hU, HRr.out]; exact (Below.drew (below_put4 B4.out (show r ≤ r + 1 + 1 by omega) _ _ _ _))
  have j0 := RU.c0
  have j1 := RU.c1
  have j2 := RU.c2
  have j3 := RU.c3
  refine bodyPost_ret (v := .tuple #[.agg #[.bool RVal.nil.g, .slice RVal.nil.A RVal.nil.n RVal.nil.c, .bool RVal.nil.gd, .slice RVal.nil.Ad RVal.nil.nd RVal.nil.cd], .int .i64 f]) (by simp [results, Tryz.results85, go_sem, j0, j1, j2, j3]) rfl ?_
  exact RetR.of RU rfl rfl HU
set_option maxHeartbeats 2000000 in
theorem combine_Sub_ok (q q' : RVal) (w : World) (h : q.In w) (h' : q'.In w) (ca cb : Nat) (z zd N D E : Int) (e1 : (rv q.o q.od).isSome = true) (e2 : (rv q'.o q'.od).isSome = true) (HT : Hid (∀ (W : World) (p : Nat), Below w.heap.size w W → w.heap.size ≤ p → Blk W p 115 #[.int .i64 0] → Calls Tryz.prog 165 #[.pointer (some ⟨p, 0, none⟩), .pointer (some ⟨ca, 0, none⟩), .pointer (some ⟨cb, 0, none⟩)] W (RetT z zd 0 p W))) (hN : mkN (some z) (some zd) = N) (hD : mkD (some z) (some zd) = D) (hE : mkE (some z) (some zd) = E) :
    Calls Tryz.prog 85 #[.agg #[.bool q.g, .slice q.A q.n q.c, .bool q.gd, .slice q.Ad q.nd q.cd], .agg #[.bool q'.g, .slice q'.A q'.n q'.c, .bool q'.gd, .slice q'.Ad q'.nd q'.cd], .func (.func 165) #[] #[.pointer (some ⟨ca, 0, none⟩), .pointer (some ⟨cb, 0, none⟩)]] w (RetR N D E w) := by
  have HE := Lib.hid (And.intro e1 e2)
  clear e1 e2
  have HND := Lib.hid (And.intro hN (And.intro hD hE))
  clear hN hD hE
  have HS := Lib.hid (And.intro h h')
  clear h h'
  go_enter Tryz.func85, Tryz.ntmps85
  go_wp2_with fail
  generalize hW : World.alloc (World.alloc (World.alloc (World.alloc w _) _) _) _ = V
  obtain ⟨hb, ra, rb, rr, ar⟩ := four_blocks q q' w V HS.out.1 HS.out.2 hW
  have HB := Lib.hid hb
  clear hW hb
  generalize hr : w.heap.size = r at *
  have HRr := Lib.hid hr
  clear hr
  have C := allValid_two q q' (r + 1 + 1 + 1) true true V ra.sl rb.sl ar HE.out.1 HE.out.2
  refine C.mono ?_
  clear C ar
  rintro e w1 ⟨rfl, hb1⟩
  have B1 := Lib.hid (below_chain HB.out (by have := HB.out.size; have := HRr.out; omega) hb1)
  have RA := Lib.hid (ra.on hb1)
  have RB := Lib.hid (rb.on hb1)
  have RR := Lib.hid (rr.on hb1)
  clear hb1 ra rb rr

  go_wp2_with fail
  generalize hW : World.alloc w1 _ = V1
  have hn := below_new w1 (.cells #[.int .i64 0] 115)
  have hcl := Blk.new w1 115 #[.int .i64 0]
  rw [hW] at hn hcl
  have B2 := Lib.hid (below_chain B1.out (by have := B1.out.size; have := HRr.out; omega) hn)
  have RR1 := Lib.hid (RR.out.on hn)
  have CL := Lib.hid hcl
  have hs8 : r + 1 + 1 < w1.heap.size := RR.out.lt
  clear hn hcl hW RR RA RB B1
  generalize w1.heap.size = s at *
  refine (HT.out V1 s B2.out (by omega) CL.out).mono ?_
  rintro e w2 ⟨g2, A2, n2, c2, xs2, g2', A2', n2', c2', ys2, rfl, hs2, ho2, hs2', ho2', hk⟩
  have hne : r + 1 + 1 ≠ s := by omega
  have RR2 := Lib.hid (hk.rb RR1.out hne)
  have B3 := Lib.hid (hk.bel _ _ B2.out (by omega) (by have := B2.out.size; have := HRr.out; omega))
  have H2 := Lib.hid (And.intro (And.intro hs2 ho2) (And.intro hs2' ho2'))
  have hcl := hk.cl
  have kc : w2.cell? ⟨s, 0, none⟩ = some (.int .i64 0) := by rw [Blk.cell hcl 0]; rfl
  have ltc := Blk.lt hcl
  clear hk hs2 ho2 hs2' ho2' hcl RR1 B2 CL HT

  go_wp2_with fail
  generalize hW : World.alloc (World.alloc w2 _) _ = V2
  obtain ⟨hb4, bn, bd⟩ := two_boxes g2 g2' A2 A2' n2 c2 n2' c2' xs2 ys2 w2 V2 H2.out.1.1 H2.out.2.1 hW
  have RR3 := Lib.hid (RR2.out.on hb4)
  have B4 := Lib.hid (below_chain B3.out (by have := B3.out.size; have := HRr.out; omega) hb4)
  clear hW hb4 RR2 B3 kc ltc
  have C := make_ov (neg := g2) (neg' := g2') bn.sl bd.sl
  rw [H2.out.1.2, H2.out.2.2, HND.out.1, HND.out.2.1, HND.out.2.2] at C
  refine C.mono ?_
  clear C
  rintro e w3 ⟨t, rfl, hq, ho, hod, hb5⟩
  have R3 := Lib.hid (RR3.out.on hb5)
  have B5 := Lib.hid (below_chain B4.out (by have := B4.out.size; have := HRr.out; omega) hb5)
  have HQ := Lib.hid (And.intro hq (And.intro ho hod))
  clear hq ho hod hb5 RR3 B4 bn bd H2
  have f0 := R3.out.f 0
  have f1 := R3.out.f 1
  have f2 := R3.out.f 2
  have f3 := R3.out.f 3
  have q0 := R3.out.c0
  have q1 := R3.out.c1
  have q2 := R3.out.c2
  have q3 := R3.out.c3
  simp only [RVal.nil] at q0 q1 q2 q3
  go_wp2
  generalize hU : World.setCell (World.setCell (World.setCell (World.setCell w3 _ _) _ _) _ _) _ _ = U
  have RU' := (Rb.put R3.out HQ.out.1)
  have RU : Rb U (r + 1 + 1) t := by rw [← hU]; exact RU'
  have HU : Below w.heap.size w U := by rw [← hU, HRr.out]; exact (below_put4 B5.out (show r ≤ r + 1 + 1 by omega) _ _ _ _)
  have j0 := RU.c0
  have j1 := RU.c1
  have j2 := RU.c2
  have j3 := RU.c3
  refine bodyPost_ret (v := .tuple #[.agg #[.bool t.g, .slice t.A t.n t.c, .bool t.gd, .slice t.Ad t.nd t.cd], .int .i64 E]) (by simp [results, Tryz.results85, go_sem, j0, j1, j2, j3]) rfl ?_
  exact RetR.of RU HQ.out.2.1 HQ.out.2.2 HU
set_option maxHeartbeats 2000000 in
theorem combine_Sub_no (q q' : RVal) (w : World) (h : q.In w) (h' : q'.In w) (ca cb : Nat) (z zd f : Int) (e1 : (rv q.o q.od).isSome = true) (e2 : (rv q'.o q'.od).isSome = true) (HT : Hid (∀ (W : World) (p : Nat), Below w.heap.size w W → w.heap.size ≤ p → Blk W p 115 #[.int .i64 0] → Calls Tryz.prog 165 #[.pointer (some ⟨p, 0, none⟩), .pointer (some ⟨ca, 0, none⟩), .pointer (some ⟨cb, 0, none⟩)] W (RetT z zd f p W))) (hf : f ≠ 0) :
    Calls Tryz.prog 85 #[.agg #[.bool q.g, .slice q.A q.n q.c, .bool q.gd, .slice q.Ad q.nd q.cd], .agg #[.bool q'.g, .slice q'.A q'.n q'.c, .bool q'.gd, .slice q'.Ad q'.nd q'.cd], .func (.func 165) #[] #[.pointer (some ⟨ca, 0, none⟩), .pointer (some ⟨cb, 0, none⟩)]] w (RetR 0 0 f w) := by
  have HE := Lib.hid (And.intro e1 e2)
  clear e1 e2
  have hf1 : (f != 0) = true := by simpa using hf
  clear hf
  have HS := Lib.hid (And.intro h h')
  clear h h'
  go_enter Tryz.func85, Tryz.ntmps85
  go_wp2_with fail
  generalize hW : World.alloc (World.alloc (World.alloc (World.alloc w _) _) _) _ = V
  obtain ⟨hb, ra, rb, rr, ar⟩ := four_blocks q q' w V HS.out.1 HS.out.2 hW
  have HB := Lib.hid hb
  clear hW hb
  generalize hr : w.heap.size = r at *
  have HRr := Lib.hid hr
  clear hr
  have C := allValid_two q q' (r + 1 + 1 + 1) true true V ra.sl rb.sl ar HE.out.1 HE.out.2
  refine C.mono ?_
  clear C ar
  rintro e w1 ⟨rfl, hb1⟩
  have B1 := Lib.hid (below_chain HB.out (by have := HB.out.size; have := HRr.out; omega) hb1)
  have RA := Lib.hid (ra.on hb1)
  have RB := Lib.hid (rb.on hb1)
  have RR := Lib.hid (rr.on hb1)
  clear hb1 ra rb rr

  go_wp2_with fail
  generalize hW : World.alloc w1 _ = V1
  have hn := below_new w1 (.cells #[.int .i64 0] 115)
  have hcl := Blk.new w1 115 #[.int .i64 0]
  rw [hW] at hn hcl
  have B2 := Lib.hid (below_chain B1.out (by have := B1.out.size; have := HRr.out; omega) hn)
  have RR1 := Lib.hid (RR.out.on hn)
  have CL := Lib.hid hcl
  have hs8 : r + 1 + 1 < w1.heap.size := RR.out.lt
  clear hn hcl hW RR RA RB B1
  generalize w1.heap.size = s at *
  refine (HT.out V1 s B2.out (by omega) CL.out).mono ?_
  rintro e w2 ⟨g2, A2, n2, c2, xs2, g2', A2', n2', c2', ys2, rfl, hs2, ho2, hs2', ho2', hk⟩
  have hne : r + 1 + 1 ≠ s := by omega
  have RR2 := Lib.hid (hk.rb RR1.out hne)
  have B3 := Lib.hid (hk.bel _ _ B2.out (by omega) (by have := B2.out.size; have := HRr.out; omega))
  have H2 := Lib.hid (And.intro (And.intro hs2 ho2) (And.intro hs2' ho2'))
  have hcl := hk.cl
  have kc : w2.cell? ⟨s, 0, none⟩ = some (.int .i64 f) := by rw [Blk.cell hcl 0]; rfl
  have ltc := Blk.lt hcl
  clear hk hs2 ho2 hs2' ho2' hcl RR1 B2 CL HT

  go_wp2
  generalize hW : World.alloc (World.alloc w2 _) _ = V2
  obtain ⟨hb4, bn, bd⟩ := two_boxes g2 g2' A2 A2' n2 c2 n2' c2' xs2 ys2 w2 V2 H2.out.1.1 H2.out.2.1 hW
  have RR3 := Lib.hid (RR2.out.on hb4)
  have B4 := Lib.hid (below_chain B3.out (by have := B3.out.size; have := HRr.out; omega) hb4)
  have kc' : V2.cell? ⟨s, 0, none⟩ = some (.int .i64 f) := by rw [← kc]; exact hb4.cell ltc
  clear hW hb4 RR2 B3 kc ltc bn bd
  have f0 := RR3.out.f 0
  have f1 := RR3.out.f 1
  have f2 := RR3.out.f 2
  have f3 := RR3.out.f 3
  have q0 := RR3.out.c0
  have q1 := RR3.out.c1
  have q2 := RR3.out.c2
  have q3 := RR3.out.c3
  simp only [RVal.nil] at q0 q1 q2 q3
  go_region
  go_wp2
  generalize hU : World.drew (World.setCell (World.setCell (World.setCell (World.setCell V2 _ _) _ _) _ _) _ _) = U
  have RU' := (Rb.drew (Rb.put RR3.out (RVal.nil_in V2)))
  have RU : Rb U (r + 1 + 1) RVal.nil := by rw [← hU]; exact RU'
  have HU : Below w.heap.size w U := by rw [← hU, HRr.out]; exact (Below.drew (below_put4 B4.out (show r ≤ r + 1 + 1 by omega) _ _ _ _))
  have j0 := RU.c0
  have j1 := RU.c1
  have j2 := RU.c2
  have j3 := RU.c3
  refine bodyPost_ret (v := .tuple #[.agg #[.bool RVal.nil.g, .slice RVal.nil.A RVal.nil.n RVal.nil.c, .bool RVal.nil.gd, .slice RVal.nil.Ad RVal.nil.nd RVal.nil.cd], .int .i64 f]) (by simp [results, Tryz.results85, go_sem, j0, j1, j2, j3]) rfl ?_
  exact RetR.of RU rfl rfl HU
set_option maxHeartbeats 2000000 in
theorem combine_Mul_ok (q q' : RVal) (w : World) (h : q.In w) (h' : q'.In w) (ca cb : Nat) (z zd N D E : Int) (e1 : (rv q.o q.od).isSome = true) (e2 : (rv q'.o q'.od).isSome = true) (HT : Hid (∀ (W : World) (p : Nat), Below w.heap.size w W → w.heap.size ≤ p → Blk W p 115 #[.int .i64 0] → Calls Tryz.prog 89 #[.pointer (some ⟨p, 0, none⟩), .pointer (some ⟨ca, 0, none⟩), .pointer (some ⟨cb, 0, none⟩)] W (RetT z zd 0 p W))) (hN : mkN (some z) (some zd) = N) (hD : mkD (some z) (some zd) = D) (hE : mkE (some z) (some zd) = E) :
    Calls Tryz.prog 85 #[.agg #[.bool q.g, .slice q.A q.n q.c, .bool q.gd, .slice q.Ad q.nd q.cd], .agg #[.bool q'.g, .slice q'.A q'.n q'.c, .bool q'.gd, .slice q'.Ad q'.nd q'.cd], .func (.func 89) #[] #[.pointer (some ⟨ca, 0, none⟩), .pointer (some ⟨cb, 0, none⟩)]] w (RetR N D E w) := by
  have HE := Lib.hid (And.intro e1 e2)
  clear e1 e2
  have HND := Lib.hid (And.intro hN (And.intro hD hE))
  clear hN hD hE
  have HS := Lib.hid (And.intro h h')
  clear h h'
  go_enter Tryz.func85, Tryz.ntmps85
  go_wp2_with fail
  generalize hW : World.alloc (World.alloc (World.alloc (World.alloc w _) _) _) _ = V
  obtain ⟨hb, ra, rb, rr, ar⟩ := four_blocks q q' w V HS.out.1 HS.out.2 hW
  have HB := Lib.hid hb
  clear hW hb
  generalize hr : w.heap.size = r at *
  have HRr := Lib.hid hr
  clear hr
  have C := allValid_two q q' (r + 1 + 1 + 1) true true V ra.sl rb.sl ar HE.out.1 HE.out.2
  refine C.mono ?_
  clear C ar
  rintro e w1 ⟨rfl, hb1⟩
  have B1 := Lib.hid (below_chain HB.out (by have := HB.out.size; have := HRr.out; omega) hb1)
  have RA := Lib.hid (ra.on hb1)
  have RB := Lib.hid (rb.on hb1)
  have RR := Lib.hid (rr.on hb1)
  clear hb1 ra rb rr

  go_wp2_with fail
  generalize hW : World.alloc w1 _ = V1
  have hn := below_new w1 (.cells #[.int .i64 0] 115)
  have hcl := Blk.new w1 115 #[.int .i64 0]
  rw [hW] at hn hcl
  have B2 := Lib.hid (below_chain B1.out (by have := B1.out.size; have := HRr.out; omega) hn)
  have RR1 := Lib.hid (RR.out.on hn)
  have CL := Lib.hid hcl
  have hs8 : r + 1 + 1 < w1.heap.size := RR.out.lt
  clear hn hcl hW RR RA RB B1
  generalize w1.heap.size = s at *
  refine (HT.out V1 s B2.out (by omega) CL.out).mono ?_
  rintro e w2 ⟨g2, A2, n2, c2, xs2, g2', A2', n2', c2', ys2, rfl, hs2, ho2, hs2', ho2', hk⟩
  have hne : r + 1 + 1 ≠ s := by omega
  have RR2 := Lib.hid (hk.rb RR1.out hne)
  have B3 := Lib.hid (hk.bel _ _ B2.out (by omega) (by have := B2.out.size; have := HRr.out; omega))
  have H2 := Lib.hid (And.intro (And.intro hs2 ho2) (And.intro hs2' ho2'))
  have hcl := hk.cl
  have kc : w2.cell? ⟨s, 0, none⟩ = some (.int .i64 0) := by rw [Blk.cell hcl 0]; rfl
  have ltc := Blk.lt hcl
  clear hk hs2 ho2 hs2' ho2' hcl RR1 B2 CL HT

  go_wp2_with fail
  generalize hW : World.alloc (World.alloc w2 _) _ = V2
  obtain ⟨hb4, bn, bd⟩ := two_boxes g2 g2' A2 A2' n2 c2 n2' c2' xs2 ys2 w2 V2 H2.out.1.1 H2.out.2.1 hW
  have RR3 := Lib.hid (RR2.out.on hb4)
  have B4 := Lib.hid (below_chain B3.out (by have := B3.out.size; have := HRr.out; omega) hb4)
  clear hW hb4 RR2 B3 kc ltc
  have C := make_ov (neg := g2) (neg' := g2') bn.sl bd.sl
  rw [H2.out.1.2, H2.out.2.2, HND.out.1, HND.out.2.1, HND.out.2.2] at C
  refine C.mono ?_
  clear C
  rintro e w3 ⟨t, rfl, hq, ho, hod, hb5⟩
  have R3 := Lib.hid (RR3.out.on hb5)
  have B5 := Lib.hid (below_chain B4.out (by have := B4.out.size; have := HRr.out; omega) hb5)
  have HQ := Lib.hid (And.intro hq (And.intro ho hod))
  clear hq ho hod hb5 RR3 B4 bn bd H2
  have f0 := R3.out.f 0
  have f1 := R3.out.f 1
  have f2 := R3.out.f 2
  have f3 := R3.out.f 3
  have q0 := R3.out.c0
  have q1 := R3.out.c1
  have q2 := R3.out.c2
  have q3 := R3.out.c3
  simp only [RVal.nil] at q0 q1 q2 q3
  go_wp2
  generalize hU : World.setCell (World.setCell (World.setCell (World.setCell w3 _ _) _ _) _ _) _ _ = U
  have RU' := (Rb.put R3.out HQ.out.1)
  have RU : Rb U (r + 1 + 1) t := by rw [← hU]; exact RU'
  have HU : Below w.heap.size w U := by rw [← hU, HRr.out]; exact (below_put4 B5.out (show r ≤ r + 1 + 1 by omega) _ _ _ _)
  have j0 := RU.c0
  have j1 := RU.c1
  have j2 := RU.c2
  have j3 := RU.c3
  refine bodyPost_ret (v := .tuple #[.agg #[.bool t.g, .slice t.A t.n t.c, .bool t.gd, .slice t.Ad t.nd t.cd], .int .i64 E]) (by simp [results, Tryz.results85, go_sem, j0, j1, j2, j3]) rfl ?_
  exact RetR.of RU HQ.out.2.1 HQ.out.2.2 HU
set_option maxHeartbeats 2000000 in
theorem combine_Mul_no (q q' : RVal) (w : World) (h : q.In w) (h' : q'.In w) (ca cb : Nat) (z zd f : Int) (e1 : (rv q.o q.od).isSome = true) (e2 : (rv q'.o q'.od).isSome = true) (HT : Hid (∀ (W : World) (p : Nat), Below w.heap.size w W → w.heap.size ≤ p → Blk W p 115 #[.int .i64 0] → Calls Tryz.prog 89 #[.pointer (some ⟨p, 0, none⟩), .pointer (some ⟨ca, 0, none⟩), .pointer (some ⟨cb, 0, none⟩)] W (RetT z zd f p W))) (hf : f ≠ 0) :
    Calls Tryz.prog 85 #[.agg #[.bool q.g, .slice q.A q.n q.c, .bool q.gd, .slice q.Ad q.nd q.cd], .agg #[.bool q'.g, .slice q'.A q'.n q'.c, .bool q'.gd, .slice q'.Ad q'.nd q'.cd], .func (.func 89) #[] #[.pointer (some ⟨ca, 0, none⟩), .pointer (some ⟨cb, 0, none⟩)]] w (RetR 0 0 f w) := by
  have HE := Lib.hid (And.intro e1 e2)
  clear e1 e2
  have hf1 : (f != 0) = true := by simpa using hf
  clear hf
  have HS := Lib.hid (And.intro h h')
  clear h h'
  go_enter Tryz.func85, Tryz.ntmps85
  go_wp2_with fail
  generalize hW : World.alloc (World.alloc (World.alloc (World.alloc w _) _) _) _ = V
  obtain ⟨hb, ra, rb, rr, ar⟩ := four_blocks q q' w V HS.out.1 HS.out.2 hW
  have HB := Lib.hid hb
  clear hW hb
  generalize hr : w.heap.size = r at *
  have HRr := Lib.hid hr
  clear hr
  have C := allValid_two q q' (r + 1 + 1 + 1) true true V ra.sl rb.sl ar HE.out.1 HE.out.2
  refine C.mono ?_
  clear C ar
  rintro e w1 ⟨rfl, hb1⟩
  have B1 := Lib.hid (below_chain HB.out (by have := HB.out.size; have := HRr.out; omega) hb1)
  have RA := Lib.hid (ra.on hb1)
  have RB := Lib.hid (rb.on hb1)
  have RR := Lib.hid (rr.on hb1)
  clear hb1 ra rb rr

  go_wp2_with fail
  generalize hW : World.alloc w1 _ = V1
  have hn := below_new w1 (.cells #[.int .i64 0] 115)
  have hcl := Blk.new w1 115 #[.int .i64 0]
  rw [hW] at hn hcl
  have B2 := Lib.hid (below_chain B1.out (by have := B1.out.size; have := HRr.out; omega) hn)
  have RR1 := Lib.hid (RR.out.on hn)
  have CL := Lib.hid hcl
  have hs8 : r + 1 + 1 < w1.heap.size := RR.out.lt
  clear hn hcl hW RR RA RB B1
  generalize w1.heap.size = s at *
  refine (HT.out V1 s B2.out (by omega) CL.out).mono ?_
  rintro e w2 ⟨g2, A2, n2, c2, xs2, g2', A2', n2', c2', ys2, rfl, hs2, ho2, hs2', ho2', hk⟩
  have hne : r + 1 + 1 ≠ s := by omega
  have RR2 := Lib.hid (hk.rb RR1.out hne)
  have B3 := Lib.hid (hk.bel _ _ B2.out (by omega) (by have := B2.out.size; have := HRr.out; omega))
  have H2 := Lib.hid (And.intro (And.intro hs2 ho2) (And.intro hs2' ho2'))
  have hcl := hk.cl
  have kc : w2.cell? ⟨s, 0, none⟩ = some (.int .i64 f) := by rw [Blk.cell hcl 0]; rfl
  have ltc := Blk.lt hcl
  clear hk hs2 ho2 hs2' ho2' hcl RR1 B2 CL HT

  go_wp2
  generalize hW : World.alloc (World.alloc w2 _) _ = V2
  obtain ⟨hb4, bn, bd⟩ := two_boxes g2 g2' A2 A2' n2 c2 n2' c2' xs2 ys2 w2 V2 H2.out.1.1 H2.out.2.1 hW
  have RR3 := Lib.hid (RR2.out.on hb4)
  have B4 := Lib.hid (below_chain B3.out (by have := B3.out.size; have := HRr.out; omega) hb4)
  have kc' : V2.cell? ⟨s, 0, none⟩ = some (.int .i64 f) := by rw [← kc]; exact hb4.cell ltc
  clear hW hb4 RR2 B3 kc ltc bn bd
  have f0 := RR3.out.f 0
  have f1 := RR3.out.f 1
  have f2 := RR3.out.f 2
  have f3 := RR3.out.f 3
  have q0 := RR3.out.c0
  have q1 := RR3.out.c1
  have q2 := RR3.out.c2
  have q3 := RR3.out.c3
  simp only [RVal.nil] at q0 q1 q2 q3
  go_region
  go_wp2
  generalize hU : World.drew (World.setCell (World.setCell (World.setCell (World.setCell V2 _ _) _ _) _ _) _ _) = U
  have RU' := (Rb.drew (Rb.put RR3.out (RVal.nil_in V2)))
  have RU : Rb U (r + 1 + 1) RVal.nil := by rw [← hU]; exact RU'
  have HU : Below w.heap.size w U := by rw [← hU, HRr.out]; exact (Below.drew (below_put4 B4.out (show r ≤ r + 1 + 1 by omega) _ _ _ _))
  have j0 := RU.c0
  have j1 := RU.c1
  have j2 := RU.c2
  have j3 := RU.c3
  refine bodyPost_ret (v := .tuple #[.agg #[.bool RVal.nil.g, .slice RVal.nil.A RVal.nil.n RVal.nil.c, .bool RVal.nil.gd, .slice RVal.nil.Ad RVal.nil.nd RVal.nil.cd], .int .i64 f]) (by simp [results, Tryz.results85, go_sem, j0, j1, j2, j3]) rfl ?_
  exact RetR.of RU rfl rfl HU
set_option maxHeartbeats 2000000 in
theorem combine_Div_ok (q q' : RVal) (w : World) (h : q.In w) (h' : q'.In w) (ca cb : Nat) (z zd N D E : Int) (e1 : (rv q.o q.od).isSome = true) (e2 : (rv q'.o q'.od).isSome = true) (HT : Hid (∀ (W : World) (p : Nat), Below w.heap.size w W → w.heap.size ≤ p → Blk W p 115 #[.int .i64 0] → Calls Tryz.prog 194 #[.pointer (some ⟨p, 0, none⟩), .pointer (some ⟨ca, 0, none⟩), .pointer (some ⟨cb, 0, none⟩)] W (RetT z zd 0 p W))) (hN : mkN (some z) (some zd) = N) (hD : mkD (some z) (some zd) = D) (hE : mkE (some z) (some zd) = E) :
    Calls Tryz.prog 85 #[.agg #[.bool q.g, .slice q.A q.n q.c, .bool q.gd, .slice q.Ad q.nd q.cd], .agg #[.bool q'.g, .slice q'.A q'.n q'.c, .bool q'.gd, .slice q'.Ad q'.nd q'.cd], .func (.func 194) #[] #[.pointer (some ⟨ca, 0, none⟩), .pointer (some ⟨cb, 0, none⟩)]] w (RetR N D E w) := by
  have HE := Lib.hid (And.intro e1 e2)
  clear e1 e2
  have HND := Lib.hid (And.intro hN (And.intro hD hE))
  clear hN hD hE
  have HS := Lib.hid (And.intro h h')
  clear h h'
  go_enter Tryz.func85, Tryz.ntmps85
  go_wp2_with fail
  generalize hW : World.alloc (World.alloc (World.alloc (World.alloc w _) _) _) _ = V
  obtain ⟨hb, ra, rb, rr, ar⟩ := four_blocks q q' w V HS.out.1 HS.out.2 hW
  have HB := Lib.hid hb
  clear hW hb
  generalize hr : w.heap.size = r at *
  have HRr := Lib.hid hr
  clear hr
  have C := allValid_two q q' (r + 1 + 1 + 1) true true V ra.sl rb.sl ar HE.out.1 HE.out.2
  refine C.mono ?_
  clear C ar
  rintro e w1 ⟨rfl, hb1⟩
  have B1 := Lib.hid (below_chain HB.out (by have := HB.out.size; have := HRr.out; omega) hb1)
  have RA := Lib.hid (ra.on hb1)
  have RB := Lib.hid (rb.on hb1)
  have RR := Lib.hid (rr.on hb1)
  clear hb1 ra rb rr

  go_wp2_with fail
  generalize hW : World.alloc w1 _ = V1
  have hn := below_new w1 (.cells #[.int .i64 0] 115)
  have hcl := Blk.new w1 115 #[.int .i64 0]
  rw [hW] at hn hcl
  have B2 := Lib.hid (below_chain B1.out (by have := B1.out.size; have := HRr.out; omega) hn)
  have RR1 := Lib.hid (RR.out.on hn)
  have CL := Lib.hid hcl
  have hs8 : r + 1 + 1 < w1.heap.size := RR.out.lt
  clear hn hcl hW RR RA RB B1
  generalize w1.heap.size = s at *
  refine (HT.out V1 s B2.out (by omega) CL.out).mono ?_
  rintro e w2 ⟨g2, A2, n2, c2, xs2, g2', A2', n2', c2', ys2, rfl, hs2, ho2, hs2', ho2', hk⟩
  have hne : r + 1 + 1 ≠ s := by omega
  have RR2 := Lib.hid (hk.rb RR1.out hne)
  have B3 := Lib.hid (hk.bel _ _ B2.out (by omega) (by have := B2.out.size; have := HRr.out; omega))
  have H2 := Lib.hid (And.intro (And.intro hs2 ho2) (And.intro hs2' ho2'))
  have hcl := hk.cl
  have kc : w2.cell? ⟨s, 0, none⟩ = some (.int .i64 0) := by rw [Blk.cell hcl 0]; rfl
  have ltc := Blk.lt hcl
  clear hk hs2 ho2 hs2' ho2' hcl RR1 B2 CL HT

  go_wp2_with fail
  generalize hW : World.alloc (World.alloc w2 _) _ = V2
  obtain ⟨hb4, bn, bd⟩ := two_boxes g2 g2' A2 A2' n2 c2 n2' c2' xs2 ys2 w2 V2 H2.out.1.1 H2.out.2.1 hW
  have RR3 := Lib.hid (RR2.out.on hb4)
  have B4 := Lib.hid (below_chain B3.out (by have := B3.out.size; have := HRr.out; omega) hb4)
  clear hW hb4 RR2 B3 kc ltc
  have C := make_ov (neg := g2) (neg' := g2') bn.sl bd.sl
  rw [H2.out.1.2, H2.out.2.2, HND.out.1, HND.out.2.1, HND.out.2.2] at C
  refine C.mono ?_
  clear C
  rintro e w3 ⟨t, rfl, hq, ho, hod, hb5⟩
  have R3 := Lib.hid (RR3.out.on hb5)
  have B5 := Lib.hid (below_chain B4.out (by have := B4.out.size; have := HRr.out; omega) hb5)
  have HQ := Lib.hid (And.intro hq (And.intro ho hod))
  clear hq ho hod hb5 RR3 B4 bn bd H2
  have f0 := R3.out.f 0
  have f1 := R3.out.f 1
  have f2 := R3.out.f 2
  have f3 := R3.out.f 3
  have q0 := R3.out.c0
  have q1 := R3.out.c1
  have q2 := R3.out.c2
  have q3 := R3.out.c3
  simp only [RVal.nil] at q0 q1 q2 q3
  go_wp2
  generalize hU : World.setCell (World.setCell (World.setCell (World.setCell w3 _ _) _ _) _ _) _ _ = U
  have RU' := (Rb.put R3.out HQ.out.1)
  have RU : Rb U (r + 1 + 1) t := by rw [← hU]; exact RU'
  have HU : Below w.heap.size w U := by rw [← hU, HRr.out]; exact (below_put4 B5.out (show r ≤ r + 1 + 1 by omega) _ _ _ _)
  have j0 := RU.c0
  have j1 := RU.c1
  have j2 := RU.c2
  have j3 := RU.c3
  refine bodyPost_ret (v := .tuple #[.agg #[.bool t.g, .slice t.A t.n t.c, .bool t.gd, .slice t.Ad t.nd t.cd], .int .i64 E]) (by simp [results, Tryz.results85, go_sem, j0, j1, j2, j3]) rfl ?_
  exact RetR.of RU HQ.out.2.1 HQ.out.2.2 HU
set_option maxHeartbeats 2000000 in
theorem combine_Div_no (q q' : RVal) (w : World) (h : q.In w) (h' : q'.In w) (ca cb : Nat) (z zd f : Int) (e1 : (rv q.o q.od).isSome = true) (e2 : (rv q'.o q'.od).isSome = true) (HT : Hid (∀ (W : World) (p : Nat), Below w.heap.size w W → w.heap.size ≤ p → Blk W p 115 #[.int .i64 0] → Calls Tryz.prog 194 #[.pointer (some ⟨p, 0, none⟩), .pointer (some ⟨ca, 0, none⟩), .pointer (some ⟨cb, 0, none⟩)] W (RetT z zd f p W))) (hf : f ≠ 0) :
    Calls Tryz.prog 85 #[.agg #[.bool q.g, .slice q.A q.n q.c, .bool q.gd, .slice q.Ad q.nd q.cd], .agg #[.bool q'.g, .slice q'.A q'.n q'.c, .bool q'.gd, .slice q'.Ad q'.nd q'.cd], .func (.func 194) #[] #[.pointer (some ⟨ca, 0, none⟩), .pointer (some ⟨cb, 0, none⟩)]] w (RetR 0 0 f w) := by
  have HE := Lib.hid (And.intro e1 e2)
  clear e1 e2
  have hf1 : (f != 0) = true := by simpa using hf
  clear hf
  have HS := Lib.hid (And.intro h h')
  clear h h'
  go_enter Tryz.func85, Tryz.ntmps85
  go_wp2_with fail
  generalize hW : World.alloc (World.alloc (World.alloc (World.alloc w _) _) _) _ = V
  obtain ⟨hb, ra, rb, rr, ar⟩ := four_blocks q q' w V HS.out.1 HS.out.2 hW
  have HB := Lib.hid hb
  clear hW hb
  generalize hr : w.heap.size = r at *
  have HRr := Lib.hid hr
  clear hr
  have C := allValid_two q q' (r + 1 + 1 + 1) true true V ra.sl rb.sl ar HE.out.1 HE.out.2
  refine C.mono ?_
  clear C ar
  rintro e w1 ⟨rfl, hb1⟩
  have B1 := Lib.hid (below_chain HB.out (by have := HB.out.size; have := HRr.out; omega) hb1)
  have RA := Lib.hid (ra.on hb1)
  have RB := Lib.hid (rb.on hb1)
  have RR := Lib.hid (rr.on hb1)
  clear hb1 ra rb rr

  go_wp2_with fail
  generalize hW : World.alloc w1 _ = V1
  have hn := below_new w1 (.cells #[.int .i64 0] 115)
  have hcl := Blk.new w1 115 #[.int .i64 0]
  rw [hW] at hn hcl
  have B2 := Lib.hid (below_chain B1.out (by have := B1.out.size; have := HRr.out; omega) hn)
  have RR1 := Lib.hid (RR.out.on hn)
  have CL := Lib.hid hcl
  have hs8 : r + 1 + 1 < w1.heap.size := RR.out.lt
  clear hn hcl hW RR RA RB B1
  generalize w1.heap.size = s at *
  refine (HT.out V1 s B2.out (by omega) CL.out).mono ?_
  rintro e w2 ⟨g2, A2, n2, c2, xs2, g2', A2', n2', c2', ys2, rfl, hs2, ho2, hs2', ho2', hk⟩
  have hne : r + 1 + 1 ≠ s := by omega
  have RR2 := Lib.hid (hk.rb RR1.out hne)
  have B3 := Lib.hid (hk.bel _ _ B2.out (by omega) (by have := B2.out.size; have := HRr.out; omega))
  have H2 := Lib.hid (And.intro (And.intro hs2 ho2) (And.intro hs2' ho2'))
  have hcl := hk.cl
  have kc : w2.cell? ⟨s, 0, none⟩ = some (.int .i64 f) := by rw [Blk.cell hcl 0]; rfl
  have ltc := Blk.lt hcl
  clear hk hs2 ho2 hs2' ho2' hcl RR1 B2 CL HT

  go_wp2
  generalize hW : World.alloc (World.alloc w2 _) _ = V2
  obtain ⟨hb4, bn, bd⟩ := two_boxes g2 g2' A2 A2' n2 c2 n2' c2' xs2 ys2 w2 V2 H2.out.1.1 H2.out.2.1 hW
  have RR3 := Lib.hid (RR2.out.on hb4)
  have B4 := Lib.hid (below_chain B3.out (by have := B3.out.size; have := HRr.out; omega) hb4)
  have kc' : V2.cell? ⟨s, 0, none⟩ = some (.int .i64 f) := by rw [← kc]; exact hb4.cell ltc
  clear hW hb4 RR2 B3 kc ltc bn bd
  have f0 := RR3.out.f 0
  have f1 := RR3.out.f 1
  have f2 := RR3.out.f 2
  have f3 := RR3.out.f 3
  have q0 := RR3.out.c0
  have q1 := RR3.out.c1
  have q2 := RR3.out.c2
  have q3 := RR3.out.c3
  simp only [RVal.nil] at q0 q1 q2 q3
  go_region
  go_wp2
  generalize hU : World.drew (World.setCell (World.setCell (World.setCell (World.setCell V2 _ _) _ _) _ _) _ _) = U
  have RU' := (Rb.drew (Rb.put RR3.out (RVal.nil_in V2)))
  have RU : Rb U (r + 1 + 1) RVal.nil := by rw [← hU]; exact RU'
  have HU : Below w.heap.size w U := by rw [← hU, HRr.out]; exact (Below.drew (below_put4 B4.out (show r ≤ r + 1 + 1 by omega) _ _ _ _))
  have j0 := RU.c0
  have j1 := RU.c1
  have j2 := RU.c2
  have j3 := RU.c3
  refine bodyPost_ret (v := .tuple #[.agg #[.bool RVal.nil.g, .slice RVal.nil.A RVal.nil.n RVal.nil.c, .bool RVal.nil.gd, .slice RVal.nil.Ad RVal.nil.nd RVal.nil.cd], .int .i64 f]) (by simp [results, Tryz.results85, go_sem, j0, j1, j2, j3]) rfl ?_
  exact RetR.of RU rfl rfl HU
end Go.Proofs.YtjbnclfbkccieaaGreatDoor
