/-
 Stage 2: combine, for whatever closure hands it the two terms. Stage 2: the closures of the four operations.
-/
import Derived.Deep.DeepCutAuto
import Derived.Deep.RegionHeld3
import Derived.Test.YtmncfbfepdbioaaGreatDoorPolX
set_option maxHeartbeats 4000000
set_option maxRecDepth 20000
namespace Go.Proofs.YtmncfbfepdbioaaGreatDoor
open Go.RowKit
def RetT (z zd f : Int) (p : Nat) (w : World) (e : Ending) (w' : World) : Prop := ∃ neg A n c xs neg' A' n' c' ys, e = .returned (.tuple #[.agg #[.bool neg, .slice A n c], .agg #[.bool neg', .slice A' n' c']]) ∧
 Sl w' w'.heap.size A n c xs /\ ov neg xs = some z /\ Sl w' w'.heap.size A' n' c' ys /\ ov neg' ys = some zd /\ Kp w w' p f
theorem two_rats (q q' : RVal) (w W : World) (h : q.In w) (h' : q'.In w) (hW : (w.alloc (.cells #[.bool q.g, .slice q.A q.n q.c, .bool q.gd, .slice q.Ad q.nd q.cd] 27)).alloc (.cells #[.bool q'.g, .slice q'.A q'.n q'.c, .bool q'.gd, .slice q'.Ad q'.nd q'.cd] 27) = W) :
 Below w.heap.size w W /\ Rb W w.heap.size q /\ Rb W (w.heap.size + 1) q' := by
 have h1 := Rb.new h
 have hb1 := below_new w (.cells #[.bool q.g, .slice q.A q.n q.c, .bool q.gd, .slice q.Ad q.nd q.cd] 27)
 have h2 := Rb.new (h'.on hb1)
 have hb2 := below_new (w.alloc (.cells #[.bool q.g, .slice q.A q.n q.c, .bool q.gd, .slice q.Ad q.nd q.cd] 27)) (.cells #[.bool q'.g, .slice q'.A q'.n q'.c, .bool q'.gd, .slice q'.Ad q'.nd q'.cd] 27)
 rw [hW] at h2 hb2
 refine ⟨below_chain hb1 hb1.size hb2, h1.on hb2, ?_⟩
 simpa using h2
theorem two_rats_nil (q q' : RVal) (w W : World) (h : q.In w) (h' : q'.In w) (hW : ((w.alloc (.cells #[.bool q.g, .slice q.A q.n q.c, .bool q.gd, .slice q.Ad q.nd q.cd] 27)).alloc (.cells #[.bool q'.g, .slice q'.A q'.n q'.c, .bool q'.gd, .slice q'.Ad q'.nd q'.cd] 27)).alloc (.cells #[.bool false, .slice none 0 0, .bool false, .slice none 0 0] 27) = W) :
 Below w.heap.size w W /\ Rb W w.heap.size q /\ Rb W (w.heap.size + 1) q' /\ Rb W (w.heap.size + 1 + 1) RVal.nil := by
 obtain ⟨hb, h1, h2⟩ := two_rats q q' w _ h h' rfl
 have h3 := Rb.new (RVal.nil_in ((w.alloc (.cells #[.bool q.g, .slice q.A q.n q.c, .bool q.gd, .slice q.Ad q.nd q.cd] 27)).alloc (.cells #[.bool q'.g, .slice q'.A q'.n q'.c, .bool q'.gd, .slice q'.Ad q'.nd q'.cd] 27)))
 have hn := below_new ((w.alloc (.cells #[.bool q.g, .slice q.A q.n q.c, .bool q.gd, .slice q.Ad q.nd q.cd] 27)).alloc (.cells #[.bool q'.g, .slice q'.A q'.n q'.c, .bool q'.gd, .slice q'.Ad q'.nd q'.cd] 27)) (.cells #[.bool false, .slice none 0 0, .bool false, .slice none 0 0] 27)
 rw [hW] at hn
 refine ⟨below_chain hb hb.size hn, h1.on hn, h2.on hn, ?_⟩
 rw [<- hW]
 simpa [RVal.nil] using h3
theorem four_blocks (q q' : RVal) (w W : World) (h : q.In w) (h' : q'.In w) (hW : (((w.alloc (.cells #[.bool q.g, .slice q.A q.n q.c, .bool q.gd, .slice q.Ad q.nd q.cd] 27)).alloc (.cells #[.bool q'.g, .slice q'.A q'.n q'.c, .bool q'.gd, .slice q'.Ad q'.nd q'.cd] 27)).alloc (.cells #[.bool false, .slice none 0 0, .bool false, .slice none 0 0] 27)).alloc (.cells #[.bool q.g, .slice q.A q.n q.c, .bool q.gd, .slice q.Ad q.nd q.cd, .bool q'.g, .slice q'.A q'.n q'.c, .bool q'.gd, .slice q'.Ad q'.nd q'.cd] 27) = W) :
 Below w.heap.size w W /\ Rb W w.heap.size q /\ Rb W (w.heap.size + 1) q' /\ Rb W (w.heap.size + 1 + 1) RVal.nil /\ Blk W (w.heap.size + 1 + 1 + 1) 27 #[.bool q.g, .slice q.A q.n q.c, .bool q.gd, .slice q.Ad q.nd q.cd, .bool q'.g, .slice q'.A q'.n q'.c, .bool q'.gd, .slice q'.Ad q'.nd q'.cd] := by
 obtain ⟨hb, h1, h2, h3⟩ := two_rats_nil q q' w _ h h' rfl
 have hn := below_new (((w.alloc (.cells #[.bool q.g, .slice q.A q.n q.c, .bool q.gd, .slice q.Ad q.nd q.cd] 27)).alloc (.cells #[.bool q'.g, .slice q'.A q'.n q'.c, .bool q'.gd, .slice q'.Ad q'.nd q'.cd] 27)).alloc (.cells #[.bool false, .slice none 0 0, .bool false, .slice none 0 0] 27)) (.cells #[.bool q.g, .slice q.A q.n q.c, .bool q.gd, .slice q.Ad q.nd q.cd, .bool q'.g, .slice q'.A q'.n q'.c, .bool q'.gd, .slice q'.Ad q'.nd q'.cd] 27)
 have h4 := Blk.new (((w.alloc (.cells #[.bool q.g, .slice q.A q.n q.c, .bool q.gd, .slice q.Ad q.nd q.cd] 27)).alloc (.cells #[.bool q'.g, .slice q'.A q'.n q'.c, .bool q'.gd, .slice q'.Ad q'.nd q'.cd] 27)).alloc (.cells #[.bool false, .slice none 0 0, .bool false, .slice none 0 0] 27)) 27 #[.bool q.g, .slice q.A q.n q.c, .bool q.gd, .slice q.Ad q.nd q.cd, .bool q'.g, .slice q'.A q'.n q'.c, .bool q'.gd, .slice q'.Ad q'.nd q'.cd]
 rw [hW] at hn h4
 refine ⟨below_chain hb hb.size hn, h1.on hn, h2.on hn, h3.on hn, ?_⟩
 simpa using h4
theorem combine_Add_ok (q q' : RVal) (w : World) (h : q.In w) (h' : q'.In w) (ca cb : Nat) (z zd N D E : Int) (e1 : (rv q.o q.od).isSome = true) (e2 : (rv q'.o q'.od).isSome = true) (HT : Hid (∀ (W : World) (p : Nat), Below w.heap.size w W -> w.heap.size <= p -> Blk W p 115 #[.int .i64 0] -> Calls Tryz.prog 86 #[.pointer (some ⟨p, 0, none⟩), .pointer (some ⟨ca, 0, none⟩), .pointer (some ⟨cb, 0, none⟩)] W (RetT z zd 0 p W))) (hN : mkN (some z) (some zd) = N) (hD : mkD (some z) (some zd) = D) (hE : mkE (some z) (some zd) = E) :
 Calls Tryz.prog 85 #[.agg #[.bool q.g, .slice q.A q.n q.c, .bool q.gd, .slice q.Ad q.nd q.cd], .agg #[.bool q'.g, .slice q'.A q'.n q'.c, .bool q'.gd, .slice q'.Ad q'.nd q'.cd], .func (.func 86) #[] #[.pointer (some ⟨ca, 0, none⟩), .pointer (some ⟨cb, 0, none⟩)]] w (RetR N D E w) := by
 have HE := Lib.hid (And.intro e1 e2)
 clear e1 e2
 have HND := Lib.hid (And.intro hN (And.intro hD hE))
 clear hN hD hE
 have HS := Lib.hid (And.intro h h')
 clear h h'
 go_enter Tryz.func85, Tryz.ntmps85
 go_wp2_with fail
 generalize hW : World.alloc (World.alloc (World.alloc (World.alloc w _) _) _) _ = V
 obtain ⟨hb, ra, rb, rr, ar⟩ := four_blocks q q' w V HS.out.1 HS.out.2 hW
 have HB := Lib.hid hb
 clear hW hb
 generalize hr : w.heap.size = r at *
 have HRr := Lib.hid hr
 clear hr
 have C := allValid_two q q' (r + 1 + 1 + 1) true true V ra.sl rb.sl ar HE.out.1 HE.out.2
 refine C.mono ?_
 clear C ar
 rintro e w1 ⟨rfl, hb1⟩
 have B1 := Lib.hid (below_chain HB.out (by have := HB.out.size; have := HRr.out; omega) hb1)
 have RA := Lib.hid (ra.on hb1)
 have RB := Lib.hid (rb.on hb1)
 have RR := Lib.hid (rr.on hb1)
 clear hb1 ra rb rr
 go_wp2_with fail
 generalize hW : World.alloc w1 _ = V1
 have hn := below_new w1 (.cells #[.int .i64 0] 115)
 have hcl := Blk.new w1 115 #[.int .i64 0]
 rw [hW] at hn hcl
 have B2 := Lib.hid (below_chain B1.out (by have := B1.out.size; have := HRr.out; omega) hn)
 have RR1 := Lib.hid (RR.out.on hn)
 have CL := Lib.hid hcl
 have hs8 : r + 1 + 1 < w1.heap.size := RR.out.lt
 clear hn hcl hW RR RA RB B1
 generalize w1.heap.size = s at *
 refine (HT.out V1 s B2.out (by omega) CL.out).mono ?_
 rintro e w2 ⟨g2, A2, n2, c2, xs2, g2', A2', n2', c2', ys2, rfl, hs2, ho2, hs2', ho2', hk⟩
 have hne : r + 1 + 1 ≠ s := by omega
 have RR2 := Lib.hid (hk.rb RR1.out hne)
 have B3 := Lib.hid (hk.bel _ _ B2.out (by omega) (by have := B2.out.size; have := HRr.out; omega))
 have H2 := Lib.hid (And.intro (And.intro hs2 ho2) (And.intro hs2' ho2'))
 have hcl := hk.cl
 have kc : w2.cell? ⟨s, 0, none⟩ = some (.int .i64 0) := by rw [Blk.cell hcl 0]; rfl
 have ltc := Blk.lt hcl
 clear hk hs2 ho2 hs2' ho2' hcl RR1 B2 CL HT
 go_wp2_with fail
 generalize hW : World.alloc (World.alloc w2 _) _ = V2
 obtain ⟨hb4, bn, bd⟩ := two_boxes g2 g2' A2 A2' n2 c2 n2' c2' xs2 ys2 w2 V2 H2.out.1.1 H2.out.2.1 hW
 have RR3 := Lib.hid (RR2.out.on hb4)
 have B4 := Lib.hid (below_chain B3.out (by have := B3.out.size; have := HRr.out; omega) hb4)
 clear hW hb4 RR2 B3 kc ltc
 have C := make_ov (neg := g2) (neg' := g2') bn.sl bd.sl
 rw [H2.out.1.2, H2.out.2.2, HND.out.1, HND.out.2.1, HND.out.2.2] at C
 refine C.mono ?_
 clear C
 rintro e w3 ⟨t, rfl, hq, ho, hod, hb5⟩
 have R3 := Lib.hid (RR3.out.on hb5)
 have B5 := Lib.hid (below_chain B4.out (by have := B4.out.size; have := HRr.out; omega) hb5)
 have HQ := Lib.hid (And.intro hq (And.intro ho hod))
 clear hq ho hod hb5 RR3 B4 bn bd H2
 have f0 := R3.out.f 0
 have f1 := R3.out.f 1
 have f2 := R3.out.f 2
 have f3 := R3.out.f 3
 have q0 := R3.out.c0
 have q1 := R3.out.c1
 have q2 := R3.out.c2
 have q3 := R3.out.c3
 simp only [RVal.nil] at q0 q1 q2 q3
 go_wp2
 generalize hU : World.setCell (World.setCell (World.setCell (World.setCell w3 _ _) _ _) _ _) _ _ = U
 have RU' := (Rb.put R3.out HQ.out.1)
 have RU : Rb U (r + 1 + 1) t := by rw [<- hU]; exact RU'
 have HU : Below w.heap.size w U := by rw [<- hU, HRr.out]; exact (below_put4 B5.out (show r <= r + 1 + 1 by omega) _ _ _ _)
 have j0 := RU.c0
 have j1 := RU.c1
 have j2 := RU.c2
 have j3 := RU.c3
 refine bodyPost_ret (v := .tuple #[.agg #[.bool t.g, .slice t.A t.n t.c, .bool t.gd, .slice t.Ad t.nd t.cd], .int .i64 E]) (by simp [results, Tryz.results85, go_sem, j0, j1, j2, j3]) rfl ?_
 exact RetR.of RU HQ.out.2.1 HQ.out.2.2 HU
theorem combine_Add_no (q q' : RVal) (w : World) (h : q.In w) (h' : q'.In w) (ca cb : Nat) (z zd f : Int) (e1 : (rv q.o q.od).isSome = true) (e2 : (rv q'.o q'.od).isSome = true) (HT : Hid (∀ (W : World) (p : Nat), Below w.heap.size w W -> w.heap.size <= p -> Blk W p 115 #[.int .i64 0] -> Calls Tryz.prog 86 #[.pointer (some ⟨p, 0, none⟩), .pointer (some ⟨ca, 0, none⟩), .pointer (some ⟨cb, 0, none⟩)] W (RetT z zd f p W))) (hf : f ≠ 0) :
 Calls Tryz.prog 85 #[.agg #[.bool q.g, .slice q.A q.n q.c, .bool q.gd, .slice q.Ad q.nd q.cd], .agg #[.bool q'.g, .slice q'.A q'.n q'.c, .bool q'.gd, .slice q'.Ad q'.nd q'.cd], .func (.func 86) #[] #[.pointer (some ⟨ca, 0, none⟩), .pointer (some ⟨cb, 0, none⟩)]] w (RetR 0 0 f w) := by
 have HE := Lib.hid (And.intro e1 e2)
 clear e1 e2
 have hf1 : (f != 0) = true := by simpa using hf
 clear hf
 have HS := Lib.hid (And.intro h h')
 clear h h'
 go_enter Tryz.func85, Tryz.ntmps85
 go_wp2_with fail
 generalize hW : World.alloc (World.alloc (World.alloc (World.alloc w _) _) _) _ = V
 obtain ⟨hb, ra, rb, rr, ar⟩ := four_blocks q q' w V HS.out.1 HS.out.2 hW
 have HB := Lib.hid hb
 clear hW hb
 generalize hr : w.heap.size = r at *
 have HRr := Lib.hid hr
 clear hr
 have C := allValid_two q q' (r + 1 + 1 + 1) true true V ra.sl rb.sl ar HE.out.1 HE.out.2
 refine C.mono ?_
 clear C ar
 rintro e w1 ⟨rfl, hb1⟩
 have B1 := Lib.hid (below_chain HB.out (by have := HB.out.size; have := HRr.out; omega) hb1)
 have RA := Lib.hid (ra.on hb1)
 have RB := Lib.hid (rb.on hb1)
 have RR := Lib.hid (rr.on hb1)
 clear hb1 ra rb rr
 go_wp2_with fail
 generalize hW : World.alloc w1 _ = V1
 have hn := below_new w1 (.cells #[.int .i64 0] 115)
 have hcl := Blk.new w1 115 #[.int .i64 0]
 rw [hW] at hn hcl
 have B2 := Lib.hid (below_chain B1.out (by have := B1.out.size; have := HRr.out; omega) hn)
 have RR1 := Lib.hid (RR.out.on hn)
 have CL := Lib.hid hcl
 have hs8 : r + 1 + 1 < w1.heap.size := RR.out.lt
 clear hn hcl hW RR RA RB B1
 generalize w1.heap.size = s at *
 refine (HT.out V1 s B2.out (by omega) CL.out).mono ?_
 rintro e w2 ⟨g2, A2, n2, c2, xs2, g2', A2', n2', c2', ys2, rfl, hs2, ho2, hs2', ho2', hk⟩
 have hne : r + 1 + 1 ≠ s := by omega
 have RR2 := Lib.hid (hk.rb RR1.out hne)
 have B3 := Lib.hid (hk.bel _ _ B2.out (by omega) (by have := B2.out.size; have := HRr.out; omega))
 have H2 := Lib.hid (And.intro (And.intro hs2 ho2) (And.intro hs2' ho2'))
 have hcl := hk.cl
 have kc : w2.cell? ⟨s, 0, none⟩ = some (.int .i64 f) := by rw [Blk.cell hcl 0]; rfl
 have ltc := Blk.lt hcl
 clear hk hs2 ho2 hs2' ho2' hcl RR1 B2 CL HT
 go_wp2
 generalize hW : World.alloc (World.alloc w2 _) _ = V2
 obtain ⟨hb4, bn, bd⟩ := two_boxes g2 g2' A2 A2' n2 c2 n2' c2' xs2 ys2 w2 V2 H2.out.1.1 H2.out.2.1 hW
 have RR3 := Lib.hid (RR2.out.on hb4)
 have B4 := Lib.hid (below_chain B3.out (by have := B3.out.size; have := HRr.out; omega) hb4)
 have kc' : V2.cell? ⟨s, 0, none⟩ = some (.int .i64 f) := by rw [<- kc]; exact hb4.cell ltc
 clear hW hb4 RR2 B3 kc ltc bn bd
 have f0 := RR3.out.f 0
 have f1 := RR3.out.f 1
 have f2 := RR3.out.f 2
 have f3 := RR3.out.f 3
 have q0 := RR3.out.c0
 have q1 := RR3.out.c1
 have q2 := RR3.out.c2
 have q3 := RR3.out.c3
 simp only [RVal.nil] at q0 q1 q2 q3
 go_region
 go_wp2
 generalize hU : World.drew (World.setCell (World.setCell (World.setCell (World.setCell V2 _ _) _ _) _ _) _ _) = U
 have RU' := (Rb.drew (Rb.put RR3.out (RVal.nil_in V2)))
 have RU : Rb U (r + 1 + 1) RVal.nil := by rw [<- hU]; exact RU'
 have HU : Below w.heap.size w U := by rw [<- hU, HRr.out]; exact (Below.drew (below_put4 B4.out (show r <= r + 1 + 1 by omega) _ _ _ _))
 have j0 := RU.c0
 have j1 := RU.c1
 have j2 := RU.c2
 have j3 := RU.c3
 refine bodyPost_ret (v := .tuple #[.agg #[.bool RVal.nil.g, .slice RVal.nil.A RVal.nil.n RVal.nil.c, .bool RVal.nil.gd, .slice RVal.nil.Ad RVal.nil.nd RVal.nil.cd], .int .i64 f]) (by simp [results, Tryz.results85, go_sem, j0, j1, j2, j3]) rfl ?_
 exact RetR.of RU rfl rfl HU
theorem combine_Sub_ok (q q' : RVal) (w : World) (h : q.In w) (h' : q'.In w) (ca cb : Nat) (z zd N D E : Int) (e1 : (rv q.o q.od).isSome = true) (e2 : (rv q'.o q'.od).isSome = true) (HT : Hid (∀ (W : World) (p : Nat), Below w.heap.size w W -> w.heap.size <= p -> Blk W p 115 #[.int .i64 0] -> Calls Tryz.prog 165 #[.pointer (some ⟨p, 0, none⟩), .pointer (some ⟨ca, 0, none⟩), .pointer (some ⟨cb, 0, none⟩)] W (RetT z zd 0 p W))) (hN : mkN (some z) (some zd) = N) (hD : mkD (some z) (some zd) = D) (hE : mkE (some z) (some zd) = E) :
 Calls Tryz.prog 85 #[.agg #[.bool q.g, .slice q.A q.n q.c, .bool q.gd, .slice q.Ad q.nd q.cd], .agg #[.bool q'.g, .slice q'.A q'.n q'.c, .bool q'.gd, .slice q'.Ad q'.nd q'.cd], .func (.func 165) #[] #[.pointer (some ⟨ca, 0, none⟩), .pointer (some ⟨cb, 0, none⟩)]] w (RetR N D E w) := by
 have HE := Lib.hid (And.intro e1 e2)
 clear e1 e2
 have HND := Lib.hid (And.intro hN (And.intro hD hE))
 clear hN hD hE
 have HS := Lib.hid (And.intro h h')
 clear h h'
 go_enter Tryz.func85, Tryz.ntmps85
 go_wp2_with fail
 generalize hW : World.alloc (World.alloc (World.alloc (World.alloc w _) _) _) _ = V
 obtain ⟨hb, ra, rb, rr, ar⟩ := four_blocks q q' w V HS.out.1 HS.out.2 hW
 have HB := Lib.hid hb
 clear hW hb
 generalize hr : w.heap.size = r at *
 have HRr := Lib.hid hr
 clear hr
 have C := allValid_two q q' (r + 1 + 1 + 1) true true V ra.sl rb.sl ar HE.out.1 HE.out.2
 refine C.mono ?_
 clear C ar
 rintro e w1 ⟨rfl, hb1⟩
 have B1 := Lib.hid (below_chain HB.out (by have := HB.out.size; have := HRr.out; omega) hb1)
 have RA := Lib.hid (ra.on hb1)
 have RB := Lib.hid (rb.on hb1)
 have RR := Lib.hid (rr.on hb1)
 clear hb1 ra rb rr
 go_wp2_with fail
 generalize hW : World.alloc w1 _ = V1
 have hn := below_new w1 (.cells #[.int .i64 0] 115)
 have hcl := Blk.new w1 115 #[.int .i64 0]
 rw [hW] at hn hcl
 have B2 := Lib.hid (below_chain B1.out (by have := B1.out.size; have := HRr.out; omega) hn)
 have RR1 := Lib.hid (RR.out.on hn)
 have CL := Lib.hid hcl
 have hs8 : r + 1 + 1 < w1.heap.size := RR.out.lt
 clear hn hcl hW RR RA RB B1
 generalize w1.heap.size = s at *
 refine (HT.out V1 s B2.out (by omega) CL.out).mono ?_
 rintro e w2 ⟨g2, A2, n2, c2, xs2, g2', A2', n2', c2', ys2, rfl, hs2, ho2, hs2', ho2', hk⟩
 have hne : r + 1 + 1 ≠ s := by omega
 have RR2 := Lib.hid (hk.rb RR1.out hne)
 have B3 := Lib.hid (hk.bel _ _ B2.out (by omega) (by have := B2.out.size; have := HRr.out; omega))
 have H2 := Lib.hid (And.intro (And.intro hs2 ho2) (And.intro hs2' ho2'))
 have hcl := hk.cl
 have kc : w2.cell? ⟨s, 0, none⟩ = some (.int .i64 0) := by rw [Blk.cell hcl 0]; rfl
 have ltc := Blk.lt hcl
 clear hk hs2 ho2 hs2' ho2' hcl RR1 B2 CL HT
 go_wp2_with fail
 generalize hW : World.alloc (World.alloc w2 _) _ = V2
 obtain ⟨hb4, bn, bd⟩ := two_boxes g2 g2' A2 A2' n2 c2 n2' c2' xs2 ys2 w2 V2 H2.out.1.1 H2.out.2.1 hW
 have RR3 := Lib.hid (RR2.out.on hb4)
 have B4 := Lib.hid (below_chain B3.out (by have := B3.out.size; have := HRr.out; omega) hb4)
 clear hW hb4 RR2 B3 kc ltc
 have C := make_ov (neg := g2) (neg' := g2') bn.sl bd.sl
 rw [H2.out.1.2, H2.out.2.2, HND.out.1, HND.out.2.1, HND.out.2.2] at C
 refine C.mono ?_
 clear C
 rintro e w3 ⟨t, rfl, hq, ho, hod, hb5⟩
 have R3 := Lib.hid (RR3.out.on hb5)
 have B5 := Lib.hid (below_chain B4.out (by have := B4.out.size; have := HRr.out; omega) hb5)
 have HQ := Lib.hid (And.intro hq (And.intro ho hod))
 clear hq ho hod hb5 RR3 B4 bn bd H2
 have f0 := R3.out.f 0
 have f1 := R3.out.f 1
 have f2 := R3.out.f 2
 have f3 := R3.out.f 3
 have q0 := R3.out.c0
 have q1 := R3.out.c1
 have q2 := R3.out.c2
 have q3 := R3.out.c3
 simp only [RVal.nil] at q0 q1 q2 q3
 go_wp2
 generalize hU : World.setCell (World.setCell (World.setCell (World.setCell w3 _ _) _ _) _ _) _ _ = U
 have RU' := (Rb.put R3.out HQ.out.1)
 have RU : Rb U (r + 1 + 1) t := by rw [<- hU]; exact RU'
 have HU : Below w.heap.size w U := by rw [<- hU, HRr.out]; exact (below_put4 B5.out (show r <= r + 1 + 1 by omega) _ _ _ _)
 have j0 := RU.c0
 have j1 := RU.c1
 have j2 := RU.c2
 have j3 := RU.c3
 refine bodyPost_ret (v := .tuple #[.agg #[.bool t.g, .slice t.A t.n t.c, .bool t.gd, .slice t.Ad t.nd t.cd], .int .i64 E]) (by simp [results, Tryz.results85, go_sem, j0, j1, j2, j3]) rfl ?_
 exact RetR.of RU HQ.out.2.1 HQ.out.2.2 HU
theorem combine_Sub_no (q q' : RVal) (w : World) (h : q.In w) (h' : q'.In w) (ca cb : Nat) (z zd f : Int) (e1 : (rv q.o q.od).isSome = true) (e2 : (rv q'.o q'.od).isSome = true) (HT : Hid (∀ (W : World) (p : Nat), Below w.heap.size w W -> w.heap.size <= p -> Blk W p 115 #[.int .i64 0] -> Calls Tryz.prog 165 #[.pointer (some ⟨p, 0, none⟩), .pointer (some ⟨ca, 0, none⟩), .pointer (some ⟨cb, 0, none⟩)] W (RetT z zd f p W))) (hf : f ≠ 0) :
 Calls Tryz.prog 85 #[.agg #[.bool q.g, .slice q.A q.n q.c, .bool q.gd, .slice q.Ad q.nd q.cd], .agg #[.bool q'.g, .slice q'.A q'.n q'.c, .bool q'.gd, .slice q'.Ad q'.nd q'.cd], .func (.func 165) #[] #[.pointer (some ⟨ca, 0, none⟩), .pointer (some ⟨cb, 0, none⟩)]] w (RetR 0 0 f w) := by
 have HE := Lib.hid (And.intro e1 e2)
 clear e1 e2
 have hf1 : (f != 0) = true := by simpa using hf
 clear hf
 have HS := Lib.hid (And.intro h h')
 clear h h'
 go_enter Tryz.func85, Tryz.ntmps85
 go_wp2_with fail
 generalize hW : World.alloc (World.alloc (World.alloc (World.alloc w _) _) _) _ = V
 obtain ⟨hb, ra, rb, rr, ar⟩ := four_blocks q q' w V HS.out.1 HS.out.2 hW
 have HB := Lib.hid hb
 clear hW hb
 generalize hr : w.heap.size = r at *
 have HRr := Lib.hid hr
 clear hr
 have C := allValid_two q q' (r + 1 + 1 + 1) true true V ra.sl rb.sl ar HE.out.1 HE.out.2
 refine C.mono ?_
 clear C ar
 rintro e w1 ⟨rfl, hb1⟩
 have B1 := Lib.hid (below_chain HB.out (by have := HB.out.size; have := HRr.out; omega) hb1)
 have RA := Lib.hid (ra.on hb1)
 have RB := Lib.hid (rb.on hb1)
 have RR := Lib.hid (rr.on hb1)
 clear hb1 ra rb rr
 go_wp2_with fail
 generalize hW : World.alloc w1 _ = V1
 have hn := below_new w1 (.cells #[.int .i64 0] 115)
 have hcl := Blk.new w1 115 #[.int .i64 0]
 rw [hW] at hn hcl
 have B2 := Lib.hid (below_chain B1.out (by have := B1.out.size; have := HRr.out; omega) hn)
 have RR1 := Lib.hid (RR.out.on hn)
 have CL := Lib.hid hcl
 have hs8 : r + 1 + 1 < w1.heap.size := RR.out.lt
 clear hn hcl hW RR RA RB B1
 generalize w1.heap.size = s at *
 refine (HT.out V1 s B2.out (by omega) CL.out).mono ?_
 rintro e w2 ⟨g2, A2, n2, c2, xs2, g2', A2', n2', c2', ys2, rfl, hs2, ho2, hs2', ho2', hk⟩
 have hne : r + 1 + 1 ≠ s := by omega
 have RR2 := Lib.hid (hk.rb RR1.out hne)
 have B3 := Lib.hid (hk.bel _ _ B2.out (by omega) (by have := B2.out.size; have := HRr.out; omega))
 have H2 := Lib.hid (And.intro (And.intro hs2 ho2) (And.intro hs2' ho2'))
 have hcl := hk.cl
 have kc : w2.cell? ⟨s, 0, none⟩ = some (.int .i64 f) := by rw [Blk.cell hcl 0]; rfl
 have ltc := Blk.lt hcl
 clear hk hs2 ho2 hs2' ho2' hcl RR1 B2 CL HT
 go_wp2
 generalize hW : World.alloc (World.alloc w2 _) _ = V2
 obtain ⟨hb4, bn, bd⟩ := two_boxes g2 g2' A2 A2' n2 c2 n2' c2' xs2 ys2 w2 V2 H2.out.1.1 H2.out.2.1 hW
 have RR3 := Lib.hid (RR2.out.on hb4)
 have B4 := Lib.hid (below_chain B3.out (by have := B3.out.size; have := HRr.out; omega) hb4)
 have kc' : V2.cell? ⟨s, 0, none⟩ = some (.int .i64 f) := by rw [<- kc]; exact hb4.cell ltc
 clear hW hb4 RR2 B3 kc ltc bn bd
 have f0 := RR3.out.f 0
 have f1 := RR3.out.f 1
 have f2 := RR3.out.f 2
 have f3 := RR3.out.f 3
 have q0 := RR3.out.c0
 have q1 := RR3.out.c1
 have q2 := RR3.out.c2
 have q3 := RR3.out.c3
 simp only [RVal.nil] at q0 q1 q2 q3
 go_region
 go_wp2
 generalize hU : World.drew (World.setCell (World.setCell (World.setCell (World.setCell V2 _ _) _ _) _ _) _ _) = U
 have RU' := (Rb.drew (Rb.put RR3.out (RVal.nil_in V2)))
 have RU : Rb U (r + 1 + 1) RVal.nil := by rw [<- hU]; exact RU'
 have HU : Below w.heap.size w U := by rw [<- hU, HRr.out]; exact (Below.drew (below_put4 B4.out (show r <= r + 1 + 1 by omega) _ _ _ _))
 have j0 := RU.c0
 have j1 := RU.c1
 have j2 := RU.c2
 have j3 := RU.c3
 refine bodyPost_ret (v := .tuple #[.agg #[.bool RVal.nil.g, .slice RVal.nil.A RVal.nil.n RVal.nil.c, .bool RVal.nil.gd, .slice RVal.nil.Ad RVal.nil.nd RVal.nil.cd], .int .i64 f]) (by simp [results, Tryz.results85, go_sem, j0, j1, j2, j3]) rfl ?_
 exact RetR.of RU rfl rfl HU
theorem combine_Mul_ok (q q' : RVal) (w : World) (h : q.In w) (h' : q'.In w) (ca cb : Nat) (z zd N D E : Int) (e1 : (rv q.o q.od).isSome = true) (e2 : (rv q'.o q'.od).isSome = true) (HT : Hid (∀ (W : World) (p : Nat), Below w.heap.size w W -> w.heap.size <= p -> Blk W p 115 #[.int .i64 0] -> Calls Tryz.prog 89 #[.pointer (some ⟨p, 0, none⟩), .pointer (some ⟨ca, 0, none⟩), .pointer (some ⟨cb, 0, none⟩)] W (RetT z zd 0 p W))) (hN : mkN (some z) (some zd) = N) (hD : mkD (some z) (some zd) = D) (hE : mkE (some z) (some zd) = E) :
 Calls Tryz.prog 85 #[.agg #[.bool q.g, .slice q.A q.n q.c, .bool q.gd, .slice q.Ad q.nd q.cd], .agg #[.bool q'.g, .slice q'.A q'.n q'.c, .bool q'.gd, .slice q'.Ad q'.nd q'.cd], .func (.func 89) #[] #[.pointer (some ⟨ca, 0, none⟩), .pointer (some ⟨cb, 0, none⟩)]] w (RetR N D E w) := by
 have HE := Lib.hid (And.intro e1 e2)
 clear e1 e2
 have HND := Lib.hid (And.intro hN (And.intro hD hE))
 clear hN hD hE
 have HS := Lib.hid (And.intro h h')
 clear h h'
 go_enter Tryz.func85, Tryz.ntmps85
 go_wp2_with fail
 generalize hW : World.alloc (World.alloc (World.alloc (World.alloc w _) _) _) _ = V
 obtain ⟨hb, ra, rb, rr, ar⟩ := four_blocks q q' w V HS.out.1 HS.out.2 hW
 have HB := Lib.hid hb
 clear hW hb
 generalize hr : w.heap.size = r at *
 have HRr := Lib.hid hr
 clear hr
 have C := allValid_two q q' (r + 1 + 1 + 1) true true V ra.sl rb.sl ar HE.out.1 HE.out.2
 refine C.mono ?_
 clear C ar
 rintro e w1 ⟨rfl, hb1⟩
 have B1 := Lib.hid (below_chain HB.out (by have := HB.out.size; have := HRr.out; omega) hb1)
 have RA := Lib.hid (ra.on hb1)
 have RB := Lib.hid (rb.on hb1)
 have RR := Lib.hid (rr.on hb1)
 clear hb1 ra rb rr
 go_wp2_with fail
 generalize hW : World.alloc w1 _ = V1
 have hn := below_new w1 (.cells #[.int .i64 0] 115)
 have hcl := Blk.new w1 115 #[.int .i64 0]
 rw [hW] at hn hcl
 have B2 := Lib.hid (below_chain B1.out (by have := B1.out.size; have := HRr.out; omega) hn)
 have RR1 := Lib.hid (RR.out.on hn)
 have CL := Lib.hid hcl
 have hs8 : r + 1 + 1 < w1.heap.size := RR.out.lt
 clear hn hcl hW RR RA RB B1
 generalize w1.heap.size = s at *
 refine (HT.out V1 s B2.out (by omega) CL.out).mono ?_
 rintro e w2 ⟨g2, A2, n2, c2, xs2, g2', A2', n2', c2', ys2, rfl, hs2, ho2, hs2', ho2', hk⟩
 have hne : r + 1 + 1 ≠ s := by omega
 have RR2 := Lib.hid (hk.rb RR1.out hne)
 have B3 := Lib.hid (hk.bel _ _ B2.out (by omega) (by have := B2.out.size; have := HRr.out; omega))
 have H2 := Lib.hid (And.intro (And.intro hs2 ho2) (And.intro hs2' ho2'))
 have hcl := hk.cl
 have kc : w2.cell? ⟨s, 0, none⟩ = some (.int .i64 0) := by rw [Blk.cell hcl 0]; rfl
 have ltc := Blk.lt hcl
 clear hk hs2 ho2 hs2' ho2' hcl RR1 B2 CL HT
 go_wp2_with fail
 generalize hW : World.alloc (World.alloc w2 _) _ = V2
 obtain ⟨hb4, bn, bd⟩ := two_boxes g2 g2' A2 A2' n2 c2 n2' c2' xs2 ys2 w2 V2 H2.out.1.1 H2.out.2.1 hW
 have RR3 := Lib.hid (RR2.out.on hb4)
 have B4 := Lib.hid (below_chain B3.out (by have := B3.out.size; have := HRr.out; omega) hb4)
 clear hW hb4 RR2 B3 kc ltc
 have C := make_ov (neg := g2) (neg' := g2') bn.sl bd.sl
 rw [H2.out.1.2, H2.out.2.2, HND.out.1, HND.out.2.1, HND.out.2.2] at C
 refine C.mono ?_
 clear C
 rintro e w3 ⟨t, rfl, hq, ho, hod, hb5⟩
 have R3 := Lib.hid (RR3.out.on hb5)
 have B5 := Lib.hid (below_chain B4.out (by have := B4.out.size; have := HRr.out; omega) hb5)
 have HQ := Lib.hid (And.intro hq (And.intro ho hod))
 clear hq ho hod hb5 RR3 B4 bn bd H2
 have f0 := R3.out.f 0
 have f1 := R3.out.f 1
 have f2 := R3.out.f 2
 have f3 := R3.out.f 3
 have q0 := R3.out.c0
 have q1 := R3.out.c1
 have q2 := R3.out.c2
 have q3 := R3.out.c3
 simp only [RVal.nil] at q0 q1 q2 q3
 go_wp2
 generalize hU : World.setCell (World.setCell (World.setCell (World.setCell w3 _ _) _ _) _ _) _ _ = U
 have RU' := (Rb.put R3.out HQ.out.1)
 have RU : Rb U (r + 1 + 1) t := by rw [<- hU]; exact RU'
 have HU : Below w.heap.size w U := by rw [<- hU, HRr.out]; exact (below_put4 B5.out (show r <= r + 1 + 1 by omega) _ _ _ _)
 have j0 := RU.c0
 have j1 := RU.c1
 have j2 := RU.c2
 have j3 := RU.c3
 refine bodyPost_ret (v := .tuple #[.agg #[.bool t.g, .slice t.A t.n t.c, .bool t.gd, .slice t.Ad t.nd t.cd], .int .i64 E]) (by simp [results, Tryz.results85, go_sem, j0, j1, j2, j3]) rfl ?_
 exact RetR.of RU HQ.out.2.1 HQ.out.2.2 HU
theorem combine_Mul_no (q q' : RVal) (w : World) (h : q.In w) (h' : q'.In w) (ca cb : Nat) (z zd f : Int) (e1 : (rv q.o q.od).isSome = true) (e2 : (rv q'.o q'.od).isSome = true) (HT : Hid (∀ (W : World) (p : Nat), Below w.heap.size w W -> w.heap.size <= p -> Blk W p 115 #[.int .i64 0] -> Calls Tryz.prog 89 #[.pointer (some ⟨p, 0, none⟩), .pointer (some ⟨ca, 0, none⟩), .pointer (some ⟨cb, 0, none⟩)] W (RetT z zd f p W))) (hf : f ≠ 0) :
 Calls Tryz.prog 85 #[.agg #[.bool q.g, .slice q.A q.n q.c, .bool q.gd, .slice q.Ad q.nd q.cd], .agg #[.bool q'.g, .slice q'.A q'.n q'.c, .bool q'.gd, .slice q'.Ad q'.nd q'.cd], .func (.func 89) #[] #[.pointer (some ⟨ca, 0, none⟩), .pointer (some ⟨cb, 0, none⟩)]] w (RetR 0 0 f w) := by
 have HE := Lib.hid (And.intro e1 e2)
 clear e1 e2
 have hf1 : (f != 0) = true := by simpa using hf
 clear hf
 have HS := Lib.hid (And.intro h h')
 clear h h'
 go_enter Tryz.func85, Tryz.ntmps85
 go_wp2_with fail
 generalize hW : World.alloc (World.alloc (World.alloc (World.alloc w _) _) _) _ = V
 obtain ⟨hb, ra, rb, rr, ar⟩ := four_blocks q q' w V HS.out.1 HS.out.2 hW
 have HB := Lib.hid hb
 clear hW hb
 generalize hr : w.heap.size = r at *
 have HRr := Lib.hid hr
 clear hr
 have C := allValid_two q q' (r + 1 + 1 + 1) true true V ra.sl rb.sl ar HE.out.1 HE.out.2
 refine C.mono ?_
 clear C ar
 rintro e w1 ⟨rfl, hb1⟩
 have B1 := Lib.hid (below_chain HB.out (by have := HB.out.size; have := HRr.out; omega) hb1)
 have RA := Lib.hid (ra.on hb1)
 have RB := Lib.hid (rb.on hb1)
 have RR := Lib.hid (rr.on hb1)
 clear hb1 ra rb rr
 go_wp2_with fail
 generalize hW : World.alloc w1 _ = V1
 have hn := below_new w1 (.cells #[.int .i64 0] 115)
 have hcl := Blk.new w1 115 #[.int .i64 0]
 rw [hW] at hn hcl
 have B2 := Lib.hid (below_chain B1.out (by have := B1.out.size; have := HRr.out; omega) hn)
 have RR1 := Lib.hid (RR.out.on hn)
 have CL := Lib.hid hcl
 have hs8 : r + 1 + 1 < w1.heap.size := RR.out.lt
 clear hn hcl hW RR RA RB B1
 generalize w1.heap.size = s at *
 refine (HT.out V1 s B2.out (by omega) CL.out).mono ?_
 rintro e w2 ⟨g2, A2, n2, c2, xs2, g2', A2', n2', c2', ys2, rfl, hs2, ho2, hs2', ho2', hk⟩
 have hne : r + 1 + 1 ≠ s := by omega
 have RR2 := Lib.hid (hk.rb RR1.out hne)
 have B3 := Lib.hid (hk.bel _ _ B2.out (by omega) (by have := B2.out.size; have := HRr.out; omega))
 have H2 := Lib.hid (And.intro (And.intro hs2 ho2) (And.intro hs2' ho2'))
 have hcl := hk.cl
 have kc : w2.cell? ⟨s, 0, none⟩ = some (.int .i64 f) := by rw [Blk.cell hcl 0]; rfl
 have ltc := Blk.lt hcl
 clear hk hs2 ho2 hs2' ho2' hcl RR1 B2 CL HT
 go_wp2
 generalize hW : World.alloc (World.alloc w2 _) _ = V2
 obtain ⟨hb4, bn, bd⟩ := two_boxes g2 g2' A2 A2' n2 c2 n2' c2' xs2 ys2 w2 V2 H2.out.1.1 H2.out.2.1 hW
 have RR3 := Lib.hid (RR2.out.on hb4)
 have B4 := Lib.hid (below_chain B3.out (by have := B3.out.size; have := HRr.out; omega) hb4)
 have kc' : V2.cell? ⟨s, 0, none⟩ = some (.int .i64 f) := by rw [<- kc]; exact hb4.cell ltc
 clear hW hb4 RR2 B3 kc ltc bn bd
 have f0 := RR3.out.f 0
 have f1 := RR3.out.f 1
 have f2 := RR3.out.f 2
 have f3 := RR3.out.f 3
 have q0 := RR3.out.c0
 have q1 := RR3.out.c1
 have q2 := RR3.out.c2
 have q3 := RR3.out.c3
 simp only [RVal.nil] at q0 q1 q2 q3
 go_region
 go_wp2
 generalize hU : World.drew (World.setCell (World.setCell (World.setCell (World.setCell V2 _ _) _ _) _ _) _ _) = U
 have RU' := (Rb.drew (Rb.put RR3.out (RVal.nil_in V2)))
 have RU : Rb U (r + 1 + 1) RVal.nil := by rw [<- hU]; exact RU'
 have HU : Below w.heap.size w U := by rw [<- hU, HRr.out]; exact (Below.drew (below_put4 B4.out (show r <= r + 1 + 1 by omega) _ _ _ _))
 have j0 := RU.c0
 have j1 := RU.c1
 have j2 := RU.c2
 have j3 := RU.c3
 refine bodyPost_ret (v := .tuple #[.agg #[.bool RVal.nil.g, .slice RVal.nil.A RVal.nil.n RVal.nil.c, .bool RVal.nil.gd, .slice RVal.nil.Ad RVal.nil.nd RVal.nil.cd], .int .i64 f]) (by simp [results, Tryz.results85, go_sem, j0, j1, j2, j3]) rfl ?_
 exact RetR.of RU rfl rfl HU
theorem combine_Div_ok (q q' : RVal) (w : World) (h : q.In w) (h' : q'.In w) (ca cb : Nat) (z zd N D E : Int) (e1 : (rv q.o q.od).isSome = true) (e2 : (rv q'.o q'.od).isSome = true) (HT : Hid (∀ (W : World) (p : Nat), Below w.heap.size w W -> w.heap.size <= p -> Blk W p 115 #[.int .i64 0] -> Calls Tryz.prog 194 #[.pointer (some ⟨p, 0, none⟩), .pointer (some ⟨ca, 0, none⟩), .pointer (some ⟨cb, 0, none⟩)] W (RetT z zd 0 p W))) (hN : mkN (some z) (some zd) = N) (hD : mkD (some z) (some zd) = D) (hE : mkE (some z) (some zd) = E) :
 Calls Tryz.prog 85 #[.agg #[.bool q.g, .slice q.A q.n q.c, .bool q.gd, .slice q.Ad q.nd q.cd], .agg #[.bool q'.g, .slice q'.A q'.n q'.c, .bool q'.gd, .slice q'.Ad q'.nd q'.cd], .func (.func 194) #[] #[.pointer (some ⟨ca, 0, none⟩), .pointer (some ⟨cb, 0, none⟩)]] w (RetR N D E w) := by
 have HE := Lib.hid (And.intro e1 e2)
 clear e1 e2
 have HND := Lib.hid (And.intro hN (And.intro hD hE))
 clear hN hD hE
 have HS := Lib.hid (And.intro h h')
 clear h h'
 go_enter Tryz.func85, Tryz.ntmps85
 go_wp2_with fail
 generalize hW : World.alloc (World.alloc (World.alloc (World.alloc w _) _) _) _ = V
 obtain ⟨hb, ra, rb, rr, ar⟩ := four_blocks q q' w V HS.out.1 HS.out.2 hW
 have HB := Lib.hid hb
 clear hW hb
 generalize hr : w.heap.size = r at *
 have HRr := Lib.hid hr
 clear hr
 have C := allValid_two q q' (r + 1 + 1 + 1) true true V ra.sl rb.sl ar HE.out.1 HE.out.2
 refine C.mono ?_
 clear C ar
 rintro e w1 ⟨rfl, hb1⟩
 have B1 := Lib.hid (below_chain HB.out (by have := HB.out.size; have := HRr.out; omega) hb1)
 have RA := Lib.hid (ra.on hb1)
 have RB := Lib.hid (rb.on hb1)
 have RR := Lib.hid (rr.on hb1)
 clear hb1 ra rb rr
 go_wp2_with fail
 generalize hW : World.alloc w1 _ = V1
 have hn := below_new w1 (.cells #[.int .i64 0] 115)
 have hcl := Blk.new w1 115 #[.int .i64 0]
 rw [hW] at hn hcl
 have B2 := Lib.hid (below_chain B1.out (by have := B1.out.size; have := HRr.out; omega) hn)
 have RR1 := Lib.hid (RR.out.on hn)
 have CL := Lib.hid hcl
 have hs8 : r + 1 + 1 < w1.heap.size := RR.out.lt
 clear hn hcl hW RR RA RB B1
 generalize w1.heap.size = s at *
 refine (HT.out V1 s B2.out (by omega) CL.out).mono ?_
 rintro e w2 ⟨g2, A2, n2, c2, xs2, g2', A2', n2', c2', ys2, rfl, hs2, ho2, hs2', ho2', hk⟩
 have hne : r + 1 + 1 ≠ s := by omega
 have RR2 := Lib.hid (hk.rb RR1.out hne)
 have B3 := Lib.hid (hk.bel _ _ B2.out (by omega) (by have := B2.out.size; have := HRr.out; omega))
 have H2 := Lib.hid (And.intro (And.intro hs2 ho2) (And.intro hs2' ho2'))
 have hcl := hk.cl
 have kc : w2.cell? ⟨s, 0, none⟩ = some (.int .i64 0) := by rw [Blk.cell hcl 0]; rfl
 have ltc := Blk.lt hcl
 clear hk hs2 ho2 hs2' ho2' hcl RR1 B2 CL HT
 go_wp2_with fail
 generalize hW : World.alloc (World.alloc w2 _) _ = V2
 obtain ⟨hb4, bn, bd⟩ := two_boxes g2 g2' A2 A2' n2 c2 n2' c2' xs2 ys2 w2 V2 H2.out.1.1 H2.out.2.1 hW
 have RR3 := Lib.hid (RR2.out.on hb4)
 have B4 := Lib.hid (below_chain B3.out (by have := B3.out.size; have := HRr.out; omega) hb4)
 clear hW hb4 RR2 B3 kc ltc
 have C := make_ov (neg := g2) (neg' := g2') bn.sl bd.sl
 rw [H2.out.1.2, H2.out.2.2, HND.out.1, HND.out.2.1, HND.out.2.2] at C
 refine C.mono ?_
 clear C
 rintro e w3 ⟨t, rfl, hq, ho, hod, hb5⟩
 have R3 := Lib.hid (RR3.out.on hb5)
 have B5 := Lib.hid (below_chain B4.out (by have := B4.out.size; have := HRr.out; omega) hb5)
 have HQ := Lib.hid (And.intro hq (And.intro ho hod))
 clear hq ho hod hb5 RR3 B4 bn bd H2
 have f0 := R3.out.f 0
 have f1 := R3.out.f 1
 have f2 := R3.out.f 2
 have f3 := R3.out.f 3
 have q0 := R3.out.c0
 have q1 := R3.out.c1
 have q2 := R3.out.c2
 have q3 := R3.out.c3
 simp only [RVal.nil] at q0 q1 q2 q3
 go_wp2
 generalize hU : World.setCell (World.setCell (World.setCell (World.setCell w3 _ _) _ _) _ _) _ _ = U
 have RU' := (Rb.put R3.out HQ.out.1)
 have RU : Rb U (r + 1 + 1) t := by rw [<- hU]; exact RU'
 have HU : Below w.heap.size w U := by rw [<- hU, HRr.out]; exact (below_put4 B5.out (show r <= r + 1 + 1 by omega) _ _ _ _)
 have j0 := RU.c0
 have j1 := RU.c1
 have j2 := RU.c2
 have j3 := RU.c3
 refine bodyPost_ret (v := .tuple #[.agg #[.bool t.g, .slice t.A t.n t.c, .bool t.gd, .slice t.Ad t.nd t.cd], .int .i64 E]) (by simp [results, Tryz.results85, go_sem, j0, j1, j2, j3]) rfl ?_
 exact RetR.of RU HQ.out.2.1 HQ.out.2.2 HU
theorem combine_Div_no (q q' : RVal) (w : World) (h : q.In w) (h' : q'.In w) (ca cb : Nat) (z zd f : Int) (e1 : (rv q.o q.od).isSome = true) (e2 : (rv q'.o q'.od).isSome = true) (HT : Hid (∀ (W : World) (p : Nat), Below w.heap.size w W -> w.heap.size <= p -> Blk W p 115 #[.int .i64 0] -> Calls Tryz.prog 194 #[.pointer (some ⟨p, 0, none⟩), .pointer (some ⟨ca, 0, none⟩), .pointer (some ⟨cb, 0, none⟩)] W (RetT z zd f p W))) (hf : f ≠ 0) :
 Calls Tryz.prog 85 #[.agg #[.bool q.g, .slice q.A q.n q.c, .bool q.gd, .slice q.Ad q.nd q.cd], .agg #[.bool q'.g, .slice q'.A q'.n q'.c, .bool q'.gd, .slice q'.Ad q'.nd q'.cd], .func (.func 194) #[] #[.pointer (some ⟨ca, 0, none⟩), .pointer (some ⟨cb, 0, none⟩)]] w (RetR 0 0 f w) := by
 have HE := Lib.hid (And.intro e1 e2)
 clear e1 e2
 have hf1 : (f != 0) = true := by simpa using hf
 clear hf
 have HS := Lib.hid (And.intro h h')
 clear h h'
 go_enter Tryz.func85, Tryz.ntmps85
 go_wp2_with fail
 generalize hW : World.alloc (World.alloc (World.alloc (World.alloc w _) _) _) _ = V
 obtain ⟨hb, ra, rb, rr, ar⟩ := four_blocks q q' w V HS.out.1 HS.out.2 hW
 have HB := Lib.hid hb
 clear hW hb
 generalize hr : w.heap.size = r at *
 have HRr := Lib.hid hr
 clear hr
 have C := allValid_two q q' (r + 1 + 1 + 1) true true V ra.sl rb.sl ar HE.out.1 HE.out.2
 refine C.mono ?_
 clear C ar
 rintro e w1 ⟨rfl, hb1⟩
 have B1 := Lib.hid (below_chain HB.out (by have := HB.out.size; have := HRr.out; omega) hb1)
 have RA := Lib.hid (ra.on hb1)
 have RB := Lib.hid (rb.on hb1)
 have RR := Lib.hid (rr.on hb1)
 clear hb1 ra rb rr
 go_wp2_with fail
 generalize hW : World.alloc w1 _ = V1
 have hn := below_new w1 (.cells #[.int .i64 0] 115)
 have hcl := Blk.new w1 115 #[.int .i64 0]
 rw [hW] at hn hcl
 have B2 := Lib.hid (below_chain B1.out (by have := B1.out.size; have := HRr.out; omega) hn)
 have RR1 := Lib.hid (RR.out.on hn)
 have CL := Lib.hid hcl
 have hs8 : r + 1 + 1 < w1.heap.size := RR.out.lt
 clear hn hcl hW RR RA RB B1
 generalize w1.heap.size = s at *
 refine (HT.out V1 s B2.out (by omega) CL.out).mono ?_
 rintro e w2 ⟨g2, A2, n2, c2, xs2, g2', A2', n2', c2', ys2, rfl, hs2, ho2, hs2', ho2', hk⟩
 have hne : r + 1 + 1 ≠ s := by omega
 have RR2 := Lib.hid (hk.rb RR1.out hne)
 have B3 := Lib.hid (hk.bel _ _ B2.out (by omega) (by have := B2.out.size; have := HRr.out; omega))
 have H2 := Lib.hid (And.intro (And.intro hs2 ho2) (And.intro hs2' ho2'))
 have hcl := hk.cl
 have kc : w2.cell? ⟨s, 0, none⟩ = some (.int .i64 f) := by rw [Blk.cell hcl 0]; rfl
 have ltc := Blk.lt hcl
 clear hk hs2 ho2 hs2' ho2' hcl RR1 B2 CL HT
 go_wp2
 generalize hW : World.alloc (World.alloc w2 _) _ = V2
 obtain ⟨hb4, bn, bd⟩ := two_boxes g2 g2' A2 A2' n2 c2 n2' c2' xs2 ys2 w2 V2 H2.out.1.1 H2.out.2.1 hW
 have RR3 := Lib.hid (RR2.out.on hb4)
 have B4 := Lib.hid (below_chain B3.out (by have := B3.out.size; have := HRr.out; omega) hb4)
 have kc' : V2.cell? ⟨s, 0, none⟩ = some (.int .i64 f) := by rw [<- kc]; exact hb4.cell ltc
 clear hW hb4 RR2 B3 kc ltc bn bd
 have f0 := RR3.out.f 0
 have f1 := RR3.out.f 1
 have f2 := RR3.out.f 2
 have f3 := RR3.out.f 3
 have q0 := RR3.out.c0
 have q1 := RR3.out.c1
 have q2 := RR3.out.c2
 have q3 := RR3.out.c3
 simp only [RVal.nil] at q0 q1 q2 q3
 go_region
 go_wp2
 generalize hU : World.drew (World.setCell (World.setCell (World.setCell (World.setCell V2 _ _) _ _) _ _) _ _) = U
 have RU' := (Rb.drew (Rb.put RR3.out (RVal.nil_in V2)))
 have RU : Rb U (r + 1 + 1) RVal.nil := by rw [<- hU]; exact RU'
 have HU : Below w.heap.size w U := by rw [<- hU, HRr.out]; exact (Below.drew (below_put4 B4.out (show r <= r + 1 + 1 by omega) _ _ _ _))
 have j0 := RU.c0
 have j1 := RU.c1
 have j2 := RU.c2
 have j3 := RU.c3
 refine bodyPost_ret (v := .tuple #[.agg #[.bool RVal.nil.g, .slice RVal.nil.A RVal.nil.n RVal.nil.c, .bool RVal.nil.gd, .slice RVal.nil.Ad RVal.nil.nd RVal.nil.cd], .int .i64 f]) (by simp [results, Tryz.results85, go_sem, j0, j1, j2, j3]) rfl ?_
 exact RetR.of RU rfl rfl HU
end Go.Proofs.YtmncfbfepdbioaaGreatDoor
namespace Go.Proofs.YtmncfbfepdbioaaGreatDoor
open Go.RowKit
def kp (f e : Int) : Int := if f = 0 then e else f
theorem kp_or (f e : Int) : Kf f e (kp f e) := by
 unfold Kf kp
 by_cases h : f = 0
 . exact Or.inl ⟨h, if_pos h⟩
 . exact Or.inr ⟨h, if_neg h⟩
def Lez (a b : Nat) : Prop := a <= b
theorem ne_box {a b c p : Nat} (h : p < a) (k : a <= b) (m : Lez b c) : c ≠ p := by unfold Lez at m; omega
theorem Kp.bx {w w' : World} {p r n c : Nat} {f : Int} {g : Bool} {A : Option Addr} (h : Kp w w' p f) (b : Bx w r g A n c) (hne : r ≠ p) : Bx w' r g A n c := h.blk _ _ _ hne b
theorem Bx.kp {w w' : World} {p r n c a b : Nat} {f : Int} {g : Bool} {A : Option Addr} (x : Bx w r g A n c) (h : Kp w w' p f) (k : p < a) (l : a <= b) (m : Hid (Lez b r)) : Bx w' r g A n c := h.blk _ _ _ (ne_box k l m.out) x
theorem Kp.drew {w w' : World} {p : Nat} {f : Int} (h : Kp w w' p f) : Kp w w'.drew p f := ⟨fun A n c xs s => (h.sl A n c xs s).drew, h.blk, h.cl, fun B a b h1 h2 => (h.bel B a b h1 h2).drew, h.size⟩
def Mid (w : World) (p : Nat) (z f : Int) (s : Value) (wx : World) : Prop := ∃ (r : Nat) (g : Bool) (A : Option Addr) (n c : Nat) (xs : List Nat), s = .pointer (some ⟨r, 0, none⟩) /\ Ba wx r g A n c xs /\ ov g xs = some z /\ Kp w wx p f /\ w.heap.size <= r
theorem mid_old {w : World} {p : Nat} {z f : Int} {v : World} {r n c : Nat} {g : Bool} {A : Option Addr} {xs : List Nat} (bn : Bx v r false none 0 0) (K : Kp w v p f) (hp : p < w.heap.size) (hr : w.heap.size <= r) (hs : Sl v v.heap.size A n c xs) (ho : ov g xs = some z) :
 Mid w p z f (.pointer (some ⟨r, 0, none⟩)) ((v.setCell ⟨r, 0, none⟩ (.bool g)).setCell ⟨r, 1, none⟩ (.slice A n c)) := by
 have nb : Ba v r false none 0 0 [] := ⟨bn, Sl.nil _ _⟩
 exact ⟨r, g, A, n, c, xs, rfl, nb.stored hs _, ho, K.ret bn hr hp _ _, hr⟩
theorem mid_new {w : World} {p : Nat} {z f : Int} {v : World} {n c : Nat} {g : Bool} {A : Option Addr} {xs : List Nat} (K : Kp w v p f) (hs : Sl v v.heap.size A n c xs) (ho : ov g xs = some z) :
 Mid w p z f (.pointer (some ⟨v.heap.size, 0, none⟩)) (v.alloc (.cells #[.bool g, .slice A n c] 25)) :=
 ⟨v.heap.size, g, A, n, c, xs, rfl, ⟨Bx.new _ _ _ _ _, hs.on (below_new _ _)⟩, ho, K.alloc _, K.size⟩
theorem clo_Mul (q q' : RVal) (ca cb p : Nat) (an ad bn bd z1 z2 f1 f2 : Int) (w : World) (ha : Rb w ca q) (hb : Rb w cb q') (hp : Blk w p 115 #[.int .i64 0]) (o1 : q.o = some an) (o2 : q.od = some ad) (o3 : q'.o = some bn) (o4 : q'.od = some bd)
 (h1 : fitZ (an * bn) = z1) (h2 : fitZ (ad * bd) = z2) (k1 : Kf 0 (fitE (an * bn)) f1) (k2 : Kf f1 (fitE (ad * bd)) f2) :
 Calls Tryz.prog 89 #[.pointer (some ⟨p, 0, none⟩), .pointer (some ⟨ca, 0, none⟩), .pointer (some ⟨cb, 0, none⟩)] w (RetT z1 z2 f2 p w) := by
 have HZ := Lib.hid (And.intro h1 h2)
 have HF := Lib.hid (And.intro k1 k2)
 clear h1 h2 k1 k2
 have HO := Lib.hid (And.intro (And.intro o1 o2) (And.intro o3 o4))
 have na : ca ≠ p := fun e => Blk.ne_ ha.bx hp (by decide) e
 have nb : cb ≠ p := fun e => Blk.ne_ hb.bx hp (by decide) e
 have hlt := Blk.lt hp
 have la := ha.lt
 have lb := hb.lt
 have H0 := Lib.hid (And.intro ha (And.intro hb hp))
 clear o1 o2 o3 o4 ha hb hp
 go_enter Tryz.func89, Tryz.ntmps89
 go_upto_region 1 with fail
 generalize hW : World.alloc (World.alloc w _) _ = V
 obtain ⟨hbV, r1, r2⟩ := two_boxes false false none none 0 0 0 0 [] [] w V (Sl.nil _ _) (Sl.nil _ _) hW
 generalize hr : w.heap.size = r at *
 have HRr := Lib.hid hr
 clear hr
 have HV := Lib.hid (And.intro hbV (And.intro r1 r2))
 have HA := Lib.hid (And.intro (H0.out.1.on (HRr.out ▸ hbV)) (And.intro na (And.intro (H0.out.2.1.on (HRr.out ▸ hbV)) nb)))
 have KW : Hid (Kp w V p 0) := Lib.hid (Kp.below (HRr.out ▸ hbV) H0.out.2.2)
 have K0 : Hid (Kp V V p 0) := Lib.hid (Kp.below (Below.refl _ _) KW.out.cl)
 have hsz : r <= V.heap.size := by have := hbV.size; have := HRr.out; omega
 have lr := r2.bx.lt
 clear hbV r1 r2 hW na nb
 have p0 := (K0.out.rb HA.out.1 HA.out.2.1).c0
 have p1 := (K0.out.rb HA.out.1 HA.out.2.1).c1
 have p2 := (K0.out.rb HA.out.1 HA.out.2.1).c2
 have p3 := (K0.out.rb HA.out.1 HA.out.2.1).c3
 have p4 := (K0.out.rb HA.out.2.2.1 HA.out.2.2.2).c0
 have p5 := (K0.out.rb HA.out.2.2.1 HA.out.2.2.2).c1
 have p6 := (K0.out.rb HA.out.2.2.1 HA.out.2.2.2).c2
 have p7 := (K0.out.rb HA.out.2.2.1 HA.out.2.2.2).c3
 go_region_held3 (fun w' => w'.cell? ⟨ca, 0, none⟩ = some (.bool q.g) /\ w'.cell? ⟨ca, 1, none⟩ = some (.slice q.A q.n q.c) /\ w'.cell? ⟨ca, 2, none⟩ = some (.bool q.gd) /\ w'.cell? ⟨ca, 3, none⟩ = some (.slice q.Ad q.nd q.cd) /\ w'.cell? ⟨cb, 0, none⟩ = some (.bool q'.g) /\ w'.cell? ⟨cb, 1, none⟩ = some (.slice q'.A q'.n q'.c) /\ w'.cell? ⟨cb, 2, none⟩ = some (.bool q'.gd) /\ w'.cell? ⟨cb, 3, none⟩ = some (.slice q'.Ad q'.nd q'.cd)) (go_keep)
  (first
   | (go_at_call 88
      have K := K1.out
      have C := cmul_any q.gd q'.gd q.Ad q'.Ad q.nd q.cd q'.nd q'.cd p q.ys q'.ys ad bd f1 f2 v1 (K.sl _ _ _ _ HA.out.1.sl.2) (K.sl _ _ _ _ HA.out.2.2.1.sl.2) HO.out.1.2 HO.out.2.2 K.cl HF.out.2
      rw [HZ.out.2] at C
      (with_reducible refine C.mono ?_)
      clear C
      rintro e v2 ⟨g2, A2, n2, c2, xs2, rfl, hs2, ho2, hk2⟩
      have K2 := Lib.hid (K.trans hk2)
      have G2 := Lib.hid (And.intro (hk2.sl _ _ _ _ G1.out.1) (And.intro hs2 ho2))
      clear K hk2 hs2 ho2 t0 t1 t2 t3 t4 t5 t6 t7
      have u0 := (K2.out.rb HA.out.1 HA.out.2.1).c0
      have u1 := (K2.out.rb HA.out.1 HA.out.2.1).c1
      have u2 := (K2.out.rb HA.out.1 HA.out.2.1).c2
      have u3 := (K2.out.rb HA.out.1 HA.out.2.1).c3
      have u4 := (K2.out.rb HA.out.2.2.1 HA.out.2.2.2).c0
      have u5 := (K2.out.rb HA.out.2.2.1 HA.out.2.2.2).c1
      have u6 := (K2.out.rb HA.out.2.2.1 HA.out.2.2.2).c2
      have u7 := (K2.out.rb HA.out.2.2.1 HA.out.2.2.2).c3
      have B1 : Bx _ r false none 0 0 := K2.out.blk _ _ _ (show r ≠ p by have := hlt; have := HRr.out; omega) HV.out.2.1.bx
      have B2 : Bx _ (r + 1) false none 0 0 := K2.out.blk _ _ _ (show r + 1 ≠ p by have := hlt; have := HRr.out; omega) HV.out.2.2.bx
      have m0 := B1.c0
      have m1 := B1.c1
      have m2 := B1.f 0
      have m3 := B1.f 1
      have m4 := B2.c0
      have m5 := B2.c1
      have m6 := B2.f 0
      have m7 := B2.f 1
      have me1 : r ≠ r + 1 := by omega
      have me2 : r + 1 ≠ r := by omega
      have ma1 : r ≠ ca := by omega
      have ma2 : ca ≠ r := by omega
      have ma3 : r + 1 ≠ ca := by omega
      have ma4 : ca ≠ r + 1 := by omega
      have mb1 : r ≠ cb := by omega
      have mb2 : cb ≠ r := by omega
      have mb3 : r + 1 ≠ cb := by omega
      have mb4 : cb ≠ r + 1 := by omega
      have BB := Lib.hid (And.intro B1 B2)
      clear B1 B2
      )
   | (go_at_call 88
      have K := K0.out.drew
      have C := cmul_any q.g q'.g q.A q'.A q.n q.c q'.n q'.c p q.xs q'.xs an bn 0 f1 V.drew (K.sl _ _ _ _ HA.out.1.sl.1) (K.sl _ _ _ _ HA.out.2.2.1.sl.1) HO.out.1.1 HO.out.2.1 K.cl HF.out.1
      rw [HZ.out.1] at C
      (with_reducible refine C.mono ?_)
      clear C
      rintro e v1 ⟨g1, A1, n1, c1, xs1, rfl, hs1, ho1, hk1⟩
      have K1 := Lib.hid (K.trans hk1)
      have G1 := Lib.hid (And.intro hs1 ho1)
      clear K hk1 hs1 ho1 p0 p1 p2 p3 p4 p5 p6 p7
      have t0 := (K1.out.rb HA.out.1 HA.out.2.1).c0
      have t1 := (K1.out.rb HA.out.1 HA.out.2.1).c1
      have t2 := (K1.out.rb HA.out.1 HA.out.2.1).c2
      have t3 := (K1.out.rb HA.out.1 HA.out.2.1).c3
      have t4 := (K1.out.rb HA.out.2.2.1 HA.out.2.2.2).c0
      have t5 := (K1.out.rb HA.out.2.2.1 HA.out.2.2.2).c1
      have t6 := (K1.out.rb HA.out.2.2.1 HA.out.2.2.2).c2
      have t7 := (K1.out.rb HA.out.2.2.1 HA.out.2.2.2).c3
      ))
 go_wp2
 generalize hU : World.setCell (World.setCell (World.setCell (World.setCell v2 _ _) _ _) _ _) _ _ = U
 have X1 : Ba v2 r false none 0 0 [] := ⟨BB.out.1, Sl.nil _ _⟩
 have X2 : Ba v2 (r + 1) false none 0 0 [] := ⟨BB.out.2, Sl.nil _ _⟩
 have Y1 := X1.stored G2.out.1 g1
 have Y2 := X2.aside X1 me2 g1 (.slice A1 n1 c1)
 have Z2 := Y2.stored (G2.out.2.1.ret X1.bx g1 (.slice A1 n1 c1)) g2
 have Z1 := Y1.aside Y2 me1 g2 (.slice A2 n2 c2)
 have KU : Kp w U p f2 := by
  rw [<- hU]
  exact ((KW.out.trans K2.out).ret BB.out.1 (Nat.le_of_eq HRr.out) (by rw [HRr.out]; exact hlt) _ _).ret Y2.bx (by rw [HRr.out]; omega) (by rw [HRr.out]; exact hlt) _ _
 rw [hU] at Z1 Z2
 have j0 := Z1.bx.c0
 have j1 := Z1.bx.c1
 have j2 := Z2.bx.c0
 have j3 := Z2.bx.c1
 refine bodyPost_ret (v := .tuple #[.agg #[.bool g1, .slice A1 n1 c1], .agg #[.bool g2, .slice A2 n2 c2]]) (by simp [results, Tryz.results89, go_sem, j0, j1, j2, j3]) rfl ?_
 exact ⟨g1, A1, n1, c1, xs1, g2, A2, n2, c2, xs2, rfl, Z1.sl, G1.out.2, Z2.sl, G2.out.2.2, KU⟩
theorem clo_Div (q q' : RVal) (ca cb p : Nat) (an ad bn bd z1 z2 f1 f2 : Int) (w : World) (ha : Rb w ca q) (hb : Rb w cb q') (hp : Blk w p 115 #[.int .i64 0]) (o1 : q.o = some an) (o2 : q.od = some ad) (o3 : q'.o = some bn) (o4 : q'.od = some bd)
 (h1 : fitZ (an * bd) = z1) (h2 : fitZ (ad * bn) = z2) (k1 : Kf 0 (fitE (an * bd)) f1) (k2 : Kf f1 (fitE (ad * bn)) f2) :
 Calls Tryz.prog 194 #[.pointer (some ⟨p, 0, none⟩), .pointer (some ⟨ca, 0, none⟩), .pointer (some ⟨cb, 0, none⟩)] w (RetT z1 z2 f2 p w) := by
 have HZ := Lib.hid (And.intro h1 h2)
 have HF := Lib.hid (And.intro k1 k2)
 clear h1 h2 k1 k2
 have HO := Lib.hid (And.intro (And.intro o1 o2) (And.intro o3 o4))
 have na : ca ≠ p := fun e => Blk.ne_ ha.bx hp (by decide) e
 have nb : cb ≠ p := fun e => Blk.ne_ hb.bx hp (by decide) e
 have hlt := Blk.lt hp
 have la := ha.lt
 have lb := hb.lt
 have H0 := Lib.hid (And.intro ha (And.intro hb hp))
 clear o1 o2 o3 o4 ha hb hp
 go_enter Tryz.func194, Tryz.ntmps194
 go_upto_region 1 with fail
 generalize hW : World.alloc (World.alloc w _) _ = V
 obtain ⟨hbV, r1, r2⟩ := two_boxes false false none none 0 0 0 0 [] [] w V (Sl.nil _ _) (Sl.nil _ _) hW
 generalize hr : w.heap.size = r at *
 have HRr := Lib.hid hr
 clear hr
 have HV := Lib.hid (And.intro hbV (And.intro r1 r2))
 have HA := Lib.hid (And.intro (H0.out.1.on (HRr.out ▸ hbV)) (And.intro na (And.intro (H0.out.2.1.on (HRr.out ▸ hbV)) nb)))
 have KW : Hid (Kp w V p 0) := Lib.hid (Kp.below (HRr.out ▸ hbV) H0.out.2.2)
 have K0 : Hid (Kp V V p 0) := Lib.hid (Kp.below (Below.refl _ _) KW.out.cl)
 have hsz : r <= V.heap.size := by have := hbV.size; have := HRr.out; omega
 have lr := r2.bx.lt
 clear hbV r1 r2 hW na nb
 have p0 := (K0.out.rb HA.out.1 HA.out.2.1).c0
 have p1 := (K0.out.rb HA.out.1 HA.out.2.1).c1
 have p2 := (K0.out.rb HA.out.1 HA.out.2.1).c2
 have p3 := (K0.out.rb HA.out.1 HA.out.2.1).c3
 have p4 := (K0.out.rb HA.out.2.2.1 HA.out.2.2.2).c0
 have p5 := (K0.out.rb HA.out.2.2.1 HA.out.2.2.2).c1
 have p6 := (K0.out.rb HA.out.2.2.1 HA.out.2.2.2).c2
 have p7 := (K0.out.rb HA.out.2.2.1 HA.out.2.2.2).c3
 go_region_held3 (fun w' => w'.cell? ⟨ca, 0, none⟩ = some (.bool q.g) /\ w'.cell? ⟨ca, 1, none⟩ = some (.slice q.A q.n q.c) /\ w'.cell? ⟨ca, 2, none⟩ = some (.bool q.gd) /\ w'.cell? ⟨ca, 3, none⟩ = some (.slice q.Ad q.nd q.cd) /\ w'.cell? ⟨cb, 0, none⟩ = some (.bool q'.g) /\ w'.cell? ⟨cb, 1, none⟩ = some (.slice q'.A q'.n q'.c) /\ w'.cell? ⟨cb, 2, none⟩ = some (.bool q'.gd) /\ w'.cell? ⟨cb, 3, none⟩ = some (.slice q'.Ad q'.nd q'.cd)) (go_keep)
  (first
   | (go_at_call 88
      have K := K1.out
      have C := cmul_any q.gd q'.g q.Ad q'.A q.nd q.cd q'.n q'.c p q.ys q'.xs ad bn f1 f2 v1 (K.sl _ _ _ _ HA.out.1.sl.2) (K.sl _ _ _ _ HA.out.2.2.1.sl.1) HO.out.1.2 HO.out.2.1 K.cl HF.out.2
      rw [HZ.out.2] at C
      (with_reducible refine C.mono ?_)
      clear C
      rintro e v2 ⟨g2, A2, n2, c2, xs2, rfl, hs2, ho2, hk2⟩
      have K2 := Lib.hid (K.trans hk2)
      have G2 := Lib.hid (And.intro (hk2.sl _ _ _ _ G1.out.1) (And.intro hs2 ho2))
      clear K hk2 hs2 ho2 t0 t1 t2 t3 t4 t5 t6 t7
      have u0 := (K2.out.rb HA.out.1 HA.out.2.1).c0
      have u1 := (K2.out.rb HA.out.1 HA.out.2.1).c1
      have u2 := (K2.out.rb HA.out.1 HA.out.2.1).c2
      have u3 := (K2.out.rb HA.out.1 HA.out.2.1).c3
      have u4 := (K2.out.rb HA.out.2.2.1 HA.out.2.2.2).c0
      have u5 := (K2.out.rb HA.out.2.2.1 HA.out.2.2.2).c1
      have u6 := (K2.out.rb HA.out.2.2.1 HA.out.2.2.2).c2
      have u7 := (K2.out.rb HA.out.2.2.1 HA.out.2.2.2).c3
      have B1 : Bx _ r false none 0 0 := K2.out.blk _ _ _ (show r ≠ p by have := hlt; have := HRr.out; omega) HV.out.2.1.bx
      have B2 : Bx _ (r + 1) false none 0 0 := K2.out.blk _ _ _ (show r + 1 ≠ p by have := hlt; have := HRr.out; omega) HV.out.2.2.bx
      have m0 := B1.c0
      have m1 := B1.c1
      have m2 := B1.f 0
      have m3 := B1.f 1
      have m4 := B2.c0
      have m5 := B2.c1
      have m6 := B2.f 0
      have m7 := B2.f 1
      have me1 : r ≠ r + 1 := by omega
      have me2 : r + 1 ≠ r := by omega
      have ma1 : r ≠ ca := by omega
      have ma2 : ca ≠ r := by omega
      have ma3 : r + 1 ≠ ca := by omega
      have ma4 : ca ≠ r + 1 := by omega
      have mb1 : r ≠ cb := by omega
      have mb2 : cb ≠ r := by omega
      have mb3 : r + 1 ≠ cb := by omega
      have mb4 : cb ≠ r + 1 := by omega
      have BB := Lib.hid (And.intro B1 B2)
      clear B1 B2
      )
   | (go_at_call 88
      have K := K0.out.drew
      have C := cmul_any q.g q'.gd q.A q'.Ad q.n q.c q'.nd q'.cd p q.xs q'.ys an bd 0 f1 V.drew (K.sl _ _ _ _ HA.out.1.sl.1) (K.sl _ _ _ _ HA.out.2.2.1.sl.2) HO.out.1.1 HO.out.2.2 K.cl HF.out.1
      rw [HZ.out.1] at C
      (with_reducible refine C.mono ?_)
      clear C
      rintro e v1 ⟨g1, A1, n1, c1, xs1, rfl, hs1, ho1, hk1⟩
      have K1 := Lib.hid (K.trans hk1)
      have G1 := Lib.hid (And.intro hs1 ho1)
      clear K hk1 hs1 ho1 p0 p1 p2 p3 p4 p5 p6 p7
      have t0 := (K1.out.rb HA.out.1 HA.out.2.1).c0
      have t1 := (K1.out.rb HA.out.1 HA.out.2.1).c1
      have t2 := (K1.out.rb HA.out.1 HA.out.2.1).c2
      have t3 := (K1.out.rb HA.out.1 HA.out.2.1).c3
      have t4 := (K1.out.rb HA.out.2.2.1 HA.out.2.2.2).c0
      have t5 := (K1.out.rb HA.out.2.2.1 HA.out.2.2.2).c1
      have t6 := (K1.out.rb HA.out.2.2.1 HA.out.2.2.2).c2
      have t7 := (K1.out.rb HA.out.2.2.1 HA.out.2.2.2).c3
      ))
 go_wp2
 generalize hU : World.setCell (World.setCell (World.setCell (World.setCell v2 _ _) _ _) _ _) _ _ = U
 have X1 : Ba v2 r false none 0 0 [] := ⟨BB.out.1, Sl.nil _ _⟩
 have X2 : Ba v2 (r + 1) false none 0 0 [] := ⟨BB.out.2, Sl.nil _ _⟩
 have Y1 := X1.stored G2.out.1 g1
 have Y2 := X2.aside X1 me2 g1 (.slice A1 n1 c1)
 have Z2 := Y2.stored (G2.out.2.1.ret X1.bx g1 (.slice A1 n1 c1)) g2
 have Z1 := Y1.aside Y2 me1 g2 (.slice A2 n2 c2)
 have KU : Kp w U p f2 := by
  rw [<- hU]
  exact ((KW.out.trans K2.out).ret BB.out.1 (Nat.le_of_eq HRr.out) (by rw [HRr.out]; exact hlt) _ _).ret Y2.bx (by rw [HRr.out]; omega) (by rw [HRr.out]; exact hlt) _ _
 rw [hU] at Z1 Z2
 have j0 := Z1.bx.c0
 have j1 := Z1.bx.c1
 have j2 := Z2.bx.c0
 have j3 := Z2.bx.c1
 refine bodyPost_ret (v := .tuple #[.agg #[.bool g1, .slice A1 n1 c1], .agg #[.bool g2, .slice A2 n2 c2]]) (by simp [results, Tryz.results194, go_sem, j0, j1, j2, j3]) rfl ?_
 exact ⟨g1, A1, n1, c1, xs1, g2, A2, n2, c2, xs2, rfl, Z1.sl, G1.out.2, Z2.sl, G2.out.2.2, KU⟩
theorem clo_Add (q q' : RVal) (ca cb p : Nat) (an ad bn bd z1 z2 z3 z4 f1 f2 f3 f4 : Int) (w : World) (ha : Rb w ca q) (hb : Rb w cb q') (hp : Blk w p 115 #[.int .i64 0]) (o1 : q.o = some an) (o2 : q.od = some ad) (o3 : q'.o = some bn) (o4 : q'.od = some bd)
 (h1 : fitZ (an * bd) = z1) (h2 : fitZ (bn * ad) = z2) (h3 : fitZ (z1 + z2) = z3) (h4 : fitZ (ad * bd) = z4) (k1 : Kf 0 (fitE (an * bd)) f1) (k2 : Kf f1 (fitE (bn * ad)) f2)
 (k3 : Kf f2 (fitE (z1 + z2)) f3) (k4 : Kf f3 (fitE (ad * bd)) f4) :
 Calls Tryz.prog 86 #[.pointer (some ⟨p, 0, none⟩), .pointer (some ⟨ca, 0, none⟩), .pointer (some ⟨cb, 0, none⟩)] w (RetT z3 z4 f4 p w) := by
 have HZ := Lib.hid (And.intro h1 (And.intro h2 (And.intro h3 h4)))
 have HF := Lib.hid (And.intro k1 (And.intro k2 (And.intro k3 k4)))
 clear h1 h2 h3 h4 k1 k2 k3 k4
 have HO := Lib.hid (And.intro (And.intro o1 o2) (And.intro o3 o4))
 have na : ca ≠ p := fun e => Blk.ne_ ha.bx hp (by decide) e
 have nb : cb ≠ p := fun e => Blk.ne_ hb.bx hp (by decide) e
 have hlt := Blk.lt hp
 have la := ha.lt
 have lb := hb.lt
 have H0 := Lib.hid (And.intro ha (And.intro hb hp))
 clear o1 o2 o3 o4 ha hb hp
 go_enter Tryz.func86, Tryz.ntmps86
 go_upto_region 1 with fail
 generalize hW : World.alloc (World.alloc w _) _ = V
 obtain ⟨hbV, r1, r2⟩ := two_boxes false false none none 0 0 0 0 [] [] w V (Sl.nil _ _) (Sl.nil _ _) hW
 generalize hr : w.heap.size = r at *
 have HRr := Lib.hid hr
 clear hr
 have HV := Lib.hid (And.intro hbV (And.intro r1 r2))
 have HA := Lib.hid (And.intro (H0.out.1.on (HRr.out ▸ hbV)) (And.intro na (And.intro (H0.out.2.1.on (HRr.out ▸ hbV)) nb)))
 have KW : Hid (Kp w V p 0) := Lib.hid (Kp.below (HRr.out ▸ hbV) H0.out.2.2)
 have K0 : Hid (Kp V V p 0) := Lib.hid (Kp.below (Below.refl _ _) KW.out.cl)
 have hsz : r <= V.heap.size := by have := hbV.size; have := HRr.out; omega
 have lr := r2.bx.lt
 clear hbV r1 r2 hW na nb
 have K0d := Lib.hid K0.out.drew
 go_cut [6] (fun s6 wx => Mid V p z3 f3 s6 wx)
 case first =>
  have p0 := (K0.out.rb HA.out.1 HA.out.2.1).c0
  have p1 := (K0.out.rb HA.out.1 HA.out.2.1).c1
  have p2 := (K0.out.rb HA.out.1 HA.out.2.1).c2
  have p3 := (K0.out.rb HA.out.1 HA.out.2.1).c3
  have p4 := (K0.out.rb HA.out.2.2.1 HA.out.2.2.2).c0
  have p5 := (K0.out.rb HA.out.2.2.1 HA.out.2.2.2).c1
  have p6 := (K0.out.rb HA.out.2.2.1 HA.out.2.2.2).c2
  have p7 := (K0.out.rb HA.out.2.2.1 HA.out.2.2.2).c3
  have pw0 := World.new_ne _ _ p0
  have px0 := pw0.symm
  have pw4 := World.new_ne _ _ p4
  have px4 := pw4.symm
  go_region_held3 (fun w' => w'.cell? ⟨ca, 0, none⟩ = some (.bool q.g) /\ w'.cell? ⟨ca, 1, none⟩ = some (.slice q.A q.n q.c) /\ w'.cell? ⟨ca, 2, none⟩ = some (.bool q.gd) /\ w'.cell? ⟨ca, 3, none⟩ = some (.slice q.Ad q.nd q.cd) /\ w'.cell? ⟨cb, 0, none⟩ = some (.bool q'.g) /\ w'.cell? ⟨cb, 1, none⟩ = some (.slice q'.A q'.n q'.c) /\ w'.cell? ⟨cb, 2, none⟩ = some (.bool q'.gd) /\ w'.cell? ⟨cb, 3, none⟩ = some (.slice q'.Ad q'.nd q'.cd)) (go_keep)
   (first
    | (go_at_call 87; (first | (have K := K2.out; have C := cadd_any g1 g2 A1 A2 n1 c1 n2 c2 p xs1 xs2 z1 z2 f2 f3 v2 G1.out.1 G2.out.1 G1.out.2 G2.out.2 K.cl HF.out.2.2.1; rw [HZ.out.2.2.1] at C; (with_reducible refine C.mono ?_); clear C; rintro e v3 ⟨g3, A3, n3, c3, xs3, rfl, hs3, ho3, hk3⟩; (try replace fb := fb.kp hk3 hlt hsz hbl); have K3 := Lib.hid (K.trans hk3); have G3 := Lib.hid (And.intro hs3 ho3); clear K hk3 hs3 ho3) | (have K := (K2.out.alloc (.cells #[.bool false, .slice none 0 0] 25)); have C := cadd_any g1 g2 A1 A2 n1 c1 n2 c2 p xs1 xs2 z1 z2 f2 f3 (v2.alloc (.cells #[.bool false, .slice none 0 0] 25)) (G1.out.1.on (below_new _ _)) (G2.out.1.on (below_new _ _)) G1.out.2 G2.out.2 K.cl HF.out.2.2.1; rw [HZ.out.2.2.1] at C; (with_reducible refine C.mono ?_); clear C; rintro e v3 ⟨g3, A3, n3, c3, xs3, rfl, hs3, ho3, hk3⟩; have fb : Bx v3 v2.heap.size false none 0 0 := hk3.bx (Bx.new v2 false none 0 0) (ne_box hlt hsz K2.out.size); have hbl : Hid (Lez V.heap.size v2.heap.size) := Lib.hid K2.out.size; have K3 := Lib.hid (K.trans hk3); have G3 := Lib.hid (And.intro hs3 ho3); clear K hk3 hs3 ho3)); clear u0 u1 u2 u3 u4 u5 u6 u7; have y0 := (K3.out.rb HA.out.1 HA.out.2.1).c0; have y1 := (K3.out.rb HA.out.1 HA.out.2.1).c1; have y2 := (K3.out.rb HA.out.1 HA.out.2.1).c2; have y3 := (K3.out.rb HA.out.1 HA.out.2.1).c3; have y4 := (K3.out.rb HA.out.2.2.1 HA.out.2.2.2).c0; have y5 := (K3.out.rb HA.out.2.2.1 HA.out.2.2.2).c1; have y6 := (K3.out.rb HA.out.2.2.1 HA.out.2.2.2).c2; have y7 := (K3.out.rb HA.out.2.2.1 HA.out.2.2.2).c3; have yw0 := World.new_ne _ _ y0; have yx0 := yw0.symm; have yw4 := World.new_ne _ _ y4; have yx4 := yw4.symm; (try (have t0 := fb.c0; have t1 := fb.c1; have t2 := fb.f 0; have t3 := fb.f 1; have FB := Lib.hid fb; clear fb)))
    | (go_at_call 88; (first | (have K := K1.out; have C := cmul_any q'.g q.gd q'.A q.Ad q'.n q'.c q.nd q.cd p q'.xs q.ys bn ad f1 f2 v1 (K.sl _ _ _ _ HA.out.2.2.1.sl.1) (K.sl _ _ _ _ HA.out.1.sl.2) HO.out.2.1 HO.out.1.2 K.cl HF.out.2.1; rw [HZ.out.2.1] at C; (with_reducible refine C.mono ?_); clear C; rintro e v2 ⟨g2, A2, n2, c2, xs2, rfl, hs2, ho2, hk2⟩; (try replace fb := fb.kp hk2 hlt hsz hbl); have G1' : Hid (Sl v2 v2.heap.size A1 n1 c1 xs1 /\ ov g1 xs1 = some z1) := Lib.hid ⟨hk2.sl _ _ _ _ G1.out.1, G1.out.2⟩; clear G1; have G1 := G1'; clear G1'; have K2 := Lib.hid (K.trans hk2); have G2 := Lib.hid (And.intro hs2 ho2); clear K hk2 hs2 ho2) | (have K := (K1.out.alloc (.cells #[.bool false, .slice none 0 0] 25)); have C := cmul_any q'.g q.gd q'.A q.Ad q'.n q'.c q.nd q.cd p q'.xs q.ys bn ad f1 f2 (v1.alloc (.cells #[.bool false, .slice none 0 0] 25)) (K.sl _ _ _ _ HA.out.2.2.1.sl.1) (K.sl _ _ _ _ HA.out.1.sl.2) HO.out.2.1 HO.out.1.2 K.cl HF.out.2.1; rw [HZ.out.2.1] at C; (with_reducible refine C.mono ?_); clear C; rintro e v2 ⟨g2, A2, n2, c2, xs2, rfl, hs2, ho2, hk2⟩; have fb : Bx v2 v1.heap.size false none 0 0 := hk2.bx (Bx.new v1 false none 0 0) (ne_box hlt hsz K1.out.size); have hbl : Hid (Lez V.heap.size v1.heap.size) := Lib.hid K1.out.size; have G1' : Hid (Sl v2 v2.heap.size A1 n1 c1 xs1 /\ ov g1 xs1 = some z1) := Lib.hid ⟨hk2.sl _ _ _ _ (G1.out.1.on (below_new _ _)), G1.out.2⟩; clear G1; have G1 := G1'; clear G1'; have K2 := Lib.hid (K.trans hk2); have G2 := Lib.hid (And.intro hs2 ho2); clear K hk2 hs2 ho2)); clear t0 t1 t2 t3 t4 t5 t6 t7; have u0 := (K2.out.rb HA.out.1 HA.out.2.1).c0; have u1 := (K2.out.rb HA.out.1 HA.out.2.1).c1; have u2 := (K2.out.rb HA.out.1 HA.out.2.1).c2; have u3 := (K2.out.rb HA.out.1 HA.out.2.1).c3; have u4 := (K2.out.rb HA.out.2.2.1 HA.out.2.2.2).c0; have u5 := (K2.out.rb HA.out.2.2.1 HA.out.2.2.2).c1; have u6 := (K2.out.rb HA.out.2.2.1 HA.out.2.2.2).c2; have u7 := (K2.out.rb HA.out.2.2.1 HA.out.2.2.2).c3; have uw0 := World.new_ne _ _ u0; have ux0 := uw0.symm; have uw4 := World.new_ne _ _ u4; have ux4 := uw4.symm)
    | (go_at_call 88; (first | (have K := K0d.out; have C := cmul_any q.g q'.gd q.A q'.Ad q.n q.c q'.nd q'.cd p q.xs q'.ys an bd 0 f1 V.drew (K.sl _ _ _ _ HA.out.1.sl.1) (K.sl _ _ _ _ HA.out.2.2.1.sl.2) HO.out.1.1 HO.out.2.2 K.cl HF.out.1; rw [HZ.out.1] at C; (with_reducible refine C.mono ?_); clear C; rintro e v1 ⟨g1, A1, n1, c1, xs1, rfl, hs1, ho1, hk1⟩; have K1 := Lib.hid (K.trans hk1); have G1 := Lib.hid (And.intro hs1 ho1); clear K hk1 hs1 ho1) | (have K := (K0.out.alloc (.cells #[.bool false, .slice none 0 0] 25)).drew; have C := cmul_any q.g q'.gd q.A q'.Ad q.n q.c q'.nd q'.cd p q.xs q'.ys an bd 0 f1 (V.alloc (.cells #[.bool false, .slice none 0 0] 25)).drew (K.sl _ _ _ _ HA.out.1.sl.1) (K.sl _ _ _ _ HA.out.2.2.1.sl.2) HO.out.1.1 HO.out.2.2 K.cl HF.out.1; rw [HZ.out.1] at C; (with_reducible refine C.mono ?_); clear C; rintro e v1 ⟨g1, A1, n1, c1, xs1, rfl, hs1, ho1, hk1⟩; have fb : Bx v1 V.heap.size false none 0 0 := hk1.bx (Bx.new V.drew false none 0 0) (ne_box hlt hsz K0d.out.size); have hbl : Hid (Lez V.heap.size V.heap.size) := Lib.hid K0d.out.size; have K1 := Lib.hid (K.trans hk1); have G1 := Lib.hid (And.intro hs1 ho1); clear K hk1 hs1 ho1)); clear p0 p1 p2 p3 p4 p5 p6 p7; have t0 := (K1.out.rb HA.out.1 HA.out.2.1).c0; have t1 := (K1.out.rb HA.out.1 HA.out.2.1).c1; have t2 := (K1.out.rb HA.out.1 HA.out.2.1).c2; have t3 := (K1.out.rb HA.out.1 HA.out.2.1).c3; have t4 := (K1.out.rb HA.out.2.2.1 HA.out.2.2.2).c0; have t5 := (K1.out.rb HA.out.2.2.1 HA.out.2.2.2).c1; have t6 := (K1.out.rb HA.out.2.2.1 HA.out.2.2.2).c2; have t7 := (K1.out.rb HA.out.2.2.1 HA.out.2.2.2).c3; have tw0 := World.new_ne _ _ t0; have tx0 := tw0.symm; have tw4 := World.new_ne _ _ t4; have tx4 := tw4.symm))
  all_goals (go_wp2_with fail; go_meet; first | exact mid_new K3.out G3.out.1 G3.out.2 | exact mid_old FB.out K3.out (Nat.lt_of_lt_of_le hlt hsz) hbl.out G3.out.1 G3.out.2)
 case rest =>
 obtain ⟨s, g5, A5, n5, c5, xs5, rfl, X5, o5, k5, l5⟩ := hcut
 have K5 := Lib.hid k5
 have G5 := Lib.hid (And.intro X5.sl o5)
 have x0 := X5.bx.c0
 have x1 := X5.bx.c1
 have xr1 : s ≠ r := by omega
 have xr2 : r ≠ s := by omega
 have xr3 : s ≠ r + 1 := by omega
 have xr4 : r + 1 ≠ s := by omega
 have XB := Lib.hid X5.bx
 have xp : s ≠ p := by omega
 clear k5 o5 X5
 have p0 := (K5.out.rb HA.out.1 HA.out.2.1).c0
 have p1 := (K5.out.rb HA.out.1 HA.out.2.1).c1
 have p2 := (K5.out.rb HA.out.1 HA.out.2.1).c2
 have p3 := (K5.out.rb HA.out.1 HA.out.2.1).c3
 have p4 := (K5.out.rb HA.out.2.2.1 HA.out.2.2.2).c0
 have p5 := (K5.out.rb HA.out.2.2.1 HA.out.2.2.2).c1
 have p6 := (K5.out.rb HA.out.2.2.1 HA.out.2.2.2).c2
 have p7 := (K5.out.rb HA.out.2.2.1 HA.out.2.2.2).c3
 go_upto_region 2 with fail
 go_region_held3 (fun w' => w'.cell? ⟨ca, 0, none⟩ = some (.bool q.g) /\ w'.cell? ⟨ca, 1, none⟩ = some (.slice q.A q.n q.c) /\ w'.cell? ⟨ca, 2, none⟩ = some (.bool q.gd) /\ w'.cell? ⟨ca, 3, none⟩ = some (.slice q.Ad q.nd q.cd) /\ w'.cell? ⟨cb, 0, none⟩ = some (.bool q'.g) /\ w'.cell? ⟨cb, 1, none⟩ = some (.slice q'.A q'.n q'.c) /\ w'.cell? ⟨cb, 2, none⟩ = some (.bool q'.gd) /\ w'.cell? ⟨cb, 3, none⟩ = some (.slice q'.Ad q'.nd q'.cd) /\ w'.cell? ⟨s, 0, none⟩ = some (.bool g5) /\ w'.cell? ⟨s, 1, none⟩ = some (.slice A5 n5 c5)) (go_keep)
  (first
   | (go_at_call 88
      have K := K5.out.drew
      have C := cmul_any q.gd q'.gd q.Ad q'.Ad q.nd q.cd q'.nd q'.cd p q.ys q'.ys ad bd f3 f4 wc.drew (K.sl _ _ _ _ HA.out.1.sl.2) (K.sl _ _ _ _ HA.out.2.2.1.sl.2) HO.out.1.2 HO.out.2.2 K.cl HF.out.2.2.2
      rw [HZ.out.2.2.2] at C
      (with_reducible refine C.mono ?_)
      clear C
      rintro e v6 ⟨g6, A6, n6, c6, xs6, rfl, hs6, ho6, hk6⟩
      have X6 : Bx v6 s g5 A5 n5 c5 := hk6.bx XB.out xp
      have K6 := Lib.hid (K.trans hk6)
      have G6 := Lib.hid (And.intro (hk6.sl _ _ _ _ G5.out.1.drew) (And.intro hs6 ho6))
      clear K hk6 hs6 ho6 p0 p1 p2 p3 p4 p5 p6 p7 x0 x1
      have x0 := X6.c0
      have x1 := X6.c1
      clear X6
      have u0 := (K6.out.rb HA.out.1 HA.out.2.1).c0
      have u1 := (K6.out.rb HA.out.1 HA.out.2.1).c1
      have u2 := (K6.out.rb HA.out.1 HA.out.2.1).c2
      have u3 := (K6.out.rb HA.out.1 HA.out.2.1).c3
      have u4 := (K6.out.rb HA.out.2.2.1 HA.out.2.2.2).c0
      have u5 := (K6.out.rb HA.out.2.2.1 HA.out.2.2.2).c1
      have u6 := (K6.out.rb HA.out.2.2.1 HA.out.2.2.2).c2
      have u7 := (K6.out.rb HA.out.2.2.1 HA.out.2.2.2).c3
      have B1 : Bx _ r false none 0 0 := K6.out.blk _ _ _ (show r ≠ p by have := hlt; have := HRr.out; omega) HV.out.2.1.bx
      have B2 : Bx _ (r + 1) false none 0 0 := K6.out.blk _ _ _ (show r + 1 ≠ p by have := hlt; have := HRr.out; omega) HV.out.2.2.bx
      have m0 := B1.c0
      have m1 := B1.c1
      have m2 := B1.f 0
      have m3 := B1.f 1
      have m4 := B2.c0
      have m5 := B2.c1
      have m6 := B2.f 0
      have m7 := B2.f 1
      have me1 : r ≠ r + 1 := by omega
      have me2 : r + 1 ≠ r := by omega
      have ma1 : r ≠ ca := by omega
      have ma2 : ca ≠ r := by omega
      have ma3 : r + 1 ≠ ca := by omega
      have ma4 : ca ≠ r + 1 := by omega
      have mb1 : r ≠ cb := by omega
      have mb2 : cb ≠ r := by omega
      have mb3 : r + 1 ≠ cb := by omega
      have mb4 : cb ≠ r + 1 := by omega
      have BB := Lib.hid (And.intro B1 B2)
      clear B1 B2
      ))
 go_wp2
 generalize hU : World.setCell (World.setCell (World.setCell (World.setCell v6 _ _) _ _) _ _) _ _ = U
 have X1 : Ba v6 r false none 0 0 [] := ⟨BB.out.1, Sl.nil _ _⟩
 have X2 : Ba v6 (r + 1) false none 0 0 [] := ⟨BB.out.2, Sl.nil _ _⟩
 have Y1 := X1.stored G6.out.1 g5
 have Y2 := X2.aside X1 me2 g5 (.slice A5 n5 c5)
 have Z2 := Y2.stored (G6.out.2.1.ret X1.bx g5 (.slice A5 n5 c5)) g6
 have Z1 := Y1.aside Y2 me1 g6 (.slice A6 n6 c6)
 have KU : Kp w U p f4 := by
  rw [<- hU]
  exact ((KW.out.trans K6.out).ret BB.out.1 (Nat.le_of_eq HRr.out) (by rw [HRr.out]; exact hlt) _ _).ret Y2.bx (by rw [HRr.out]; omega) (by rw [HRr.out]; exact hlt) _ _
 rw [hU] at Z1 Z2
 have j0 := Z1.bx.c0
 have j1 := Z1.bx.c1
 have j2 := Z2.bx.c0
 have j3 := Z2.bx.c1
 refine bodyPost_ret (v := .tuple #[.agg #[.bool g5, .slice A5 n5 c5], .agg #[.bool g6, .slice A6 n6 c6]]) (by simp [results, Tryz.results86, go_sem, j0, j1, j2, j3]) rfl ?_
 exact ⟨g5, A5, n5, c5, xs5, g6, A6, n6, c6, xs6, rfl, Z1.sl, G5.out.2, Z2.sl, G6.out.2.2, KU⟩
theorem clo_Sub (q q' : RVal) (ca cb p : Nat) (an ad bn bd z1 z2 z3 z4 f1 f2 f3 f4 : Int) (w : World) (ha : Rb w ca q) (hb : Rb w cb q') (hp : Blk w p 115 #[.int .i64 0]) (o1 : q.o = some an) (o2 : q.od = some ad) (o3 : q'.o = some bn) (o4 : q'.od = some bd)
 (h1 : fitZ (an * bd) = z1) (h2 : fitZ (bn * ad) = z2) (h3 : fitZ (z1 - z2) = z3) (h4 : fitZ (ad * bd) = z4) (k1 : Kf 0 (fitE (an * bd)) f1) (k2 : Kf f1 (fitE (bn * ad)) f2)
 (k3 : Kf f2 (fitE (z1 - z2)) f3) (k4 : Kf f3 (fitE (ad * bd)) f4) :
 Calls Tryz.prog 165 #[.pointer (some ⟨p, 0, none⟩), .pointer (some ⟨ca, 0, none⟩), .pointer (some ⟨cb, 0, none⟩)] w (RetT z3 z4 f4 p w) := by
 have HZ := Lib.hid (And.intro h1 (And.intro h2 (And.intro h3 h4)))
 have HF := Lib.hid (And.intro k1 (And.intro k2 (And.intro k3 k4)))
 clear h1 h2 h3 h4 k1 k2 k3 k4
 have HO := Lib.hid (And.intro (And.intro o1 o2) (And.intro o3 o4))
 have na : ca ≠ p := fun e => Blk.ne_ ha.bx hp (by decide) e
 have nb : cb ≠ p := fun e => Blk.ne_ hb.bx hp (by decide) e
 have hlt := Blk.lt hp
 have la := ha.lt
 have lb := hb.lt
 have H0 := Lib.hid (And.intro ha (And.intro hb hp))
 clear o1 o2 o3 o4 ha hb hp
 go_enter Tryz.func165, Tryz.ntmps165
 go_upto_region 1 with fail
 generalize hW : World.alloc (World.alloc w _) _ = V
 obtain ⟨hbV, r1, r2⟩ := two_boxes false false none none 0 0 0 0 [] [] w V (Sl.nil _ _) (Sl.nil _ _) hW
 generalize hr : w.heap.size = r at *
 have HRr := Lib.hid hr
 clear hr
 have HV := Lib.hid (And.intro hbV (And.intro r1 r2))
 have HA := Lib.hid (And.intro (H0.out.1.on (HRr.out ▸ hbV)) (And.intro na (And.intro (H0.out.2.1.on (HRr.out ▸ hbV)) nb)))
 have KW : Hid (Kp w V p 0) := Lib.hid (Kp.below (HRr.out ▸ hbV) H0.out.2.2)
 have K0 : Hid (Kp V V p 0) := Lib.hid (Kp.below (Below.refl _ _) KW.out.cl)
 have hsz : r <= V.heap.size := by have := hbV.size; have := HRr.out; omega
 have lr := r2.bx.lt
 clear hbV r1 r2 hW na nb
 have K0d := Lib.hid K0.out.drew
 go_cut [6] (fun s6 wx => Mid V p z3 f3 s6 wx)
 case first =>
  have p0 := (K0.out.rb HA.out.1 HA.out.2.1).c0
  have p1 := (K0.out.rb HA.out.1 HA.out.2.1).c1
  have p2 := (K0.out.rb HA.out.1 HA.out.2.1).c2
  have p3 := (K0.out.rb HA.out.1 HA.out.2.1).c3
  have p4 := (K0.out.rb HA.out.2.2.1 HA.out.2.2.2).c0
  have p5 := (K0.out.rb HA.out.2.2.1 HA.out.2.2.2).c1
  have p6 := (K0.out.rb HA.out.2.2.1 HA.out.2.2.2).c2
  have p7 := (K0.out.rb HA.out.2.2.1 HA.out.2.2.2).c3
  have pw0 := World.new_ne _ _ p0
  have px0 := pw0.symm
  have pw4 := World.new_ne _ _ p4
  have px4 := pw4.symm
  go_region_held3 (fun w' => w'.cell? ⟨ca, 0, none⟩ = some (.bool q.g) /\ w'.cell? ⟨ca, 1, none⟩ = some (.slice q.A q.n q.c) /\ w'.cell? ⟨ca, 2, none⟩ = some (.bool q.gd) /\ w'.cell? ⟨ca, 3, none⟩ = some (.slice q.Ad q.nd q.cd) /\ w'.cell? ⟨cb, 0, none⟩ = some (.bool q'.g) /\ w'.cell? ⟨cb, 1, none⟩ = some (.slice q'.A q'.n q'.c) /\ w'.cell? ⟨cb, 2, none⟩ = some (.bool q'.gd) /\ w'.cell? ⟨cb, 3, none⟩ = some (.slice q'.Ad q'.nd q'.cd)) (go_keep)
   (first
    | (go_at_call 166; (first | (have K := K2.out; have C := csub_any g1 g2 A1 A2 n1 c1 n2 c2 p xs1 xs2 z1 z2 f2 f3 v2 G1.out.1 G2.out.1 G1.out.2 G2.out.2 K.cl HF.out.2.2.1; rw [HZ.out.2.2.1] at C; (with_reducible refine C.mono ?_); clear C; rintro e v3 ⟨g3, A3, n3, c3, xs3, rfl, hs3, ho3, hk3⟩; (try replace fb := fb.kp hk3 hlt hsz hbl); have K3 := Lib.hid (K.trans hk3); have G3 := Lib.hid (And.intro hs3 ho3); clear K hk3 hs3 ho3) | (have K := (K2.out.alloc (.cells #[.bool false, .slice none 0 0] 25)); have C := csub_any g1 g2 A1 A2 n1 c1 n2 c2 p xs1 xs2 z1 z2 f2 f3 (v2.alloc (.cells #[.bool false, .slice none 0 0] 25)) (G1.out.1.on (below_new _ _)) (G2.out.1.on (below_new _ _)) G1.out.2 G2.out.2 K.cl HF.out.2.2.1; rw [HZ.out.2.2.1] at C; (with_reducible refine C.mono ?_); clear C; rintro e v3 ⟨g3, A3, n3, c3, xs3, rfl, hs3, ho3, hk3⟩; have fb : Bx v3 v2.heap.size false none 0 0 := hk3.bx (Bx.new v2 false none 0 0) (ne_box hlt hsz K2.out.size); have hbl : Hid (Lez V.heap.size v2.heap.size) := Lib.hid K2.out.size; have K3 := Lib.hid (K.trans hk3); have G3 := Lib.hid (And.intro hs3 ho3); clear K hk3 hs3 ho3)); clear u0 u1 u2 u3 u4 u5 u6 u7; have y0 := (K3.out.rb HA.out.1 HA.out.2.1).c0; have y1 := (K3.out.rb HA.out.1 HA.out.2.1).c1; have y2 := (K3.out.rb HA.out.1 HA.out.2.1).c2; have y3 := (K3.out.rb HA.out.1 HA.out.2.1).c3; have y4 := (K3.out.rb HA.out.2.2.1 HA.out.2.2.2).c0; have y5 := (K3.out.rb HA.out.2.2.1 HA.out.2.2.2).c1; have y6 := (K3.out.rb HA.out.2.2.1 HA.out.2.2.2).c2; have y7 := (K3.out.rb HA.out.2.2.1 HA.out.2.2.2).c3; have yw0 := World.new_ne _ _ y0; have yx0 := yw0.symm; have yw4 := World.new_ne _ _ y4; have yx4 := yw4.symm; (try (have t0 := fb.c0; have t1 := fb.c1; have t2 := fb.f 0; have t3 := fb.f 1; have FB := Lib.hid fb; clear fb)))
    | (go_at_call 88; (first | (have K := K1.out; have C := cmul_any q'.g q.gd q'.A q.Ad q'.n q'.c q.nd q.cd p q'.xs q.ys bn ad f1 f2 v1 (K.sl _ _ _ _ HA.out.2.2.1.sl.1) (K.sl _ _ _ _ HA.out.1.sl.2) HO.out.2.1 HO.out.1.2 K.cl HF.out.2.1; rw [HZ.out.2.1] at C; (with_reducible refine C.mono ?_); clear C; rintro e v2 ⟨g2, A2, n2, c2, xs2, rfl, hs2, ho2, hk2⟩; (try replace fb := fb.kp hk2 hlt hsz hbl); have G1' : Hid (Sl v2 v2.heap.size A1 n1 c1 xs1 /\ ov g1 xs1 = some z1) := Lib.hid ⟨hk2.sl _ _ _ _ G1.out.1, G1.out.2⟩; clear G1; have G1 := G1'; clear G1'; have K2 := Lib.hid (K.trans hk2); have G2 := Lib.hid (And.intro hs2 ho2); clear K hk2 hs2 ho2) | (have K := (K1.out.alloc (.cells #[.bool false, .slice none 0 0] 25)); have C := cmul_any q'.g q.gd q'.A q.Ad q'.n q'.c q.nd q.cd p q'.xs q.ys bn ad f1 f2 (v1.alloc (.cells #[.bool false, .slice none 0 0] 25)) (K.sl _ _ _ _ HA.out.2.2.1.sl.1) (K.sl _ _ _ _ HA.out.1.sl.2) HO.out.2.1 HO.out.1.2 K.cl HF.out.2.1; rw [HZ.out.2.1] at C; (with_reducible refine C.mono ?_); clear C; rintro e v2 ⟨g2, A2, n2, c2, xs2, rfl, hs2, ho2, hk2⟩; have fb : Bx v2 v1.heap.size false none 0 0 := hk2.bx (Bx.new v1 false none 0 0) (ne_box hlt hsz K1.out.size); have hbl : Hid (Lez V.heap.size v1.heap.size) := Lib.hid K1.out.size; have G1' : Hid (Sl v2 v2.heap.size A1 n1 c1 xs1 /\ ov g1 xs1 = some z1) := Lib.hid ⟨hk2.sl _ _ _ _ (G1.out.1.on (below_new _ _)), G1.out.2⟩; clear G1; have G1 := G1'; clear G1'; have K2 := Lib.hid (K.trans hk2); have G2 := Lib.hid (And.intro hs2 ho2); clear K hk2 hs2 ho2)); clear t0 t1 t2 t3 t4 t5 t6 t7; have u0 := (K2.out.rb HA.out.1 HA.out.2.1).c0; have u1 := (K2.out.rb HA.out.1 HA.out.2.1).c1; have u2 := (K2.out.rb HA.out.1 HA.out.2.1).c2; have u3 := (K2.out.rb HA.out.1 HA.out.2.1).c3; have u4 := (K2.out.rb HA.out.2.2.1 HA.out.2.2.2).c0; have u5 := (K2.out.rb HA.out.2.2.1 HA.out.2.2.2).c1; have u6 := (K2.out.rb HA.out.2.2.1 HA.out.2.2.2).c2; have u7 := (K2.out.rb HA.out.2.2.1 HA.out.2.2.2).c3; have uw0 := World.new_ne _ _ u0; have ux0 := uw0.symm; have uw4 := World.new_ne _ _ u4; have ux4 := uw4.symm)
    | (go_at_call 88; (first | (have K := K0d.out; have C := cmul_any q.g q'.gd q.A q'.Ad q.n q.c q'.nd q'.cd p q.xs q'.ys an bd 0 f1 V.drew (K.sl _ _ _ _ HA.out.1.sl.1) (K.sl _ _ _ _ HA.out.2.2.1.sl.2) HO.out.1.1 HO.out.2.2 K.cl HF.out.1; rw [HZ.out.1] at C; (with_reducible refine C.mono ?_); clear C; rintro e v1 ⟨g1, A1, n1, c1, xs1, rfl, hs1, ho1, hk1⟩; have K1 := Lib.hid (K.trans hk1); have G1 := Lib.hid (And.intro hs1 ho1); clear K hk1 hs1 ho1) | (have K := (K0.out.alloc (.cells #[.bool false, .slice none 0 0] 25)).drew; have C := cmul_any q.g q'.gd q.A q'.Ad q.n q.c q'.nd q'.cd p q.xs q'.ys an bd 0 f1 (V.alloc (.cells #[.bool false, .slice none 0 0] 25)).drew (K.sl _ _ _ _ HA.out.1.sl.1) (K.sl _ _ _ _ HA.out.2.2.1.sl.2) HO.out.1.1 HO.out.2.2 K.cl HF.out.1; rw [HZ.out.1] at C; (with_reducible refine C.mono ?_); clear C; rintro e v1 ⟨g1, A1, n1, c1, xs1, rfl, hs1, ho1, hk1⟩; have fb : Bx v1 V.heap.size false none 0 0 := hk1.bx (Bx.new V.drew false none 0 0) (ne_box hlt hsz K0d.out.size); have hbl : Hid (Lez V.heap.size V.heap.size) := Lib.hid K0d.out.size; have K1 := Lib.hid (K.trans hk1); have G1 := Lib.hid (And.intro hs1 ho1); clear K hk1 hs1 ho1)); clear p0 p1 p2 p3 p4 p5 p6 p7; have t0 := (K1.out.rb HA.out.1 HA.out.2.1).c0; have t1 := (K1.out.rb HA.out.1 HA.out.2.1).c1; have t2 := (K1.out.rb HA.out.1 HA.out.2.1).c2; have t3 := (K1.out.rb HA.out.1 HA.out.2.1).c3; have t4 := (K1.out.rb HA.out.2.2.1 HA.out.2.2.2).c0; have t5 := (K1.out.rb HA.out.2.2.1 HA.out.2.2.2).c1; have t6 := (K1.out.rb HA.out.2.2.1 HA.out.2.2.2).c2; have t7 := (K1.out.rb HA.out.2.2.1 HA.out.2.2.2).c3; have tw0 := World.new_ne _ _ t0; have tx0 := tw0.symm; have tw4 := World.new_ne _ _ t4; have tx4 := tw4.symm))
  all_goals (go_wp2_with fail; go_meet; first | exact mid_new K3.out G3.out.1 G3.out.2 | exact mid_old FB.out K3.out (Nat.lt_of_lt_of_le hlt hsz) hbl.out G3.out.1 G3.out.2)
 case rest =>
 obtain ⟨s, g5, A5, n5, c5, xs5, rfl, X5, o5, k5, l5⟩ := hcut
 have K5 := Lib.hid k5
 have G5 := Lib.hid (And.intro X5.sl o5)
 have x0 := X5.bx.c0
 have x1 := X5.bx.c1
 have xr1 : s ≠ r := by omega
 have xr2 : r ≠ s := by omega
 have xr3 : s ≠ r + 1 := by omega
 have xr4 : r + 1 ≠ s := by omega
 have XB := Lib.hid X5.bx
 have xp : s ≠ p := by omega
 clear k5 o5 X5
 have p0 := (K5.out.rb HA.out.1 HA.out.2.1).c0
 have p1 := (K5.out.rb HA.out.1 HA.out.2.1).c1
 have p2 := (K5.out.rb HA.out.1 HA.out.2.1).c2
 have p3 := (K5.out.rb HA.out.1 HA.out.2.1).c3
 have p4 := (K5.out.rb HA.out.2.2.1 HA.out.2.2.2).c0
 have p5 := (K5.out.rb HA.out.2.2.1 HA.out.2.2.2).c1
 have p6 := (K5.out.rb HA.out.2.2.1 HA.out.2.2.2).c2
 have p7 := (K5.out.rb HA.out.2.2.1 HA.out.2.2.2).c3
 go_upto_region 2 with fail
 go_region_held3 (fun w' => w'.cell? ⟨ca, 0, none⟩ = some (.bool q.g) /\ w'.cell? ⟨ca, 1, none⟩ = some (.slice q.A q.n q.c) /\ w'.cell? ⟨ca, 2, none⟩ = some (.bool q.gd) /\ w'.cell? ⟨ca, 3, none⟩ = some (.slice q.Ad q.nd q.cd) /\ w'.cell? ⟨cb, 0, none⟩ = some (.bool q'.g) /\ w'.cell? ⟨cb, 1, none⟩ = some (.slice q'.A q'.n q'.c) /\ w'.cell? ⟨cb, 2, none⟩ = some (.bool q'.gd) /\ w'.cell? ⟨cb, 3, none⟩ = some (.slice q'.Ad q'.nd q'.cd) /\ w'.cell? ⟨s, 0, none⟩ = some (.bool g5) /\ w'.cell? ⟨s, 1, none⟩ = some (.slice A5 n5 c5)) (go_keep)
  (first
   | (go_at_call 88
      have K := K5.out.drew
      have C := cmul_any q.gd q'.gd q.Ad q'.Ad q.nd q.cd q'.nd q'.cd p q.ys q'.ys ad bd f3 f4 wc.drew (K.sl _ _ _ _ HA.out.1.sl.2) (K.sl _ _ _ _ HA.out.2.2.1.sl.2) HO.out.1.2 HO.out.2.2 K.cl HF.out.2.2.2
      rw [HZ.out.2.2.2] at C
      (with_reducible refine C.mono ?_)
      clear C
      rintro e v6 ⟨g6, A6, n6, c6, xs6, rfl, hs6, ho6, hk6⟩
      have X6 : Bx v6 s g5 A5 n5 c5 := hk6.bx XB.out xp
      have K6 := Lib.hid (K.trans hk6)
      have G6 := Lib.hid (And.intro (hk6.sl _ _ _ _ G5.out.1.drew) (And.intro hs6 ho6))
      clear K hk6 hs6 ho6 p0 p1 p2 p3 p4 p5 p6 p7 x0 x1
      have x0 := X6.c0
      have x1 := X6.c1
      clear X6
      have u0 := (K6.out.rb HA.out.1 HA.out.2.1).c0
      have u1 := (K6.out.rb HA.out.1 HA.out.2.1).c1
      have u2 := (K6.out.rb HA.out.1 HA.out.2.1).c2
      have u3 := (K6.out.rb HA.out.1 HA.out.2.1).c3
      have u4 := (K6.out.rb HA.out.2.2.1 HA.out.2.2.2).c0
      have u5 := (K6.out.rb HA.out.2.2.1 HA.out.2.2.2).c1
      have u6 := (K6.out.rb HA.out.2.2.1 HA.out.2.2.2).c2
      have u7 := (K6.out.rb HA.out.2.2.1 HA.out.2.2.2).c3
      have B1 : Bx _ r false none 0 0 := K6.out.blk _ _ _ (show r ≠ p by have := hlt; have := HRr.out; omega) HV.out.2.1.bx
      have B2 : Bx _ (r + 1) false none 0 0 := K6.out.blk _ _ _ (show r + 1 ≠ p by have := hlt; have := HRr.out; omega) HV.out.2.2.bx
      have m0 := B1.c0
      have m1 := B1.c1
      have m2 := B1.f 0
      have m3 := B1.f 1
      have m4 := B2.c0
      have m5 := B2.c1
      have m6 := B2.f 0
      have m7 := B2.f 1
      have me1 : r ≠ r + 1 := by omega
      have me2 : r + 1 ≠ r := by omega
      have ma1 : r ≠ ca := by omega
      have ma2 : ca ≠ r := by omega
      have ma3 : r + 1 ≠ ca := by omega
      have ma4 : ca ≠ r + 1 := by omega
      have mb1 : r ≠ cb := by omega
      have mb2 : cb ≠ r := by omega
      have mb3 : r + 1 ≠ cb := by omega
      have mb4 : cb ≠ r + 1 := by omega
      have BB := Lib.hid (And.intro B1 B2)
      clear B1 B2
      ))
 go_wp2
 generalize hU : World.setCell (World.setCell (World.setCell (World.setCell v6 _ _) _ _) _ _) _ _ = U
 have X1 : Ba v6 r false none 0 0 [] := ⟨BB.out.1, Sl.nil _ _⟩
 have X2 : Ba v6 (r + 1) false none 0 0 [] := ⟨BB.out.2, Sl.nil _ _⟩
 have Y1 := X1.stored G6.out.1 g5
 have Y2 := X2.aside X1 me2 g5 (.slice A5 n5 c5)
 have Z2 := Y2.stored (G6.out.2.1.ret X1.bx g5 (.slice A5 n5 c5)) g6
 have Z1 := Y1.aside Y2 me1 g6 (.slice A6 n6 c6)
 have KU : Kp w U p f4 := by
  rw [<- hU]
  exact ((KW.out.trans K6.out).ret BB.out.1 (Nat.le_of_eq HRr.out) (by rw [HRr.out]; exact hlt) _ _).ret Y2.bx (by rw [HRr.out]; omega) (by rw [HRr.out]; exact hlt) _ _
 rw [hU] at Z1 Z2
 have j0 := Z1.bx.c0
 have j1 := Z1.bx.c1
 have j2 := Z2.bx.c0
 have j3 := Z2.bx.c1
 refine bodyPost_ret (v := .tuple #[.agg #[.bool g5, .slice A5 n5 c5], .agg #[.bool g6, .slice A6 n6 c6]]) (by simp [results, Tryz.results165, go_sem, j0, j1, j2, j3]) rfl ?_
 exact ⟨g5, A5, n5, c5, xs5, g6, A6, n6, c6, xs6, rfl, Z1.sl, G5.out.2, Z2.sl, G6.out.2.2, KU⟩
end Go.Proofs.YtmncfbfepdbioaaGreatDoor
