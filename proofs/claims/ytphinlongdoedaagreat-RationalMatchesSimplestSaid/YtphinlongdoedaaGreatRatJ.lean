/-
 Stage 2: Of, of the program's integers and of its rationals, and the law's own of. Stage 2: combine, for whatever closure hands it the two terms. Stage 2: the closures of the four operations. Stage 2: Add, Sub, Mul and Div of the rationals. Stage 2: Floor of the rationals.
-/
import Derived.Deep.DeepCutAuto
import Derived.Deep.RegionHeld3
import Derived.Test.YtphinlongdoedaaGreatRatM
namespace Go.Proofs.YtphinlongdoedaaGreat
open Go.RowKit
set_option maxHeartbeats 1000000
theorem wrap_of_neg (n : Int) (h1 : -9223372036854775808 <= n) (h2 : n < 0) : IntKind.u64.wrap (-(IntKind.u64.wrap n)) = -n := by
 rw [IntKind.wrap_u64, IntKind.wrap_u64]; omega
theorem of_any (n : Int) (w : World) (h1 : -9223372036854775808 <= n) (h2 : n <= 9223372036854775807) :
 Calls Tryz.prog 16 #[.int .i64 n] w (RetI n w) := by
 have Hb := hI ((Below.refl w.heap.size w).alloc (Nat.le_refl _) (.cells #[.bool false, .slice none 0 0] 24))
 by_cases h0 : n < 0
 . have W := hI (wrap_of_neg n h1 h0)
   have Hd := hI (show true = decide (n < 0) by simp; omega)
   go_enter Tryz.func16, Tryz.ntmps16
   go_wp2_with fail
   rw [W.out]
   refine (zF4 (-n) _ (by omega) (by omega)).mono ?_
   rintro e w1 ⟨A1, n1, c1, xs1, rfl, hs1, hx1, hv1, hb1⟩
   have hbx := (Bx.new w false none 0 0).below hb1 (by simp)
   have hc0 := hbx.c0
   have hc1 := hbx.c1
   have hf0 := hbx.f 0
   have hf1 := hbx.f 1
   have Hbx := hI hbx
   have Hv := hI hv1
   clear hv1 hbx
   go_wp2
   exact bodyPost_ret (v := .agg #[.bool true, .slice A1 n1 c1]) (by simp [results, Tryz.results16, go_sem, hc0, hc1]) rfl
    ⟨A1, n1, c1, xs1, zK1 Hd.out, hs1.ret Hbx.out _ _, hx1, by rw [Hv.out]; omega, zA1 (zA Hb.out (by simp) hb1) (Nat.le_refl _) _ _⟩
 . have h3 : 0 <= n := by omega
   have Hd := hI (show false = decide (n < 0) by simp; omega)
   go_enter Tryz.func16, Tryz.ntmps16
   go_wp2_with fail
   refine (zF4 n _ (by omega) (by omega)).mono ?_
   rintro e w1 ⟨A1, n1, c1, xs1, rfl, hs1, hx1, hv1, hb1⟩
   have hbx := (Bx.new w false none 0 0).below hb1 (by simp)
   have hc0 := hbx.c0
   have hc1 := hbx.c1
   have hf0 := hbx.f 0
   have hf1 := hbx.f 1
   have Hbx := hI hbx
   have Hv := hI hv1
   clear hv1 hbx
   go_wp2
   exact bodyPost_ret (v := .agg #[.bool false, .slice A1 n1 c1]) (by simp [results, Tryz.results16, go_sem, hc0, hc1]) rfl
    ⟨A1, n1, c1, xs1, zK1 Hd.out, hs1.ret Hbx.out _ _, hx1, by rw [Hv.out]; omega, zA1 (zA Hb.out (by simp) hb1) (Nat.le_refl _) _ _⟩
def RetQ (z zd : Int) (w : World) (e : Ending) (w' : World) : Prop := ∃ q : RVal, e = .returned (.agg #[.bool q.g, .slice q.A q.n q.c, .bool q.gd, .slice q.Ad q.nd q.cd]) /\ q.In w' /\ q.o = some z /\ q.od = some zd /\ Below w.heap.size w w'
theorem RetQ.of {z zd : Int} {w U : World} {r : Nat} {q : RVal} (h : Rb U r q) (hz : q.o = some z) (hd : q.od = some zd) (hb : Below w.heap.size w U) : RetQ z zd w (.returned (.agg #[.bool q.g, .slice q.A q.n q.c, .bool q.gd, .slice q.Ad q.nd q.cd])) U := ⟨q, rfl, h.sl, hz, hd, hb⟩
theorem i64_big {n : Int} (h1 : -9223372036854775808 <= n) (h2 : n <= 9223372036854775807) : n.natAbs < BIG := by
 rw [zI3]
 exact Nat.lt_of_lt_of_le (show n.natAbs < pw 64 by unfold pw; omega) (pw_le (by omega))
theorem ratOf_any (n d : Int) (w : World) (h1 : -9223372036854775808 <= n) (h2 : n <= 9223372036854775807) (h3 : -9223372036854775808 <= d) (h4 : d <= 9223372036854775807) :
 Calls Tryz.prog 19 #[.int .i64 n, .int .i64 d] w (RetR (mkN (some n) (some d)) (mkD (some n) (some d)) (mkE (some n) (some d)) w) := by
 have HN := hI (i64_big h1 h2)
 have HD := hI (i64_big h3 h4)
 generalize hz : mkN (some n) (some d) = z
 generalize hzd : mkD (some n) (some d) = zd
 generalize he : mkE (some n) (some d) = er
 have HZ := hI (And.intro hz (And.intro hzd he))
 have H12 := hI (And.intro (And.intro h1 h2) (And.intro h3 h4))
 clear hz hzd he h1 h2 h3 h4
 have R0 := hI (Rb.new (RVal.nil_in w))
 have B0 := hI (zA0 w (.cells #[.bool RVal.nil.g, .slice RVal.nil.A RVal.nil.n RVal.nil.c, .bool RVal.nil.gd, .slice RVal.nil.Ad RVal.nil.nd RVal.nil.cd] 26))
 go_enter Tryz.func19, Tryz.ntmps19
 go_wp2_with fail
 refine (of_any n _ H12.out.1.1 H12.out.1.2).mono ?_
 rintro e w1 ⟨A1, n1, c1, xs1, rfl, hs1, hx1, hv1, hb1⟩
 have R1 := hI (R0.out.on hb1)
 have B1 := hI (zA B0.out B0.out.size hb1)
 have O1 := hI (zD5 hs1.ok hx1 hv1 HN.out)
 have S1 := hI hs1
 clear hs1 hx1 hv1 hb1 R0 B0
 go_wp2_with fail
 refine (of_any d _ H12.out.2.1 H12.out.2.2).mono ?_
 rintro e w2 ⟨A2, n2, c2, xs2, rfl, hs2, hx2, hv2, hb2⟩
 have R2 := hI (R1.out.on hb2)
 have B2 := hI (zA B1.out B1.out.size hb2)
 have O2 := hI (zD5 hs2.ok hx2 hv2 HD.out)
 have S2 := hI (And.intro (S1.out.on hb2) hs2)
 clear hs2 hx2 hv2 hb2 R1 B1 S1
 go_wp2_with fail
 have C := make_ov (neg := decide (n < 0)) (neg' := decide (d < 0)) S2.out.1 S2.out.2
 rw [O1.out, O2.out, HZ.out.1, HZ.out.2.1, HZ.out.2.2] at C
 refine C.mono ?_
 clear C
 rintro e w3 ⟨q, rfl, hq, ho, hod, hb3⟩
 have R3 := hI (R2.out.on hb3)
 have B3 := hI (zA B2.out B2.out.size hb3)
 have HQ := hI (And.intro hq (And.intro ho hod))
 clear hq ho hod hb3 R2 B2 S2 O1 O2
 have f0 := R3.out.f 0
 have f1 := R3.out.f 1
 have f2 := R3.out.f 2
 have f3 := R3.out.f 3
 have q0 := R3.out.c0
 have q1 := R3.out.c1
 have q2 := R3.out.c2
 have q3 := R3.out.c3
 simp only [RVal.nil] at q0 q1 q2 q3
 go_wp2
 generalize hU : World.setCell (World.setCell (World.setCell (World.setCell w3 _ _) _ _) _ _) _ _ = U
 have RU : Rb U w.heap.size q := by rw [<- hU]; exact Rb.put R3.out HQ.out.1
 have HU : Below w.heap.size w U := by rw [<- hU]; exact zA5 B3.out (Nat.le_refl _) _ _ _ _
 have j0 := RU.c0
 have j1 := RU.c1
 have j2 := RU.c2
 have j3 := RU.c3
 refine bodyPost_ret (v := .tuple #[.agg #[.bool q.g, .slice q.A q.n q.c, .bool q.gd, .slice q.Ad q.nd q.cd], .int .i64 er]) (by simp [results, Tryz.results19, go_sem, j0, j1, j2, j3]) rfl ?_
 exact RetR.of RU HQ.out.2.1 HQ.out.2.2 HU
theorem of_q (n d z zd : Int) (w : World) (h1 : -9223372036854775808 <= n) (h2 : n <= 9223372036854775807) (h3 : -9223372036854775808 <= d) (h4 : d <= 9223372036854775807) (hz : mkN (some n) (some d) = z) (hzd : mkD (some n) (some d) = zd) :
 Calls Tryz.prog 9 #[.int .i64 n, .int .i64 d] w (RetQ z zd w) := by
 have C := fun w => ratOf_any n d w h1 h2 h3 h4
 rw [hz, hzd] at C
 generalize mkE (some n) (some d) = er at C
 have HC := hI C
 clear C hz hzd h1 h2 h3 h4
 have R0 := hI (Rb.new (RVal.nil_in w))
 have B0 := hI (zA0 w (.cells #[.bool RVal.nil.g, .slice RVal.nil.A RVal.nil.n RVal.nil.c, .bool RVal.nil.gd, .slice RVal.nil.Ad RVal.nil.nd RVal.nil.cd] 26))
 go_enter Tryz.func9, Tryz.ntmps9
 go_wp2_with fail
 refine (HC.out _).mono ?_
 rintro e w3 ⟨q, rfl, hq, ho, hod, hb3⟩
 have R3 := hI (R0.out.on hb3)
 have B3 := hI (zA B0.out B0.out.size hb3)
 have HQ := hI (And.intro hq (And.intro ho hod))
 clear hq ho hod hb3 R0 B0
 have f0 := R3.out.f 0
 have f1 := R3.out.f 1
 have f2 := R3.out.f 2
 have f3 := R3.out.f 3
 have q0 := R3.out.c0
 have q1 := R3.out.c1
 have q2 := R3.out.c2
 have q3 := R3.out.c3
 have lt := R3.out.lt
 simp only [RVal.nil] at q0 q1 q2 q3
 go_wp2
 generalize hU : World.alloc (World.setCell (World.setCell (World.setCell (World.setCell w3 _ _) _ _) _ _) _ _) _ = U
 have RU' := (Rb.alloc (Rb.put R3.out HQ.out.1) (.cells #[.bool q.g, .slice q.A q.n q.c, .bool q.gd, .slice q.Ad q.nd q.cd] 26))
 have RU : Rb U w.heap.size q := by rw [<- hU]; exact RU'
 have HU : Below w.heap.size w U := by rw [<- hU]; exact (zA (zA5 B3.out (Nat.le_refl _) _ _ _ _) (Nat.le_trans B3.out.size (Nat.le_of_eq (zJ _ _ _ _ _ _).symm)) (zA0 _ (.cells #[.bool q.g, .slice q.A q.n q.c, .bool q.gd, .slice q.Ad q.nd q.cd] 26)))
 have j0 := RU.c0
 have j1 := RU.c1
 have j2 := RU.c2
 have j3 := RU.c3
 refine bodyPost_ret (v := .agg #[.bool q.g, .slice q.A q.n q.c, .bool q.gd, .slice q.Ad q.nd q.cd]) (by simp [results, Tryz.results9, go_sem, j0, j1, j2, j3]) rfl ?_
 exact RetQ.of RU HQ.out.2.1 HQ.out.2.2 HU
end Go.Proofs.YtphinlongdoedaaGreat
namespace Go.Proofs.YtphinlongdoedaaGreat
open Go.RowKit
set_option maxHeartbeats 2000000
def RetT (z zd f : Int) (p : Nat) (w : World) (e : Ending) (w' : World) : Prop := ∃ neg A n c xs neg' A' n' c' ys, e = .returned (.tuple #[.agg #[.bool neg, .slice A n c], .agg #[.bool neg', .slice A' n' c']]) ∧
 Sl w' w'.heap.size A n c xs /\ ov neg xs = some z /\ Sl w' w'.heap.size A' n' c' ys /\ ov neg' ys = some zd /\ Kp w w' p f
theorem zL3 (q q' : RVal) (w W : World) (h : q.In w) (h' : q'.In w) (hW : (w.alloc (.cells #[.bool q.g, .slice q.A q.n q.c, .bool q.gd, .slice q.Ad q.nd q.cd] 26)).alloc (.cells #[.bool q'.g, .slice q'.A q'.n q'.c, .bool q'.gd, .slice q'.Ad q'.nd q'.cd] 26) = W) :
 Below w.heap.size w W /\ Rb W w.heap.size q /\ Rb W (w.heap.size + 1) q' := by
 have h1 := Rb.new h
 have hb1 := zA0 w (.cells #[.bool q.g, .slice q.A q.n q.c, .bool q.gd, .slice q.Ad q.nd q.cd] 26)
 have h2 := Rb.new (h'.on hb1)
 have hb2 := zA0 (w.alloc (.cells #[.bool q.g, .slice q.A q.n q.c, .bool q.gd, .slice q.Ad q.nd q.cd] 26)) (.cells #[.bool q'.g, .slice q'.A q'.n q'.c, .bool q'.gd, .slice q'.Ad q'.nd q'.cd] 26)
 rw [hW] at h2 hb2
 refine ⟨zA hb1 hb1.size hb2, h1.on hb2, ?_⟩
 simpa using h2
theorem zH8 (q q' : RVal) (w W : World) (h : q.In w) (h' : q'.In w) (hW : ((w.alloc (.cells #[.bool q.g, .slice q.A q.n q.c, .bool q.gd, .slice q.Ad q.nd q.cd] 26)).alloc (.cells #[.bool q'.g, .slice q'.A q'.n q'.c, .bool q'.gd, .slice q'.Ad q'.nd q'.cd] 26)).alloc (.cells #[.bool false, .slice none 0 0, .bool false, .slice none 0 0] 26) = W) :
 Below w.heap.size w W /\ Rb W w.heap.size q /\ Rb W (w.heap.size + 1) q' /\ Rb W (w.heap.size + 1 + 1) RVal.nil := by
 obtain ⟨hb, h1, h2⟩ := zL3 q q' w _ h h' rfl
 have h3 := Rb.new (RVal.nil_in ((w.alloc (.cells #[.bool q.g, .slice q.A q.n q.c, .bool q.gd, .slice q.Ad q.nd q.cd] 26)).alloc (.cells #[.bool q'.g, .slice q'.A q'.n q'.c, .bool q'.gd, .slice q'.Ad q'.nd q'.cd] 26)))
 have hn := zA0 ((w.alloc (.cells #[.bool q.g, .slice q.A q.n q.c, .bool q.gd, .slice q.Ad q.nd q.cd] 26)).alloc (.cells #[.bool q'.g, .slice q'.A q'.n q'.c, .bool q'.gd, .slice q'.Ad q'.nd q'.cd] 26)) (.cells #[.bool false, .slice none 0 0, .bool false, .slice none 0 0] 26)
 rw [hW] at hn
 refine ⟨zA hb hb.size hn, h1.on hn, h2.on hn, ?_⟩
 rw [<- hW]
 simpa [RVal.nil] using h3
theorem zT9 (q q' : RVal) (w W : World) (h : q.In w) (h' : q'.In w) (hW : (((w.alloc (.cells #[.bool q.g, .slice q.A q.n q.c, .bool q.gd, .slice q.Ad q.nd q.cd] 26)).alloc (.cells #[.bool q'.g, .slice q'.A q'.n q'.c, .bool q'.gd, .slice q'.Ad q'.nd q'.cd] 26)).alloc (.cells #[.bool false, .slice none 0 0, .bool false, .slice none 0 0] 26)).alloc (.cells #[.bool q.g, .slice q.A q.n q.c, .bool q.gd, .slice q.Ad q.nd q.cd, .bool q'.g, .slice q'.A q'.n q'.c, .bool q'.gd, .slice q'.Ad q'.nd q'.cd] 26) = W) :
 Below w.heap.size w W /\ Rb W w.heap.size q /\ Rb W (w.heap.size + 1) q' /\ Rb W (w.heap.size + 1 + 1) RVal.nil /\ Blk W (w.heap.size + 1 + 1 + 1) 26 #[.bool q.g, .slice q.A q.n q.c, .bool q.gd, .slice q.Ad q.nd q.cd, .bool q'.g, .slice q'.A q'.n q'.c, .bool q'.gd, .slice q'.Ad q'.nd q'.cd] := by
 obtain ⟨hb, h1, h2, h3⟩ := zH8 q q' w _ h h' rfl
 have hn := zA0 (((w.alloc (.cells #[.bool q.g, .slice q.A q.n q.c, .bool q.gd, .slice q.Ad q.nd q.cd] 26)).alloc (.cells #[.bool q'.g, .slice q'.A q'.n q'.c, .bool q'.gd, .slice q'.Ad q'.nd q'.cd] 26)).alloc (.cells #[.bool false, .slice none 0 0, .bool false, .slice none 0 0] 26)) (.cells #[.bool q.g, .slice q.A q.n q.c, .bool q.gd, .slice q.Ad q.nd q.cd, .bool q'.g, .slice q'.A q'.n q'.c, .bool q'.gd, .slice q'.Ad q'.nd q'.cd] 26)
 have h4 := Blk.new (((w.alloc (.cells #[.bool q.g, .slice q.A q.n q.c, .bool q.gd, .slice q.Ad q.nd q.cd] 26)).alloc (.cells #[.bool q'.g, .slice q'.A q'.n q'.c, .bool q'.gd, .slice q'.Ad q'.nd q'.cd] 26)).alloc (.cells #[.bool false, .slice none 0 0, .bool false, .slice none 0 0] 26)) 26 #[.bool q.g, .slice q.A q.n q.c, .bool q.gd, .slice q.Ad q.nd q.cd, .bool q'.g, .slice q'.A q'.n q'.c, .bool q'.gd, .slice q'.Ad q'.nd q'.cd]
 rw [hW] at hn h4
 refine ⟨zA hb hb.size hn, h1.on hn, h2.on hn, h3.on hn, ?_⟩
 simpa using h4
theorem combine_Add_ok (q q' : RVal) (w : World) (h : q.In w) (h' : q'.In w) (ca cb : Nat) (z zd N D E : Int) (e1 : (rv q.o q.od).isSome = true) (e2 : (rv q'.o q'.od).isSome = true) (HT : Hid (∀ (W : World) (p : Nat), Below w.heap.size w W -> w.heap.size <= p -> Blk W p 68 #[.int .i64 0] -> Calls Tryz.prog 28 #[.pointer (some ⟨p, 0, none⟩), .pointer (some ⟨ca, 0, none⟩), .pointer (some ⟨cb, 0, none⟩)] W (RetT z zd 0 p W))) (hN : mkN (some z) (some zd) = N) (hD : mkD (some z) (some zd) = D) (hE : mkE (some z) (some zd) = E) :
 Calls Tryz.prog 27 #[.agg #[.bool q.g, .slice q.A q.n q.c, .bool q.gd, .slice q.Ad q.nd q.cd], .agg #[.bool q'.g, .slice q'.A q'.n q'.c, .bool q'.gd, .slice q'.Ad q'.nd q'.cd], .func (.func 28) #[] #[.pointer (some ⟨ca, 0, none⟩), .pointer (some ⟨cb, 0, none⟩)]] w (RetR N D E w) := by
 have HE := hI (And.intro e1 e2)
 clear e1 e2
 have HND := hI (And.intro hN (And.intro hD hE))
 clear hN hD hE
 have HS := hI (And.intro h h')
 clear h h'
 go_enter Tryz.func27, Tryz.ntmps27
 go_wp2_with fail
 generalize hW : World.alloc (World.alloc (World.alloc (World.alloc w _) _) _) _ = V
 obtain ⟨hb, ra, rb, rr, ar⟩ := zT9 q q' w V HS.out.1 HS.out.2 hW
 have HB := hI hb
 clear hW hb
 generalize hr : w.heap.size = r at *
 have HRr := hI hr
 clear hr
 have C := zI0 q q' (r + 1 + 1 + 1) true true V ra.sl rb.sl ar HE.out.1 HE.out.2
 refine C.mono ?_
 clear C ar
 rintro e w1 ⟨rfl, hb1⟩
 have B1 := hI (zA HB.out (by have := HB.out.size; have := HRr.out; omega) hb1)
 have RA := hI (ra.on hb1)
 have RB := hI (rb.on hb1)
 have RR := hI (rr.on hb1)
 clear hb1 ra rb rr
 go_wp2_with fail
 generalize hW : World.alloc w1 _ = V1
 have hn := zA0 w1 (.cells #[.int .i64 0] 68)
 have hcl := Blk.new w1 68 #[.int .i64 0]
 rw [hW] at hn hcl
 have B2 := hI (zA B1.out (by have := B1.out.size; have := HRr.out; omega) hn)
 have RR1 := hI (RR.out.on hn)
 have CL := hI hcl
 have hs8 : r + 1 + 1 < w1.heap.size := RR.out.lt
 clear hn hcl hW RR RA RB B1
 generalize w1.heap.size = s at *
 refine (HT.out V1 s B2.out (by omega) CL.out).mono ?_
 rintro e w2 ⟨g2, A2, n2, c2, xs2, g2', A2', n2', c2', ys2, rfl, hs2, ho2, hs2', ho2', hk⟩
 have hne : r + 1 + 1 ≠ s := by omega
 have RR2 := hI (hk.rb RR1.out hne)
 have B3 := hI (hk.bel _ _ B2.out (by omega) (by have := B2.out.size; have := HRr.out; omega))
 have H2 := hI (And.intro (And.intro hs2 ho2) (And.intro hs2' ho2'))
 have hcl := hk.cl
 have kc : w2.cell? ⟨s, 0, none⟩ = some (.int .i64 0) := by rw [Blk.cell hcl 0]; rfl
 have ltc := Blk.lt hcl
 clear hk hs2 ho2 hs2' ho2' hcl RR1 B2 CL HT
 go_wp2_with fail
 generalize hW : World.alloc (World.alloc w2 _) _ = V2
 obtain ⟨hb4, bn, bd⟩ := zC0 g2 g2' A2 A2' n2 c2 n2' c2' xs2 ys2 w2 V2 H2.out.1.1 H2.out.2.1 hW
 have RR3 := hI (RR2.out.on hb4)
 have B4 := hI (zA B3.out (by have := B3.out.size; have := HRr.out; omega) hb4)
 clear hW hb4 RR2 B3 kc ltc
 have C := make_ov (neg := g2) (neg' := g2') bn.sl bd.sl
 rw [H2.out.1.2, H2.out.2.2, HND.out.1, HND.out.2.1, HND.out.2.2] at C
 refine C.mono ?_
 clear C
 rintro e w3 ⟨t, rfl, hq, ho, hod, hb5⟩
 have R3 := hI (RR3.out.on hb5)
 have B5 := hI (zA B4.out (by have := B4.out.size; have := HRr.out; omega) hb5)
 have HQ := hI (And.intro hq (And.intro ho hod))
 clear hq ho hod hb5 RR3 B4 bn bd H2
 have f0 := R3.out.f 0
 have f1 := R3.out.f 1
 have f2 := R3.out.f 2
 have f3 := R3.out.f 3
 have q0 := R3.out.c0
 have q1 := R3.out.c1
 have q2 := R3.out.c2
 have q3 := R3.out.c3
 simp only [RVal.nil] at q0 q1 q2 q3
 go_wp2
 generalize hU : World.setCell (World.setCell (World.setCell (World.setCell w3 _ _) _ _) _ _) _ _ = U
 have RU' := (Rb.put R3.out HQ.out.1)
 have RU : Rb U (r + 1 + 1) t := by rw [<- hU]; exact RU'
 have HU : Below w.heap.size w U := by rw [<- hU, HRr.out]; exact (zA5 B5.out (show r <= r + 1 + 1 by omega) _ _ _ _)
 have j0 := RU.c0
 have j1 := RU.c1
 have j2 := RU.c2
 have j3 := RU.c3
 refine bodyPost_ret (v := .tuple #[.agg #[.bool t.g, .slice t.A t.n t.c, .bool t.gd, .slice t.Ad t.nd t.cd], .int .i64 E]) (by simp [results, Tryz.results27, go_sem, j0, j1, j2, j3]) rfl ?_
 exact RetR.of RU HQ.out.2.1 HQ.out.2.2 HU
theorem zN8 (q q' : RVal) (w : World) (h : q.In w) (h' : q'.In w) (ca cb : Nat) (z zd N D E : Int) (e1 : (rv q.o q.od).isSome = true) (e2 : (rv q'.o q'.od).isSome = true) (HT : Hid (∀ (W : World) (p : Nat), Below w.heap.size w W -> w.heap.size <= p -> Blk W p 68 #[.int .i64 0] -> Calls Tryz.prog 31 #[.pointer (some ⟨p, 0, none⟩), .pointer (some ⟨ca, 0, none⟩), .pointer (some ⟨cb, 0, none⟩)] W (RetT z zd 0 p W))) (hN : mkN (some z) (some zd) = N) (hD : mkD (some z) (some zd) = D) (hE : mkE (some z) (some zd) = E) :
 Calls Tryz.prog 27 #[.agg #[.bool q.g, .slice q.A q.n q.c, .bool q.gd, .slice q.Ad q.nd q.cd], .agg #[.bool q'.g, .slice q'.A q'.n q'.c, .bool q'.gd, .slice q'.Ad q'.nd q'.cd], .func (.func 31) #[] #[.pointer (some ⟨ca, 0, none⟩), .pointer (some ⟨cb, 0, none⟩)]] w (RetR N D E w) := by
 have HE := hI (And.intro e1 e2)
 clear e1 e2
 have HND := hI (And.intro hN (And.intro hD hE))
 clear hN hD hE
 have HS := hI (And.intro h h')
 clear h h'
 go_enter Tryz.func27, Tryz.ntmps27
 go_wp2_with fail
 generalize hW : World.alloc (World.alloc (World.alloc (World.alloc w _) _) _) _ = V
 obtain ⟨hb, ra, rb, rr, ar⟩ := zT9 q q' w V HS.out.1 HS.out.2 hW
 have HB := hI hb
 clear hW hb
 generalize hr : w.heap.size = r at *
 have HRr := hI hr
 clear hr
 have C := zI0 q q' (r + 1 + 1 + 1) true true V ra.sl rb.sl ar HE.out.1 HE.out.2
 refine C.mono ?_
 clear C ar
 rintro e w1 ⟨rfl, hb1⟩
 have B1 := hI (zA HB.out (by have := HB.out.size; have := HRr.out; omega) hb1)
 have RA := hI (ra.on hb1)
 have RB := hI (rb.on hb1)
 have RR := hI (rr.on hb1)
 clear hb1 ra rb rr
 go_wp2_with fail
 generalize hW : World.alloc w1 _ = V1
 have hn := zA0 w1 (.cells #[.int .i64 0] 68)
 have hcl := Blk.new w1 68 #[.int .i64 0]
 rw [hW] at hn hcl
 have B2 := hI (zA B1.out (by have := B1.out.size; have := HRr.out; omega) hn)
 have RR1 := hI (RR.out.on hn)
 have CL := hI hcl
 have hs8 : r + 1 + 1 < w1.heap.size := RR.out.lt
 clear hn hcl hW RR RA RB B1
 generalize w1.heap.size = s at *
 refine (HT.out V1 s B2.out (by omega) CL.out).mono ?_
 rintro e w2 ⟨g2, A2, n2, c2, xs2, g2', A2', n2', c2', ys2, rfl, hs2, ho2, hs2', ho2', hk⟩
 have hne : r + 1 + 1 ≠ s := by omega
 have RR2 := hI (hk.rb RR1.out hne)
 have B3 := hI (hk.bel _ _ B2.out (by omega) (by have := B2.out.size; have := HRr.out; omega))
 have H2 := hI (And.intro (And.intro hs2 ho2) (And.intro hs2' ho2'))
 have hcl := hk.cl
 have kc : w2.cell? ⟨s, 0, none⟩ = some (.int .i64 0) := by rw [Blk.cell hcl 0]; rfl
 have ltc := Blk.lt hcl
 clear hk hs2 ho2 hs2' ho2' hcl RR1 B2 CL HT
 go_wp2_with fail
 generalize hW : World.alloc (World.alloc w2 _) _ = V2
 obtain ⟨hb4, bn, bd⟩ := zC0 g2 g2' A2 A2' n2 c2 n2' c2' xs2 ys2 w2 V2 H2.out.1.1 H2.out.2.1 hW
 have RR3 := hI (RR2.out.on hb4)
 have B4 := hI (zA B3.out (by have := B3.out.size; have := HRr.out; omega) hb4)
 clear hW hb4 RR2 B3 kc ltc
 have C := make_ov (neg := g2) (neg' := g2') bn.sl bd.sl
 rw [H2.out.1.2, H2.out.2.2, HND.out.1, HND.out.2.1, HND.out.2.2] at C
 refine C.mono ?_
 clear C
 rintro e w3 ⟨t, rfl, hq, ho, hod, hb5⟩
 have R3 := hI (RR3.out.on hb5)
 have B5 := hI (zA B4.out (by have := B4.out.size; have := HRr.out; omega) hb5)
 have HQ := hI (And.intro hq (And.intro ho hod))
 clear hq ho hod hb5 RR3 B4 bn bd H2
 have f0 := R3.out.f 0
 have f1 := R3.out.f 1
 have f2 := R3.out.f 2
 have f3 := R3.out.f 3
 have q0 := R3.out.c0
 have q1 := R3.out.c1
 have q2 := R3.out.c2
 have q3 := R3.out.c3
 simp only [RVal.nil] at q0 q1 q2 q3
 go_wp2
 generalize hU : World.setCell (World.setCell (World.setCell (World.setCell w3 _ _) _ _) _ _) _ _ = U
 have RU' := (Rb.put R3.out HQ.out.1)
 have RU : Rb U (r + 1 + 1) t := by rw [<- hU]; exact RU'
 have HU : Below w.heap.size w U := by rw [<- hU, HRr.out]; exact (zA5 B5.out (show r <= r + 1 + 1 by omega) _ _ _ _)
 have j0 := RU.c0
 have j1 := RU.c1
 have j2 := RU.c2
 have j3 := RU.c3
 refine bodyPost_ret (v := .tuple #[.agg #[.bool t.g, .slice t.A t.n t.c, .bool t.gd, .slice t.Ad t.nd t.cd], .int .i64 E]) (by simp [results, Tryz.results27, go_sem, j0, j1, j2, j3]) rfl ?_
 exact RetR.of RU HQ.out.2.1 HQ.out.2.2 HU
end Go.Proofs.YtphinlongdoedaaGreat
namespace Go.Proofs.YtphinlongdoedaaGreat
open Go.RowKit
set_option maxRecDepth 20000
set_option maxHeartbeats 4000000
def kp (f e : Int) : Int := if f = 0 then e else f
def Lez (a b : Nat) : Prop := a <= b
theorem zJ8 {a b c p : Nat} (h : p < a) (k : a <= b) (m : Lez b c) : c ≠ p := by unfold Lez at m; omega
theorem Kp.bx {w w' : World} {p r n c : Nat} {f : Int} {g : Bool} {A : Option Addr} (h : Kp w w' p f) (b : Bx w r g A n c) (hne : r ≠ p) : Bx w' r g A n c := h.blk _ _ _ hne b
theorem Bx.kp {w w' : World} {p r n c a b : Nat} {f : Int} {g : Bool} {A : Option Addr} (x : Bx w r g A n c) (h : Kp w w' p f) (k : p < a) (l : a <= b) (m : Hid (Lez b r)) : Bx w' r g A n c := h.blk _ _ _ (zJ8 k l m.out) x
theorem Kp.drew {w w' : World} {p : Nat} {f : Int} (h : Kp w w' p f) : Kp w w'.drew p f := ⟨fun A n c xs s => (h.sl A n c xs s).drew, h.blk, h.cl, fun B a b h1 h2 => (h.bel B a b h1 h2).drew, h.size⟩
theorem Kp.undrew {w w' : World} {p : Nat} {f : Int} (h : Kp w.drew w' p f) : Kp w w' p f := ⟨fun A n c xs s => h.sl A n c xs s.drew, h.blk, h.cl, fun B a b h1 h2 => h.bel B a b.drew h1 h2, h.size⟩
def Mid (w : World) (p : Nat) (z f : Int) (s : Value) (wx : World) : Prop := ∃ (r : Nat) (g : Bool) (A : Option Addr) (n c : Nat) (xs : List Nat), s = .pointer (some ⟨r, 0, none⟩) /\ Ba wx r g A n c xs /\ ov g xs = some z /\ Kp w wx p f /\ w.heap.size <= r
theorem mid_old {w : World} {p : Nat} {z f : Int} {v : World} {r n c : Nat} {g : Bool} {A : Option Addr} {xs : List Nat} (bn : Bx v r false none 0 0) (K : Kp w v p f) (hp : p < w.heap.size) (hr : w.heap.size <= r) (hs : Sl v v.heap.size A n c xs) (ho : ov g xs = some z) :
 Mid w p z f (.pointer (some ⟨r, 0, none⟩)) ((v.setCell ⟨r, 0, none⟩ (.bool g)).setCell ⟨r, 1, none⟩ (.slice A n c)) := by
 have nb : Ba v r false none 0 0 [] := ⟨bn, Sl.nil _ _⟩
 exact ⟨r, g, A, n, c, xs, rfl, nb.stored hs _, ho, K.ret bn hr hp _ _, hr⟩
theorem mid_new {w : World} {p : Nat} {z f : Int} {v : World} {n c : Nat} {g : Bool} {A : Option Addr} {xs : List Nat} (K : Kp w v p f) (hs : Sl v v.heap.size A n c xs) (ho : ov g xs = some z) :
 Mid w p z f (.pointer (some ⟨v.heap.size, 0, none⟩)) (v.alloc (.cells #[.bool g, .slice A n c] 24)) :=
 ⟨v.heap.size, g, A, n, c, xs, rfl, ⟨Bx.new _ _ _ _ _, hs.on (zA0 _ _)⟩, ho, K.alloc _, K.size⟩
theorem clo_Div (q q' : RVal) (ca cb p : Nat) (an ad bn bd z1 z2 f1 f2 : Int) (w : World) (ha : Rb w ca q) (hb : Rb w cb q') (hp : Blk w p 68 #[.int .i64 0]) (o1 : q.o = some an) (o2 : q.od = some ad) (o3 : q'.o = some bn) (o4 : q'.od = some bd)
 (h1 : fitZ (an * bd) = z1) (h2 : fitZ (ad * bn) = z2) (k1 : Kf 0 (fitE (an * bd)) f1) (k2 : Kf f1 (fitE (ad * bn)) f2) :
 Calls Tryz.prog 31 #[.pointer (some ⟨p, 0, none⟩), .pointer (some ⟨ca, 0, none⟩), .pointer (some ⟨cb, 0, none⟩)] w (RetT z1 z2 f2 p w) := by
 have HZ := hI (And.intro h1 h2)
 have HF := hI (And.intro k1 k2)
 clear h1 h2 k1 k2
 have HO := hI (And.intro (And.intro o1 o2) (And.intro o3 o4))
 have na : ca ≠ p := fun e => Blk.ne_ ha.bx hp (by decide) e
 have nb : cb ≠ p := fun e => Blk.ne_ hb.bx hp (by decide) e
 have hlt := Blk.lt hp
 have la := ha.lt
 have lb := hb.lt
 have H0 := hI (And.intro ha (And.intro hb hp))
 clear o1 o2 o3 o4 ha hb hp
 go_enter Tryz.func31, Tryz.ntmps31
 go_upto_region 1 with fail
 generalize hW : World.alloc (World.alloc w _) _ = V
 obtain ⟨hbV, r1, r2⟩ := zC0 false false none none 0 0 0 0 [] [] w V (Sl.nil _ _) (Sl.nil _ _) hW
 generalize hr : w.heap.size = r at *
 have HRr := hI hr
 clear hr
 have HV := hI (And.intro hbV (And.intro r1 r2))
 have HA := hI (And.intro (H0.out.1.on (HRr.out ▸ hbV)) (And.intro na (And.intro (H0.out.2.1.on (HRr.out ▸ hbV)) nb)))
 have KW : Hid (Kp w V p 0) := hI (Kp.below (HRr.out ▸ hbV) H0.out.2.2)
 have K0 : Hid (Kp V V p 0) := hI (Kp.below (Below.refl _ _) KW.out.cl)
 have hsz : r <= V.heap.size := by have := hbV.size; have := HRr.out; omega
 have lr := r2.bx.lt
 clear hbV r1 r2 hW na nb
 have p0 := (K0.out.rb HA.out.1 HA.out.2.1).c0
 have p1 := (K0.out.rb HA.out.1 HA.out.2.1).c1
 have p2 := (K0.out.rb HA.out.1 HA.out.2.1).c2
 have p3 := (K0.out.rb HA.out.1 HA.out.2.1).c3
 have p4 := (K0.out.rb HA.out.2.2.1 HA.out.2.2.2).c0
 have p5 := (K0.out.rb HA.out.2.2.1 HA.out.2.2.2).c1
 have p6 := (K0.out.rb HA.out.2.2.1 HA.out.2.2.2).c2
 have p7 := (K0.out.rb HA.out.2.2.1 HA.out.2.2.2).c3
 go_region_held3 (fun w' => w'.cell? ⟨ca, 0, none⟩ = some (.bool q.g) /\ w'.cell? ⟨ca, 1, none⟩ = some (.slice q.A q.n q.c) /\ w'.cell? ⟨ca, 2, none⟩ = some (.bool q.gd) /\ w'.cell? ⟨ca, 3, none⟩ = some (.slice q.Ad q.nd q.cd) /\ w'.cell? ⟨cb, 0, none⟩ = some (.bool q'.g) /\ w'.cell? ⟨cb, 1, none⟩ = some (.slice q'.A q'.n q'.c) /\ w'.cell? ⟨cb, 2, none⟩ = some (.bool q'.gd) /\ w'.cell? ⟨cb, 3, none⟩ = some (.slice q'.Ad q'.nd q'.cd)) (go_keep)
  (first
   | (go_at_call 30
      have K := K1.out
      have C := zC4 q.gd q'.g q.Ad q'.A q.nd q.cd q'.n q'.c p q.ys q'.xs ad bn f1 f2 v1 (K.sl _ _ _ _ HA.out.1.sl.2) (K.sl _ _ _ _ HA.out.2.2.1.sl.1) HO.out.1.2 HO.out.2.1 K.cl HF.out.2
      rw [HZ.out.2] at C
      (with_reducible refine C.mono ?_)
      clear C
      rintro e v2 ⟨g2, A2, n2, c2, xs2, rfl, hs2, ho2, hk2⟩
      have K2 := hI (K.trans hk2)
      have G2 := hI (And.intro (hk2.sl _ _ _ _ G1.out.1) (And.intro hs2 ho2))
      clear K hk2 hs2 ho2 t0 t1 t2 t3 t4 t5 t6 t7
      have u0 := (K2.out.rb HA.out.1 HA.out.2.1).c0
      have u1 := (K2.out.rb HA.out.1 HA.out.2.1).c1
      have u2 := (K2.out.rb HA.out.1 HA.out.2.1).c2
      have u3 := (K2.out.rb HA.out.1 HA.out.2.1).c3
      have u4 := (K2.out.rb HA.out.2.2.1 HA.out.2.2.2).c0
      have u5 := (K2.out.rb HA.out.2.2.1 HA.out.2.2.2).c1
      have u6 := (K2.out.rb HA.out.2.2.1 HA.out.2.2.2).c2
      have u7 := (K2.out.rb HA.out.2.2.1 HA.out.2.2.2).c3
      have B1 : Bx _ r false none 0 0 := K2.out.blk _ _ _ (show r ≠ p by have := hlt; have := HRr.out; omega) HV.out.2.1.bx
      have B2 : Bx _ (r + 1) false none 0 0 := K2.out.blk _ _ _ (show r + 1 ≠ p by have := hlt; have := HRr.out; omega) HV.out.2.2.bx
      have m0 := B1.c0
      have m1 := B1.c1
      have m2 := B1.f 0
      have m3 := B1.f 1
      have m4 := B2.c0
      have m5 := B2.c1
      have m6 := B2.f 0
      have m7 := B2.f 1
      have me1 : r ≠ r + 1 := by omega
      have me2 : r + 1 ≠ r := by omega
      have ma1 : r ≠ ca := by omega
      have ma2 : ca ≠ r := by omega
      have ma3 : r + 1 ≠ ca := by omega
      have ma4 : ca ≠ r + 1 := by omega
      have mb1 : r ≠ cb := by omega
      have mb2 : cb ≠ r := by omega
      have mb3 : r + 1 ≠ cb := by omega
      have mb4 : cb ≠ r + 1 := by omega
      have BB := hI (And.intro B1 B2)
      clear B1 B2
      )
   | (go_at_call 30
      have K := K0.out.drew
      have C := zC4 q.g q'.gd q.A q'.Ad q.n q.c q'.nd q'.cd p q.xs q'.ys an bd 0 f1 V.drew (K.sl _ _ _ _ HA.out.1.sl.1) (K.sl _ _ _ _ HA.out.2.2.1.sl.2) HO.out.1.1 HO.out.2.2 K.cl HF.out.1
      rw [HZ.out.1] at C
      (with_reducible refine C.mono ?_)
      clear C
      rintro e v1 ⟨g1, A1, n1, c1, xs1, rfl, hs1, ho1, hk1⟩
      have K1 := hI (K.trans hk1)
      have G1 := hI (And.intro hs1 ho1)
      clear K hk1 hs1 ho1 p0 p1 p2 p3 p4 p5 p6 p7
      have t0 := (K1.out.rb HA.out.1 HA.out.2.1).c0
      have t1 := (K1.out.rb HA.out.1 HA.out.2.1).c1
      have t2 := (K1.out.rb HA.out.1 HA.out.2.1).c2
      have t3 := (K1.out.rb HA.out.1 HA.out.2.1).c3
      have t4 := (K1.out.rb HA.out.2.2.1 HA.out.2.2.2).c0
      have t5 := (K1.out.rb HA.out.2.2.1 HA.out.2.2.2).c1
      have t6 := (K1.out.rb HA.out.2.2.1 HA.out.2.2.2).c2
      have t7 := (K1.out.rb HA.out.2.2.1 HA.out.2.2.2).c3
      ))
 go_wp2
 generalize hU : World.setCell (World.setCell (World.setCell (World.setCell v2 _ _) _ _) _ _) _ _ = U
 have X1 : Ba v2 r false none 0 0 [] := ⟨BB.out.1, Sl.nil _ _⟩
 have X2 : Ba v2 (r + 1) false none 0 0 [] := ⟨BB.out.2, Sl.nil _ _⟩
 have Y1 := X1.stored G2.out.1 g1
 have Y2 := X2.aside X1 me2 g1 (.slice A1 n1 c1)
 have Z2 := Y2.stored (G2.out.2.1.ret X1.bx g1 (.slice A1 n1 c1)) g2
 have Z1 := Y1.aside Y2 me1 g2 (.slice A2 n2 c2)
 have KU : Kp w U p f2 := by
  rw [<- hU]
  exact ((KW.out.trans K2.out).ret BB.out.1 (Nat.le_of_eq HRr.out) (by rw [HRr.out]; exact hlt) _ _).ret Y2.bx (by rw [HRr.out]; omega) (by rw [HRr.out]; exact hlt) _ _
 rw [hU] at Z1 Z2
 have j0 := Z1.bx.c0
 have j1 := Z1.bx.c1
 have j2 := Z2.bx.c0
 have j3 := Z2.bx.c1
 refine bodyPost_ret (v := .tuple #[.agg #[.bool g1, .slice A1 n1 c1], .agg #[.bool g2, .slice A2 n2 c2]]) (by simp [results, Tryz.results31, go_sem, j0, j1, j2, j3]) rfl ?_
 exact ⟨g1, A1, n1, c1, xs1, g2, A2, n2, c2, xs2, rfl, Z1.sl, G1.out.2, Z2.sl, G2.out.2.2, KU⟩
theorem clo_Add (q q' : RVal) (ca cb p : Nat) (an ad bn bd z1 z2 z3 z4 f1 f2 f3 f4 : Int) (w : World) (ha : Rb w ca q) (hb : Rb w cb q') (hp : Blk w p 68 #[.int .i64 0]) (o1 : q.o = some an) (o2 : q.od = some ad) (o3 : q'.o = some bn) (o4 : q'.od = some bd)
 (h1 : fitZ (an * bd) = z1) (h2 : fitZ (bn * ad) = z2) (h3 : fitZ (z1 + z2) = z3) (h4 : fitZ (ad * bd) = z4) (k1 : Kf 0 (fitE (an * bd)) f1) (k2 : Kf f1 (fitE (bn * ad)) f2)
 (k3 : Kf f2 (fitE (z1 + z2)) f3) (k4 : Kf f3 (fitE (ad * bd)) f4) :
 Calls Tryz.prog 28 #[.pointer (some ⟨p, 0, none⟩), .pointer (some ⟨ca, 0, none⟩), .pointer (some ⟨cb, 0, none⟩)] w (RetT z3 z4 f4 p w) := by
 have HZ := hI (And.intro h1 (And.intro h2 (And.intro h3 h4)))
 have HF := hI (And.intro k1 (And.intro k2 (And.intro k3 k4)))
 clear h1 h2 h3 h4 k1 k2 k3 k4
 have HO := hI (And.intro (And.intro o1 o2) (And.intro o3 o4))
 have na : ca ≠ p := fun e => Blk.ne_ ha.bx hp (by decide) e
 have nb : cb ≠ p := fun e => Blk.ne_ hb.bx hp (by decide) e
 have hlt := Blk.lt hp
 have la := ha.lt
 have lb := hb.lt
 have H0 := hI (And.intro ha (And.intro hb hp))
 clear o1 o2 o3 o4 ha hb hp
 go_enter Tryz.func28, Tryz.ntmps28
 go_upto_region 1 with fail
 generalize hW : World.alloc (World.alloc w _) _ = V
 obtain ⟨hbV, r1, r2⟩ := zC0 false false none none 0 0 0 0 [] [] w V (Sl.nil _ _) (Sl.nil _ _) hW
 generalize hr : w.heap.size = r at *
 have HRr := hI hr
 clear hr
 have HV := hI (And.intro hbV (And.intro r1 r2))
 have HA := hI (And.intro (H0.out.1.on (HRr.out ▸ hbV)) (And.intro na (And.intro (H0.out.2.1.on (HRr.out ▸ hbV)) nb)))
 have KW : Hid (Kp w V p 0) := hI (Kp.below (HRr.out ▸ hbV) H0.out.2.2)
 have K0 : Hid (Kp V V p 0) := hI (Kp.below (Below.refl _ _) KW.out.cl)
 have hsz : r <= V.heap.size := by have := hbV.size; have := HRr.out; omega
 have lr := r2.bx.lt
 clear hbV r1 r2 hW na nb
 have K0d := hI K0.out.drew
 go_cut [6] (fun s6 wx => Mid V p z3 f3 s6 wx)
 case first =>
  have p0 := (K0.out.rb HA.out.1 HA.out.2.1).c0
  have p1 := (K0.out.rb HA.out.1 HA.out.2.1).c1
  have p2 := (K0.out.rb HA.out.1 HA.out.2.1).c2
  have p3 := (K0.out.rb HA.out.1 HA.out.2.1).c3
  have p4 := (K0.out.rb HA.out.2.2.1 HA.out.2.2.2).c0
  have p5 := (K0.out.rb HA.out.2.2.1 HA.out.2.2.2).c1
  have p6 := (K0.out.rb HA.out.2.2.1 HA.out.2.2.2).c2
  have p7 := (K0.out.rb HA.out.2.2.1 HA.out.2.2.2).c3
  have pw0 := World.new_ne _ _ p0
  have px0 := pw0.symm
  have pw4 := World.new_ne _ _ p4
  have px4 := pw4.symm
  go_region_held3 (fun w' => w'.cell? ⟨ca, 0, none⟩ = some (.bool q.g) /\ w'.cell? ⟨ca, 1, none⟩ = some (.slice q.A q.n q.c) /\ w'.cell? ⟨ca, 2, none⟩ = some (.bool q.gd) /\ w'.cell? ⟨ca, 3, none⟩ = some (.slice q.Ad q.nd q.cd) /\ w'.cell? ⟨cb, 0, none⟩ = some (.bool q'.g) /\ w'.cell? ⟨cb, 1, none⟩ = some (.slice q'.A q'.n q'.c) /\ w'.cell? ⟨cb, 2, none⟩ = some (.bool q'.gd) /\ w'.cell? ⟨cb, 3, none⟩ = some (.slice q'.Ad q'.nd q'.cd)) (go_keep)
   (first
    | (go_at_call 29; (first | (have K := K2.out; have C := zM g1 g2 A1 A2 n1 c1 n2 c2 p xs1 xs2 z1 z2 f2 f3 v2 G1.out.1 G2.out.1 G1.out.2 G2.out.2 K.cl HF.out.2.2.1; rw [HZ.out.2.2.1] at C; (with_reducible refine C.mono ?_); clear C; rintro e v3 ⟨g3, A3, n3, c3, xs3, rfl, hs3, ho3, hk3⟩; (try replace fb := fb.kp hk3 hlt hsz hbl); have K3 := hI (K.trans hk3); have G3 := hI (And.intro hs3 ho3); clear K hk3 hs3 ho3) | (have K := (K2.out.alloc (.cells #[.bool false, .slice none 0 0] 24)); have C := zM g1 g2 A1 A2 n1 c1 n2 c2 p xs1 xs2 z1 z2 f2 f3 (v2.alloc (.cells #[.bool false, .slice none 0 0] 24)) (G1.out.1.on (zA0 _ _)) (G2.out.1.on (zA0 _ _)) G1.out.2 G2.out.2 K.cl HF.out.2.2.1; rw [HZ.out.2.2.1] at C; (with_reducible refine C.mono ?_); clear C; rintro e v3 ⟨g3, A3, n3, c3, xs3, rfl, hs3, ho3, hk3⟩; have fb : Bx v3 v2.heap.size false none 0 0 := hk3.bx (Bx.new v2 false none 0 0) (zJ8 hlt hsz K2.out.size); have hbl : Hid (Lez V.heap.size v2.heap.size) := hI K2.out.size; have K3 := hI (K.trans hk3); have G3 := hI (And.intro hs3 ho3); clear K hk3 hs3 ho3)); clear u0 u1 u2 u3 u4 u5 u6 u7; have y0 := (K3.out.rb HA.out.1 HA.out.2.1).c0; have y1 := (K3.out.rb HA.out.1 HA.out.2.1).c1; have y2 := (K3.out.rb HA.out.1 HA.out.2.1).c2; have y3 := (K3.out.rb HA.out.1 HA.out.2.1).c3; have y4 := (K3.out.rb HA.out.2.2.1 HA.out.2.2.2).c0; have y5 := (K3.out.rb HA.out.2.2.1 HA.out.2.2.2).c1; have y6 := (K3.out.rb HA.out.2.2.1 HA.out.2.2.2).c2; have y7 := (K3.out.rb HA.out.2.2.1 HA.out.2.2.2).c3; have yw0 := World.new_ne _ _ y0; have yx0 := yw0.symm; have yw4 := World.new_ne _ _ y4; have yx4 := yw4.symm; (try (have t0 := fb.c0; have t1 := fb.c1; have t2 := fb.f 0; have t3 := fb.f 1; have FB := hI fb; clear fb)))
    | (go_at_call 30; (first | (have K := K1.out; have C := zC4 q'.g q.gd q'.A q.Ad q'.n q'.c q.nd q.cd p q'.xs q.ys bn ad f1 f2 v1 (K.sl _ _ _ _ HA.out.2.2.1.sl.1) (K.sl _ _ _ _ HA.out.1.sl.2) HO.out.2.1 HO.out.1.2 K.cl HF.out.2.1; rw [HZ.out.2.1] at C; (with_reducible refine C.mono ?_); clear C; rintro e v2 ⟨g2, A2, n2, c2, xs2, rfl, hs2, ho2, hk2⟩; (try replace fb := fb.kp hk2 hlt hsz hbl); have G1' : Hid (Sl v2 v2.heap.size A1 n1 c1 xs1 /\ ov g1 xs1 = some z1) := hI ⟨hk2.sl _ _ _ _ G1.out.1, G1.out.2⟩; clear G1; have G1 := G1'; clear G1'; have K2 := hI (K.trans hk2); have G2 := hI (And.intro hs2 ho2); clear K hk2 hs2 ho2) | (have K := (K1.out.alloc (.cells #[.bool false, .slice none 0 0] 24)); have C := zC4 q'.g q.gd q'.A q.Ad q'.n q'.c q.nd q.cd p q'.xs q.ys bn ad f1 f2 (v1.alloc (.cells #[.bool false, .slice none 0 0] 24)) (K.sl _ _ _ _ HA.out.2.2.1.sl.1) (K.sl _ _ _ _ HA.out.1.sl.2) HO.out.2.1 HO.out.1.2 K.cl HF.out.2.1; rw [HZ.out.2.1] at C; (with_reducible refine C.mono ?_); clear C; rintro e v2 ⟨g2, A2, n2, c2, xs2, rfl, hs2, ho2, hk2⟩; have fb : Bx v2 v1.heap.size false none 0 0 := hk2.bx (Bx.new v1 false none 0 0) (zJ8 hlt hsz K1.out.size); have hbl : Hid (Lez V.heap.size v1.heap.size) := hI K1.out.size; have G1' : Hid (Sl v2 v2.heap.size A1 n1 c1 xs1 /\ ov g1 xs1 = some z1) := hI ⟨hk2.sl _ _ _ _ (G1.out.1.on (zA0 _ _)), G1.out.2⟩; clear G1; have G1 := G1'; clear G1'; have K2 := hI (K.trans hk2); have G2 := hI (And.intro hs2 ho2); clear K hk2 hs2 ho2)); clear t0 t1 t2 t3 t4 t5 t6 t7; have u0 := (K2.out.rb HA.out.1 HA.out.2.1).c0; have u1 := (K2.out.rb HA.out.1 HA.out.2.1).c1; have u2 := (K2.out.rb HA.out.1 HA.out.2.1).c2; have u3 := (K2.out.rb HA.out.1 HA.out.2.1).c3; have u4 := (K2.out.rb HA.out.2.2.1 HA.out.2.2.2).c0; have u5 := (K2.out.rb HA.out.2.2.1 HA.out.2.2.2).c1; have u6 := (K2.out.rb HA.out.2.2.1 HA.out.2.2.2).c2; have u7 := (K2.out.rb HA.out.2.2.1 HA.out.2.2.2).c3; have uw0 := World.new_ne _ _ u0; have ux0 := uw0.symm; have uw4 := World.new_ne _ _ u4; have ux4 := uw4.symm)
    | (go_at_call 30; (first | (have K := K0d.out; have C := zC4 q.g q'.gd q.A q'.Ad q.n q.c q'.nd q'.cd p q.xs q'.ys an bd 0 f1 V.drew (K.sl _ _ _ _ HA.out.1.sl.1) (K.sl _ _ _ _ HA.out.2.2.1.sl.2) HO.out.1.1 HO.out.2.2 K.cl HF.out.1; rw [HZ.out.1] at C; (with_reducible refine C.mono ?_); clear C; rintro e v1 ⟨g1, A1, n1, c1, xs1, rfl, hs1, ho1, hk1⟩; have K1 := hI (K.trans hk1); have G1 := hI (And.intro hs1 ho1); clear K hk1 hs1 ho1) | (have K := (K0.out.alloc (.cells #[.bool false, .slice none 0 0] 24)).drew; have C := zC4 q.g q'.gd q.A q'.Ad q.n q.c q'.nd q'.cd p q.xs q'.ys an bd 0 f1 (V.alloc (.cells #[.bool false, .slice none 0 0] 24)).drew (K.sl _ _ _ _ HA.out.1.sl.1) (K.sl _ _ _ _ HA.out.2.2.1.sl.2) HO.out.1.1 HO.out.2.2 K.cl HF.out.1; rw [HZ.out.1] at C; (with_reducible refine C.mono ?_); clear C; rintro e v1 ⟨g1, A1, n1, c1, xs1, rfl, hs1, ho1, hk1⟩; have fb : Bx v1 V.heap.size false none 0 0 := hk1.bx (Bx.new V.drew false none 0 0) (zJ8 hlt hsz K0d.out.size); have hbl : Hid (Lez V.heap.size V.heap.size) := hI K0d.out.size; have K1 := hI (K.trans hk1); have G1 := hI (And.intro hs1 ho1); clear K hk1 hs1 ho1)); clear p0 p1 p2 p3 p4 p5 p6 p7; have t0 := (K1.out.rb HA.out.1 HA.out.2.1).c0; have t1 := (K1.out.rb HA.out.1 HA.out.2.1).c1; have t2 := (K1.out.rb HA.out.1 HA.out.2.1).c2; have t3 := (K1.out.rb HA.out.1 HA.out.2.1).c3; have t4 := (K1.out.rb HA.out.2.2.1 HA.out.2.2.2).c0; have t5 := (K1.out.rb HA.out.2.2.1 HA.out.2.2.2).c1; have t6 := (K1.out.rb HA.out.2.2.1 HA.out.2.2.2).c2; have t7 := (K1.out.rb HA.out.2.2.1 HA.out.2.2.2).c3; have tw0 := World.new_ne _ _ t0; have tx0 := tw0.symm; have tw4 := World.new_ne _ _ t4; have tx4 := tw4.symm))
  all_goals (go_wp2_with fail; go_meet; first | exact mid_new K3.out G3.out.1 G3.out.2 | exact mid_old FB.out K3.out (Nat.lt_of_lt_of_le hlt hsz) hbl.out G3.out.1 G3.out.2)
 case rest =>
 obtain ⟨s, g5, A5, n5, c5, xs5, rfl, X5, o5, k5, l5⟩ := hcut
 have K5 := hI k5
 have G5 := hI (And.intro X5.sl o5)
 have x0 := X5.bx.c0
 have x1 := X5.bx.c1
 have xr1 : s ≠ r := by omega
 have xr2 : r ≠ s := by omega
 have xr3 : s ≠ r + 1 := by omega
 have xr4 : r + 1 ≠ s := by omega
 have XB := hI X5.bx
 have xp : s ≠ p := by omega
 clear k5 o5 X5
 have p0 := (K5.out.rb HA.out.1 HA.out.2.1).c0
 have p1 := (K5.out.rb HA.out.1 HA.out.2.1).c1
 have p2 := (K5.out.rb HA.out.1 HA.out.2.1).c2
 have p3 := (K5.out.rb HA.out.1 HA.out.2.1).c3
 have p4 := (K5.out.rb HA.out.2.2.1 HA.out.2.2.2).c0
 have p5 := (K5.out.rb HA.out.2.2.1 HA.out.2.2.2).c1
 have p6 := (K5.out.rb HA.out.2.2.1 HA.out.2.2.2).c2
 have p7 := (K5.out.rb HA.out.2.2.1 HA.out.2.2.2).c3
 go_upto_region 2 with fail
 go_region_held3 (fun w' => w'.cell? ⟨ca, 0, none⟩ = some (.bool q.g) /\ w'.cell? ⟨ca, 1, none⟩ = some (.slice q.A q.n q.c) /\ w'.cell? ⟨ca, 2, none⟩ = some (.bool q.gd) /\ w'.cell? ⟨ca, 3, none⟩ = some (.slice q.Ad q.nd q.cd) /\ w'.cell? ⟨cb, 0, none⟩ = some (.bool q'.g) /\ w'.cell? ⟨cb, 1, none⟩ = some (.slice q'.A q'.n q'.c) /\ w'.cell? ⟨cb, 2, none⟩ = some (.bool q'.gd) /\ w'.cell? ⟨cb, 3, none⟩ = some (.slice q'.Ad q'.nd q'.cd) /\ w'.cell? ⟨s, 0, none⟩ = some (.bool g5) /\ w'.cell? ⟨s, 1, none⟩ = some (.slice A5 n5 c5)) (go_keep)
  (first
   | (go_at_call 30
      have K := K5.out.drew
      have C := zC4 q.gd q'.gd q.Ad q'.Ad q.nd q.cd q'.nd q'.cd p q.ys q'.ys ad bd f3 f4 wc.drew (K.sl _ _ _ _ HA.out.1.sl.2) (K.sl _ _ _ _ HA.out.2.2.1.sl.2) HO.out.1.2 HO.out.2.2 K.cl HF.out.2.2.2
      rw [HZ.out.2.2.2] at C
      (with_reducible refine C.mono ?_)
      clear C
      rintro e v6 ⟨g6, A6, n6, c6, xs6, rfl, hs6, ho6, hk6⟩
      have X6 : Bx v6 s g5 A5 n5 c5 := hk6.bx XB.out xp
      have K6 := hI (K.trans hk6)
      have G6 := hI (And.intro (hk6.sl _ _ _ _ G5.out.1.drew) (And.intro hs6 ho6))
      clear K hk6 hs6 ho6 p0 p1 p2 p3 p4 p5 p6 p7 x0 x1
      have x0 := X6.c0
      have x1 := X6.c1
      clear X6
      have u0 := (K6.out.rb HA.out.1 HA.out.2.1).c0
      have u1 := (K6.out.rb HA.out.1 HA.out.2.1).c1
      have u2 := (K6.out.rb HA.out.1 HA.out.2.1).c2
      have u3 := (K6.out.rb HA.out.1 HA.out.2.1).c3
      have u4 := (K6.out.rb HA.out.2.2.1 HA.out.2.2.2).c0
      have u5 := (K6.out.rb HA.out.2.2.1 HA.out.2.2.2).c1
      have u6 := (K6.out.rb HA.out.2.2.1 HA.out.2.2.2).c2
      have u7 := (K6.out.rb HA.out.2.2.1 HA.out.2.2.2).c3
      have B1 : Bx _ r false none 0 0 := K6.out.blk _ _ _ (show r ≠ p by have := hlt; have := HRr.out; omega) HV.out.2.1.bx
      have B2 : Bx _ (r + 1) false none 0 0 := K6.out.blk _ _ _ (show r + 1 ≠ p by have := hlt; have := HRr.out; omega) HV.out.2.2.bx
      have m0 := B1.c0
      have m1 := B1.c1
      have m2 := B1.f 0
      have m3 := B1.f 1
      have m4 := B2.c0
      have m5 := B2.c1
      have m6 := B2.f 0
      have m7 := B2.f 1
      have me1 : r ≠ r + 1 := by omega
      have me2 : r + 1 ≠ r := by omega
      have ma1 : r ≠ ca := by omega
      have ma2 : ca ≠ r := by omega
      have ma3 : r + 1 ≠ ca := by omega
      have ma4 : ca ≠ r + 1 := by omega
      have mb1 : r ≠ cb := by omega
      have mb2 : cb ≠ r := by omega
      have mb3 : r + 1 ≠ cb := by omega
      have mb4 : cb ≠ r + 1 := by omega
      have BB := hI (And.intro B1 B2)
      clear B1 B2
      ))
 go_wp2
 generalize hU : World.setCell (World.setCell (World.setCell (World.setCell v6 _ _) _ _) _ _) _ _ = U
 have X1 : Ba v6 r false none 0 0 [] := ⟨BB.out.1, Sl.nil _ _⟩
 have X2 : Ba v6 (r + 1) false none 0 0 [] := ⟨BB.out.2, Sl.nil _ _⟩
 have Y1 := X1.stored G6.out.1 g5
 have Y2 := X2.aside X1 me2 g5 (.slice A5 n5 c5)
 have Z2 := Y2.stored (G6.out.2.1.ret X1.bx g5 (.slice A5 n5 c5)) g6
 have Z1 := Y1.aside Y2 me1 g6 (.slice A6 n6 c6)
 have KU : Kp w U p f4 := by
  rw [<- hU]
  exact ((KW.out.trans K6.out).ret BB.out.1 (Nat.le_of_eq HRr.out) (by rw [HRr.out]; exact hlt) _ _).ret Y2.bx (by rw [HRr.out]; omega) (by rw [HRr.out]; exact hlt) _ _
 rw [hU] at Z1 Z2
 have j0 := Z1.bx.c0
 have j1 := Z1.bx.c1
 have j2 := Z2.bx.c0
 have j3 := Z2.bx.c1
 refine bodyPost_ret (v := .tuple #[.agg #[.bool g5, .slice A5 n5 c5], .agg #[.bool g6, .slice A6 n6 c6]]) (by simp [results, Tryz.results28, go_sem, j0, j1, j2, j3]) rfl ?_
 exact ⟨g5, A5, n5, c5, xs5, g6, A6, n6, c6, xs6, rfl, Z1.sl, G5.out.2, Z2.sl, G6.out.2.2, KU⟩
end Go.Proofs.YtphinlongdoedaaGreat
namespace Go.Proofs.YtphinlongdoedaaGreat
open Go.RowKit
set_option maxHeartbeats 1000000
theorem zC8 {e : Int} (h : e = 0) : Kf 0 e 0 := Or.inl ⟨rfl, h.symm⟩
theorem zM8 (z : Int) : fitE z = 0 /\ fitZ z = z /\ z.natAbs < BIG \/ fitE z = 2 := by
 by_cases h : z.natAbs < BIG
 . exact Or.inl ⟨(zB1 h).2, (zB1 h).1, h⟩
 . exact Or.inr (fit_no h).2
theorem mk_ok {s d : Int} (h : d ≠ 0) : mkN (some s) (some d) = (Rat.divInt s d).num /\ mkD (some s) (some d) = ((Rat.divInt s d).den : Int) /\ mkE (some s) (some d) = 0 :=
 ⟨if_neg h, if_neg h, if_neg h⟩
theorem zE1 {o o' : Option Int} {x : Rat} (h : rv o o' = some x) : (rv o o').isSome = true := by rw [h]; rfl
theorem walk_Add (q q' : RVal) (N D E : Int) (w : World) (h : q.In w) (h' : q'.In w)
 (HC : Hid (∀ (W : World) (ca cb : Nat), Rb W ca q -> Rb W cb q' -> Calls Tryz.prog 27 #[.agg #[.bool q.g, .slice q.A q.n q.c, .bool q.gd, .slice q.Ad q.nd q.cd], .agg #[.bool q'.g, .slice q'.A q'.n q'.c, .bool q'.gd, .slice q'.Ad q'.nd q'.cd], .func (.func 28) #[] #[.pointer (some ⟨ca, 0, none⟩), .pointer (some ⟨cb, 0, none⟩)]] W (RetR N D E W))) :
 Calls Tryz.prog 8 #[.agg #[.bool q.g, .slice q.A q.n q.c, .bool q.gd, .slice q.Ad q.nd q.cd], .agg #[.bool q'.g, .slice q'.A q'.n q'.c, .bool q'.gd, .slice q'.Ad q'.nd q'.cd]] w (RetR N D E w) := by
 have hmf : ∀ (fn : Fn) (first cap : Array Value) (w : World), (Instr.makeFunc fn first cap).run Tryz.prog w = .ok (.func fn first cap) w := fun _ _ _ _ => rfl
 have HS := hI (And.intro h h')
 clear h h'
 go_enter Tryz.func8, Tryz.ntmps8
 go_wp2_with fail
 generalize hW : World.alloc (World.alloc (World.alloc w _) _) _ = V
 obtain ⟨hb, ra, rb, rr⟩ := zH8 q q' w V HS.out.1 HS.out.2 hW
 have HB := hI hb
 have HR := hI (And.intro ra (And.intro rb rr))
 clear hW hb ra rb rr
 refine (HC.out V _ _ HR.out.1 HR.out.2.1).mono ?_
 rintro e w3 ⟨t, rfl, hq, ho, hod, hb3⟩
 have R3 := hI (HR.out.2.2.on hb3)
 have B3 := hI (zA HB.out HB.out.size hb3)
 have HQ := hI (And.intro hq (And.intro ho hod))
 clear hq ho hod hb3 HR HB
 have f0 := R3.out.f 0
 have f1 := R3.out.f 1
 have f2 := R3.out.f 2
 have f3 := R3.out.f 3
 have q0 := R3.out.c0
 have q1 := R3.out.c1
 have q2 := R3.out.c2
 have q3 := R3.out.c3
 simp only [RVal.nil] at q0 q1 q2 q3
 go_wp2
 generalize hU : World.setCell (World.setCell (World.setCell (World.setCell w3 _ _) _ _) _ _) _ _ = U
 have RU' := (Rb.put R3.out HQ.out.1)
 have RU : Rb U (w.heap.size + 1 + 1) t := by rw [<- hU]; exact RU'
 have HU : Below w.heap.size w U := by rw [<- hU]; exact (zA5 B3.out (show w.heap.size <= w.heap.size + 1 + 1 by omega) _ _ _ _)
 have j0 := RU.c0
 have j1 := RU.c1
 have j2 := RU.c2
 have j3 := RU.c3
 refine bodyPost_ret (v := .tuple #[.agg #[.bool t.g, .slice t.A t.n t.c, .bool t.gd, .slice t.Ad t.nd t.cd], .int .i64 E]) (by simp [results, Tryz.results8, go_sem, j0, j1, j2, j3]) rfl ?_
 exact RetR.of RU HQ.out.2.1 HQ.out.2.2 HU
theorem add_ok {q q' : RVal} {x y : Rat} {w : World} (h : q.In w) (h' : q'.In w) (hx : rv q.o q.od = some x) (hy : rv q'.o q'.od = some y) (f1 : (x.num * y.den).natAbs < BIG) (f2 : (y.num * x.den).natAbs < BIG) (f3 : (x.num * y.den + y.num * x.den).natAbs < BIG) (f4 : ((x.den : Int) * y.den).natAbs < BIG) :
 Calls Tryz.prog 8 #[.agg #[.bool q.g, .slice q.A q.n q.c, .bool q.gd, .slice q.Ad q.nd q.cd], .agg #[.bool q'.g, .slice q'.A q'.n q'.c, .bool q'.gd, .slice q'.Ad q'.nd q'.cd]] w (RetR (x + y).num ((x + y).den : Int) 0 w) := by
 have ox := zC1 hx
 have oy := zC1 hy
 have g1 := zB1 f1
 have g2 := zB1 f2
 have g3 := zB1 f3
 have g4 := zB1 f4
 have m := mk_ok (s := x.num * y.den + y.num * x.den) (den2_ne x y)
 rw [rat_add] at m
 refine walk_Add q q' _ _ _ w h h' (hI fun W ca cb ra rb => ?_)
 refine combine_Add_ok q q' W ra.sl rb.sl ca cb _ _ _ _ _ (zE1 hx) (zE1 hy) (hI fun W1 p hb hp hc => ?_) m.1 m.2.1 m.2.2
 exact clo_Add q q' ca cb p _ _ _ _ _ _ _ _ 0 0 0 0 W1 (ra.on hb) (rb.on hb) hc ox.1 ox.2 oy.1 oy.2 g1.1 g2.1 g3.1 g4.1 (zC8 g1.2) (zC8 g2.2) (zC8 g3.2) (zC8 g4.2)
theorem walk_Div (q q' : RVal) (N D E : Int) (w : World) (h : q.In w) (h' : q'.In w)
 (HC : Hid (∀ (W : World) (ca cb : Nat), Rb W ca q -> Rb W cb q' -> Calls Tryz.prog 27 #[.agg #[.bool q.g, .slice q.A q.n q.c, .bool q.gd, .slice q.Ad q.nd q.cd], .agg #[.bool q'.g, .slice q'.A q'.n q'.c, .bool q'.gd, .slice q'.Ad q'.nd q'.cd], .func (.func 31) #[] #[.pointer (some ⟨ca, 0, none⟩), .pointer (some ⟨cb, 0, none⟩)]] W (RetR N D E W))) :
 Calls Tryz.prog 10 #[.agg #[.bool q.g, .slice q.A q.n q.c, .bool q.gd, .slice q.Ad q.nd q.cd], .agg #[.bool q'.g, .slice q'.A q'.n q'.c, .bool q'.gd, .slice q'.Ad q'.nd q'.cd]] w (RetR N D E w) := by
 have hmf : ∀ (fn : Fn) (first cap : Array Value) (w : World), (Instr.makeFunc fn first cap).run Tryz.prog w = .ok (.func fn first cap) w := fun _ _ _ _ => rfl
 have HS := hI (And.intro h h')
 clear h h'
 go_enter Tryz.func10, Tryz.ntmps10
 go_wp2_with fail
 generalize hW : World.alloc (World.alloc (World.alloc w _) _) _ = V
 obtain ⟨hb, ra, rb, rr⟩ := zH8 q q' w V HS.out.1 HS.out.2 hW
 have HB := hI hb
 have HR := hI (And.intro ra (And.intro rb rr))
 clear hW hb ra rb rr
 refine (HC.out V _ _ HR.out.1 HR.out.2.1).mono ?_
 rintro e w3 ⟨t, rfl, hq, ho, hod, hb3⟩
 have R3 := hI (HR.out.2.2.on hb3)
 have B3 := hI (zA HB.out HB.out.size hb3)
 have HQ := hI (And.intro hq (And.intro ho hod))
 clear hq ho hod hb3 HR HB
 have f0 := R3.out.f 0
 have f1 := R3.out.f 1
 have f2 := R3.out.f 2
 have f3 := R3.out.f 3
 have q0 := R3.out.c0
 have q1 := R3.out.c1
 have q2 := R3.out.c2
 have q3 := R3.out.c3
 simp only [RVal.nil] at q0 q1 q2 q3
 go_wp2
 generalize hU : World.setCell (World.setCell (World.setCell (World.setCell w3 _ _) _ _) _ _) _ _ = U
 have RU' := (Rb.put R3.out HQ.out.1)
 have RU : Rb U (w.heap.size + 1 + 1) t := by rw [<- hU]; exact RU'
 have HU : Below w.heap.size w U := by rw [<- hU]; exact (zA5 B3.out (show w.heap.size <= w.heap.size + 1 + 1 by omega) _ _ _ _)
 have j0 := RU.c0
 have j1 := RU.c1
 have j2 := RU.c2
 have j3 := RU.c3
 refine bodyPost_ret (v := .tuple #[.agg #[.bool t.g, .slice t.A t.n t.c, .bool t.gd, .slice t.Ad t.nd t.cd], .int .i64 E]) (by simp [results, Tryz.results10, go_sem, j0, j1, j2, j3]) rfl ?_
 exact RetR.of RU HQ.out.2.1 HQ.out.2.2 HU
theorem div_ok {q q' : RVal} {x y : Rat} {w : World} (h : q.In w) (h' : q'.In w) (hx : rv q.o q.od = some x) (hy : rv q'.o q'.od = some y) (hz : y.num ≠ 0) (f1 : (x.num * y.den).natAbs < BIG) (f2 : ((x.den : Int) * y.num).natAbs < BIG) :
 Calls Tryz.prog 10 #[.agg #[.bool q.g, .slice q.A q.n q.c, .bool q.gd, .slice q.Ad q.nd q.cd], .agg #[.bool q'.g, .slice q'.A q'.n q'.c, .bool q'.gd, .slice q'.Ad q'.nd q'.cd]] w (RetR (x / y).num ((x / y).den : Int) 0 w) := by
 have ox := zC1 hx
 have oy := zC1 hy
 have g1 := zB1 f1
 have g2 := zB1 f2
 have m := mk_ok (s := x.num * y.den) (Int.mul_ne_zero (den_ne x) hz)
 rw [rat_div] at m
 refine walk_Div q q' _ _ _ w h h' (hI fun W ca cb ra rb => ?_)
 refine zN8 q q' W ra.sl rb.sl ca cb _ _ _ _ _ (zE1 hx) (zE1 hy) (hI fun W1 p hb hp hc => ?_) m.1 m.2.1 m.2.2
 exact clo_Div q q' ca cb p _ _ _ _ _ _ 0 0 W1 (ra.on hb) (rb.on hb) hc ox.1 ox.2 oy.1 oy.2 g1.1 g2.1 (zC8 g1.2) (zC8 g2.2)
theorem div_zero {q q' : RVal} {x y : Rat} {w : World} (h : q.In w) (h' : q'.In w) (hx : rv q.o q.od = some x) (hy : rv q'.o q'.od = some y) (hz : y.num = 0) (f1 : (x.num * y.den).natAbs < BIG) (f2 : ((x.den : Int) * y.num).natAbs < BIG) :
 Calls Tryz.prog 10 #[.agg #[.bool q.g, .slice q.A q.n q.c, .bool q.gd, .slice q.Ad q.nd q.cd], .agg #[.bool q'.g, .slice q'.A q'.n q'.c, .bool q'.gd, .slice q'.Ad q'.nd q'.cd]] w (RetR 0 0 4 w) := by
 have ox := zC1 hx
 have oy := zC1 hy
 have g1 := zB1 f1
 have g2 := zB1 f2
 have e0 : (x.den : Int) * y.num = 0 := by rw [hz, Int.mul_zero]
 have m : mkN (some (x.num * y.den)) (some ((x.den : Int) * y.num)) = 0 /\ mkD (some (x.num * y.den)) (some ((x.den : Int) * y.num)) = 0 /\ mkE (some (x.num * y.den)) (some ((x.den : Int) * y.num)) = 4 := ⟨if_pos e0, if_pos e0, if_pos e0⟩
 refine walk_Div q q' _ _ _ w h h' (hI fun W ca cb ra rb => ?_)
 refine zN8 q q' W ra.sl rb.sl ca cb _ _ _ _ _ (zE1 hx) (zE1 hy) (hI fun W1 p hb hp hc => ?_) m.1 m.2.1 m.2.2
 exact clo_Div q q' ca cb p _ _ _ _ _ _ 0 0 W1 (ra.on hb) (rb.on hb) hc ox.1 ox.2 oy.1 oy.2 g1.1 g2.1 (zC8 g1.2) (zC8 g2.2)
end Go.Proofs.YtphinlongdoedaaGreat
namespace Go.Proofs.YtphinlongdoedaaGreat
open Go.RowKit
set_option maxHeartbeats 1000000
theorem fq_pos (n d : Int) (hd : 0 < d) : fq n d = n / d := by
 have s := zQ2 n d (by omega)
 have hr : 0 <= fr n d := by
  rcases s.2.2.1 with h | h
  . omega
  . rw [Int.sign_eq_one_of_pos hd] at h
    have := Int.sign_eq_one_iff_pos.1 h
    omega
 have h1 := s.1
 have h2 : fr n d < d := by have := s.2.1; omega
 rw [Int.mul_comm] at h1
 have e := Int.ediv_emod_unique (a := n) (b := d) (q := fq n d) (r := fr n d) hd
 exact (e.2 ⟨by rw [Int.add_comm]; exact h1, hr, h2⟩).1.symm
theorem floor_boxes (q : RVal) (w W : World) (h : q.In w) (hW : ((w.alloc (.cells #[.bool q.g, .slice q.A q.n q.c, .bool q.gd, .slice q.Ad q.nd q.cd] 26)).alloc (.cells #[.bool false, .slice none 0 0] 24)).alloc (.cells #[.bool q.g, .slice q.A q.n q.c, .bool q.gd, .slice q.Ad q.nd q.cd] 26) = W) :
 Below w.heap.size w W /\ Rb W w.heap.size q /\ Bx W (w.heap.size + 1) false none 0 0 /\ Blk W (w.heap.size + 1 + 1) 26 #[.bool q.g, .slice q.A q.n q.c, .bool q.gd, .slice q.Ad q.nd q.cd] := by
 have h1 := Rb.new h
 have b1 := zA0 w (.cells #[.bool q.g, .slice q.A q.n q.c, .bool q.gd, .slice q.Ad q.nd q.cd] 26)
 have h2 := Bx.new (w.alloc (.cells #[.bool q.g, .slice q.A q.n q.c, .bool q.gd, .slice q.Ad q.nd q.cd] 26)) false none 0 0
 have b2 := zA0 (w.alloc (.cells #[.bool q.g, .slice q.A q.n q.c, .bool q.gd, .slice q.Ad q.nd q.cd] 26)) (.cells #[.bool false, .slice none 0 0] 24)
 have h3 := Blk.new ((w.alloc (.cells #[.bool q.g, .slice q.A q.n q.c, .bool q.gd, .slice q.Ad q.nd q.cd] 26)).alloc (.cells #[.bool false, .slice none 0 0] 24)) 26 #[.bool q.g, .slice q.A q.n q.c, .bool q.gd, .slice q.Ad q.nd q.cd]
 have b3 := zA0 ((w.alloc (.cells #[.bool q.g, .slice q.A q.n q.c, .bool q.gd, .slice q.Ad q.nd q.cd] 26)).alloc (.cells #[.bool false, .slice none 0 0] 24)) (.cells #[.bool q.g, .slice q.A q.n q.c, .bool q.gd, .slice q.Ad q.nd q.cd] 26)
 rw [hW] at h3 b3
 refine ⟨zA (zA b1 b1.size b2) (by simp; omega) b3, (h1.on b2).on b3, ?_, by simpa using h3⟩
 have := (h2.below b3 h2.lt)
 simpa using this
theorem le_set2 {B : Nat} {w : World} (h : B <= w.heap.size) (p q : Addr) (u v : Value) : B <= ((w.setCell p u).setCell q v).heap.size := by simpa [World.setCell] using h
theorem le_al {B : Nat} {w : World} (h : B <= w.heap.size) (o : Obj) : B <= (w.alloc o).heap.size := by simp; omega
theorem Bx.put {w : World} {r : Nat} {g : Bool} {A : Option Addr} {n c : Nat} (h : Bx w r g A n c) (g' : Bool) (A' : Option Addr) (n' c' : Nat) : Bx ((w.setCell ⟨r, 0, none⟩ (.bool g')).setCell ⟨r, 1, none⟩ (.slice A' n' c')) r g' A' n' c' := by
 have := Blk.set_ (Blk.set_ h 0 (.bool g')) 1 (.slice A' n' c')
 exact this
theorem floor_ok (q : RVal) (s : Int) (w : World) (h : q.In w) (x : Rat) (Z E Q : Int) (hx : rv q.o q.od = some x) (h1 : -9223372036854775808 <= s) (h2 : s <= 9223372036854775807) (hf : (shf x.num s).natAbs < BIG) (hz : shf x.num s = Z) (hE : E = 0) (hq : Z / (x.den : Int) = Q) :
 Calls Tryz.prog 11 #[.agg #[.bool q.g, .slice q.A q.n q.c, .bool q.gd, .slice q.Ad q.nd q.cd], .int .i64 s] w (zB0 Q 0 w) := by
 have HE := hI (zE1 hx)
 have HO := hI (zC1 hx)
 have HSb := hI (And.intro h1 h2)
 have HF := hI (show fitZ (shf x.num s) = Z /\ fitE (shf x.num s) = E from ⟨(zB1 hf).1.trans hz, (zB1 hf).2.trans hE.symm⟩)
 have HZ := hI (show Z.natAbs < BIG by rw [<- hz]; exact hf)
 have HD := hI (show dvQ (some Z) (some (x.den : Int)) = Q /\ dvE (some Z) (some (x.den : Int)) = 0 by
  have hd := x.den_nz
  rw [zH7, zN5, if_neg (by omega), if_neg (by omega), fq_pos _ _ (by omega)]
  exact ⟨hq, rfl⟩)
 subst hE
 clear hx h1 h2 hz hf hq
 have HS := hI h
 clear h
 go_enter Tryz.func11, Tryz.ntmps11
 go_wp2_with fail
 generalize hW : World.alloc (World.alloc (World.alloc w _) _) _ = V
 obtain ⟨hb, ra, rx, ar⟩ := floor_boxes q w V HS.out hW
 have HB := hI hb
 clear hW hb
 generalize hr : w.heap.size = r at *
 have HRr := hI hr
 clear hr
 have C := zK q (r + 1 + 1) true V ra.sl ar HE.out
 refine C.mono ?_
 clear C ar
 rintro e w1 ⟨rfl, hb1⟩
 have B1 := hI (zA HB.out (by have := HB.out.size; have := HRr.out; omega) hb1)
 have RA := hI (ra.on hb1)
 have RX := hI (rx.below hb1 rx.lt)
 clear hb1 ra rx
 have k0 := RA.out.c0
 have k1 := RA.out.c1
 go_wp2_with fail
 have C := shift_ov (neg := q.g) RA.out.sl.1 s HSb.out.1 HSb.out.2
 rw [show ov q.g q.xs = some x.num from HO.out.1] at C
 have C' : Calls Tryz.prog 33 #[.agg #[.bool q.g, .slice q.A q.n q.c], .int .i64 s] w1 (zB0 Z 0 w1) := by
  have h := HF.out; rw [<- h.1, <- h.2]; exact C
 refine C'.mono ?_
 clear C C' k0 k1
 rintro e w2 ⟨A2, n2, c2, xs2, rfl, hs2, hx2, hv2, hb2⟩
 have B2 := hI (zA B1.out (by have := B1.out.size; have := HRr.out; omega) hb2)
 have RA2 := hI (RA.out.on hb2)
 have RX2 := hI (RX.out.below hb2 RX.out.lt)
 have G2 := hI (And.intro hs2 (And.intro hx2 hv2))
 clear hb2 hs2 hx2 hv2 RA RX B1
 have k2 := RA2.out.c2
 have k3 := RA2.out.c3
 have klt := RA2.out.lt
 go_wp2_with fail
 generalize hW : World.alloc w2 _ = V2
 have hn := zA0 w2 (.cells #[.bool (decide (Z < 0)), .slice A2 n2 c2] 24)
 rw [hW] at hn
 have B3 := hI (zA B2.out (by have := B2.out.size; have := HRr.out; omega) hn)
 have RX3 := hI (RX2.out.below hn RX2.out.lt)
 have C := zK7 (neg := decide (Z < 0)) (neg' := q.gd) (G2.out.1.on hn) (RA2.out.sl.2.on hn)
 rw [zD5 G2.out.1.ok G2.out.2.1 G2.out.2.2 HZ.out, show ov q.gd q.ys = some (x.den : Int) from HO.out.2, HD.out.1, HD.out.2] at C
 refine C.mono ?_
 clear C hn hW k2 k3 klt
 generalize dvR (some Z) (some (x.den : Int)) = Rm at *
 rintro e w4 ⟨A4, n4, c4, xs4, A5, n5, c5, xs5, rfl, hs4, hx4, hv4, hs5, hx5, hv5, hb4⟩
 have B4 := hI (zA B3.out (by have := B3.out.size; have := HRr.out; omega) hb4)
 have RX4 := hI (RX3.out.below hb4 RX3.out.lt)
 have G4 := hI (And.intro hs4 (And.intro hx4 hv4))
 clear hb4 hs4 hx4 hv4 hs5 hx5 hv5 B3 RX3
 have x0 := RX4.out.c0
 have x1 := RX4.out.c1
 have xf0 := RX4.out.f 0
 have xf1 := RX4.out.f 1
 have xlt := RX4.out.lt
 have xl2 := Nat.lt_of_succ_lt RX4.out.lt
 go_wp2
 generalize hU : World.alloc (World.alloc (World.setCell (World.setCell w4 _ _) _ _) _) _ = U
 have XU : Bx U (r + 1) (decide (Q < 0)) A4 n4 c4 := by rw [<- hU]; exact (Bx.alloc (Bx.alloc (Bx.put RX4.out (decide (Q < 0)) A4 n4 c4) (.cells #[.bool (decide (Q < 0)), .slice A4 n4 c4] 24)) (.cells #[.bool (decide (Rm < 0)), .slice A5 n5 c5] 24))
 have SU : Sl U U.heap.size A4 n4 c4 xs4 := by rw [<- hU]; exact (Sl.on (Sl.on (Sl.ret G4.out.1 RX4.out _ _) (zA0 _ (.cells #[.bool (decide (Q < 0)), .slice A4 n4 c4] 24))) (zA0 _ (.cells #[.bool (decide (Rm < 0)), .slice A5 n5 c5] 24)))
 have HU : Below w.heap.size w U := by rw [<- hU, HRr.out]; exact (Below.alloc (Below.alloc (zA1 B4.out (show r <= r + 1 by omega) _ _) (le_set2 (HRr.out ▸ B4.out.size) _ _ _ _) (.cells #[.bool (decide (Q < 0)), .slice A4 n4 c4] 24)) (le_al (le_set2 (HRr.out ▸ B4.out.size) _ _ _ _) (.cells #[.bool (decide (Q < 0)), .slice A4 n4 c4] 24)) (.cells #[.bool (decide (Rm < 0)), .slice A5 n5 c5] 24))
 have j0 := XU.c0
 have j1 := XU.c1
 refine bodyPost_ret (v := .tuple #[.agg #[.bool (decide (Q < 0)), .slice A4 n4 c4], .int .i64 0]) (by simp [results, Tryz.results11, go_sem, j0, j1]) rfl ?_
 exact ⟨A4, n4, c4, xs4, rfl, SU, G4.out.2.1, G4.out.2.2, HU⟩
end Go.Proofs.YtphinlongdoedaaGreat
