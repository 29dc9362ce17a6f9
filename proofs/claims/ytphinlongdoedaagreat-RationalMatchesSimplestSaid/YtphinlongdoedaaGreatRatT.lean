/-
 Stage 2: Cmp of the rationals, where the products are not too big. Stage 2: the convergent that follows two others. Stage 2: the continued fraction's expansion, over a known course. Stage 2: Simplest, where the lower number is not negative.
-/
import Derived.Deep.DeepCutAuto
import Derived.Deep.RegionHeld3
import Derived.Deep.LoopGhost
import Derived.Test.YtphinlongdoedaaGreatRatP
import Derived.Test.YtphinlongdoedaaGreatLate
namespace Go.Proofs.YtphinlongdoedaaGreat
open Go.RowKit
set_option maxRecDepth 20000
set_option maxHeartbeats 4000000
def Mid2 (w : World) (p : Nat) (z1 z2 f : Int) (s t : Value) (wx : World) : Prop := ∃ (a b : Nat) (g1 : Bool) (A1 : Option Addr) (n1 c1 : Nat) (xs1 : List Nat) (g2 : Bool) (A2 : Option Addr) (n2 c2 : Nat) (xs2 : List Nat),
 s = .pointer (some ⟨a, 0, none⟩) /\ t = .pointer (some ⟨b, 0, none⟩) /\ Ba wx a g1 A1 n1 c1 xs1 /\ ov g1 xs1 = some z1 /\ Ba wx b g2 A2 n2 c2 xs2 /\ ov g2 xs2 = some z2 /\ Kp w wx p f
section
variable {w v : World} {p a b n1 c1 n2 c2 : Nat} {z1 z2 f : Int} {g1 g2 : Bool} {A1 A2 : Option Addr} {xs1 xs2 : List Nat}
theorem m2_78 (K : Kp w v p f) (s1 : Sl v v.heap.size A1 n1 c1 xs1) (o1 : ov g1 xs1 = some z1) (s2 : Sl v v.heap.size A2 n2 c2 xs2) (o2 : ov g2 xs2 = some z2) :
 Mid2 w p z1 z2 f (.pointer (some ⟨v.heap.size, 0, none⟩)) (.pointer (some ⟨v.heap.size + 1, 0, none⟩)) ((v.alloc (.cells #[.bool g1, .slice A1 n1 c1] 24)).alloc (.cells #[.bool g2, .slice A2 n2 c2] 24)) := by
 obtain ⟨hb, x, y⟩ := zC0 g1 g2 A1 A2 n1 c1 n2 c2 xs1 xs2 v _ s1 s2 rfl
 exact ⟨_, _, g1, A1, n1, c1, xs1, g2, A2, n2, c2, xs2, rfl, rfl, x, o1, y, o2, (K.alloc _).alloc _⟩
theorem m2_87 (K : Kp w v p f) (s1 : Sl v v.heap.size A1 n1 c1 xs1) (o1 : ov g1 xs1 = some z1) (s2 : Sl v v.heap.size A2 n2 c2 xs2) (o2 : ov g2 xs2 = some z2) :
 Mid2 w p z1 z2 f (.pointer (some ⟨v.heap.size + 1, 0, none⟩)) (.pointer (some ⟨v.heap.size, 0, none⟩)) ((v.alloc (.cells #[.bool g2, .slice A2 n2 c2] 24)).alloc (.cells #[.bool g1, .slice A1 n1 c1] 24)) := by
 obtain ⟨hb, x, y⟩ := zC0 g2 g1 A2 A1 n2 c2 n1 c1 xs2 xs1 v _ s2 s1 rfl
 exact ⟨_, _, g1, A1, n1, c1, xs1, g2, A2, n2, c2, xs2, rfl, rfl, y, o1, x, o2, (K.alloc _).alloc _⟩
theorem m2_on (x : Bx v a false none 0 0) (hp : p < w.heap.size) (ha : w.heap.size <= a) (K : Kp w v p f) (s1 : Sl v v.heap.size A1 n1 c1 xs1) (o1 : ov g1 xs1 = some z1) (s2 : Sl v v.heap.size A2 n2 c2 xs2) (o2 : ov g2 xs2 = some z2) :
 Mid2 w p z1 z2 f (.pointer (some ⟨a, 0, none⟩)) (.pointer (some ⟨v.heap.size, 0, none⟩)) (((v.setCell ⟨a, 0, none⟩ (.bool g1)).setCell ⟨a, 1, none⟩ (.slice A1 n1 c1)).alloc (.cells #[.bool g2, .slice A2 n2 c2] 24)) := by
 have X : Ba v a false none 0 0 [] := ⟨x, Sl.nil _ _⟩
 have Y := X.stored s1 g1
 have S2 := s2.ret x g1 (.slice A1 n1 c1)
 have hn := zA0 ((v.setCell ⟨a, 0, none⟩ (.bool g1)).setCell ⟨a, 1, none⟩ (.slice A1 n1 c1)) (.cells #[.bool g2, .slice A2 n2 c2] 24)
 have B := Bx.new ((v.setCell ⟨a, 0, none⟩ (.bool g1)).setCell ⟨a, 1, none⟩ (.slice A1 n1 c1)) g2 A2 n2 c2
 have e : ((v.setCell ⟨a, 0, none⟩ (.bool g1)).setCell ⟨a, 1, none⟩ (.slice A1 n1 c1)).heap.size = v.heap.size := by simp [World.setCell]
 rw [e] at B
 exact ⟨_, _, g1, A1, n1, c1, xs1, g2, A2, n2, c2, xs2, rfl, rfl, Y.on hn, o1, ⟨B, S2.on hn⟩, o2, (K.ret x ha hp _ _).alloc _⟩
theorem m2_no (x : Bx v a false none 0 0) (hp : p < w.heap.size) (ha : w.heap.size <= a) (K : Kp w v p f) (s1 : Sl v v.heap.size A1 n1 c1 xs1) (o1 : ov g1 xs1 = some z1) (s2 : Sl v v.heap.size A2 n2 c2 xs2) (o2 : ov g2 xs2 = some z2) :
 Mid2 w p z1 z2 f (.pointer (some ⟨v.heap.size, 0, none⟩)) (.pointer (some ⟨a, 0, none⟩)) (((v.setCell ⟨a, 0, none⟩ (.bool g2)).setCell ⟨a, 1, none⟩ (.slice A2 n2 c2)).alloc (.cells #[.bool g1, .slice A1 n1 c1] 24)) := by
 obtain ⟨a', b', h1, h2, h3, h4, h5, k1, k2, k3, k4, k5, e1, e2, x1, o1', x2, o2', K'⟩ := m2_on x hp ha K s2 o2 s1 o1
 exact ⟨_, _, _, _, _, _, _, _, _, _, _, _, e2, e1, x2, o2', x1, o1', K'⟩
theorem m2_oo (x : Bx v a false none 0 0) (y : Bx v b false none 0 0) (hne : a ≠ b) (hp : p < w.heap.size) (ha : w.heap.size <= a) (hb : w.heap.size <= b) (K : Kp w v p f) (s1 : Sl v v.heap.size A1 n1 c1 xs1) (o1 : ov g1 xs1 = some z1) (s2 : Sl v v.heap.size A2 n2 c2 xs2) (o2 : ov g2 xs2 = some z2) :
 Mid2 w p z1 z2 f (.pointer (some ⟨a, 0, none⟩)) (.pointer (some ⟨b, 0, none⟩)) ((((v.setCell ⟨a, 0, none⟩ (.bool g1)).setCell ⟨a, 1, none⟩ (.slice A1 n1 c1)).setCell ⟨b, 0, none⟩ (.bool g2)).setCell ⟨b, 1, none⟩ (.slice A2 n2 c2)) := by
 have X : Ba v a false none 0 0 [] := ⟨x, Sl.nil _ _⟩
 have Y : Ba v b false none 0 0 [] := ⟨y, Sl.nil _ _⟩
 have X1 := X.stored s1 g1
 have Y1 := Y.aside X hne.symm g1 (.slice A1 n1 c1)
 have S2 := s2.ret x g1 (.slice A1 n1 c1)
 exact ⟨_, _, g1, A1, n1, c1, xs1, g2, A2, n2, c2, xs2, rfl, rfl, X1.aside Y1 hne _ _, o1, Y1.stored S2 _, o2, (K.ret x ha hp _ _).ret Y1.bx hb hp _ _⟩
end
theorem zU1 (q q' : RVal) (w W : World) (h : q.In w) (h' : q'.In w) (hW : ((w.alloc (.cells #[.bool q.g, .slice q.A q.n q.c, .bool q.gd, .slice q.Ad q.nd q.cd] 26)).alloc (.cells #[.bool q'.g, .slice q'.A q'.n q'.c, .bool q'.gd, .slice q'.Ad q'.nd q'.cd] 26)).alloc (.cells #[.bool q.g, .slice q.A q.n q.c, .bool q.gd, .slice q.Ad q.nd q.cd, .bool q'.g, .slice q'.A q'.n q'.c, .bool q'.gd, .slice q'.Ad q'.nd q'.cd] 26) = W) :
 Below w.heap.size w W /\ Rb W w.heap.size q /\ Rb W (w.heap.size + 1) q' /\ Blk W (w.heap.size + 1 + 1) 26 #[.bool q.g, .slice q.A q.n q.c, .bool q.gd, .slice q.Ad q.nd q.cd, .bool q'.g, .slice q'.A q'.n q'.c, .bool q'.gd, .slice q'.Ad q'.nd q'.cd] := by
 obtain ⟨hb, h1, h2⟩ := zL3 q q' w _ h h' rfl
 have hn := zA0 ((w.alloc (.cells #[.bool q.g, .slice q.A q.n q.c, .bool q.gd, .slice q.Ad q.nd q.cd] 26)).alloc (.cells #[.bool q'.g, .slice q'.A q'.n q'.c, .bool q'.gd, .slice q'.Ad q'.nd q'.cd] 26)) (.cells #[.bool q.g, .slice q.A q.n q.c, .bool q.gd, .slice q.Ad q.nd q.cd, .bool q'.g, .slice q'.A q'.n q'.c, .bool q'.gd, .slice q'.Ad q'.nd q'.cd] 26)
 have h4 := Blk.new ((w.alloc (.cells #[.bool q.g, .slice q.A q.n q.c, .bool q.gd, .slice q.Ad q.nd q.cd] 26)).alloc (.cells #[.bool q'.g, .slice q'.A q'.n q'.c, .bool q'.gd, .slice q'.Ad q'.nd q'.cd] 26)) 26 #[.bool q.g, .slice q.A q.n q.c, .bool q.gd, .slice q.Ad q.nd q.cd, .bool q'.g, .slice q'.A q'.n q'.c, .bool q'.gd, .slice q'.Ad q'.nd q'.cd]
 rw [hW] at hn h4
 exact ⟨zA hb hb.size hn, h1.on hn, h2.on hn, by simpa using h4⟩
theorem rcm_bad (q q' : RVal) (w : World) (h : q.In w) (h' : q'.In w) (o o' : Bool) (e1 : (rv q.o q.od).isSome = o) (e2 : (rv q'.o q'.od).isSome = o') (hoo : (o && o') = false) :
 Calls Tryz.prog 17 #[.agg #[.bool q.g, .slice q.A q.n q.c, .bool q.gd, .slice q.Ad q.nd q.cd], .agg #[.bool q'.g, .slice q'.A q'.n q'.c, .bool q'.gd, .slice q'.Ad q'.nd q'.cd]] w (RetC 0 1 w) := by
 have HE := hI (And.intro e1 e2)
 clear e1 e2
 have HS := hI (And.intro h h')
 clear h h'
 go_enter Tryz.func17, Tryz.ntmps17
 go_wp2_with fail
 generalize hW : World.alloc (World.alloc (World.alloc w _) _) _ = V0
 obtain ⟨hb, ra, rb, ar⟩ := zU1 q q' w V0 HS.out.1 HS.out.2 hW
 have HB := hI hb
 clear hW hb
 generalize hr : w.heap.size = r at *
 have HRr := hI hr
 clear hr
 have C := zI0 q q' (r + 1 + 1) o o' V0 ra.sl rb.sl ar HE.out.1 HE.out.2
 refine C.mono ?_
 clear C ar
 rintro e w1 ⟨rfl, hb1⟩
 have B1 := hI (zA HB.out (by have := HB.out.size; have := HRr.out; omega) hb1)
 have RA := hI (ra.on hb1)
 have RB := hI (rb.on hb1)
 clear hb1 ra rb
 rw [hoo]
 go_wp2
 go_ret2
 exact ⟨rfl, HRr.out.symm ▸ B1.out⟩
theorem Bx.kpa {w w' : World} {p r n c a b : Nat} {f : Int} {g : Bool} {A : Option Addr} {o : Obj} (x : Bx w r g A n c) (h : Kp (w.alloc o) w' p f) (k : p < a) (l : a <= b) (m : Hid (Lez b r)) : Bx w' r g A n c := h.blk _ _ _ (zJ8 k l m.out) (x.alloc o)
theorem Bx.kp1 (w : World) {w' : World} {p a b : Nat} {f : Int} (h : Kp (w.alloc (.cells #[.bool false, .slice none 0 0] 24)) w' p f) (k : p < a) (l : a <= b) (m : Hid (Lez b w.heap.size)) : Bx w' w.heap.size false none 0 0 := h.blk _ _ _ (zJ8 k l m.out) (Bx.new w false none 0 0)
theorem Bx.kp2 (w : World) {w' : World} {p a b : Nat} {f : Int} (h : Kp ((w.alloc (.cells #[.bool false, .slice none 0 0] 24)).alloc (.cells #[.bool false, .slice none 0 0] 24)) w' p f) (k : p < a) (l : a <= b) (m : Hid (Lez b w.heap.size)) : Bx w' w.heap.size false none 0 0 := h.blk _ _ _ (zJ8 k l m.out) ((Bx.new w false none 0 0).alloc _)
theorem Bx.kp3 (w : World) {w' : World} {p a b : Nat} {f : Int} (h : Kp ((w.alloc (.cells #[.bool false, .slice none 0 0] 24)).alloc (.cells #[.bool false, .slice none 0 0] 24)) w' p f) (k : p < a) (l : a <= b) (m : Hid (Lez b (w.heap.size + 1))) : Bx w' (w.heap.size + 1) false none 0 0 := h.blk _ _ _ (zJ8 k l m.out) (by have := Bx.new (w.alloc (.cells #[.bool false, .slice none 0 0] 24)) false none 0 0; show Bx _ _ false none 0 0; simpa using this)
theorem rcm_short (q q' : RVal) (w : World) (h : q.In w) (h' : q'.In w) (x y : Rat) (hx : rv q.o q.od = some x) (hy : rv q'.o q'.od = some y) (an ad bn bd z1 z2 f1 f2 : Int) (o1 : q.o = some an) (o2 : q.od = some ad) (o3 : q'.o = some bn) (o4 : q'.od = some bd) (h1 : fitZ (an * bd) = z1) (h2 : fitZ (bn * ad) = z2) (k1 : Kf 0 (fitE (an * bd)) f1) (k2 : Kf f1 (fitE (bn * ad)) f2) (hf : f2 = 0) (u : Int) (hu : Int.sign (z1 - z2) = u) :
 Calls Tryz.prog 17 #[.agg #[.bool q.g, .slice q.A q.n q.c, .bool q.gd, .slice q.Ad q.nd q.cd], .agg #[.bool q'.g, .slice q'.A q'.n q'.c, .bool q'.gd, .slice q'.Ad q'.nd q'.cd]] w (RetC u 0 w) := by
 have HE := hI (And.intro (zE1 hx) (zE1 hy))
 have HO := hI (And.intro (And.intro o1 o2) (And.intro o3 o4))
 have HZ := hI (And.intro h1 h2)
 have HF := hI (And.intro k1 k2)
 have HU := hI hu
 clear hx hy o1 o2 o3 o4 h1 h2 k1 k2 hu
 subst hf
 have HS := hI (And.intro h h')
 clear h h'
 go_enter Tryz.func17, Tryz.ntmps17
 go_wp2_with fail
 generalize hW : World.alloc (World.alloc (World.alloc w _) _) _ = V0
 obtain ⟨hb, ra, rb, ar⟩ := zU1 q q' w V0 HS.out.1 HS.out.2 hW
 have HB := hI hb
 clear hW hb
 generalize hr : w.heap.size = r at *
 have HRr := hI hr
 clear hr
 have C := zI0 q q' (r + 1 + 1) true true V0 ra.sl rb.sl ar HE.out.1 HE.out.2
 refine C.mono ?_
 clear C ar
 rintro e w1 ⟨rfl, hb1⟩
 have B1 := hI (zA HB.out (by have := HB.out.size; have := HRr.out; omega) hb1)
 have RA := hI (ra.on hb1)
 have RB := hI (rb.on hb1)
 clear hb1 ra rb
 have lr := RB.out.lt
 go_upto_region 4 with fail
 generalize hW : World.alloc w1 _ = V
 have hn := zA0 w1 (.cells #[.int .i64 0] 68)
 have hcl := Blk.new w1 68 #[.int .i64 0]
 rw [hW] at hn hcl
 have B2 := hI (zA B1.out (by have := B1.out.size; have := HRr.out; omega) hn)
 have RA1 := hI (RA.out.on hn)
 have RB1 := hI (RB.out.on hn)
 have hs8 : r + 1 < w1.heap.size := lr
 have K0 : Hid (Kp V V w1.heap.size 0) := hI (Kp.below (Below.refl _ _) hcl)
 have K0d := hI K0.out.drew
 have hlt : w1.heap.size < w1.heap.size + 1 := Nat.lt_succ_self _
 have hsz : w1.heap.size + 1 <= V.heap.size := by rw [<- hW]; simp
 clear hn hcl hW RA RB B1 lr
 generalize w1.heap.size = p at *
 have na : r ≠ p := by omega
 have nb : r + 1 ≠ p := by omega
 have HA := hI (And.intro RA1.out (And.intro na (And.intro RB1.out nb)))
 clear RA1 RB1 na nb
 have p0 := (K0.out.rb HA.out.1 HA.out.2.1).c0
 have p1 := (K0.out.rb HA.out.1 HA.out.2.1).c1
 have p2 := (K0.out.rb HA.out.1 HA.out.2.1).c2
 have p3 := (K0.out.rb HA.out.1 HA.out.2.1).c3
 have p4 := (K0.out.rb HA.out.2.2.1 HA.out.2.2.2).c0
 have p5 := (K0.out.rb HA.out.2.2.1 HA.out.2.2.2).c1
 have p6 := (K0.out.rb HA.out.2.2.1 HA.out.2.2.2).c2
 have p7 := (K0.out.rb HA.out.2.2.1 HA.out.2.2.2).c3
 have pw0 := World.new_ne _ _ p0
 have px0 := pw0.symm
 have py0 := Nat.ne_of_gt (Nat.lt_succ_of_lt (World.block_lt_of_cell? _ _ p0))
 have pz0 := py0.symm
 have pw4 := World.new_ne _ _ p4
 have px4 := pw4.symm
 have py4 := Nat.ne_of_gt (Nat.lt_succ_of_lt (World.block_lt_of_cell? _ _ p4))
 have pz4 := py4.symm
 go_upto_region 4 with fail
 go_cut [7, 8] (fun s7 s8 wx => Mid2 V p z1 z2 0 s7 s8 wx)
 case first =>
  go_region_held3 (fun w' => w'.cell? ⟨r, 0, none⟩ = some (.bool q.g) /\ w'.cell? ⟨r, 1, none⟩ = some (.slice q.A q.n q.c) /\ w'.cell? ⟨r, 2, none⟩ = some (.bool q.gd) /\ w'.cell? ⟨r, 3, none⟩ = some (.slice q.Ad q.nd q.cd) /\ w'.cell? ⟨r + 1, 0, none⟩ = some (.bool q'.g) /\ w'.cell? ⟨r + 1, 1, none⟩ = some (.slice q'.A q'.n q'.c) /\ w'.cell? ⟨r + 1, 2, none⟩ = some (.bool q'.gd) /\ w'.cell? ⟨r + 1, 3, none⟩ = some (.slice q'.Ad q'.nd q'.cd)) (go_keep)
   (first
    | (go_at_call 30; (first | (have K := K1.out; have C := zC4 q'.g q.gd q'.A q.Ad q'.n q'.c q.nd q.cd p q'.xs q.ys bn ad f1 0 v1 (K.sl _ _ _ _ HA.out.2.2.1.sl.1) (K.sl _ _ _ _ HA.out.1.sl.2) HO.out.2.1 HO.out.1.2 K.cl HF.out.2; rw [HZ.out.2] at C; (with_reducible refine C.mono ?_); clear C; rintro e v2 ⟨g2, A2, n2, c2, xs2, rfl, hs2, ho2, hk2⟩; (try replace fa := fa.kp hk2 hlt hsz ha9); (try replace fb := fb.kp hk2 hlt hsz hb9); have G1' : Hid (Sl v2 v2.heap.size A1 n1 c1 xs1 /\ ov g1 xs1 = some z1) := hI ⟨hk2.sl _ _ _ _ G1.out.1, G1.out.2⟩; clear G1; have G1 := G1'; clear G1'; have K2 := hI (K.trans hk2); have G2 := hI (And.intro hs2 ho2); clear K hk2 hs2 ho2) | (have K := (K1.out.alloc (.cells #[.bool false, .slice none 0 0] 24)); have C := zC4 q'.g q.gd q'.A q.Ad q'.n q'.c q.nd q.cd p q'.xs q.ys bn ad f1 0 (v1.alloc (.cells #[.bool false, .slice none 0 0] 24)) (K.sl _ _ _ _ HA.out.2.2.1.sl.1) (K.sl _ _ _ _ HA.out.1.sl.2) HO.out.2.1 HO.out.1.2 K.cl HF.out.2; rw [HZ.out.2] at C; (with_reducible refine C.mono ?_); clear C; rintro e v2 ⟨g2, A2, n2, c2, xs2, rfl, hs2, ho2, hk2⟩; (first | (have fab := hI (Nat.ne_of_lt fa.lt); replace fa := fa.kpa hk2 hlt hsz ha9; have hb9 : Hid (Lez V.heap.size v1.heap.size) := hI K1.out.size; have fb : Bx v2 v1.heap.size false none 0 0 := Bx.kp1 v1 hk2 hlt hsz hb9) | (have ha9 : Hid (Lez V.heap.size v1.heap.size) := hI K1.out.size; have fa : Bx v2 v1.heap.size false none 0 0 := Bx.kp1 v1 hk2 hlt hsz ha9)); have G1' : Hid (Sl v2 v2.heap.size A1 n1 c1 xs1 /\ ov g1 xs1 = some z1) := hI ⟨hk2.sl _ _ _ _ (Sl.on G1.out.1 (zA0 _ _)), G1.out.2⟩; clear G1; have G1 := G1'; clear G1'; have K2 := hI (K.trans hk2); have G2 := hI (And.intro hs2 ho2); clear K hk2 hs2 ho2) | (have K := ((K1.out.alloc (.cells #[.bool false, .slice none 0 0] 24)).alloc (.cells #[.bool false, .slice none 0 0] 24)); have C := zC4 q'.g q.gd q'.A q.Ad q'.n q'.c q.nd q.cd p q'.xs q.ys bn ad f1 0 ((v1.alloc (.cells #[.bool false, .slice none 0 0] 24)).alloc (.cells #[.bool false, .slice none 0 0] 24)) (K.sl _ _ _ _ HA.out.2.2.1.sl.1) (K.sl _ _ _ _ HA.out.1.sl.2) HO.out.2.1 HO.out.1.2 K.cl HF.out.2; rw [HZ.out.2] at C; (with_reducible refine C.mono ?_); clear C; rintro e v2 ⟨g2, A2, n2, c2, xs2, rfl, hs2, ho2, hk2⟩; have ha9 : Hid (Lez V.heap.size v1.heap.size) := hI K1.out.size; have hb9 : Hid (Lez V.heap.size (v1.heap.size + 1)) := hI (Nat.le_succ_of_le K1.out.size); have fa : Bx v2 v1.heap.size false none 0 0 := Bx.kp2 v1 hk2 hlt hsz ha9; have fb : Bx v2 (v1.heap.size + 1) false none 0 0 := Bx.kp3 v1 hk2 hlt hsz hb9; have fab := hI (Nat.ne_of_lt (Nat.lt_succ_self v1.heap.size)); have G1' : Hid (Sl v2 v2.heap.size A1 n1 c1 xs1 /\ ov g1 xs1 = some z1) := hI ⟨hk2.sl _ _ _ _ (Sl.on (Sl.on G1.out.1 (zA0 _ _)) (zA0 _ _)), G1.out.2⟩; clear G1; have G1 := G1'; clear G1'; have K2 := hI (K.trans hk2); have G2 := hI (And.intro hs2 ho2); clear K hk2 hs2 ho2)); clear t0 t1 t2 t3 t4 t5 t6 t7; have u0 := (K2.out.rb HA.out.1 HA.out.2.1).c0; have u1 := (K2.out.rb HA.out.1 HA.out.2.1).c1; have u2 := (K2.out.rb HA.out.1 HA.out.2.1).c2; have u3 := (K2.out.rb HA.out.1 HA.out.2.1).c3; have u4 := (K2.out.rb HA.out.2.2.1 HA.out.2.2.2).c0; have u5 := (K2.out.rb HA.out.2.2.1 HA.out.2.2.2).c1; have u6 := (K2.out.rb HA.out.2.2.1 HA.out.2.2.2).c2; have u7 := (K2.out.rb HA.out.2.2.1 HA.out.2.2.2).c3; have uw0 := World.new_ne _ _ u0; have ux0 := uw0.symm; have uy0 := Nat.ne_of_gt (Nat.lt_succ_of_lt (World.block_lt_of_cell? _ _ u0)); have uz0 := uy0.symm; have uw4 := World.new_ne _ _ u4; have ux4 := uw4.symm; have uy4 := Nat.ne_of_gt (Nat.lt_succ_of_lt (World.block_lt_of_cell? _ _ u4)); have uz4 := uy4.symm; (try (have t0 := fa.c0; have t1 := fa.c1; have t2 := fa.f 0; have t3 := fa.f 1; have t8 := fa.lt; have t9 := Nat.ne_of_lt t8; have FA := hI fa; clear fa)); (try (have s0 := fb.c0; have s1 := fb.c1; have s2 := fb.f 0; have s3 := fb.f 1; have s8 := fb.lt; have s9 := Nat.ne_of_lt s8; have FB := hI fb; clear fb; have fx := fab.out; have fy := fab.out.symm)))
    | (go_at_call 30; (first | (have K := K0.out.drew; have C := zC4 q.g q'.gd q.A q'.Ad q.n q.c q'.nd q'.cd p q.xs q'.ys an bd 0 f1 V.drew (K.sl _ _ _ _ HA.out.1.sl.1) (K.sl _ _ _ _ HA.out.2.2.1.sl.2) HO.out.1.1 HO.out.2.2 K.cl HF.out.1; rw [HZ.out.1] at C; (with_reducible refine C.mono ?_); clear C; rintro e v1 ⟨g1, A1, n1, c1, xs1, rfl, hs1, ho1, hk1⟩; (try replace fa := fa.kp hk1 hlt hsz ha9); (try replace fb := fb.kp hk1 hlt hsz hb9); have K1 := hI (K.trans hk1); have G1 := hI (And.intro hs1 ho1); clear K hk1 hs1 ho1) | (have K := (K0.out.alloc (.cells #[.bool false, .slice none 0 0] 24)).drew; have C := zC4 q.g q'.gd q.A q'.Ad q.n q.c q'.nd q'.cd p q.xs q'.ys an bd 0 f1 (V.alloc (.cells #[.bool false, .slice none 0 0] 24)).drew (K.sl _ _ _ _ HA.out.1.sl.1) (K.sl _ _ _ _ HA.out.2.2.1.sl.2) HO.out.1.1 HO.out.2.2 K.cl HF.out.1; rw [HZ.out.1] at C; (with_reducible refine C.mono ?_); clear C; rintro e v1 ⟨g1, A1, n1, c1, xs1, rfl, hs1, ho1, hk1⟩; (first | (have fab := hI (Nat.ne_of_lt fa.lt); replace fa := fa.kpa hk1.undrew hlt hsz ha9; have hb9 : Hid (Lez V.heap.size V.heap.size) := hI K0.out.size; have fb : Bx v1 V.heap.size false none 0 0 := Bx.kp1 V hk1.undrew hlt hsz hb9) | (have ha9 : Hid (Lez V.heap.size V.heap.size) := hI K0.out.size; have fa : Bx v1 V.heap.size false none 0 0 := Bx.kp1 V hk1.undrew hlt hsz ha9)); have K1 := hI (K.trans hk1); have G1 := hI (And.intro hs1 ho1); clear K hk1 hs1 ho1) | (have K := ((K0.out.alloc (.cells #[.bool false, .slice none 0 0] 24)).alloc (.cells #[.bool false, .slice none 0 0] 24)).drew; have C := zC4 q.g q'.gd q.A q'.Ad q.n q.c q'.nd q'.cd p q.xs q'.ys an bd 0 f1 ((V.alloc (.cells #[.bool false, .slice none 0 0] 24)).alloc (.cells #[.bool false, .slice none 0 0] 24)).drew (K.sl _ _ _ _ HA.out.1.sl.1) (K.sl _ _ _ _ HA.out.2.2.1.sl.2) HO.out.1.1 HO.out.2.2 K.cl HF.out.1; rw [HZ.out.1] at C; (with_reducible refine C.mono ?_); clear C; rintro e v1 ⟨g1, A1, n1, c1, xs1, rfl, hs1, ho1, hk1⟩; have ha9 : Hid (Lez V.heap.size V.heap.size) := hI K0.out.size; have hb9 : Hid (Lez V.heap.size (V.heap.size + 1)) := hI (Nat.le_succ_of_le K0.out.size); have fa : Bx v1 V.heap.size false none 0 0 := Bx.kp2 V hk1.undrew hlt hsz ha9; have fb : Bx v1 (V.heap.size + 1) false none 0 0 := Bx.kp3 V hk1.undrew hlt hsz hb9; have fab := hI (Nat.ne_of_lt (Nat.lt_succ_self V.heap.size)); have K1 := hI (K.trans hk1); have G1 := hI (And.intro hs1 ho1); clear K hk1 hs1 ho1)); clear p0 p1 p2 p3 p4 p5 p6 p7; have t0 := (K1.out.rb HA.out.1 HA.out.2.1).c0; have t1 := (K1.out.rb HA.out.1 HA.out.2.1).c1; have t2 := (K1.out.rb HA.out.1 HA.out.2.1).c2; have t3 := (K1.out.rb HA.out.1 HA.out.2.1).c3; have t4 := (K1.out.rb HA.out.2.2.1 HA.out.2.2.2).c0; have t5 := (K1.out.rb HA.out.2.2.1 HA.out.2.2.2).c1; have t6 := (K1.out.rb HA.out.2.2.1 HA.out.2.2.2).c2; have t7 := (K1.out.rb HA.out.2.2.1 HA.out.2.2.2).c3; have tw0 := World.new_ne _ _ t0; have tx0 := tw0.symm; have ty0 := Nat.ne_of_gt (Nat.lt_succ_of_lt (World.block_lt_of_cell? _ _ t0)); have tz0 := ty0.symm; have tw4 := World.new_ne _ _ t4; have tx4 := tw4.symm; have ty4 := Nat.ne_of_gt (Nat.lt_succ_of_lt (World.block_lt_of_cell? _ _ t4)); have tz4 := ty4.symm))
  all_goals (go_wp2_with fail; go_meet; first
   | exact m2_78 K2.out G1.out.1 G1.out.2 G2.out.1 G2.out.2
   | exact m2_87 K2.out G1.out.1 G1.out.2 G2.out.1 G2.out.2
   | exact m2_on FA.out (Nat.lt_of_lt_of_le hlt hsz) ha9.out K2.out G1.out.1 G1.out.2 G2.out.1 G2.out.2
   | exact m2_no FA.out (Nat.lt_of_lt_of_le hlt hsz) ha9.out K2.out G1.out.1 G1.out.2 G2.out.1 G2.out.2
   | exact m2_oo FA.out FB.out fab.out (Nat.lt_of_lt_of_le hlt hsz) ha9.out hb9.out K2.out G1.out.1 G1.out.2 G2.out.1 G2.out.2
   | exact m2_oo FB.out FA.out fab.out.symm (Nat.lt_of_lt_of_le hlt hsz) hb9.out ha9.out K2.out G1.out.1 G1.out.2 G2.out.1 G2.out.2)
 case rest =>
 obtain ⟨a9, b9, g8, A8, n8, c8, xs8, g9, A9, n9, c9, xs9, rfl, rfl, x8, o8, x9, o9, k9⟩ := hcut
 have B9 := hI (k9.bel _ _ B2.out (by omega) (by have := B2.out.size; have := HRr.out; omega))
 have X8 := hI x8
 have X9 := hI x9
 have O89 := hI (And.intro o8 o9)
 have hcl := k9.cl
 have kc : wc.cell? ⟨p, 0, none⟩ = some (.int .i64 0) := by rw [Blk.cell hcl 0]; rfl
 have m0 := X8.out.bx.c0
 have m1 := X8.out.bx.c1
 have m2 := X9.out.bx.c0
 have m3 := X9.out.bx.c1
 clear k9 x8 x9 o8 o9 hcl
 go_wp2_with fail
 refine (cmp_ov X8.out.sl X9.out.sl O89.out.1 O89.out.2 HU.out).mono ?_
 rintro e w5 ⟨rfl, hb5⟩
 have B5 := hI (zA B9.out (by have := B9.out.size; have := HRr.out; omega) hb5)
 clear hb5 m0 m1 m2 m3 kc X8 X9 B9
 go_wp2
 go_ret2
 exact ⟨rfl, HRr.out.symm ▸ B5.out⟩
end Go.Proofs.YtphinlongdoedaaGreat
namespace Go.Proofs.YtphinlongdoedaaGreat
open Go.RowKit
set_option maxRecDepth 20000
set_option maxHeartbeats 4000000
def RetMQ (z zd f : Int) (p : Nat) (w : World) (e : Ending) (w' : World) : Prop := ∃ t : RVal, e = .returned (.agg #[.bool t.g, .slice t.A t.n t.c, .bool t.gd, .slice t.Ad t.nd t.cd]) /\ t.In w' /\ t.o = some z /\ t.od = some zd /\ Kp w w' p f
theorem Kp.put {w w' : World} {p r : Nat} {f : Int} {q : RVal} (h : Kp w w' p f) (hr : Rb w' r q) (hs : w.heap.size <= r) (hp : p < w.heap.size) (a : Bool) (b : Value) (c : Bool) (d : Value) : Kp w (put4 w' r a b c d) p f := by
 refine ⟨fun A n c xs s => (h.sl A n c xs s).put4 hr.bx _ _ _ _, fun g t cs hg k => ?_, ?_, fun B a k h1 h2 => zA5 (h.bel B a k h1 h2) (by omega) _ _ _ _, by rw [zJ]; exact h.size⟩
 . have hlt := Blk.lt k
   have hne : g ≠ r := by omega
   exact Blk.far (Blk.far (Blk.far (Blk.far (h.blk g t cs hg k) (p := ⟨r, 0, none⟩) hne _) (p := ⟨r, 1, none⟩) hne _) (p := ⟨r, 2, none⟩) hne _) (p := ⟨r, 3, none⟩) hne _
 . have hne : p ≠ r := by omega
   exact Blk.far (Blk.far (Blk.far (Blk.far h.cl (p := ⟨r, 0, none⟩) hne _) (p := ⟨r, 1, none⟩) hne _) (p := ⟨r, 2, none⟩) hne _) (p := ⟨r, 3, none⟩) hne _
theorem conv_boxes (q q' : RVal) (g : Bool) (A : Option Addr) (n c : Nat) (xs : List Nat) (w W : World) (h : q.In w) (h' : q'.In w) (hx : Sl w w.heap.size A n c xs)
 (hW : (((w.alloc (.cells #[.bool q.g, .slice q.A q.n q.c, .bool q.gd, .slice q.Ad q.nd q.cd] 26)).alloc (.cells #[.bool q'.g, .slice q'.A q'.n q'.c, .bool q'.gd, .slice q'.Ad q'.nd q'.cd] 26)).alloc (.cells #[.bool g, .slice A n c] 24)).alloc (.cells #[.bool false, .slice none 0 0, .bool false, .slice none 0 0] 26) = W) :
 Below w.heap.size w W /\ Rb W w.heap.size q /\ Rb W (w.heap.size + 1) q' /\ Ba W (w.heap.size + 1 + 1) g A n c xs /\ Rb W (w.heap.size + 1 + 1 + 1) RVal.nil := by
 obtain ⟨hb, h1, h2⟩ := zL3 q q' w _ h h' rfl
 have n3 := zA0 ((w.alloc (.cells #[.bool q.g, .slice q.A q.n q.c, .bool q.gd, .slice q.Ad q.nd q.cd] 26)).alloc (.cells #[.bool q'.g, .slice q'.A q'.n q'.c, .bool q'.gd, .slice q'.Ad q'.nd q'.cd] 26)) (.cells #[.bool g, .slice A n c] 24)
 have b3 := Bx.new ((w.alloc (.cells #[.bool q.g, .slice q.A q.n q.c, .bool q.gd, .slice q.Ad q.nd q.cd] 26)).alloc (.cells #[.bool q'.g, .slice q'.A q'.n q'.c, .bool q'.gd, .slice q'.Ad q'.nd q'.cd] 26)) g A n c
 have n4 := zA0 (((w.alloc (.cells #[.bool q.g, .slice q.A q.n q.c, .bool q.gd, .slice q.Ad q.nd q.cd] 26)).alloc (.cells #[.bool q'.g, .slice q'.A q'.n q'.c, .bool q'.gd, .slice q'.Ad q'.nd q'.cd] 26)).alloc (.cells #[.bool g, .slice A n c] 24)) (.cells #[.bool false, .slice none 0 0, .bool false, .slice none 0 0] 26)
 have b4 := Rb.new (RVal.nil_in (((w.alloc (.cells #[.bool q.g, .slice q.A q.n q.c, .bool q.gd, .slice q.Ad q.nd q.cd] 26)).alloc (.cells #[.bool q'.g, .slice q'.A q'.n q'.c, .bool q'.gd, .slice q'.Ad q'.nd q'.cd] 26)).alloc (.cells #[.bool g, .slice A n c] 24)))
 rw [hW] at n4
 refine ⟨zA (zA hb hb.size n3) (by have := hb.size; simp at this ⊢; omega) n4, (h1.on n3).on n4, (h2.on n3).on n4, ⟨?_, ((hx.on hb).on n3).on n4⟩, ?_⟩
 . have := b3.below n4 b3.lt
   simpa using this
 . rw [<- hW]
   simpa [RVal.nil] using b4
theorem conv_any (q q' : RVal) (g : Bool) (A : Option Addr) (n c p : Nat) (xs : List Nat) (pn pd rn rd k z1 z2 z3 z4 f0 f1 f2 f3 f4 : Int) (w : World) (h : q.In w) (h' : q'.In w) (hx : Sl w w.heap.size A n c xs) (hp : Blk w p 68 #[.int .i64 f0])
 (o1 : q.o = some pn) (o2 : q.od = some pd) (o3 : q'.o = some rn) (o4 : q'.od = some rd) (o5 : ov g xs = some k)
 (h1 : fitZ (k * rn) = z1) (h2 : fitZ (z1 + pn) = z2) (h3 : fitZ (k * rd) = z3) (h4 : fitZ (z3 + pd) = z4) (k1 : Kf f0 (fitE (k * rn)) f1) (k2 : Kf f1 (fitE (z1 + pn)) f2) (k3 : Kf f2 (fitE (k * rd)) f3) (k4 : Kf f3 (fitE (z3 + pd)) f4) :
 Calls Tryz.prog 45 #[.pointer (some ⟨p, 0, none⟩), .agg #[.bool q.g, .slice q.A q.n q.c, .bool q.gd, .slice q.Ad q.nd q.cd], .agg #[.bool q'.g, .slice q'.A q'.n q'.c, .bool q'.gd, .slice q'.Ad q'.nd q'.cd], .agg #[.bool g, .slice A n c]] w (RetMQ z2 z4 f4 p w) := by
 have HO := hI (And.intro (And.intro o1 o2) (And.intro (And.intro o3 o4) o5))
 have HZ := hI (And.intro h1 (And.intro h2 (And.intro h3 h4)))
 have HF := hI (And.intro k1 (And.intro k2 (And.intro k3 k4)))
 have HS := hI (And.intro h (And.intro h' hx))
 have hlt := Blk.lt hp
 have HP := hI hp
 clear o1 o2 o3 o4 o5 h1 h2 h3 h4 k1 k2 k3 k4 h h' hx hp
 go_enter Tryz.func45, Tryz.ntmps45
 go_upto_region 1 with fail
 generalize hW : World.alloc (World.alloc (World.alloc (World.alloc w _) _) _) _ = V
 obtain ⟨hb, ra, rb, rx, rr⟩ := conv_boxes q q' g A n c xs w V HS.out.1 HS.out.2.1 HS.out.2.2 hW
 have KW : Hid (Kp w V p f0) := hI (Kp.below hb HP.out)
 have hsz0 : w.heap.size <= V.heap.size := hb.size
 generalize hr : w.heap.size = r at *
 have HRr := hI hr
 have HA := hI (And.intro ra (And.intro rb (And.intro rx rr)))
 have HN := hI (show r ≠ p /\ r + 1 ≠ p /\ r + 1 + 1 ≠ p /\ r + 1 + 1 + 1 ≠ p from ⟨by omega, by omega, by omega, by omega⟩)
 have K0 : Hid (Kp V V p f0) := hI (Kp.below (Below.refl _ _) KW.out.cl)
 have K0d := hI K0.out.drew
 have hsz : r <= V.heap.size := hsz0
 have lr := rr.lt
 clear hb ra rb rx rr hW hr hsz0
 go_cut [9] (fun s9 wx => Mid V p z2 f2 s9 wx)
 case first =>
  have p0 := (K0.out.rb HA.out.1 HN.out.1).c0
  have p1 := (K0.out.rb HA.out.1 HN.out.1).c1
  have p2 := (K0.out.rb HA.out.1 HN.out.1).c2
  have p3 := (K0.out.rb HA.out.1 HN.out.1).c3
  have p4 := (K0.out.rb HA.out.2.1 HN.out.2.1).c0
  have p5 := (K0.out.rb HA.out.2.1 HN.out.2.1).c1
  have p6 := (K0.out.rb HA.out.2.1 HN.out.2.1).c2
  have p7 := (K0.out.rb HA.out.2.1 HN.out.2.1).c3
  have p8 := (K0.out.ba HA.out.2.2.1 HN.out.2.2.1).bx.c0
  have p9 := (K0.out.ba HA.out.2.2.1 HN.out.2.2.1).bx.c1
  have pw0 := World.new_ne _ _ p0
  have px0 := pw0.symm
  have pw4 := World.new_ne _ _ p4
  have px4 := pw4.symm
  have pw8 := World.new_ne _ _ p8
  have px8 := pw8.symm
  go_region_held3 (fun w' => w'.cell? ⟨r, 0, none⟩ = some (.bool q.g) /\ w'.cell? ⟨r, 1, none⟩ = some (.slice q.A q.n q.c) /\ w'.cell? ⟨r, 2, none⟩ = some (.bool q.gd) /\ w'.cell? ⟨r, 3, none⟩ = some (.slice q.Ad q.nd q.cd) /\ w'.cell? ⟨r + 1, 0, none⟩ = some (.bool q'.g) /\ w'.cell? ⟨r + 1, 1, none⟩ = some (.slice q'.A q'.n q'.c) /\ w'.cell? ⟨r + 1, 2, none⟩ = some (.bool q'.gd) /\ w'.cell? ⟨r + 1, 3, none⟩ = some (.slice q'.Ad q'.nd q'.cd) /\ w'.cell? ⟨r + 1 + 1, 0, none⟩ = some (.bool g) /\ w'.cell? ⟨r + 1 + 1, 1, none⟩ = some (.slice A n c)) (go_keep)
   (first
    | (go_at_call 29; (first | (have K := K1.out; have C := zM g1 q.g A1 q.A n1 c1 q.n q.c p xs1 q.xs z1 pn f1 f2 v1 G1.out.1 (K.sl _ _ _ _ HA.out.1.sl.1) G1.out.2 HO.out.1.1 K.cl HF.out.2.1; rw [HZ.out.2.1] at C; (with_reducible refine C.mono ?_); clear C; rintro e v2 ⟨g2, A2, n2, c2, xs2, rfl, hs2, ho2, hk2⟩; (try replace fb := fb.kp hk2 hlt hsz hbl); have K2 := hI (K.trans hk2); have G2 := hI (And.intro hs2 ho2); clear K hk2 hs2 ho2) | (have K := (K1.out.alloc (.cells #[.bool false, .slice none 0 0] 24)); have C := zM g1 q.g A1 q.A n1 c1 q.n q.c p xs1 q.xs z1 pn f1 f2 (v1.alloc (.cells #[.bool false, .slice none 0 0] 24)) (G1.out.1.on (zA0 _ _)) (K.sl _ _ _ _ HA.out.1.sl.1) G1.out.2 HO.out.1.1 K.cl HF.out.2.1; rw [HZ.out.2.1] at C; (with_reducible refine C.mono ?_); clear C; rintro e v2 ⟨g2, A2, n2, c2, xs2, rfl, hs2, ho2, hk2⟩; have fb : Bx v2 v1.heap.size false none 0 0 := hk2.bx (Bx.new v1 false none 0 0) (zJ8 hlt hsz K1.out.size); have hbl : Hid (Lez V.heap.size v1.heap.size) := hI K1.out.size; have K2 := hI (K.trans hk2); have G2 := hI (And.intro hs2 ho2); clear K hk2 hs2 ho2)); clear t0 t1 t2 t3 t4 t5 t6 t7 t8 t9; have u0 := (K2.out.rb HA.out.1 HN.out.1).c0; have u1 := (K2.out.rb HA.out.1 HN.out.1).c1; have u2 := (K2.out.rb HA.out.1 HN.out.1).c2; have u3 := (K2.out.rb HA.out.1 HN.out.1).c3; have u4 := (K2.out.rb HA.out.2.1 HN.out.2.1).c0; have u5 := (K2.out.rb HA.out.2.1 HN.out.2.1).c1; have u6 := (K2.out.rb HA.out.2.1 HN.out.2.1).c2; have u7 := (K2.out.rb HA.out.2.1 HN.out.2.1).c3; have u8 := (K2.out.ba HA.out.2.2.1 HN.out.2.2.1).bx.c0; have u9 := (K2.out.ba HA.out.2.2.1 HN.out.2.2.1).bx.c1; have uw0 := World.new_ne _ _ u0; have ux0 := uw0.symm; have uw4 := World.new_ne _ _ u4; have ux4 := uw4.symm; have uw8 := World.new_ne _ _ u8; have ux8 := uw8.symm; (try (have t0 := fb.c0; have t1 := fb.c1; have t2 := fb.f 0; have t3 := fb.f 1; have t8 := fb.lt; have FB := hI fb; clear fb)))
    | (go_at_call 30; (first | (have K := K0d.out; have C := zC4 g q'.g A q'.A n c q'.n q'.c p xs q'.xs k rn f0 f1 V.drew (K.sl _ _ _ _ HA.out.2.2.1.sl) (K.sl _ _ _ _ HA.out.2.1.sl.1) HO.out.2.2 HO.out.2.1.1 K.cl HF.out.1; rw [HZ.out.1] at C; (with_reducible refine C.mono ?_); clear C; rintro e v1 ⟨g1, A1, n1, c1, xs1, rfl, hs1, ho1, hk1⟩; have K1 := hI (K.trans hk1); have G1 := hI (And.intro hs1 ho1); clear K hk1 hs1 ho1) | (have K := (K0.out.alloc (.cells #[.bool false, .slice none 0 0] 24)).drew; have C := zC4 g q'.g A q'.A n c q'.n q'.c p xs q'.xs k rn f0 f1 (V.alloc (.cells #[.bool false, .slice none 0 0] 24)).drew (K.sl _ _ _ _ HA.out.2.2.1.sl) (K.sl _ _ _ _ HA.out.2.1.sl.1) HO.out.2.2 HO.out.2.1.1 K.cl HF.out.1; rw [HZ.out.1] at C; (with_reducible refine C.mono ?_); clear C; rintro e v1 ⟨g1, A1, n1, c1, xs1, rfl, hs1, ho1, hk1⟩; have fb : Bx v1 V.heap.size false none 0 0 := hk1.bx (Bx.new V.drew false none 0 0) (zJ8 hlt hsz K0d.out.size); have hbl : Hid (Lez V.heap.size V.heap.size) := hI K0d.out.size; have K1 := hI (K.trans hk1); have G1 := hI (And.intro hs1 ho1); clear K hk1 hs1 ho1)); clear p0 p1 p2 p3 p4 p5 p6 p7 p8 p9; have t0 := (K1.out.rb HA.out.1 HN.out.1).c0; have t1 := (K1.out.rb HA.out.1 HN.out.1).c1; have t2 := (K1.out.rb HA.out.1 HN.out.1).c2; have t3 := (K1.out.rb HA.out.1 HN.out.1).c3; have t4 := (K1.out.rb HA.out.2.1 HN.out.2.1).c0; have t5 := (K1.out.rb HA.out.2.1 HN.out.2.1).c1; have t6 := (K1.out.rb HA.out.2.1 HN.out.2.1).c2; have t7 := (K1.out.rb HA.out.2.1 HN.out.2.1).c3; have t8 := (K1.out.ba HA.out.2.2.1 HN.out.2.2.1).bx.c0; have t9 := (K1.out.ba HA.out.2.2.1 HN.out.2.2.1).bx.c1; have tw0 := World.new_ne _ _ t0; have tx0 := tw0.symm; have tw4 := World.new_ne _ _ t4; have tx4 := tw4.symm; have tw8 := World.new_ne _ _ t8; have tx8 := tw8.symm))
  all_goals (go_wp2_with fail; go_meet; first | exact mid_new K2.out G2.out.1 G2.out.2 | exact mid_old FB.out K2.out (Nat.lt_of_lt_of_le hlt hsz) hbl.out G2.out.1 G2.out.2)
 case rest =>
 obtain ⟨s, g5, A5, n5, c5, xs5, rfl, X5, o5, k5, l5⟩ := hcut
 obtain ⟨w5, rfl⟩ : ∃ w5 : World, w5 = wc := ⟨_, rfl⟩
 have K5 := hI k5
 have O5 := hI o5
 have HX5 := hI X5
 have K0 : Hid (Kp w5 w5 p f2) := hI (Kp.below (Below.refl _ _) K5.out.cl)
 have K0d := hI K0.out.drew
 have HA5 := hI (show Rb w5 r q /\ Rb w5 (r + 1) q' /\ Ba w5 (r + 1 + 1) g A n c xs /\ Rb w5 (r + 1 + 1 + 1) RVal.nil from ⟨K5.out.rb HA.out.1 HN.out.1, K5.out.rb HA.out.2.1 HN.out.2.1, K5.out.ba HA.out.2.2.1 HN.out.2.2.1, K5.out.rb HA.out.2.2.2 HN.out.2.2.2⟩)
 have hszc : r <= w5.heap.size := Nat.le_trans hsz K5.out.size
 have xp : s ≠ p := by omega
 have xr : s ≠ r + 1 + 1 + 1 := by omega
 have xr' : r + 1 + 1 + 1 ≠ s := by omega
 clear k5 o5 X5 HA hsz
 have HA := HA5
 have hsz := hszc
 clear HA5 hszc
 go_upto_region 2 with fail
 go_cut [10] (fun s10 wx => Mid w5 p z4 f4 s10 wx)
 case first =>
  have p0 := (K0.out.rb HA.out.1 HN.out.1).c0
  have p1 := (K0.out.rb HA.out.1 HN.out.1).c1
  have p2 := (K0.out.rb HA.out.1 HN.out.1).c2
  have p3 := (K0.out.rb HA.out.1 HN.out.1).c3
  have p4 := (K0.out.rb HA.out.2.1 HN.out.2.1).c0
  have p5 := (K0.out.rb HA.out.2.1 HN.out.2.1).c1
  have p6 := (K0.out.rb HA.out.2.1 HN.out.2.1).c2
  have p7 := (K0.out.rb HA.out.2.1 HN.out.2.1).c3
  have p8 := (K0.out.ba HA.out.2.2.1 HN.out.2.2.1).bx.c0
  have p9 := (K0.out.ba HA.out.2.2.1 HN.out.2.2.1).bx.c1
  have pw0 := World.new_ne _ _ p0
  have px0 := pw0.symm
  have pw4 := World.new_ne _ _ p4
  have px4 := pw4.symm
  have pw8 := World.new_ne _ _ p8
  have px8 := pw8.symm
  go_region_held3 (fun w' => w'.cell? ⟨r, 0, none⟩ = some (.bool q.g) /\ w'.cell? ⟨r, 1, none⟩ = some (.slice q.A q.n q.c) /\ w'.cell? ⟨r, 2, none⟩ = some (.bool q.gd) /\ w'.cell? ⟨r, 3, none⟩ = some (.slice q.Ad q.nd q.cd) /\ w'.cell? ⟨r + 1, 0, none⟩ = some (.bool q'.g) /\ w'.cell? ⟨r + 1, 1, none⟩ = some (.slice q'.A q'.n q'.c) /\ w'.cell? ⟨r + 1, 2, none⟩ = some (.bool q'.gd) /\ w'.cell? ⟨r + 1, 3, none⟩ = some (.slice q'.Ad q'.nd q'.cd) /\ w'.cell? ⟨r + 1 + 1, 0, none⟩ = some (.bool g) /\ w'.cell? ⟨r + 1 + 1, 1, none⟩ = some (.slice A n c)) (go_keep)
   (first
    | (go_at_call 29; (first | (have K := K1.out; have C := zM g1 q.gd A1 q.Ad n1 c1 q.nd q.cd p xs1 q.ys z3 pd f3 f4 v1 G1.out.1 (K.sl _ _ _ _ HA.out.1.sl.2) G1.out.2 HO.out.1.2 K.cl HF.out.2.2.2; rw [HZ.out.2.2.2] at C; (with_reducible refine C.mono ?_); clear C; rintro e v2 ⟨g2, A2, n2, c2, xs2, rfl, hs2, ho2, hk2⟩; (try replace fb := fb.kp hk2 hlt hsz hbl); have K2 := hI (K.trans hk2); have G2 := hI (And.intro hs2 ho2); clear K hk2 hs2 ho2) | (have K := (K1.out.alloc (.cells #[.bool false, .slice none 0 0] 24)); have C := zM g1 q.gd A1 q.Ad n1 c1 q.nd q.cd p xs1 q.ys z3 pd f3 f4 (v1.alloc (.cells #[.bool false, .slice none 0 0] 24)) (G1.out.1.on (zA0 _ _)) (K.sl _ _ _ _ HA.out.1.sl.2) G1.out.2 HO.out.1.2 K.cl HF.out.2.2.2; rw [HZ.out.2.2.2] at C; (with_reducible refine C.mono ?_); clear C; rintro e v2 ⟨g2, A2, n2, c2, xs2, rfl, hs2, ho2, hk2⟩; have fb : Bx v2 v1.heap.size false none 0 0 := hk2.bx (Bx.new v1 false none 0 0) (zJ8 hlt hsz K1.out.size); have hbl : Hid (Lez w5.heap.size v1.heap.size) := hI K1.out.size; have K2 := hI (K.trans hk2); have G2 := hI (And.intro hs2 ho2); clear K hk2 hs2 ho2)); clear t0 t1 t2 t3 t4 t5 t6 t7 t8 t9; have u0 := (K2.out.rb HA.out.1 HN.out.1).c0; have u1 := (K2.out.rb HA.out.1 HN.out.1).c1; have u2 := (K2.out.rb HA.out.1 HN.out.1).c2; have u3 := (K2.out.rb HA.out.1 HN.out.1).c3; have u4 := (K2.out.rb HA.out.2.1 HN.out.2.1).c0; have u5 := (K2.out.rb HA.out.2.1 HN.out.2.1).c1; have u6 := (K2.out.rb HA.out.2.1 HN.out.2.1).c2; have u7 := (K2.out.rb HA.out.2.1 HN.out.2.1).c3; have u8 := (K2.out.ba HA.out.2.2.1 HN.out.2.2.1).bx.c0; have u9 := (K2.out.ba HA.out.2.2.1 HN.out.2.2.1).bx.c1; have uw0 := World.new_ne _ _ u0; have ux0 := uw0.symm; have uw4 := World.new_ne _ _ u4; have ux4 := uw4.symm; have uw8 := World.new_ne _ _ u8; have ux8 := uw8.symm; (try (have t0 := fb.c0; have t1 := fb.c1; have t2 := fb.f 0; have t3 := fb.f 1; have t8 := fb.lt; have FB := hI fb; clear fb)))
    | (go_at_call 30; (first | (have K := K0d.out; have C := zC4 g q'.gd A q'.Ad n c q'.nd q'.cd p xs q'.ys k rd f2 f3 w5.drew (K.sl _ _ _ _ HA.out.2.2.1.sl) (K.sl _ _ _ _ HA.out.2.1.sl.2) HO.out.2.2 HO.out.2.1.2 K.cl HF.out.2.2.1; rw [HZ.out.2.2.1] at C; (with_reducible refine C.mono ?_); clear C; rintro e v1 ⟨g1, A1, n1, c1, xs1, rfl, hs1, ho1, hk1⟩; have K1 := hI (K.trans hk1); have G1 := hI (And.intro hs1 ho1); clear K hk1 hs1 ho1) | (have K := (K0.out.alloc (.cells #[.bool false, .slice none 0 0] 24)).drew; have C := zC4 g q'.gd A q'.Ad n c q'.nd q'.cd p xs q'.ys k rd f2 f3 (w5.alloc (.cells #[.bool false, .slice none 0 0] 24)).drew (K.sl _ _ _ _ HA.out.2.2.1.sl) (K.sl _ _ _ _ HA.out.2.1.sl.2) HO.out.2.2 HO.out.2.1.2 K.cl HF.out.2.2.1; rw [HZ.out.2.2.1] at C; (with_reducible refine C.mono ?_); clear C; rintro e v1 ⟨g1, A1, n1, c1, xs1, rfl, hs1, ho1, hk1⟩; have fb : Bx v1 w5.heap.size false none 0 0 := hk1.bx (Bx.new w5.drew false none 0 0) (zJ8 hlt hsz K0d.out.size); have hbl : Hid (Lez w5.heap.size w5.heap.size) := hI K0d.out.size; have K1 := hI (K.trans hk1); have G1 := hI (And.intro hs1 ho1); clear K hk1 hs1 ho1)); clear p0 p1 p2 p3 p4 p5 p6 p7 p8 p9; have t0 := (K1.out.rb HA.out.1 HN.out.1).c0; have t1 := (K1.out.rb HA.out.1 HN.out.1).c1; have t2 := (K1.out.rb HA.out.1 HN.out.1).c2; have t3 := (K1.out.rb HA.out.1 HN.out.1).c3; have t4 := (K1.out.rb HA.out.2.1 HN.out.2.1).c0; have t5 := (K1.out.rb HA.out.2.1 HN.out.2.1).c1; have t6 := (K1.out.rb HA.out.2.1 HN.out.2.1).c2; have t7 := (K1.out.rb HA.out.2.1 HN.out.2.1).c3; have t8 := (K1.out.ba HA.out.2.2.1 HN.out.2.2.1).bx.c0; have t9 := (K1.out.ba HA.out.2.2.1 HN.out.2.2.1).bx.c1; have tw0 := World.new_ne _ _ t0; have tx0 := tw0.symm; have tw4 := World.new_ne _ _ t4; have tx4 := tw4.symm; have tw8 := World.new_ne _ _ t8; have tx8 := tw8.symm))
  all_goals (go_wp2_with fail; go_meet; first | exact mid_new K2.out G2.out.1 G2.out.2 | exact mid_old FB.out K2.out (Nat.lt_of_lt_of_le hlt hsz) hbl.out G2.out.1 G2.out.2)
 case rest =>
 obtain ⟨t, g6, A6, n6, c6, xs6, rfl, X6, o6, k6, l6⟩ := hcut
 have K6 := hI k6
 have HX6 := hI X6
 have HX5' := hI (k6.ba HX5.out xp)
 have RR := hI (k6.rb HA.out.2.2.2 HN.out.2.2.2)
 have O6 := hI o6
 have m0 := HX5'.out.bx.c0
 have m1 := HX5'.out.bx.c1
 have m2 := HX6.out.bx.c0
 have m3 := HX6.out.bx.c1
 have yr : t ≠ r + 1 + 1 + 1 := by have := HA.out.2.2.2.lt; omega
 have yr' := yr.symm
 clear k6 o6 X6
 have f0 := RR.out.f 0
 have f1 := RR.out.f 1
 have f2 := RR.out.f 2
 have f3 := RR.out.f 3
 have q0 := RR.out.c0
 have q1 := RR.out.c1
 have q2 := RR.out.c2
 have q3 := RR.out.c3
 simp only [RVal.nil] at q0 q1 q2 q3
 go_wp2
 generalize hU : World.setCell (World.setCell (World.setCell (World.setCell wc _ _) _ _) _ _) _ _ = U
 have RU' := (Rb.put (q' := (⟨g5, A5, n5, c5, xs5, g6, A6, n6, c6, xs6⟩ : RVal)) RR.out ⟨HX5'.out.sl, HX6.out.sl⟩)
 have RU : Rb U (r + 1 + 1 + 1) (⟨g5, A5, n5, c5, xs5, g6, A6, n6, c6, xs6⟩ : RVal) := by rw [<- hU]; exact RU'
 have HU : Kp w U p f4 := by rw [<- hU]; exact ((KW.out.trans K5.out).trans K6.out).put RR.out (by rw [HRr.out]; omega) (by rw [HRr.out]; exact hlt) _ _ _ _
 have j0 := RU.c0
 have j1 := RU.c1
 have j2 := RU.c2
 have j3 := RU.c3
 dsimp only at j0 j1 j2 j3
 refine bodyPost_ret (v := .agg #[.bool g5, .slice A5 n5 c5, .bool g6, .slice A6 n6 c6]) (by simp [results, Tryz.results45, go_sem, j0, j1, j2, j3]) rfl ?_
 exact ⟨_, rfl, RU.sl, O5.out, O6.out, HU⟩
end Go.Proofs.YtphinlongdoedaaGreat
namespace Go.Proofs.YtphinlongdoedaaGreat
open Go.RowKit
structure Ex where
 n : Int
 d : Int
 m : Int
 f : Int
 p : Int
 q : Int
 r : Int
 s : Int
structure ExR (a : Ex) (qt rs ab : Int) : Prop where
 q1 : dvQ (some a.n) (some a.d) = qt
 q2 : dvR (some a.n) (some a.d) = rs
 b1 : qt.natAbs < BIG
 b2 : rs.natAbs < BIG
 t1 : fitZ (qt * a.f) = qt * a.f
 t2 : fitE (qt * a.f) = 0
 s1 : fitZ (a.m - qt * a.f) = ab
 s2 : fitE (a.m - qt * a.f) = 0
structure ExS (a b : Ex) (qt rs ab : Int) : Prop where
 ge : decide (Int.sign (a.f - ab) < 0) = false
 c1 : fitZ (qt * a.r) = qt * a.r
 c2 : fitE (qt * a.r) = 0
 c3 : fitZ (qt * a.r + a.p) = b.r
 c4 : fitE (qt * a.r + a.p) = 0
 c5 : fitZ (qt * a.s) = qt * a.s
 c6 : fitE (qt * a.s) = 0
 c7 : fitZ (qt * a.s + a.q) = b.s
 c8 : fitE (qt * a.s + a.q) = 0
 e1 : b.n = a.f
 e2 : b.d = ab
 e3 : b.m = a.d
 e4 : b.f = rs
 e5 : b.p = a.r
 e6 : b.q = a.s
theorem ExS.eq {a b : Ex} {qt rs ab : Int} (h : ExS a b qt rs ab) : b = ⟨a.f, ab, a.d, rs, a.r, a.s, b.r, b.s⟩ := by
 cases b; simp [<- h.e1, <- h.e2, <- h.e3, <- h.e4, <- h.e5, <- h.e6]
structure ExW (w0 : World) (r p m a b : Nat) (g : Bool) (A : Option Addr) (n c : Nat) (xs : List Nat) (x : Ex) (lo hi la no : RVal) (wr : World) : Prop where
 blo : Rb wr r lo
 bhi : Rb wr (r + 1) hi
 bre : Rb wr (r + 1 + 1) RVal.nil
 bla : Rb wr a la
 bno : Rb wr b no
 bon : Ba wr m g A n c xs
 cl : Blk wr p 68 #[.int .i64 0]
 l1 : r + 1 + 1 < p
 l2 : p < m
 l3 : m < a
 l4 : m < b
 l5 : a ≠ b
 bel : Below r w0 wr
 o1 : lo.o = some x.n
 o2 : lo.od = some x.d
 o3 : hi.o = some x.m
 o4 : hi.od = some x.f
 o5 : la.o = some x.p
 o6 : la.od = some x.q
 o7 : no.o = some x.r
 o8 : no.od = some x.s
 o9 : ov g xs = some 1
section
variable {w0 : World} {r p m a b : Nat} {g : Bool} {A : Option Addr} {n c : Nat} {xs : List Nat} {x : Ex} {lo hi la no : RVal} {wr wr' : World}
theorem ExW.on (h : ExW w0 r p m a b g A n c xs x lo hi la no wr) (hb : Below wr.heap.size wr wr') (hr : r <= wr.heap.size) : ExW w0 r p m a b g A n c xs x lo hi la no wr' :=
 ⟨h.blo.on hb, h.bhi.on hb, h.bre.on hb, h.bla.on hb, h.bno.on hb, h.bon.on hb, Blk.below h.cl hb (Blk.lt h.cl), h.l1, h.l2, h.l3, h.l4, h.l5, zA h.bel hr hb, h.o1, h.o2, h.o3, h.o4, h.o5, h.o6, h.o7, h.o8, h.o9⟩
theorem ExW.kp (h : ExW w0 r p m a b g A n c xs x lo hi la no wr) (k : Kp wr wr' p 0) (hr : r <= wr.heap.size) : ExW w0 r p m a b g A n c xs x lo hi la no wr' := by
 have := h.l1; have := h.l2; have := h.l3; have := h.l4
 exact ⟨k.rb h.blo (by omega), k.rb h.bhi (by omega), k.rb h.bre (by omega), k.rb h.bla (by omega), k.rb h.bno (by omega), k.ba h.bon (by omega), k.cl, h.l1, h.l2, h.l3, h.l4, h.l5, k.bel _ _ h.bel (by omega) hr, h.o1, h.o2, h.o3, h.o4, h.o5, h.o6, h.o7, h.o8, h.o9⟩
end
theorem Rb.pass {w : World} {r r' : Nat} {q q' : RVal} (h' : Rb w r' q') (h : Rb w r q) (hne : r' ≠ r) (a : Bool) (b : Value) (c : Bool) (d : Value) : Rb (put4 w r a b c d) r' q' :=
 ⟨Blk.far (Blk.far (Blk.far (Blk.far h'.bx (p := ⟨r, 0, none⟩) hne _) (p := ⟨r, 1, none⟩) hne _) (p := ⟨r, 2, none⟩) hne _) (p := ⟨r, 3, none⟩) hne _, h'.sl.1.put4 h.bx _ _ _ _, h'.sl.2.put4 h.bx _ _ _ _⟩
theorem Ba.pass {w : World} {r r' : Nat} {q : RVal} {g : Bool} {A : Option Addr} {n c : Nat} {xs : List Nat} (h' : Ba w r' g A n c xs) (h : Rb w r q) (hne : r' ≠ r) (a : Bool) (b : Value) (c' : Bool) (d : Value) : Ba (put4 w r a b c' d) r' g A n c xs :=
 ⟨Blk.far (Blk.far (Blk.far (Blk.far h'.bx (p := ⟨r, 0, none⟩) hne _) (p := ⟨r, 1, none⟩) hne _) (p := ⟨r, 2, none⟩) hne _) (p := ⟨r, 3, none⟩) hne _, h'.sl.put4 h.bx _ _ _ _⟩
theorem Blk.pass {w : World} {r g : Nat} {t : TypeId} {cs : Array Value} {q : RVal} (h' : Blk w g t cs) (hne : g ≠ r) (_h : Rb w r q) (a : Bool) (b : Value) (c : Bool) (d : Value) : Blk (put4 w r a b c d) g t cs :=
 Blk.far (Blk.far (Blk.far (Blk.far h' (p := ⟨r, 0, none⟩) hne _) (p := ⟨r, 1, none⟩) hne _) (p := ⟨r, 2, none⟩) hne _) (p := ⟨r, 3, none⟩) hne _
theorem Rb.two {w : World} {r r1 r2 : Nat} {q q1 q2 : RVal} (h : Rb w r q) (h1 : Rb w r1 q1) (h2 : Rb w r2 q2) (n1 : r ≠ r1) (n2 : r ≠ r2) (n3 : r2 ≠ r1) (a : Bool) (b : Value) (c : Bool) (d : Value) (a' : Bool) (b' : Value) (c' : Bool) (d' : Value) : Rb (put4 (put4 w r1 a b c d) r2 a' b' c' d') r q :=
 (h.pass h1 n1 a b c d).pass (h2.pass h1 n3 a b c d) n2 _ _ _ _
theorem Ba.two {w : World} {r r1 r2 : Nat} {q1 q2 : RVal} {g : Bool} {A : Option Addr} {n k : Nat} {xs : List Nat} (h : Ba w r g A n k xs) (h1 : Rb w r1 q1) (h2 : Rb w r2 q2) (n1 : r ≠ r1) (n2 : r ≠ r2) (n3 : r2 ≠ r1) (a : Bool) (b : Value) (c : Bool) (d : Value) (a' : Bool) (b' : Value) (c' : Bool) (d' : Value) : Ba (put4 (put4 w r1 a b c d) r2 a' b' c' d') r g A n k xs :=
 (h.pass h1 n1 a b c d).pass (h2.pass h1 n3 a b c d) n2 _ _ _ _
theorem Rb.put_in {w : World} {r : Nat} {q q' : RVal} (h : Rb w r q) (hi : q'.In w) (a : Bool) (b : Value) (c : Bool) (d : Value) : q'.In (put4 w r a b c d) := ⟨hi.1.put4 h.bx _ _ _ _, hi.2.put4 h.bx _ _ _ _⟩
section
variable {w0 : World} {r p m a b : Nat} {g : Bool} {A : Option Addr} {n c : Nat} {xs : List Nat} {x : Ex} {lo hi la no : RVal} {wr wr' : World}
theorem ExW.turn (h : ExW w0 r p m a b g A n c xs x lo hi la no wr) {t : RVal} (ht : t.In wr) {N D : Int} (o : t.o = some N) (od : t.od = some D) : ExW w0 r p m a b g A n c xs ⟨x.n, x.d, x.m, x.f, x.r, x.s, N, D⟩ lo hi no t (put4 (put4 wr a no.g (.slice no.A no.n no.c) no.gd (.slice no.Ad no.nd no.cd)) b t.g (.slice t.A t.n t.c) t.gd (.slice t.Ad t.nd t.cd)) := by
 have l1 := h.l1; have l2 := h.l2; have l3 := h.l3; have l4 := h.l4; have l5 := h.l5
 have e1 := h.bla.put h.bno.sl
 have e2 := h.bno.pass h.bla l5.symm no.g (.slice no.A no.n no.c) no.gd (.slice no.Ad no.nd no.cd)
 have e3 := h.bla.put_in ht no.g (.slice no.A no.n no.c) no.gd (.slice no.Ad no.nd no.cd)
 exact ⟨h.blo.two h.bla h.bno (by omega) (by omega) l5.symm _ _ _ _ _ _ _ _, h.bhi.two h.bla h.bno (by omega) (by omega) l5.symm _ _ _ _ _ _ _ _, h.bre.two h.bla h.bno (by omega) (by omega) l5.symm _ _ _ _ _ _ _ _, e1.pass e2 l5 _ _ _ _, e2.put e3, h.bon.two h.bla h.bno (by omega) (by omega) l5.symm _ _ _ _ _ _ _ _,
  Blk.pass (Blk.pass h.cl (show p ≠ a by omega) h.bla _ _ _ _) (show p ≠ b by omega) e2 _ _ _ _, l1, l2, l3, l4, l5, zA5 (zA5 h.bel (by omega) _ _ _ _) (by omega) _ _ _ _, h.o1, h.o2, h.o3, h.o4, h.o7, h.o8, o, od, h.o9⟩
theorem ExW.drew (h : ExW w0 r p m a b g A n c xs x lo hi la no wr) : ExW w0 r p m a b g A n c xs x lo hi la no wr.drew :=
 ⟨h.blo.drew, h.bhi.drew, h.bre.drew, h.bla.drew, h.bno.drew, ⟨h.bon.bx.drew, h.bon.sl.drew⟩, Blk.drew h.cl, h.l1, h.l2, h.l3, h.l4, h.l5, h.bel.drew, h.o1, h.o2, h.o3, h.o4, h.o5, h.o6, h.o7, h.o8, h.o9⟩
theorem ExW.step (h : ExW w0 r p m a b g A n c xs x lo hi la no wr) {q1 q2 : RVal} (h1 : q1.In wr) (h2 : q2.In wr) {N1 D1 N2 D2 : Int} (o1 : q1.o = some N1) (o2 : q1.od = some D1) (o3 : q2.o = some N2) (o4 : q2.od = some D2) : ExW w0 r p m a b g A n c xs ⟨N1, D1, N2, D2, x.p, x.q, x.r, x.s⟩ q1 q2 la no (put4 (put4 wr r q1.g (.slice q1.A q1.n q1.c) q1.gd (.slice q1.Ad q1.nd q1.cd)) (r + 1) q2.g (.slice q2.A q2.n q2.c) q2.gd (.slice q2.Ad q2.nd q2.cd)) := by
 have l1 := h.l1; have l2 := h.l2; have l3 := h.l3; have l4 := h.l4; have l5 := h.l5
 have n1 : r + 1 ≠ r := by omega
 have e1 := h.blo.put h1
 have e2 := h.bhi.pass h.blo n1 q1.g (.slice q1.A q1.n q1.c) q1.gd (.slice q1.Ad q1.nd q1.cd)
 have e3 := h.blo.put_in h2 q1.g (.slice q1.A q1.n q1.c) q1.gd (.slice q1.Ad q1.nd q1.cd)
 exact ⟨e1.pass e2 n1.symm _ _ _ _, e2.put e3, h.bre.two h.blo h.bhi (by omega) (by omega) n1 _ _ _ _ _ _ _ _, h.bla.two h.blo h.bhi (by omega) (by omega) n1 _ _ _ _ _ _ _ _, h.bno.two h.blo h.bhi (by omega) (by omega) n1 _ _ _ _ _ _ _ _, h.bon.two h.blo h.bhi (by omega) (by omega) n1 _ _ _ _ _ _ _ _,
  Blk.pass (Blk.pass h.cl (show p ≠ r by omega) h.blo _ _ _ _) (show p ≠ r + 1 by omega) e2 _ _ _ _, l1, l2, l3, l4, l5, zA5 (zA5 h.bel (by omega) _ _ _ _) (by omega) _ _ _ _, o1, o2, o3, o4, h.o5, h.o6, h.o7, h.o8, h.o9⟩
end
def ExM (w0 : World) (r p m : Nat) (g : Bool) (A : Option Addr) (n c : Nat) (xs : List Nat) (x : Ex) (lo hi : RVal) (s8 s9 : Value) (wx : World) : Prop := ∃ (a b : Nat) (la no : RVal), s8 = .pointer (some ⟨a, 0, none⟩) /\ s9 = .pointer (some ⟨b, 0, none⟩) /\ ExW w0 r p m a b g A n c xs x lo hi la no wx
theorem exm_of {w0 V : World} {r p m : Nat} {g : Bool} {A : Option Addr} {n c : Nat} {xs : List Nat} {x : Ex} {lo hi la no : RVal} {a b : Nat} {U : World} (hU : Below V.heap.size V U) (h1 : Rb V r lo) (h2 : Rb V (r + 1) hi) (h3 : Rb V (r + 1 + 1) RVal.nil) (h4 : Ba V m g A n c xs) (h5 : Blk V p 68 #[.int .i64 0]) (h6 : Below r w0 V)
 (l1 : r + 1 + 1 < p) (l2 : p < m) (hm : m < V.heap.size) (ha : V.heap.size <= a) (hb : V.heap.size <= b) (hab : a ≠ b) (x1 : Rb U a la) (x2 : Rb U b no) (hlo : lo.o = some x.n /\ lo.od = some x.d /\ hi.o = some x.m /\ hi.od = some x.f) (k1 : la.o = some x.p) (k2 : la.od = some x.q) (k3 : no.o = some x.r) (k4 : no.od = some x.s) (o : ov g xs = some 1) :
 ExM w0 r p m g A n c xs x lo hi (.pointer (some ⟨a, 0, none⟩)) (.pointer (some ⟨b, 0, none⟩)) U.drew :=
 ⟨a, b, la, no, rfl, rfl, ⟨(h1.on hU).drew, (h2.on hU).drew, (h3.on hU).drew, x1.drew, x2.drew, ⟨(h4.on hU).bx.drew, (h4.on hU).sl.drew⟩, Blk.drew (Blk.below h5 hU (Blk.lt h5)), l1, l2, by omega, by omega, hab, (zA h6 (by have := h1.lt; omega) hU).drew, hlo.1, hlo.2.1, hlo.2.2.1, hlo.2.2.2, k1, k2, k3, k4, o⟩⟩
theorem exp_boxes (q q' : RVal) (w W : World) (h : q.In w) (h' : q'.In w) (hW : (((w.alloc (.cells #[.bool q.g, .slice q.A q.n q.c, .bool q.gd, .slice q.Ad q.nd q.cd] 26)).alloc (.cells #[.bool q'.g, .slice q'.A q'.n q'.c, .bool q'.gd, .slice q'.Ad q'.nd q'.cd] 26)).alloc (.cells #[.bool false, .slice none 0 0, .bool false, .slice none 0 0] 26)).alloc (.cells #[.int .i64 0] 68) = W) :
 Below w.heap.size w W /\ Rb W w.heap.size q /\ Rb W (w.heap.size + 1) q' /\ Rb W (w.heap.size + 1 + 1) RVal.nil /\ Blk W (w.heap.size + 1 + 1 + 1) 68 #[.int .i64 0] := by
 obtain ⟨hb, h1, h2, h3⟩ := zH8 q q' w _ h h' rfl
 have hn := zA0 (((w.alloc (.cells #[.bool q.g, .slice q.A q.n q.c, .bool q.gd, .slice q.Ad q.nd q.cd] 26)).alloc (.cells #[.bool q'.g, .slice q'.A q'.n q'.c, .bool q'.gd, .slice q'.Ad q'.nd q'.cd] 26)).alloc (.cells #[.bool false, .slice none 0 0, .bool false, .slice none 0 0] 26)) (.cells #[.int .i64 0] 68)
 have h4 := Blk.new (((w.alloc (.cells #[.bool q.g, .slice q.A q.n q.c, .bool q.gd, .slice q.Ad q.nd q.cd] 26)).alloc (.cells #[.bool q'.g, .slice q'.A q'.n q'.c, .bool q'.gd, .slice q'.Ad q'.nd q'.cd] 26)).alloc (.cells #[.bool false, .slice none 0 0, .bool false, .slice none 0 0] 26)) 68 #[.int .i64 0]
 rw [hW] at hn h4
 exact ⟨zA hb hb.size hn, h1.on hn, h2.on hn, h3.on hn, by simpa using h4⟩
end Go.Proofs.YtphinlongdoedaaGreat
namespace Go.Proofs.YtphinlongdoedaaGreat
open Go.RowKit
set_option maxHeartbeats 2000000
theorem zM4 (q q' : RVal) (w : World) (h : q.In w) (h' : q'.In w) (HC : ∀ w', q.In w' -> q'.In w' -> Calls Tryz.prog 17 #[.agg #[.bool q.g, .slice q.A q.n q.c, .bool q.gd, .slice q.Ad q.nd q.cd], .agg #[.bool q'.g, .slice q'.A q'.n q'.c, .bool q'.gd, .slice q'.Ad q'.nd q'.cd]] w' (RetC (-1) 0 w')) (hg : q.g = false) (N Dn er : Int)
 (HE : ∀ w', q.In w' -> q'.In w' -> Calls Tryz.prog 18 #[.agg #[.bool q.g, .slice q.A q.n q.c, .bool q.gd, .slice q.Ad q.nd q.cd], .agg #[.bool q'.g, .slice q'.A q'.n q'.c, .bool q'.gd, .slice q'.Ad q'.nd q'.cd]] w' (RetR N Dn er w')) :
 Calls Tryz.prog 5 #[.agg #[.bool q.g, .slice q.A q.n q.c, .bool q.gd, .slice q.Ad q.nd q.cd], .agg #[.bool q'.g, .slice q'.A q'.n q'.c, .bool q'.gd, .slice q'.Ad q'.nd q'.cd]] w (RetR N Dn er w) := by
 have HG := hI hg
 have HCC := hI HC
 have HEE := hI HE
 have HS := hI (And.intro h h')
 clear hg HC HE h h'
 go_enter Tryz.func5, Tryz.ntmps5
 go_wp2_with fail
 generalize hW : World.alloc (World.alloc (World.alloc w _) _) _ = V
 obtain ⟨hb, ra, rb, rr⟩ := zH8 q q' w V HS.out.1 HS.out.2 hW
 generalize hr : w.heap.size = r at *
 have HRr := hI hr
 have HB := hI hb
 have H0 := hI (And.intro ra (And.intro rb rr))
 clear hW hb hr
 have a0 := ra.c0
 have a1 := ra.c1
 have a2 := ra.c2
 have a3 := ra.c3
 have b0 := rb.c0
 have b1 := rb.c1
 have b2 := rb.c2
 have b3 := rb.c3
 clear ra rb rr
 go_wp2_with fail
 refine (HCC.out V H0.out.1.sl H0.out.2.1.sl).mono ?_
 clear a0 a1 a2 a3 b0 b1 b2 b3
 rintro e w1 ⟨rfl, hb1⟩
 have B1 := hI (zA HB.out (by have := HB.out.size; have := HRr.out; omega) hb1)
 have H1 := hI (show Rb w1 r q /\ Rb w1 (r + 1) q' /\ Rb w1 (r + 1 + 1) RVal.nil from ⟨H0.out.1.on hb1, H0.out.2.1.on hb1, H0.out.2.2.on hb1⟩)
 clear hb1 H0 HB
 have a0 : w1.cell? ⟨r, 0, none⟩ = some (.bool false) := by have := H1.out.1.c0; rwa [HG.out] at this
 have a0' : w1.cell? ⟨r, 0, none⟩ = some (.bool q.g) := H1.out.1.c0
 have a1 := H1.out.1.c1
 have a2 := H1.out.1.c2
 have a3 := H1.out.1.c3
 have b0 := H1.out.2.1.c0
 have b1 := H1.out.2.1.c1
 have b2 := H1.out.2.1.c2
 have b3 := H1.out.2.1.c3
 clear a0'
 go_wp2_with fail
 have C := HEE.out w1 H1.out.1.sl H1.out.2.1.sl
 rw [HG.out] at C
 refine C.mono ?_
 clear C a0 a1 a2 a3 b0 b1 b2 b3
 rintro e w2 ⟨t, rfl, ht, ot, otd, hb2⟩
 have B2 := hI (zA B1.out (by have := B1.out.size; have := HRr.out; omega) hb2)
 have R2 := hI (H1.out.2.2.on hb2)
 have T2 := hI (And.intro ht (And.intro ot otd))
 clear hb2 ht ot otd B1 H1
 have f0 := R2.out.f 0
 have f1 := R2.out.f 1
 have f2 := R2.out.f 2
 have f3 := R2.out.f 3
 have q0 := R2.out.c0
 have q1 := R2.out.c1
 have q2 := R2.out.c2
 have q3 := R2.out.c3
 simp only [RVal.nil] at q0 q1 q2 q3
 go_wp2
 generalize hU : World.setCell (World.setCell (World.setCell (World.setCell w2 _ _) _ _) _ _) _ _ = U
 have RU' := (Rb.put R2.out T2.out.1)
 have RU : Rb U (r + 1 + 1) t := by rw [<- hU]; exact RU'
 have HU : Below w.heap.size w U := by rw [<- hU, HRr.out]; exact (zA5 B2.out (show r <= r + 1 + 1 by omega) _ _ _ _)
 have j0 := RU.c0
 have j1 := RU.c1
 have j2 := RU.c2
 have j3 := RU.c3
 refine bodyPost_ret (v := .tuple #[.agg #[.bool t.g, .slice t.A t.n t.c, .bool t.gd, .slice t.Ad t.nd t.cd], .int .i64 er]) (by simp [results, Tryz.results5, go_sem, j0, j1, j2, j3]) rfl ?_
 exact RetR.of RU T2.out.2.1 T2.out.2.2 HU
end Go.Proofs.YtphinlongdoedaaGreat
