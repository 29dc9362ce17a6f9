/-
 Stage 2: Simplest of the program and of the reference hand back the same; RationalMatchesSimplest, its walk. An argument of the program's rational type, as the row reads it. The closed facts of the rows: what the program's head says is read off its letters once; the other facts by the kernel.
-/
import Derived.ProofKit
import Derived.SizedLaws
import Derived.Lib.SmallJoins
import Derived.Test.YtphinlongdoedaaGreatRows
import Derived.Test.YtphinlongdoedaaGreatRatPo
import Derived.Test.YtphinlongdoedaaGreatRatPq
import Derived.Test.YtphinlongdoedaaGreatRatM
namespace Go.Proofs.YtphinlongdoedaaGreat
open Go.RowKit
set_option linter.unusedSimpArgs false
set_option maxRecDepth 20000
set_option maxHeartbeats 2000000
theorem two_pw (e : Nat) : (2 : Int) ^ e = ((pw e : Nat) : Int) := by unfold pw; exact (Int.natCast_pow 2 e).symm
theorem prod_pw {a b : Int} {e f : Nat} (ha : a.natAbs < pw e) (hb : b.natAbs < pw f) : a * b < 2 ^ (e + f) := by
 rw [two_pw]
 have := imul_bd ha hb
 omega
theorem dv_cross2 (a b : Int) (hb : 0 < b) : (Rat.divInt a b).num * b = a * (Rat.divInt a b).den := by
 have h : Rat.divInt (Rat.divInt a b).num (Rat.divInt a b).den = Rat.divInt a b := Rat.num_divInt_den _
 have d := zD0 (Rat.divInt a b)
 exact (Rat.divInt_eq_divInt_iff (by omega) (by omega)).1 h
theorem lt_div_r {a b : Int} (hb : 0 < b) {z : Rat} (h : z.num * b < a * z.den) : Lt z (Rat.divInt a b) := by
 have c := dv_cross2 a b hb
 have d := zD0 (Rat.divInt a b)
 unfold Lt
 generalize (Rat.divInt a b).num = x at *
 generalize ((Rat.divInt a b).den : Int) = y at *
 generalize (z.den : Int) = u at *
 generalize z.num = v at *
 have k : y * (v * b) < y * (a * u) := Int.mul_lt_mul_of_pos_left h d
 refine Int.lt_of_mul_lt_mul_left (a := b) ?_ (by omega)
 have e1 : b * (x * u) = y * (a * u) := by grind
 have e2 : b * (v * y) = y * (v * b) := by grind
 omega
theorem lt_div_l {a b : Int} (hb : 0 < b) {z : Rat} (h : a * z.den < z.num * b) : Lt (Rat.divInt a b) z := by
 have c := dv_cross2 a b hb
 have d := zD0 (Rat.divInt a b)
 unfold Lt
 generalize (Rat.divInt a b).num = x at *
 generalize ((Rat.divInt a b).den : Int) = y at *
 generalize (z.den : Int) = u at *
 generalize z.num = v at *
 have k : y * (a * u) < y * (v * b) := Int.mul_lt_mul_of_pos_left h d
 refine Int.lt_of_mul_lt_mul_left (a := b) ?_ (by omega)
 have e1 : b * (x * u) = y * (a * u) := by grind
 have e2 : b * (v * y) = y * (v * b) := by grind
 omega
theorem least_eq {x y z : Rat} (b : zO0 x y z) {N D : Int} (hD : 0 < D) (hN : 0 < N) (lo : x.num * D < N * x.den) (hi : N * y.den < y.num * D)
 (least : ∀ a c : Int, 0 < c -> x.num * c < a * x.den -> a * y.den < y.num * c -> D <= c /\ N <= a) : N = z.num /\ D = (z.den : Int) := by
 have l := least z.num z.den (zD0 z) b.lo b.hi
 have k := b.least (Rat.divInt N D) (lt_div_r hD lo) (lt_div_l hD hi)
 have d := zU0 N D (by omega)
 have := zD0 z
 omega
theorem pos_pair {x y z : Rat} (h : Lt x y) (h0 : 0 <= x.num) (b : zO0 x y z) (bx : x.num.natAbs < BIG) (by' : (y.den : Int).natAbs < BIG) :
 (FitQ z -> PosC x.num x.den y.num y.den z.num z.den 0) /\ (¬ FitQ z -> PosC x.num x.den y.num y.den 0 0 2) := by
 have y0 : 0 < y.num := by
  have a : 0 <= x.num * (y.den : Int) := Int.mul_nonneg h0 (Int.le_of_lt (zD0 y))
  have h' : x.num * (y.den : Int) < y.num * x.den := h
  by_cases k : y.num <= 0
  . have : y.num * (x.den : Int) <= 0 * (x.den : Int) := Int.mul_le_mul_of_nonneg_right k (Int.le_of_lt (zD0 x))
    omega
  . omega
 have st : Sta x.num x.den y.num y.den := ⟨h0, zD0 x, Int.le_of_lt (zD0 y), y0, h⟩
 obtain ⟨PS, r⟩ := run_ex _ st (Nat.le_refl _)
 have l := run_least r st
 have p := fv_bd r st
 have e := least_eq b p.2 p.1 l.1 l.2.1 l.2.2
 have hp : x.num * (y.den : Int) < 2 ^ 8192 := prod_pw (e := 4096) (f := 4096) (by rw [<- zI3]; exact bx) (by rw [<- zI3]; exact by')
 refine ⟨fun f p q w hp' hq o1 o2 o3 o4 => ?_, fun f p q w hp' hq o1 o2 o3 o4 => ?_⟩
 . exact rpos_run p q w hp' hq x.num x.den y.num y.den _ _ _ PS ⟨o1, o2, o3, o4⟩ ⟨st, r, Or.inl ⟨by rw [e.1, e.2]; exact f, e.1.symm, e.2.symm, rfl⟩⟩ hp
 . exact rpos_run p q w hp' hq x.num x.den y.num y.den _ _ _ PS ⟨o1, o2, o3, o4⟩ ⟨st, r, Or.inr ⟨by rw [e.1, e.2]; exact f, rfl, rfl, rfl⟩⟩ hp
theorem zero_n {q : RVal} {x : Rat} {w : World} (h : q.In w) (hx : rv q.o q.od = some x) {v : Bool} (hv : decide (x.num = 0) = v) : decide (q.n = 0) = v := by
 have o := (zC1 hx).1
 rw [zG5 h.1 (show ov q.g q.xs = some x.num from o)]; exact hv
theorem both_of {q q' : RVal} {x y : Rat} (hx : rv q.o q.od = some x) (hy : rv q'.o q'.od = some y) : ((rv q.o q.od).isSome && (rv q'.o q'.od).isSome) = true := by rw [hx, hy]; rfl
theorem rsimp_lt {x y z : Rat} (h : Lt x y) (b : zO0 x y z) (q q' : RVal) (w : World) (hq : q.In w) (hq' : q'.In w) (hx : rv q.o q.od = some x) (hy : rv q'.o q'.od = some y) :
 (FitQ z -> Calls Tryz.prog 6 #[.agg #[.bool q.g, .slice q.A q.n q.c, .bool q.gd, .slice q.Ad q.nd q.cd], .agg #[.bool q'.g, .slice q'.A q'.n q'.c, .bool q'.gd, .slice q'.Ad q'.nd q'.cd]] w (RetR z.num z.den 0 w)) /\ (¬ FitQ z -> Calls Tryz.prog 6 #[.agg #[.bool q.g, .slice q.A q.n q.c, .bool q.gd, .slice q.Ad q.nd q.cd], .agg #[.bool q'.g, .slice q'.A q'.n q'.c, .bool q'.gd, .slice q'.Ad q'.nd q'.cd]] w (RetR 0 0 2 w)) := by
 have o := zC1 hx
 have o' := zC1 hy
 have B1 := zE7 hq.1.ok (show ov q.g q.xs = some x.num from o.1)
 have B2 := zE7 hq.2.ok (show ov q.gd q.ys = some (x.den : Int) from o.2)
 have B3 := zE7 hq'.1.ok (show ov q'.g q'.xs = some y.num from o'.1)
 have B4 := zE7 hq'.2.ok (show ov q'.gd q'.ys = some (y.den : Int) from o'.2)
 have sx := (zN7 hq hx).1
 have sy := (zN7 hq' hy).1
 have hb := both_of hx hy
 have hc := zN4 h
 by_cases h0 : 0 <= x.num
 . have P := pos_pair h h0 b B1 B4
   have y0 : 0 < y.num := by
    have a : 0 <= x.num * (y.den : Int) := Int.mul_nonneg h0 (Int.le_of_lt (zD0 y))
    have h' : x.num * (y.den : Int) < y.num * x.den := h
    by_cases k : y.num <= 0
    . have : y.num * (x.den : Int) <= 0 * (x.den : Int) := Int.mul_le_mul_of_nonneg_right k (Int.le_of_lt (zD0 x))
      omega
    . omega
   have zy : decide (q'.n = 0) = false := zero_n hq' hy (decide_eq_false (by omega))
   have gy : q'.g = false := by rw [<- sy]; exact decide_eq_false (by omega)
   have gx : q.g = false := by rw [<- sx]; exact decide_eq_false (by omega)
   by_cases z0 : x.num = 0
   . have zx : decide (q.n = 0) = true := zero_n hq hx (decide_eq_true z0)
     exact ⟨fun f => rsimp_B1 q q' w hq hq' hb _ _ _ _ ⟨o.1, o.2, o'.1, o'.2⟩ ⟨zD0 x, zD0 y⟩ hc _ _ _ (P.1 f) ⟨zy, gy, gx, zx⟩, fun f => rsimp_B1 q q' w hq hq' hb _ _ _ _ ⟨o.1, o.2, o'.1, o'.2⟩ ⟨zD0 x, zD0 y⟩ hc _ _ _ (P.2 f) ⟨zy, gy, gx, zx⟩⟩
   . have zx : decide (q.n = 0) = false := zero_n hq hx (decide_eq_false z0)
     exact ⟨fun f => rsimp_B2 q q' w hq hq' hb _ _ _ _ ⟨o.1, o.2, o'.1, o'.2⟩ ⟨zD0 x, zD0 y⟩ hc _ _ _ (P.1 f) ⟨zy, gy, gx, zx⟩, fun f => rsimp_B2 q q' w hq hq' hb _ _ _ _ ⟨o.1, o.2, o'.1, o'.2⟩ ⟨zD0 x, zD0 y⟩ hc _ _ _ (P.2 f) ⟨zy, gy, gx, zx⟩⟩
 . have gx : q.g = true := by rw [<- sx]; exact decide_eq_true (by omega)
   by_cases hyp : 0 < y.num
   . have zy : decide (q'.n = 0) = false := zero_n hq' hy (decide_eq_false (by omega))
     have gy : q'.g = false := by rw [<- sy]; exact decide_eq_false (by omega)
     have l := b.least 0 (by unfold Lt; show x.num * ((1 : Nat) : Int) < 0 * (x.den : Int); rw [Int.zero_mul]; omega) (by unfold Lt; show 0 * (y.den : Int) < y.num * ((1 : Nat) : Int); rw [Int.zero_mul]; omega)
     have l1 : z.den <= 1 := l.1
     have l2 : z.num.natAbs <= 0 := l.2
     have dz := zD0 z
     have e1 : z.num = 0 := by omega
     have e2 : (z.den : Int) = 1 := by omega
     refine ⟨fun _ => ?_, fun f => absurd ?_ f⟩
     . rw [e1, e2]
       exact rsimp_zero q q' w hq hq' hb _ _ _ _ ⟨o.1, o.2, o'.1, o'.2⟩ ⟨zD0 x, zD0 y⟩ hc ⟨zy, gy, gx⟩
     . unfold FitQ
       rw [e1, e2]
       exact ⟨zH (by decide), zH (by decide)⟩
   . have bn := zT4 b
     have nf : FitQ (-z) ↔ FitQ z := by unfold FitQ Fits; rw [show (-z).num = -z.num from rfl, show (-z).den = z.den from rfl, Int.natAbs_neg]
     have P := pos_pair (x := -y) (y := -x) (zR0 h) (by show 0 <= -y.num; omega) bn (by show (-y.num).natAbs < BIG; rw [Int.natAbs_neg]; exact B3) B2
     have H1 : ∀ {z1 zd1 e1 : Int}, PosC (-y).num (-y).den (-x).num (-x).den z1 zd1 e1 -> PosC (-y.num) y.den (-x.num) x.den z1 zd1 e1 := fun k => k
     have he0 : ((0 : Int) = 0 -> z.num = -(-z).num /\ (z.den : Int) = (z.den : Int)) /\ ((0 : Int) ≠ 0 -> z.num = 0 /\ (z.den : Int) = 0) := ⟨fun _ => ⟨by show z.num = - -z.num; omega, rfl⟩, fun k => absurd rfl k⟩
     have he2 : ((2 : Int) = 0 -> (0 : Int) = -0 /\ (0 : Int) = 0) /\ ((2 : Int) ≠ 0 -> (0 : Int) = 0 /\ (0 : Int) = 0) := ⟨fun k => absurd k (by decide), fun _ => ⟨rfl, rfl⟩⟩
     by_cases z0 : y.num = 0
     . have zy : decide (q'.n = 0) = true := zero_n hq' hy (decide_eq_true z0)
       have gy : q'.g = false := by rw [<- sy]; exact decide_eq_false (by omega)
       exact ⟨fun f => rsimp_C q q' w hq hq' hb _ _ _ _ ⟨o.1, o.2, o'.1, o'.2⟩ ⟨zD0 x, zD0 y⟩ hc _ _ (Or.inl ⟨rfl, rfl⟩) _ _ _ _ _ (H1 (P.1 (nf.2 f))) ⟨zy, gy, gx⟩ he0, fun f => rsimp_C q q' w hq hq' hb _ _ _ _ ⟨o.1, o.2, o'.1, o'.2⟩ ⟨zD0 x, zD0 y⟩ hc _ _ (Or.inl ⟨rfl, rfl⟩) _ _ _ _ _ (H1 (P.2 fun k => f (nf.1 k))) ⟨zy, gy, gx⟩ he2⟩
     . have zy : decide (q'.n = 0) = false := zero_n hq' hy (decide_eq_false z0)
       have gy : q'.g = true := by rw [<- sy]; exact decide_eq_true (by omega)
       exact ⟨fun f => rsimp_C q q' w hq hq' hb _ _ _ _ ⟨o.1, o.2, o'.1, o'.2⟩ ⟨zD0 x, zD0 y⟩ hc _ _ (Or.inr ⟨rfl, rfl⟩) _ _ _ _ _ (H1 (P.1 (nf.2 f))) ⟨zy, gy, gx⟩ he0, fun f => rsimp_C q q' w hq hq' hb _ _ _ _ ⟨o.1, o.2, o'.1, o'.2⟩ ⟨zD0 x, zD0 y⟩ hc _ _ (Or.inr ⟨rfl, rfl⟩) _ _ _ _ _ (H1 (P.2 fun k => f (nf.1 k))) ⟨zy, gy, gx⟩ he2⟩
theorem simp_err (p q : RVal) (w : World) (ha : p.In w) (hb : q.In w) (u er : Int) (hc : ∀ w : World, p.In w -> q.In w -> Calls Tryz.prog 17 #[.agg #[.bool p.g, .slice p.A p.n p.c, .bool p.gd, .slice p.Ad p.nd p.cd], .agg #[.bool q.g, .slice q.A q.n q.c, .bool q.gd, .slice q.Ad q.nd q.cd]] w (RetC u er w)) (he : (er != 0) = true) :
 Calls Tryz.prog 5 #[.agg #[.bool p.g, .slice p.A p.n p.c, .bool p.gd, .slice p.Ad p.nd p.cd], .agg #[.bool q.g, .slice q.A q.n q.c, .bool q.gd, .slice q.Ad q.nd q.cd]] w (RetR 0 0 1 w) := by
 have HC := hI hc
 have HE := hI he
 clear hc he
 have Ia_0 := hI ha
 clear ha
 have Ib_0 := hI hb
 clear hb
 have B_0 : Hid (Below w.heap.size w w) := hI (Below.refl _ _)
 go_enter Tryz.func5, Tryz.ntmps5
 go_wp2_with fail
 generalize hW : World.alloc w _ = W1
 have hn := zA0 w (.cells #[.bool p.g, .slice p.A p.n p.c, .bool p.gd, .slice p.Ad p.nd p.cd] 26)
 rw [hW] at hn
 have hz : W1.heap.size = w.heap.size + 1 := by rw [<- hW]; simp
 have hx : Rb W1 w.heap.size p := by rw [<- hW]; exact Rb.new (q := p) Ia_0.out
 have Ib_1 := hI (Ib_0.out.on hn)
 have B_2 := hI (zA B_0.out B_0.out.size hn)
 generalize hr : w.heap.size = r at *
 have HRr := hI hr
 clear hr
 have Xa_3 : Hid (Rb W1 r p) := hI hx
 have HT3 := hz
 clear hn hx hz hW Ib_0 B_0 Ia_0
 generalize hW : World.alloc W1 _ = W4
 have hn := zA0 W1 (.cells #[.bool q.g, .slice q.A q.n q.c, .bool q.gd, .slice q.Ad q.nd q.cd] 26)
 rw [hW] at hn
 have hz : W4.heap.size = W1.heap.size + 1 := by rw [<- hW]; simp
 have hx : Rb W4 W1.heap.size q := by rw [<- hW]; exact Rb.new (q := q) Ib_1.out
 have hlt : r < W1.heap.size := Xa_3.out.lt
 have B_4 := hI (bch B_2.out HRr.out hn)
 have Xa_5 := hI (Xa_3.out.on hn)
 rw [HT3] at hx hz hlt
 have Xb_6 : Hid (Rb W4 (r + 1) q) := hI hx
 have HT6 := hz
 clear hn hx hz hW hlt B_2 Xa_3 Ib_1
 generalize hW : World.alloc W4 _ = W7
 have hn := zA0 W4 (.cells #[.bool false, .slice none 0 0, .bool false, .slice none 0 0] 26)
 rw [hW] at hn
 have hx : Rb W7 W4.heap.size RVal.nil := by rw [<- hW]; exact Rb.new (q := RVal.nil) (RVal.nil_in W4)
 have hlt : (r + 1) < W4.heap.size := Xb_6.out.lt
 have B_7 := hI (bch B_4.out HRr.out hn)
 have Xa_8 := hI (Xa_5.out.on hn)
 have Xb_9 := hI (Xb_6.out.on hn)
 rw [HT6] at hx hlt
 have Xe_10 : Hid (Rb W7 (r + 1 + 1) RVal.nil) := hI hx
 clear hn hx hW hlt B_4 Xa_5 Xb_6
 clear HT3 HT6
 refine (HC.out W7 Xa_8.out.sl Xb_9.out.sl).mono ?_
 rintro e w11 ⟨rfl, hb⟩
 have B_11 := hI (bch B_7.out HRr.out hb)
 have Xa_12 := hI (Xa_8.out.on hb)
 have Xb_13 := hI (Xb_9.out.on hb)
 have Xe_14 := hI (Xe_10.out.on hb)
 clear hb B_7 Xa_8 Xb_9 Xe_10
 have g1 : (er != 0) = true := HE.out
 clear Xa_12 Xb_13
 obtain ⟨ke0, ke1, ke2, ke3⟩ := Xe_14.out.cs
 obtain ⟨fe0, fe1, fe2, fe3⟩ := Xe_14.out.fs
 simp only [RVal.nil] at ke0 ke1 ke2 ke3
 have le := Xe_14.out.lt
 go_wp2
 clear ke0 ke1 ke2 ke3 fe0 fe1 fe2 fe3 le
 generalize hW : World.setCell (World.setCell (World.setCell (World.setCell w11 _ _) _ _) _ _) _ _ = W15
 have B_15 : Hid (Below r w W15) := by rw [<- hW]; exact hI (zA5 B_11.out (by omega) _ _ _ _)
 have Xe_16 : Hid (Rb W15 (r + 1 + 1) RVal.nil) := by rw [<- hW]; exact hI (Rb.put (q' := RVal.nil) Xe_14.out (RVal.nil_in w11))
 clear hW B_11 Xe_14
 obtain ⟨j0, j1, j2, j3⟩ := Xe_16.out.cs
 try dsimp only at j0 j1 j2 j3
 simp only [RVal.nil] at j0 j1 j2 j3
 refine bodyPost_ret (v := .tuple #[.agg #[.bool false, .slice none 0 0, .bool false, .slice none 0 0], .int .i64 1]) (by simp [results, Tryz.results5, go_sem, j0, j1, j2, j3]) rfl ?_
 exact RetR.of Xe_16.out rfl rfl (by rw [HRr.out]; exact B_15.out)
theorem simp_ge (p q : RVal) (w : World) (ha : p.In w) (hb : q.In w) (u : Int) (hc : ∀ w : World, p.In w -> q.In w -> Calls Tryz.prog 17 #[.agg #[.bool p.g, .slice p.A p.n p.c, .bool p.gd, .slice p.Ad p.nd p.cd], .agg #[.bool q.g, .slice q.A q.n q.c, .bool q.gd, .slice q.Ad q.nd q.cd]] w (RetC u 0 w)) (he : decide (0 <= u) = true) :
 Calls Tryz.prog 5 #[.agg #[.bool p.g, .slice p.A p.n p.c, .bool p.gd, .slice p.Ad p.nd p.cd], .agg #[.bool q.g, .slice q.A q.n q.c, .bool q.gd, .slice q.Ad q.nd q.cd]] w (RetR 0 0 1 w) := by
 have HC := hI hc
 have HE := hI he
 clear hc he
 have Ia_0 := hI ha
 clear ha
 have Ib_0 := hI hb
 clear hb
 have B_0 : Hid (Below w.heap.size w w) := hI (Below.refl _ _)
 go_enter Tryz.func5, Tryz.ntmps5
 go_wp2_with fail
 generalize hW : World.alloc w _ = W1
 have hn := zA0 w (.cells #[.bool p.g, .slice p.A p.n p.c, .bool p.gd, .slice p.Ad p.nd p.cd] 26)
 rw [hW] at hn
 have hz : W1.heap.size = w.heap.size + 1 := by rw [<- hW]; simp
 have hx : Rb W1 w.heap.size p := by rw [<- hW]; exact Rb.new (q := p) Ia_0.out
 have Ib_1 := hI (Ib_0.out.on hn)
 have B_2 := hI (zA B_0.out B_0.out.size hn)
 generalize hr : w.heap.size = r at *
 have HRr := hI hr
 clear hr
 have Xa_3 : Hid (Rb W1 r p) := hI hx
 have HT3 := hz
 clear hn hx hz hW Ib_0 B_0 Ia_0
 generalize hW : World.alloc W1 _ = W4
 have hn := zA0 W1 (.cells #[.bool q.g, .slice q.A q.n q.c, .bool q.gd, .slice q.Ad q.nd q.cd] 26)
 rw [hW] at hn
 have hz : W4.heap.size = W1.heap.size + 1 := by rw [<- hW]; simp
 have hx : Rb W4 W1.heap.size q := by rw [<- hW]; exact Rb.new (q := q) Ib_1.out
 have hlt : r < W1.heap.size := Xa_3.out.lt
 have B_4 := hI (bch B_2.out HRr.out hn)
 have Xa_5 := hI (Xa_3.out.on hn)
 rw [HT3] at hx hz hlt
 have Xb_6 : Hid (Rb W4 (r + 1) q) := hI hx
 have HT6 := hz
 clear hn hx hz hW hlt B_2 Xa_3 Ib_1
 generalize hW : World.alloc W4 _ = W7
 have hn := zA0 W4 (.cells #[.bool false, .slice none 0 0, .bool false, .slice none 0 0] 26)
 rw [hW] at hn
 have hx : Rb W7 W4.heap.size RVal.nil := by rw [<- hW]; exact Rb.new (q := RVal.nil) (RVal.nil_in W4)
 have hlt : (r + 1) < W4.heap.size := Xb_6.out.lt
 have B_7 := hI (bch B_4.out HRr.out hn)
 have Xa_8 := hI (Xa_5.out.on hn)
 have Xb_9 := hI (Xb_6.out.on hn)
 rw [HT6] at hx hlt
 have Xe_10 : Hid (Rb W7 (r + 1 + 1) RVal.nil) := hI hx
 clear hn hx hW hlt B_4 Xa_5 Xb_6
 clear HT3 HT6
 refine (HC.out W7 Xa_8.out.sl Xb_9.out.sl).mono ?_
 rintro e w11 ⟨rfl, hb⟩
 have B_11 := hI (bch B_7.out HRr.out hb)
 have Xa_12 := hI (Xa_8.out.on hb)
 have Xb_13 := hI (Xb_9.out.on hb)
 have Xe_14 := hI (Xe_10.out.on hb)
 clear hb B_7 Xa_8 Xb_9 Xe_10
 have g1 : decide (0 <= u) = true := HE.out
 clear Xa_12 Xb_13
 obtain ⟨ke0, ke1, ke2, ke3⟩ := Xe_14.out.cs
 obtain ⟨fe0, fe1, fe2, fe3⟩ := Xe_14.out.fs
 simp only [RVal.nil] at ke0 ke1 ke2 ke3
 have le := Xe_14.out.lt
 go_wp2
 clear ke0 ke1 ke2 ke3 fe0 fe1 fe2 fe3 le
 generalize hW : World.setCell (World.setCell (World.setCell (World.setCell w11 _ _) _ _) _ _) _ _ = W15
 have B_15 : Hid (Below r w W15) := by rw [<- hW]; exact hI (zA5 B_11.out (by omega) _ _ _ _)
 have Xe_16 : Hid (Rb W15 (r + 1 + 1) RVal.nil) := by rw [<- hW]; exact hI (Rb.put (q' := RVal.nil) Xe_14.out (RVal.nil_in w11))
 clear hW B_11 Xe_14
 obtain ⟨j0, j1, j2, j3⟩ := Xe_16.out.cs
 try dsimp only at j0 j1 j2 j3
 simp only [RVal.nil] at j0 j1 j2 j3
 refine bodyPost_ret (v := .tuple #[.agg #[.bool false, .slice none 0 0, .bool false, .slice none 0 0], .int .i64 1]) (by simp [results, Tryz.results5, go_sem, j0, j1, j2, j3]) rfl ?_
 exact RetR.of Xe_16.out rfl rfl (by rw [HRr.out]; exact B_15.out)
theorem simplest_pair (q q' : RVal) (w0 : World) (h0 : q.In w0) (h1 : q'.In w0) : ∃ z zd er : Int, (∀ w : World, q.In w -> q'.In w -> Calls Tryz.prog 5 #[.agg #[.bool q.g, .slice q.A q.n q.c, .bool q.gd, .slice q.Ad q.nd q.cd], .agg #[.bool q'.g, .slice q'.A q'.n q'.c, .bool q'.gd, .slice q'.Ad q'.nd q'.cd]] w (RetR z zd er w)) /\ ∀ w : World, q.In w -> q'.In w -> Calls Tryz.prog 6 #[.agg #[.bool q.g, .slice q.A q.n q.c, .bool q.gd, .slice q.Ad q.nd q.cd], .agg #[.bool q'.g, .slice q'.A q'.n q'.c, .bool q'.gd, .slice q'.Ad q'.nd q'.cd]] w (RetR z zd er w) := by
 rcases hv : ((rv q.o q.od).isSome && (rv q'.o q'.od).isSome) with _ | _
 . exact ⟨0, 0, 1, fun w h h' => simp_err q q' w h h' 0 1 (fun w h h' => rcm_bad q q' w h h' _ _ rfl rfl hv) (by decide), fun w h h' => rsimp_bad q q' w h h' hv⟩
 . have hv' := hv
   rw [Bool.and_eq_true] at hv
   obtain ⟨x, hx⟩ := Option.isSome_iff_exists.1 hv.1
   obtain ⟨y, hy⟩ := Option.isSome_iff_exists.1 hv.2
   have o := zC1 hx
   have o' := zC1 hy
   by_cases l : Lt x y
   . have bx : Bd 4096 x := ⟨by rw [<- zI3]; exact zE7 h0.1.ok (show ov q.g q.xs = some x.num from o.1), by rw [<- zI3]; have := zE7 h0.2.ok (show ov q.gd q.ys = some (x.den : Int) from o.2); omega⟩
     have by' : Bd 4096 y := ⟨by rw [<- zI3]; exact zE7 h1.1.ok (show ov q'.g q'.xs = some y.num from o'.1), by rw [<- zI3]; have := zE7 h1.2.ok (show ov q'.gd q'.ys = some (y.den : Int) from o'.2); omega⟩
     obtain ⟨z, b, f1, f2⟩ := simp_all l bx by'
     by_cases f : FitQ z
     . refine ⟨z.num, z.den, 0, fun w h h' => (f1 f q q' w h h' hx hy).mono ?_, fun w h h' => (rsimp_lt l b q q' w h h' hx hy).1 f⟩
       rintro e w' ⟨t, rfl, hi, hz, hb⟩
       have k := zC1 hz
       exact ⟨t, rfl, hi, k.1, k.2, hb⟩
     . exact ⟨0, 0, 2, fun w h h' => f2 f q q' w h h' hx hy, fun w h h' => (rsimp_lt l b q q' w h h' hx hy).2 f⟩
   . obtain ⟨u, hu⟩ : ∃ u, Int.sign (x.num * y.den - y.num * x.den) = u := ⟨_, rfl⟩
     have gu : decide (0 <= u) = true := decide_eq_true (by
      rw [<- hu]
      rcases sign_three (x.num * y.den - y.num * x.den) with ⟨a, b⟩ | ⟨a, b⟩ | ⟨a, b⟩
      . exact absurd (show Lt x y by unfold Lt; omega) l
      . omega
      . omega)
     exact ⟨0, 0, 1, fun w h h' => simp_ge q q' w h h' u (fun w h h' => cmp_q h h' hx hy u hu) gu, fun w h h' => rsimp_ge q q' w h h' hv' _ _ _ _ ⟨o.1, o.2, o'.1, o'.2⟩ ⟨zD0 x, zD0 y⟩ u ⟨hu, gu⟩⟩
theorem msimp_run (p q : RVal) (w : World) (ha : p.In w) (hb : q.In w) (z zd er : Int) (h1 : ∀ w : World, p.In w -> q.In w -> Calls Tryz.prog 5 #[.agg #[.bool p.g, .slice p.A p.n p.c, .bool p.gd, .slice p.Ad p.nd p.cd], .agg #[.bool q.g, .slice q.A q.n q.c, .bool q.gd, .slice q.Ad q.nd q.cd]] w (RetR z zd er w)) (h2 : ∀ w : World, p.In w -> q.In w -> Calls Tryz.prog 6 #[.agg #[.bool p.g, .slice p.A p.n p.c, .bool p.gd, .slice p.Ad p.nd p.cd], .agg #[.bool q.g, .slice q.A q.n q.c, .bool q.gd, .slice q.Ad q.nd q.cd]] w (RetR z zd er w)) (hne : ∀ e : Int, (e == e) = true) :
 Calls Tryz.prog 3 #[.agg #[.bool p.g, .slice p.A p.n p.c, .bool p.gd, .slice p.Ad p.nd p.cd], .agg #[.bool q.g, .slice q.A q.n q.c, .bool q.gd, .slice q.Ad q.nd q.cd]] w fun e w' => e = .returned (.bool true) /\ Below w.heap.size w w' := by
 have H1 := hI h1
 have H2 := hI h2
 have HN := hI hne
 clear h1 h2 hne
 have Ia_0 := hI ha
 clear ha
 have Ib_0 := hI hb
 clear hb
 have B_0 : Hid (Below w.heap.size w w) := hI (Below.refl _ _)
 go_enter Tryz.func3, Tryz.ntmps3
 go_wp2_with fail
 generalize hW : World.alloc w _ = W1
 have hn := zA0 w (.cells #[.bool p.g, .slice p.A p.n p.c, .bool p.gd, .slice p.Ad p.nd p.cd] 26)
 rw [hW] at hn
 have hz : W1.heap.size = w.heap.size + 1 := by rw [<- hW]; simp
 have hx : Rb W1 w.heap.size p := by rw [<- hW]; exact Rb.new (q := p) Ia_0.out
 have Ib_1 := hI (Ib_0.out.on hn)
 have B_2 := hI (zA B_0.out B_0.out.size hn)
 generalize hr : w.heap.size = r at *
 have HRr := hI hr
 clear hr
 have Xa_3 : Hid (Rb W1 r p) := hI hx
 have HT3 := hz
 clear hn hx hz hW Ib_0 B_0 Ia_0
 generalize hW : World.alloc W1 _ = W4
 have hn := zA0 W1 (.cells #[.bool q.g, .slice q.A q.n q.c, .bool q.gd, .slice q.Ad q.nd q.cd] 26)
 rw [hW] at hn
 have hx : Rb W4 W1.heap.size q := by rw [<- hW]; exact Rb.new (q := q) Ib_1.out
 have hlt : r < W1.heap.size := Xa_3.out.lt
 have B_4 := hI (bch B_2.out HRr.out hn)
 have Xa_5 := hI (Xa_3.out.on hn)
 rw [HT3] at hx hlt
 have Xb_6 : Hid (Rb W4 (r + 1) q) := hI hx
 clear hn hx hW hlt B_2 Xa_3 Ib_1
 clear HT3
 refine (sane W4).mono ?_
 rintro e w7 ⟨rfl, hb⟩
 have B_7 := hI (bch B_4.out HRr.out hb)
 have Xa_8 := hI (Xa_5.out.on hb)
 have Xb_9 := hI (Xb_6.out.on hb)
 clear hb B_4 Xa_5 Xb_6
 obtain ⟨ka0, ka1, ka2, ka3⟩ := Xa_8.out.cs
 have la := Xa_8.out.lt
 obtain ⟨kb0, kb1, kb2, kb3⟩ := Xb_9.out.cs
 have lb := Xb_9.out.lt
 go_wp2_with fail
 refine (H1.out w7 Xa_8.out.sl Xb_9.out.sl).mono ?_
 clear ka0 ka1 ka2 ka3 la kb0 kb1 kb2 kb3 lb
 rintro e w10 ⟨tx, rfl, hi, hv, hv2, hb⟩
 have B_10 := hI (bch B_7.out HRr.out hb)
 have Xa_11 := hI (Xa_8.out.on hb)
 have Xb_12 := hI (Xb_9.out.on hb)
 have Ix_13 : Hid (tx.In w10) := hI hi
 clear hb B_7 Xa_8 Xb_9 hi
 have Vx := hI (And.intro hv hv2)
 clear hv hv2
 obtain ⟨ka0, ka1, ka2, ka3⟩ := (Xa_11.out.on (zA0 w10 (.cells #[.bool tx.g, .slice tx.A tx.n tx.c, .bool tx.gd, .slice tx.Ad tx.nd tx.cd] 26))).cs
 have la := Xa_11.out.lt
 obtain ⟨kb0, kb1, kb2, kb3⟩ := (Xb_12.out.on (zA0 w10 (.cells #[.bool tx.g, .slice tx.A tx.n tx.c, .bool tx.gd, .slice tx.Ad tx.nd tx.cd] 26))).cs
 have lb := Xb_12.out.lt
 go_wp2_with fail
 generalize hW : World.alloc w10 _ = W14
 have hn := zA0 w10 (.cells #[.bool tx.g, .slice tx.A tx.n tx.c, .bool tx.gd, .slice tx.Ad tx.nd tx.cd] 26)
 rw [hW] at hn
 have hx : Rb W14 w10.heap.size tx := by rw [<- hW]; exact Rb.new (q := tx) Ix_13.out
 have hlt : (r + 1) < w10.heap.size := Xb_12.out.lt
 have B_14 := hI (bch B_10.out HRr.out hn)
 have Xa_15 := hI (Xa_11.out.on hn)
 have Xb_16 := hI (Xb_12.out.on hn)
 generalize hbb : w10.heap.size = b1 at *
 clear hbb
 have Xx_17 : Hid (Rb W14 b1 tx) := hI hx
 have O17 := hI hlt
 clear hn hx hW hlt B_10 Xa_11 Xb_12 Ix_13
 refine (H2.out W14 Xa_15.out.sl Xb_16.out.sl).mono ?_
 clear ka0 ka1 ka2 ka3 la kb0 kb1 kb2 kb3 lb
 rintro e w18 ⟨ty, rfl, hi, hv, hv2, hb⟩
 have B_18 := hI (bch B_14.out HRr.out hb)
 have Xa_19 := hI (Xa_15.out.on hb)
 have Xb_20 := hI (Xb_16.out.on hb)
 have Xx_21 := hI (Xx_17.out.on hb)
 have Iy_22 : Hid (ty.In w18) := hI hi
 clear hb B_14 Xa_15 Xb_16 Xx_17 hi
 have Vy := hI (And.intro hv hv2)
 clear hv hv2
 clear Xa_19 Xb_20
 go_upto_region 4 with fail
 generalize hW : World.alloc w18 _ = W23
 have hn := zA0 w18 (.cells #[.bool ty.g, .slice ty.A ty.n ty.c, .bool ty.gd, .slice ty.Ad ty.nd ty.cd] 26)
 rw [hW] at hn
 have hx : Rb W23 w18.heap.size ty := by rw [<- hW]; exact Rb.new (q := ty) Iy_22.out
 have hlt : b1 < w18.heap.size := Xx_21.out.lt
 have B_23 := hI (bch B_18.out HRr.out hn)
 have Xx_24 := hI (Xx_21.out.on hn)
 generalize hbb : w18.heap.size = b2 at *
 clear hbb
 have Xy_25 : Hid (Rb W23 b2 ty) := hI hx
 have O25 := hI hlt
 clear hn hx hW hlt B_18 Xx_21 Iy_22
 have q1 := HN.out er
 obtain ⟨kx0, kx1, kx2, kx3⟩ := Xx_24.out.cs
 have lx := Xx_24.out.lt
 obtain ⟨ky0, ky1, ky2, ky3⟩ := Xy_25.out.cs
 have ly := Xy_25.out.lt
 go_wp2_with fail
 refine (same_q _ _ _ Xx_24.out.sl Xy_25.out.sl _ _ Vx.out.1 Vx.out.2 Vy.out.1 Vy.out.2).mono ?_
 clear kx0 kx1 kx2 kx3 lx ky0 ky1 ky2 ky3 ly
 rintro e w26 ⟨rfl, hb⟩
 have B_26 := hI (bch B_23.out HRr.out hb)
 have Xx_27 := hI (Xx_24.out.on hb)
 have Xy_28 := hI (Xy_25.out.on hb)
 clear hb B_23 Xx_24 Xy_25
 clear q1
 go_wp2
 go_ret
 exact ⟨rfl, (by rw [HRr.out]; exact B_26.out)⟩
theorem rationalMatchesSimplest_any (p q : RVal) (w : World) (h : p.In w) (h' : q.In w) :
 Calls Tryz.prog 3 #[.agg #[.bool p.g, .slice p.A p.n p.c, .bool p.gd, .slice p.Ad p.nd p.cd], .agg #[.bool q.g, .slice q.A q.n q.c, .bool q.gd, .slice q.Ad q.nd q.cd]] w fun e w' => e = .returned (.bool true) /\ Below w.heap.size w w' := by
 obtain ⟨z, zd, er, h1, h2⟩ := simplest_pair p q w h h'
 exact msimp_run p q w h h' z zd er h1 h2 (fun e => beq_self_eq_true e)
end Go.Proofs.YtphinlongdoedaaGreat
namespace Go.Proofs.YtphinlongdoedaaGreat
open Go.ChangeShapes Go.WideShapes Go.ChangeAt Go.RowKit Go.Joins
set_option maxRecDepth 100000
theorem Tryz.own : ownKnob Tryz.prog.godebug = none := by kernel_rfl
theorem Tryz.laidOut : laidOutB Tryz.prog = true := by kernel_rfl
theorem Tryz.cells_u32 : Tryz.prog.cellsOf 64 = 1 := by kernel_rfl
theorem Tryz.bytes_u32 : Tryz.prog.bytesOf 64 = 4 := by kernel_rfl
theorem Tryz.cells_Int : Tryz.prog.cellsOf 24 = 2 := by kernel_rfl
theorem Tryz.cells_Rat : Tryz.prog.cellsOf 26 = 4 := by kernel_rfl
theorem Tryz.cells_bool : Tryz.prog.cellsOf 4 = 1 := by kernel_rfl
theorem Tryz.cells_slice : Tryz.prog.cellsOf 22 = 1 := by kernel_rfl
section
variable {H : Type} {enc : TypeId × Value -> H} {W : World}
theorem toNat_u32 {z : Int} (h : (Lit.int .u32 z).wf = true) : ((z.toNat : Nat) : Int) = z /\ z.toNat < 4294967296 := by
 have h1 : IntKind.u32.min = 0 := rfl
 have h2 : IntKind.u32.max = 4294967295 := rfl
 simp only [Lit.wf, Bool.and_eq_true, decide_eq_true_eq] at h
 omega
theorem int_part {m0 : Nat} {v0 v1 : Value} {y : DataW H × List MemPlace} (hT : DataW.trod enc Tryz.prog W 0 (fun _ => true) true m0 24 [v0, v1] = some y) (hw : ∀ m ∈ DataW.weights Tryz.prog 24 y.1, m <= reachBytes) (hlt : ∀ x ∈ y.2, x.block < W.heap.size) :
 ∃ neg A n c xs, v0 = .bool neg /\ v1 = .slice A n c /\ Sl W W.heap.size A n c xs := by
 obtain ⟨y0, y1, n, rfl, _, h0', h1'⟩ := trod_struct2 Tryz.underlying24 hT
 have h0 : DataW.trod enc Tryz.prog W 0 (fun _ => true) true n 4 [v0] = some y0 := by simpa [Tryz.cells_bool] using h0'
 have h1 : DataW.trod enc Tryz.prog W 0 (fun _ => true) true n 22 [v1] = some y1 := by simpa [Tryz.cells_slice] using h1'
 obtain ⟨b, hb, _⟩ := DataW.trod_bool Tryz.underlying4 h0
 injection hb with hb
 subst hb
 rcases open_ints Tryz.underlying22 Tryz.underlying64 Tryz.cells_u32 h1 with ⟨hcs, hx⟩ | ⟨a, len, cap, zs, hcs, _, hl, hm, hz, hx, hcell, hwz⟩
 . injection hcs with hcs
   subst hcs
   exact ⟨b, none, 0, 0, [], rfl, rfl, Sl.nil _ _⟩
 . injection hcs with hcs
   subst hcs
   simp only [if_true] at hz
   have hreach : cap * 4 <= 140737488351232 := by
    have := hw (((lits (H := H) .u32 (zs.take len)).length + (lits (H := H) .u32 (zs.drop len)).length) * Tryz.prog.bytesOf 64) (by rw [hx]; simp [DataW.weights, DataW.weightsEach, Tryz.underlying24, Tryz.underlying22])
    rw [Tryz.bytes_u32] at this
    simp only [lits, List.length_map, List.length_take, List.length_drop, reachBytes] at this
    omega
   unfold maxLen at hm
   refine ⟨b, some a, len, cap, (zs.take len).map Int.toNat, rfl, rfl, hl, by omega, by omega, (fun e => by cases e), ⟨by simp [us]; omega, fun hp => ⟨a, rfl, ?_, fun k u hu => ?_⟩⟩, ?_⟩
   . have hin : MemPlace.cell a.block a.off ∈ y0.2 ++ y1.2 := by
      rw [hx]
      exact List.mem_append_right _ (MemPlace.mem_row.2 ⟨0, by omega, by simp⟩)
     exact hlt _ hin
   . have hk : k < len := by
      rcases Nat.lt_or_ge k len with hk | hk
      . exact hk
      . rw [List.getElem?_eq_none (by simp [us]; omega)] at hu; cases hu
     have hkz : k < zs.length := by omega
     have e1 : u = .int .u32 (zs[k].toNat : Nat) := by
      simp only [us, List.map_map, List.getElem?_map, List.getElem?_take, if_pos hk, List.getElem?_eq_getElem hkz, Option.map_some, Function.comp_apply, Option.some.injEq] at hu
      exact hu.symm
     rw [hcell k hkz, e1, (toNat_u32 (hwz _ (List.getElem_mem hkz))).1, List.getD_eq_getElem?_getD, List.getElem?_eq_getElem hkz]
     rfl
   . intro x hx'
     simp only [List.mem_map] at hx'
     obtain ⟨z, hz', rfl⟩ := hx'
     exact (toNat_u32 (hwz z (List.mem_of_mem_take hz'))).2
theorem rat_arg {base : Nat} {v : Value} {d : DataW H} {p : List MemPlace} {ts : List TypeId} {ds : List (DataW H)} {j : Nat} (hsz : (DataW.weightsEach Tryz.prog ts ds).all (· <= reachBytes) = true) (hts : ts[j]? = some 26) (hds : ds[j]? = some d)
 (hval : Value.okWide Tryz.prog W .any base 26 v) (h : DataW.Trod enc Tryz.prog W 0 (fun _ => true) true 26 v d p) (hlt : ∀ x ∈ p, x.block < W.heap.size) :
 ∃ q : RVal, v = .agg #[.bool q.g, .slice q.A q.n q.c, .bool q.gd, .slice q.Ad q.nd q.cd] /\ q.In W := by
 obtain ⟨cs, rfl, hc⟩ := okWide_struct Tryz.underlying26 hval
 obtain ⟨c0, c1, c2, c3, rfl⟩ := array4 (hc.trans Tryz.cells_Rat)
 obtain ⟨fuel, hf⟩ := h
 obtain ⟨y0, y1, n, hx, _, h0', h1'⟩ := trod_struct2 Tryz.underlying26 hf
 have h0 : DataW.trod enc Tryz.prog W 0 (fun _ => true) true n 24 [c0, c1] = some y0 := by simpa [Value.cells, Tryz.cells_Int] using h0'
 have h1 : DataW.trod enc Tryz.prog W 0 (fun _ => true) true n 24 [c2, c3] = some y1 := by simpa [Value.cells, Tryz.cells_Int] using h1'
 simp only [Prod.mk.injEq] at hx
 obtain ⟨rfl, rfl⟩ := hx
 have hw : ∀ m ∈ DataW.weights Tryz.prog 26 (.agg [y0.1, y1.1]), m <= reachBytes := fun m hm => by
  have := List.all_eq_true.1 hsz _ (DataW.weights_mem_each (j := j) (t := 26) hts hds m hm)
  exact of_decide_eq_true this
 obtain ⟨g, A, n', c, xs, rfl, rfl, s1⟩ := int_part h0 (fun m hm => hw m (by simp [DataW.weights, DataW.weightsEach, Tryz.underlying26]; exact Or.inl hm)) (fun x hx => hlt x (List.mem_append_left _ hx))
 obtain ⟨gd, Ad, nd, cd, ys, rfl, rfl, s2⟩ := int_part h1 (fun m hm => hw m (by simp [DataW.weights, DataW.weightsEach, Tryz.underlying26]; exact Or.inr hm)) (fun x hx => hlt x (List.mem_append_right _ hx))
 exact ⟨⟨g, A, n', c, xs, gd, Ad, nd, cd, ys⟩, rfl, s1, s2⟩
end
end Go.Proofs.YtphinlongdoedaaGreat
namespace Go.Proofs.YtphinlongdoedaaGreat
open Go
def headNums : List Nat := [104, 97, 114, 110, 101, 115, 115, 32, 52, 100, 48, 51, 102, 98, 53, 101, 48, 54, 52, 55, 53, 54, 51, 102, 50, 54, 98, 98, 53, 49, 51, 99, 49, 98, 51, 52, 51, 53, 54, 101, 57, 48, 53, 53, 48, 55, 99, 53, 101, 54, 49, 55, 48, 98, 98, 97, 56, 98, 100, 98, 56, 55, 101, 55, 57, 101, 49, 53, 57, 53, 55, 57, 32, 99, 117, 116, 32, 97, 116, 32, 115, 116, 114, 97, 105, 103, 104, 116, 101, 100, 103, 101, 47, 115, 116, 114, 97, 105, 103, 104, 116, 101, 100, 103, 101, 108, 97, 119, 48, 50, 46, 82, 97, 116, 105, 111, 110, 97, 108, 77, 97, 116, 99, 104, 101, 115, 83, 105, 109, 112, 108, 101, 115, 116]
def zM6 : List Char := headNums.map Char.ofNat
theorem head_eq : Tryz.prog.initOrder = String.ofList zM6 := by kernel_rfl
theorem head_chars : Tryz.prog.initOrder.toList = zM6 := by rw [head_eq]; exact String.toList_ofList
theorem head_words : behindMainWord (wordsSigns zM6) = "cut".toList :: (behindMainWord (wordsSigns zM6)).tail := by kernel_rfl
theorem words : behindMainWord (wordsSigns Tryz.prog.initOrder.toList) = "cut".toList :: (behindMainWord (wordsSigns zM6)).tail := by rw [head_chars]; exact head_words
theorem make_cut {P : Program} {rest : List (List Char)} (h : behindMainWord (wordsSigns P.initOrder.toList) = "cut".toList :: rest) : P.make = some .cut := by
 unfold Program.make; rw [h]; rfl
theorem strip_cut (rest : List (List Char)) : stripLifts liftWords ("cut".toList :: rest) = ([], "cut".toList :: rest) := by rfl
theorem lifts_cut {P : Program} {rest : List (List Char)} (h : behindMainWord (wordsSigns P.initOrder.toList) = "cut".toList :: rest) : P.liftsFinal = false := by
 unfold Program.liftsFinal Program.headLifts; rw [h, strip_cut]; rfl
theorem enter_cut {P : Program} {rest : List (List Char)} (h : behindMainWord (wordsSigns P.initOrder.toList) = "cut".toList :: rest) (h1 : P.laysLater = false) (h2 : P.bearsReflect = false) (h3 : P.doorFits [] = true) : P.mayEnter = true := by
 unfold Program.mayEnter; rw [h]; simp only [strip_cut, h1, h2, h3]; rfl
theorem may_enter : Tryz.prog.mayEnter = true := enter_cut words (by kernel_rfl) (by kernel_rfl) (by kernel_rfl)
theorem lifts_final : Tryz.prog.liftsFinal = false := lifts_cut words
theorem made_so : Tryz.prog.make = some .cut := make_cut words
def zT (P : Program) (f : FuncId) (fn : Func) (s : ChangeSpec) (c : OpenClaim) : Bool :=
 c.wf (OpenSpec.ofChange s) && laidOutB P && mapsRowed P && fn.params.all (P.readableRec ·) && namedTie P c.named s.vars && (c.stops == []) && (P.stops == []) && (c.knobs == []) && (P.stopKnobs == []) && (c.inPlace == P.inPlace f) && (c.unfollowed == P.unfollowed f) && (c.recurses == P.recurses f) && (c.named == P.varsNamed f) && (c.maps == (fn.params.toList ++ s.plain.varTypes P).any (P.mapsRec ·)) && (c.ifaces == (fn.params.toList ++ s.plain.varTypes P).any (P.ifacesRec ·)) && (c.mapsOut == P.mapsAmong fn.resultTypes.toList) && (c.loops == (fn.params.toList ++ s.plain.varTypes P).any (P.loopsFrom ·)) && (c.wideKeys == (fn.params.toList ++ s.plain.varTypes P ++ fn.resultTypes.toList).any (P.wideKeysFrom ·)) && s.vars.all (P.varReadable ·) && fn.resultTypes.all (fun t => P.readableRec t && decide (t < P.types.size)) && (c.ifacesOut == fn.resultTypes.toList.any (P.ifacesRec ·)) && (c.loopsOut == fn.resultTypes.toList.any (P.loopsFrom ·)) && (c.plainKeys == P.plainKeys) && c.shortTexts.isNone && P.stopsHeard && (c.kinds == []) && (c.pinned == c.pinnedBy) && (c.veiled == (fn.params.toList ++ s.plain.varTypes P ++ fn.resultTypes.toList).any (P.veiledRec ·)) && c.veiledFits P fn.params.toList (fn.params.toList ++ s.plain.varTypes P ++ fn.resultTypes.toList)
theorem joined_of (P : Program) (f : FuncId) (fn : Func) (s : ChangeSpec) (c : OpenClaim) (e : P.mayEnter = true) (l : (c.lifted == P.liftsFinal) = true) (m : (P.make == some c.make) = true) (hd : c.domain.isEmpty = true) (rest : zT P f fn s c = true) : joinedFacts P f fn s c = true := by
 unfold joinedFacts
 rw [e, l, m, if_pos hd]
 simpa only [Bool.and_true, zT] using rest
end Go.Proofs.YtphinlongdoedaaGreat
