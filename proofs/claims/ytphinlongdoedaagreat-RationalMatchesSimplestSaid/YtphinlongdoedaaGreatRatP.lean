/-
 Stage 2: Sqrt of the rationals. Stage 2: Text and Sign of the rationals. Stage 2: Parse of the rationals.
-/
import Derived.Lib.CutLaws
import Derived.BigQuiet
import Derived.Deep.QuietTactic
import Derived.Test.YtphinlongdoedaaGreatRatJ
import Derived.Test.YtphinlongdoedaaGreatBaseE
namespace Go.Proofs.YtphinlongdoedaaGreat
open Go.RowKit
set_option maxHeartbeats 1000000
theorem isqrt_ov {neg : Bool} {A : Option Addr} {n c : Nat} {xs : List Nat} {w : World} {a : Int} (h : Sl w w.heap.size A n c xs) (ho : ov neg xs = some a) (ha : 0 <= a) (s : Nat) (h1 : s * s <= a.natAbs) (h2 : a.natAbs < (s + 1) * (s + 1)) :
 Calls Tryz.prog 35 #[.agg #[.bool neg, .slice A n c]] w (RetSq s (decide (s * s = a.natAbs)) 0 w) := by
 have hp := zG1 ho
 have hs := zK2 ho
 have hn : neg = false := by rw [<- hs]; simp; omega
 subst hn
 have := sqrt_good A n c xs w h hp.2.2 s (s * s) a.natAbs (cmpv (s * s) a.natAbs) (decide (s * s = a.natAbs)) hp.2.1 h1 h2 rfl rfl (by
  rcases Nat.lt_trichotomy (s * s) a.natAbs with l | l | l
  . rw [zG6 l]; simp; omega
  . rw [l, zJ2]; simp
  . omega)
 exact this
theorem sqrt_boxes (q : RVal) (w W : World) (h : q.In w) (hW : ((w.alloc (.cells #[.bool q.g, .slice q.A q.n q.c, .bool q.gd, .slice q.Ad q.nd q.cd] 26)).alloc (.cells #[.bool false, .slice none 0 0, .bool false, .slice none 0 0] 26)).alloc (.cells #[.bool q.g, .slice q.A q.n q.c, .bool q.gd, .slice q.Ad q.nd q.cd] 26) = W) :
 Below w.heap.size w W /\ Rb W w.heap.size q /\ Rb W (w.heap.size + 1) RVal.nil /\ Blk W (w.heap.size + 1 + 1) 26 #[.bool q.g, .slice q.A q.n q.c, .bool q.gd, .slice q.Ad q.nd q.cd] := by
 obtain ⟨b2, h1, h2⟩ := zL3 q RVal.nil w _ h (RVal.nil_in w) rfl
 have h3 := Blk.new ((w.alloc (.cells #[.bool q.g, .slice q.A q.n q.c, .bool q.gd, .slice q.Ad q.nd q.cd] 26)).alloc (.cells #[.bool false, .slice none 0 0, .bool false, .slice none 0 0] 26)) 26 #[.bool q.g, .slice q.A q.n q.c, .bool q.gd, .slice q.Ad q.nd q.cd]
 have b3 := zA0 ((w.alloc (.cells #[.bool q.g, .slice q.A q.n q.c, .bool q.gd, .slice q.Ad q.nd q.cd] 26)).alloc (.cells #[.bool false, .slice none 0 0, .bool false, .slice none 0 0] 26)) (.cells #[.bool q.g, .slice q.A q.n q.c, .bool q.gd, .slice q.Ad q.nd q.cd] 26)
 rw [hW] at h3 b3
 exact ⟨zA b2 b2.size b3, h1.on b3, h2.on b3, by simpa using h3⟩
def RetRB (z zd : Int) (b : Bool) (er : Int) (w : World) (e : Ending) (w' : World) : Prop := ∃ q : RVal, e = .returned (.tuple #[.agg #[.bool q.g, .slice q.A q.n q.c, .bool q.gd, .slice q.Ad q.nd q.cd], .bool b, .int .i64 er]) /\ q.In w' /\ q.o = some z /\ q.od = some zd /\ Below w.heap.size w w'
theorem RetRB.of {z zd er : Int} {b : Bool} {w U : World} {r : Nat} {q : RVal} (h : Rb U r q) (hz : q.o = some z) (hd : q.od = some zd) (hb : Below w.heap.size w U) : RetRB z zd b er w (.returned (.tuple #[.agg #[.bool q.g, .slice q.A q.n q.c, .bool q.gd, .slice q.Ad q.nd q.cd], .bool b, .int .i64 er])) U := ⟨q, rfl, h.sl, hz, hd, hb⟩
theorem rsq_yes (q : RVal) (w : World) (h : q.In w) (x : Rat) (s t : Nat) (hx : rv q.o q.od = some x) (hn : 0 <= x.num) (h1 : s * s <= x.num.natAbs) (h2 : x.num.natAbs < (s + 1) * (s + 1)) (t1 : t * t <= x.den) (t2 : x.den < (t + 1) * (t + 1)) (hb : s * s = x.num.natAbs) (hc : t * t = x.den) :
 Calls Tryz.prog 12 #[.agg #[.bool q.g, .slice q.A q.n q.c, .bool q.gd, .slice q.Ad q.nd q.cd]] w (RetRB s t true 0 w) := by
 have HE := hI (zE1 hx)
 have HO := hI (zC1 hx)
 have hg : q.g = false := by
  have := zK2 (zC1 hx).1
  rw [<- this]; simpa using hn
 have HGq := hI hg
 clear hg
 have HQ1 := hI (And.intro hn (And.intro h1 h2))
 have HQ2 := hI (show 0 <= (x.den : Int) /\ t * t <= (x.den : Int).natAbs /\ (x.den : Int).natAbs < (t + 1) * (t + 1) from ⟨by omega, by rw [Int.natAbs_natCast]; exact t1, by rw [Int.natAbs_natCast]; exact t2⟩)
 have B1v := hI (show decide (s * s = x.num.natAbs) = true from decide_eq_true hb)
 have B2v := hI (show decide (t * t = (x.den : Int).natAbs) = true by rw [Int.natAbs_natCast]; exact decide_eq_true hc)
 have HBg := hI (show s < BIG /\ t < BIG by
  have l1 := zE7 h.1.ok (zC1 hx).1
  have l2 := zE7 h.2.ok (zC1 hx).2
  rw [Int.natAbs_natCast] at l2
  have e1 : s <= s * s := Nat.le_mul_self s
  have e2 : t <= t * t := Nat.le_mul_self t
  omega)
 clear hx hn h1 h2 t1 t2 hb hc
 have HS := hI h
 clear h
 go_enter Tryz.func12, Tryz.ntmps12
 go_wp2_with fail
 generalize hW : World.alloc (World.alloc (World.alloc w _) _) _ = V
 obtain ⟨hb, ra, rx, ar⟩ := sqrt_boxes q w V HS.out hW
 have HB := hI hb
 clear hW hb
 generalize hr : w.heap.size = r at *
 have HRr := hI hr
 clear hr
 have C := zK q (r + 1 + 1) true V ra.sl ar HE.out
 refine C.mono ?_
 clear C ar
 rintro e w1 ⟨rfl, hb1⟩
 have B1 := hI (zA HB.out (by have := HB.out.size; have := HRr.out; omega) hb1)
 have RA := hI (ra.on hb1)
 have RX := hI (rx.on hb1)
 clear hb1 ra rx
 have k0 := RA.out.c0
 have k1 := RA.out.c1
 rw [HGq.out] at k0
 go_wp2_with fail
 have C := isqrt_ov (neg := q.g) RA.out.sl.1 HO.out.1 HQ1.out.1 s HQ1.out.2.1 HQ1.out.2.2
 rw [HGq.out, B1v.out] at C
 refine C.mono ?_
 clear C k0 k1
 rintro e w2 ⟨A2, n2, c2, xs2, rfl, hs2, hx2, hv2, hb2⟩
 have B2 := hI (zA B1.out (by have := B1.out.size; have := HRr.out; omega) hb2)
 have RA2 := hI (RA.out.on hb2)
 have RX2 := hI (RX.out.on hb2)
 have G2 := hI (And.intro hs2 (And.intro hx2 hv2))
 clear hb2 hs2 hx2 hv2 RA RX B1
 have k2 := RA2.out.c2
 have k3 := RA2.out.c3
 have klt := RA2.out.lt
 go_wp2_with fail
 generalize hW : World.alloc w2 _ = V2
 have hn2 := zA0 w2 (.cells #[.bool (decide ((s : Int) < 0)), .slice A2 n2 c2] 24)
 have hbx := Bx.new w2 (decide ((s : Int) < 0)) A2 n2 c2
 rw [hW] at hn2 hbx
 have B3 := hI (zA B2.out (by have := B2.out.size; have := HRr.out; omega) hn2)
 have RX3 := hI (RX2.out.on hn2)
 have BX3 : Hid (Ba V2 w2.heap.size (decide ((s : Int) < 0)) A2 n2 c2 xs2) := hI ⟨hbx, G2.out.1.on hn2⟩
 have C := isqrt_ov (neg := q.gd) (RA2.out.sl.2.on hn2) HO.out.2 HQ2.out.1 t HQ2.out.2.1 HQ2.out.2.2
 rw [B2v.out] at C
 refine C.mono ?_
 clear C hn2 hW k2 k3 klt hbx
 rintro e w4 ⟨A4, n4, c4, xs4, rfl, hs4, hx4, hv4, hb4⟩
 have B4 := hI (zA B3.out (by have := B3.out.size; have := HRr.out; omega) hb4)
 have RX4 := hI (RX3.out.on hb4)
 have BX4 := hI (BX3.out.on hb4)
 have G4 := hI (And.intro hs4 (And.intro hx4 hv4))
 have os : r + 1 ≠ w2.heap.size := by have := RX2.out.lt; omega
 have os' := os.symm
 clear hb4 hs4 hx4 hv4 B3 RX3 BX3
 have kb0 := BX4.out.bx.c0
 have kb1 := BX4.out.bx.c1
 have kbl := BX4.out.bx.lt
 have f0 := RX4.out.f 0
 have f1 := RX4.out.f 1
 have f2 := RX4.out.f 2
 have f3 := RX4.out.f 3
 have q0 := RX4.out.c0
 have q1 := RX4.out.c1
 have q2 := RX4.out.c2
 have q3 := RX4.out.c3
 simp only [RVal.nil] at q0 q1 q2 q3
 have ylt := RX4.out.lt
 have yl2 := Nat.lt_of_succ_lt RX4.out.lt
 go_wp2
 obtain ⟨q9, hq9⟩ : ∃ q9 : RVal, q9 = (⟨decide ((s : Int) < 0), A2, n2, c2, xs2, decide ((t : Int) < 0), A4, n4, c4, xs4⟩ : RVal) := ⟨_, rfl⟩
 have HQ9 : Hid (q9.In w4 /\ q9.o = some (s : Int) /\ q9.od = some (t : Int)) := by
  subst hq9
  exact hI ⟨⟨BX4.out.sl, G4.out.1⟩, zD5 BX4.out.sl.ok G2.out.2.1 G2.out.2.2 (by rw [Int.natAbs_natCast]; exact HBg.out.1), zD5 G4.out.1.ok G4.out.2.1 G4.out.2.2 (by rw [Int.natAbs_natCast]; exact HBg.out.2)⟩
 have HG9 : Hid (q9.g = decide ((s : Int) < 0) /\ q9.A = A2 /\ q9.n = n2 /\ q9.c = c2 /\ q9.gd = decide ((t : Int) < 0) /\ q9.Ad = A4 /\ q9.nd = n4 /\ q9.cd = c4) := by subst hq9; exact hI ⟨rfl, rfl, rfl, rfl, rfl, rfl, rfl, rfl⟩
 clear hq9
 obtain ⟨e1, e2, e3, e4, e5, e6, e7, e8⟩ := HG9.out
 rw [<- e1, <- e2, <- e3, <- e4, <- e5, <- e6, <- e7, <- e8]
 generalize hU : World.alloc (World.setCell (World.setCell (World.setCell (World.setCell w4 _ _) _ _) _ _) _ _) _ = U
 have RU' := (Rb.alloc (Rb.put RX4.out HQ9.out.1) (.cells #[.bool q9.gd, .slice q9.Ad q9.nd q9.cd] 24))
 have RU : Rb U (r + 1) q9 := by rw [<- hU]; exact RU'
 have HU : Below w.heap.size w U := by rw [<- hU, HRr.out]; exact (zA (zA5 B4.out (show r <= r + 1 by omega) _ _ _ _) (Nat.le_trans (HRr.out ▸ B4.out.size) (by simp [zJ]; try omega)) (zA0 _ (.cells #[.bool q9.gd, .slice q9.Ad q9.nd q9.cd] 24)))
 have j0 := RU.c0
 have j1 := RU.c1
 have j2 := RU.c2
 have j3 := RU.c3
 refine bodyPost_ret (v := .tuple #[.agg #[.bool q9.g, .slice q9.A q9.n q9.c, .bool q9.gd, .slice q9.Ad q9.nd q9.cd], .bool true, .int .i64 0]) (by simp [results, Tryz.results12, go_sem, j0, j1, j2, j3]) rfl ?_
 exact RetRB.of RU HQ9.out.2.1 HQ9.out.2.2 HU
end Go.Proofs.YtphinlongdoedaaGreat
namespace Go.Proofs.YtphinlongdoedaaGreat
open Go.RowKit
set_option maxHeartbeats 1000000
def rtx (x : Rat) : List UInt8 := if x.den = 1 then decT x.num else decT x.num ++ 47 :: decT (x.den : Int)
theorem text_boxes (q : RVal) (w W : World) (h : q.In w) (hW : (w.alloc (.cells #[.bool q.g, .slice q.A q.n q.c, .bool q.gd, .slice q.Ad q.nd q.cd] 26)).alloc (.cells #[.bool q.g, .slice q.A q.n q.c, .bool q.gd, .slice q.Ad q.nd q.cd] 26) = W) :
 Below w.heap.size w W /\ Rb W w.heap.size q /\ Blk W (w.heap.size + 1) 26 #[.bool q.g, .slice q.A q.n q.c, .bool q.gd, .slice q.Ad q.nd q.cd] := by
 obtain ⟨b2, h1, h2⟩ := zL3 q q w W h h hW
 exact ⟨b2, h1, h2.bx⟩
theorem zO6 (z : Int) : oneB (some z) = decide (z = 1) := by
 rcases h : oneB (some z) with _ | _
 . symm; rw [decide_eq_false_iff_not]; intro e; subst e; cases h
 . have := (oneB_iff _).1 h
   injection this with this
   rw [this]; rfl
def RetTx (l : List UInt8) (er : Int) (w : World) (e : Ending) (w' : World) : Prop := e = .returned (.tuple #[.string ⟨l.toArray⟩, .int .i64 er]) /\ Below w.heap.size w w'
theorem cat_arr (a b : List UInt8) : (⟨a.toArray⟩ : ByteArray) ++ (⟨b.toArray⟩ : ByteArray) = ⟨(a ++ b).toArray⟩ := by
 apply ByteArray.ext
 simp
theorem text_r1 (q : RVal) (w : World) (h : q.In w) (x : Rat) (l1 l2 : List UInt8) (hx : rv q.o q.od = some x) (h1 : decT x.num = l1) (h2 : decT (x.den : Int) = l2) (hb : decide ((x.den : Int) = 1) = true) :
 Calls Tryz.prog 13 #[.agg #[.bool q.g, .slice q.A q.n q.c, .bool q.gd, .slice q.Ad q.nd q.cd]] w (RetTx l1 0 w) := by
 have HE := hI (zE1 hx)
 have HO := hI (zC1 hx)
 have HL := hI (show decT x.num = l1 /\ decide ((x.den : Int) = 1) = true /\ decT (x.den : Int) = l2 from ⟨h1, hb, h2⟩)
 clear hx h1 hb h2
 have HS := hI h
 clear h
 go_enter Tryz.func13, Tryz.ntmps13
 go_wp2_with fail
 generalize hW : World.alloc (World.alloc w _) _ = V
 obtain ⟨hb, ra, ar⟩ := text_boxes q w V HS.out hW
 have HB := hI hb
 clear hW hb
 generalize hr : w.heap.size = r at *
 have HRr := hI hr
 clear hr
 have C := zK q (r + 1) true V ra.sl ar HE.out
 refine C.mono ?_
 clear C ar
 rintro e w1 ⟨rfl, hb1⟩
 have B1 := hI (zA HB.out (by have := HB.out.size; have := HRr.out; omega) hb1)
 have RA := hI (ra.on hb1)
 clear hb1 ra
 have k0 := RA.out.c0
 have k1 := RA.out.c1
 go_wp2_with fail
 have C := text_ov (neg := q.g) RA.out.sl.1
 rw [show ov q.g q.xs = some x.num from HO.out.1] at C
 have C' : Calls Tryz.prog 36 #[.agg #[.bool q.g, .slice q.A q.n q.c]] w1 fun e w' => e = .returned (.tuple #[.string ⟨l1.toArray⟩, .int .i64 0]) /\ Below w1.heap.size w1 w' := by rw [<- HL.out.1]; exact C
 refine C'.mono ?_
 clear C C' k0 k1
 rintro e w2 ⟨rfl, hb2⟩
 have B2 := hI (zA B1.out (by have := B1.out.size; have := HRr.out; omega) hb2)
 have RA2 := hI (RA.out.on hb2)
 clear hb2 RA B1
 have k2 := RA2.out.c2
 have k3 := RA2.out.c3
 go_wp2_with fail
 have C := zP (neg := q.gd) RA2.out.sl.2
 rw [show ov q.gd q.ys = some (x.den : Int) from HO.out.2, zO6, HL.out.2.1] at C
 refine C.mono ?_
 clear C k2 k3
 rintro e w3 ⟨rfl, hb3⟩
 have B3 := hI (zA B2.out (by have := B2.out.size; have := HRr.out; omega) hb3)
 have RA3 := hI (RA2.out.on hb3)
 clear hb3 RA2 B2
 go_wp2
 go_ret2
 exact ⟨rfl, HRr.out.symm ▸ B3.out⟩
theorem text_r2 (q : RVal) (w : World) (h : q.In w) (x : Rat) (l1 l2 : List UInt8) (hx : rv q.o q.od = some x) (h1 : decT x.num = l1) (h2 : decT (x.den : Int) = l2) (hb : decide ((x.den : Int) = 1) = false) (m1 : l1.length <= 2000) (m2 : l2.length <= 2000) :
 Calls Tryz.prog 13 #[.agg #[.bool q.g, .slice q.A q.n q.c, .bool q.gd, .slice q.Ad q.nd q.cd]] w (RetTx (l1 ++ 47 :: l2) 0 w) := by
 have HE := hI (zE1 hx)
 have HO := hI (zC1 hx)
 have HL := hI (show decT x.num = l1 /\ decide ((x.den : Int) = 1) = false /\ decT (x.den : Int) = l2 from ⟨h1, hb, h2⟩)
 clear hx h1 hb h2
 have HS := hI h
 clear h
 go_enter Tryz.func13, Tryz.ntmps13
 go_wp2_with fail
 generalize hW : World.alloc (World.alloc w _) _ = V
 obtain ⟨hb, ra, ar⟩ := text_boxes q w V HS.out hW
 have HB := hI hb
 clear hW hb
 generalize hr : w.heap.size = r at *
 have HRr := hI hr
 clear hr
 have C := zK q (r + 1) true V ra.sl ar HE.out
 refine C.mono ?_
 clear C ar
 rintro e w1 ⟨rfl, hb1⟩
 have B1 := hI (zA HB.out (by have := HB.out.size; have := HRr.out; omega) hb1)
 have RA := hI (ra.on hb1)
 clear hb1 ra
 have k0 := RA.out.c0
 have k1 := RA.out.c1
 go_wp2_with fail
 have C := text_ov (neg := q.g) RA.out.sl.1
 rw [show ov q.g q.xs = some x.num from HO.out.1] at C
 have C' : Calls Tryz.prog 36 #[.agg #[.bool q.g, .slice q.A q.n q.c]] w1 fun e w' => e = .returned (.tuple #[.string ⟨l1.toArray⟩, .int .i64 0]) /\ Below w1.heap.size w1 w' := by rw [<- HL.out.1]; exact C
 refine C'.mono ?_
 clear C C' k0 k1
 rintro e w2 ⟨rfl, hb2⟩
 have B2 := hI (zA B1.out (by have := B1.out.size; have := HRr.out; omega) hb2)
 have RA2 := hI (RA.out.on hb2)
 clear hb2 RA B1
 have k2 := RA2.out.c2
 have k3 := RA2.out.c3
 go_wp2_with fail
 have C := zP (neg := q.gd) RA2.out.sl.2
 rw [show ov q.gd q.ys = some (x.den : Int) from HO.out.2, zO6, HL.out.2.1] at C
 refine C.mono ?_
 clear C k2 k3
 rintro e w3 ⟨rfl, hb3⟩
 have B3 := hI (zA B2.out (by have := B2.out.size; have := HRr.out; omega) hb3)
 have RA3 := hI (RA2.out.on hb3)
 clear hb3 RA2 B2
 have k2 := RA3.out.c2
 have k3 := RA3.out.c3
 go_wp2_with fail
 have C := text_ov (neg := q.gd) RA3.out.sl.2
 rw [show ov q.gd q.ys = some (x.den : Int) from HO.out.2] at C
 have C' : Calls Tryz.prog 36 #[.agg #[.bool q.gd, .slice q.Ad q.nd q.cd]] w3 fun e w' => e = .returned (.tuple #[.string ⟨l2.toArray⟩, .int .i64 0]) /\ Below w3.heap.size w3 w' := by rw [<- HL.out.2.2]; exact C
 refine C'.mono ?_
 clear C C' k2 k3
 rintro e w4 ⟨rfl, hb4⟩
 have B4 := hI (zA B3.out (by have := B3.out.size; have := HRr.out; omega) hb4)
 clear hb4 RA3 B3
 go_wp2
 go_ret2
 refine ⟨?_, HRr.out.symm ▸ B4.out⟩
 have e1 : (⟨#[47]⟩ : ByteArray) = ⟨([47] : List UInt8).toArray⟩ := rfl
 rw [e1, cat_arr, cat_arr, List.append_assoc]
 rfl
theorem decT_len {z : Int} (h : z.natAbs < BIG) : (decT z).length <= 2000 := by
 have key : ∀ k, 4294967296 ^ k = BIG -> (dec z.natAbs).length <= 10 * k := fun k hk => dec_len (Nat.lt_of_lt_of_le (hk ▸ h) (dec_ten k))
 have h1 := key 128 rfl
 unfold decT
 by_cases h0 : z = 0
 . rw [if_pos h0]; simp
 . rw [if_neg h0, List.length_append]
   by_cases h2 : z < 0
   . rw [if_pos h2]; simp; omega
   . rw [if_neg h2]; simp; omega
theorem text_q {q : RVal} {x : Rat} {w : World} (h : q.In w) (hx : rv q.o q.od = some x) : Calls Tryz.prog 13 #[.agg #[.bool q.g, .slice q.A q.n q.c, .bool q.gd, .slice q.Ad q.nd q.cd]] w (RetTx (rtx x) 0 w) := by
 unfold rtx
 by_cases hd : x.den = 1
 . rw [if_pos hd]
   exact text_r1 q w h x _ _ hx rfl rfl (by rw [decide_eq_true_iff]; omega)
 . rw [if_neg hd]
   exact text_r2 q w h x _ _ hx rfl rfl (by rw [decide_eq_false_iff_not]; omega) (decT_len (zE7 h.1.ok (zC1 hx).1)) (decT_len (zE7 h.2.ok (zC1 hx).2))
end Go.Proofs.YtphinlongdoedaaGreat
namespace Go.Proofs.YtphinlongdoedaaGreat
open Go.RowKit
set_option maxRecDepth 20000
set_option maxHeartbeats 1000000
theorem cut_lite (s : ByteArray) (w : World) (hs : s.size <= 140737488351232) :
 Calls Tryz.prog 72 #[.string s, .string ⟨#[47]⟩] w fun e w' => e = .returned (.tuple #[.string ⟨(Lib.cut s.data.toList [47]).1.toArray⟩, .string ⟨(Lib.cut s.data.toList [47]).2.1.toArray⟩, .bool (Lib.cut s.data.toList [47]).2.2]) /\ ∃ n, w' = w.drewN n := by
 rcases Lib.indexB_cases s ⟨#[47]⟩ with hix | ⟨i, hix, hroom⟩
 . obtain ⟨e1, e2, e3⟩ := Lib.cutB_miss s ⟨#[47]⟩ hix
   have hi : Lib.indexByte s.data.toList 47 = -1 := by rw [<- Lib.index_one]; exact hix
   have HE := hI (And.intro e1 (And.intro e2 e3))
   have HI := hI hi
   clear e1 e2 e3 hix hi
   go_enter Tryz.func72, Tryz.ntmps72
   go_wp2_with fail
   refine (Tryz.stringslite_Index_one s 47 _).mono ?_
   rintro e w' ⟨rfl, rfl⟩
   rw [HI.out]
   go_wp2
   go_ret3
   refine ⟨?_, 0, rfl⟩
   have e1 := HE.out.1
   have e2 := HE.out.2.1
   have e3 := HE.out.2.2
   rw [show (⟨(Lib.cut s.data.toList [47]).1.toArray⟩ : ByteArray) = s from e1, show (⟨(Lib.cut s.data.toList [47]).2.1.toArray⟩ : ByteArray) = ByteArray.empty from e2, show (Lib.cut s.data.toList [47]).2.2 = false from e3]
   rfl
 . obtain ⟨e1, e2, e3⟩ := Lib.cutB_hit s ⟨#[47]⟩ i hix
   have hi : Lib.indexByte s.data.toList 47 = (i : Int) := by rw [<- Lib.index_one]; exact hix
   have hroom' : i + 1 <= s.size := hroom
   have HE := hI (And.intro e1 (And.intro e2 e3))
   have HI := hI hi
   have c1 : (0 : Int) <= ↑i := by omega
   have c2 : (↑i : Int) <= ↑s.size := by omega
   have c3 : (0 : Int) <= ↑i + 1 := by omega
   have c4 : (↑i + 1 : Int) <= ↑s.size := by omega
   clear e1 e2 e3 hix hi hroom hroom'
   go_enter Tryz.func72, Tryz.ntmps72
   go_wp2_with fail
   refine (Tryz.stringslite_Index_one s 47 _).mono ?_
   rintro e w' ⟨rfl, rfl⟩
   rw [HI.out]
   go_wp2
   go_region
   go_wp2
   go_ret3
   refine ⟨?_, 1, rfl⟩
   have e1 := HE.out.1
   have e2 := HE.out.2.1
   have e3 := HE.out.2.2
   rw [show (⟨(Lib.cut s.data.toList [47]).1.toArray⟩ : ByteArray) = s.extract 0 i from e1, show (⟨(Lib.cut s.data.toList [47]).2.1.toArray⟩ : ByteArray) = s.extract (i + 1) s.size from e2, show (Lib.cut s.data.toList [47]).2.2 = true from e3]
   rfl
theorem cut_slash (s : ByteArray) (w : World) (hs : s.size <= 140737488351232) :
 Calls Tryz.prog 38 #[.string s, .string ⟨#[47]⟩] w fun e w' => e = .returned (.tuple #[.string ⟨(Lib.cut s.data.toList [47]).1.toArray⟩, .string ⟨(Lib.cut s.data.toList [47]).2.1.toArray⟩, .bool (Lib.cut s.data.toList [47]).2.2]) /\ ∃ n, w' = w.drewN n := by
 have C := fun w => cut_lite s w hs
 generalize (Lib.cut s.data.toList [47]).1 = a at *
 generalize (Lib.cut s.data.toList [47]).2.1 = b at *
 generalize (Lib.cut s.data.toList [47]).2.2 = f at *
 have HC := hI C
 clear C
 go_enter Tryz.func38, Tryz.ntmps38
 go_wp2_with fail
 refine (HC.out _).mono ?_
 rintro e w' ⟨rfl, k, rfl⟩
 go_wp2
 go_ret3
 exact ⟨rfl, k, rfl⟩
theorem parse_e1 (s sa sb : ByteArray) (w : World) (f : Bool) (z1 E1 : Int) (HC : Hid (∀ w : World, Calls Tryz.prog 38 #[.string s, .string ⟨#[47]⟩] w fun e w' => e = .returned (.tuple #[.string sa, .string sb, .bool f]) /\ ∃ n, w' = w.drewN n)) (HP1 : Hid (∀ w : World, Calls Tryz.prog 39 #[.string sa] w (zB0 z1 E1 w))) (he : E1 ≠ 0) :
 Calls Tryz.prog 14 #[.string s] w (RetR 0 0 E1 w) := by
 have e1 : (E1 != 0) = true := by simpa using he
 clear he
 go_enter Tryz.func14, Tryz.ntmps14
 go_wp2_with fail
 refine (HC.out _).mono ?_
 rintro e w' ⟨rfl, k, rfl⟩
 have R0 := (Rb.new (RVal.nil_in w)).drewN k
 have B0 := zA6 (zA0 w (.cells #[.bool RVal.nil.g, .slice RVal.nil.A RVal.nil.n RVal.nil.c, .bool RVal.nil.gd, .slice RVal.nil.Ad RVal.nil.nd RVal.nil.cd] 26)) k
 generalize hV : World.drewN _ _ = V
 have hV' : ((w.alloc (.cells #[.bool RVal.nil.g, .slice RVal.nil.A RVal.nil.n RVal.nil.c, .bool RVal.nil.gd, .slice RVal.nil.Ad RVal.nil.nd RVal.nil.cd] 26)).drewN k) = V := hV
 rw [hV'] at R0 B0
 have R0' := hI R0
 have B0' := hI B0
 clear hV hV' R0 B0
 generalize hr : w.heap.size = r at *
 have HRr := hI hr
 clear hr
 go_wp2_with fail
 refine (HP1.out _).mono ?_
 rintro e w1 ⟨A1, n1, c1, xs1, rfl, hs1, hx1, hv1, hb1⟩
 have B1 := hI (zA B0'.out (by have := B0'.out.size; have := HRr.out; omega) hb1)
 have RX := hI (R0'.out.on hb1)
 have G1 := hI (And.intro hs1 (And.intro hx1 hv1))
 clear hb1 hs1 hx1 hv1 R0' B0'
 have ylt := RX.out.lt
 have f0 := RX.out.f 0
 have f1 := RX.out.f 1
 have f2 := RX.out.f 2
 have f3 := RX.out.f 3
 have q0 := RX.out.c0
 have q1 := RX.out.c1
 have q2 := RX.out.c2
 have q3 := RX.out.c3
 simp only [RVal.nil] at q0 q1 q2 q3
 go_wp2
 generalize hU : World.alloc (World.setCell (World.setCell (World.setCell (World.setCell w1 _ _) _ _) _ _) _ _) _ = U
 have RU' := (Rb.alloc (Rb.put RX.out (RVal.nil_in w1)) (.cells #[.bool (decide (z1 < 0)), .slice A1 n1 c1] 24))
 have RU : Rb U r RVal.nil := by rw [<- hU]; exact RU'
 have HU : Below w.heap.size w U := by rw [<- hU, HRr.out]; exact (zA (zA5 B1.out (Nat.le_refl _) _ _ _ _) (Nat.le_trans (HRr.out ▸ B1.out.size) (by simp [zJ]; try omega)) (zA0 _ (.cells #[.bool (decide (z1 < 0)), .slice A1 n1 c1] 24)))
 have j0 := RU.c0
 have j1 := RU.c1
 have j2 := RU.c2
 have j3 := RU.c3
 refine bodyPost_ret (v := .tuple #[.agg #[.bool RVal.nil.g, .slice RVal.nil.A RVal.nil.n RVal.nil.c, .bool RVal.nil.gd, .slice RVal.nil.Ad RVal.nil.nd RVal.nil.cd], .int .i64 E1]) (by simp [results, Tryz.results14, go_sem, j0, j1, j2, j3]) rfl ?_
 exact RetR.of RU rfl rfl HU
theorem parse_n (s sa sb : ByteArray) (w : World) (z1 E1 : Int) (HC : Hid (∀ w : World, Calls Tryz.prog 38 #[.string s, .string ⟨#[47]⟩] w fun e w' => e = .returned (.tuple #[.string sa, .string sb, .bool false]) /\ ∃ n, w' = w.drewN n)) (HP1 : Hid (∀ w : World, Calls Tryz.prog 39 #[.string sa] w (zB0 z1 E1 w))) (he : E1 = 0) (hz : z1.natAbs < BIG) :
 Calls Tryz.prog 14 #[.string s] w (RetR z1 1 0 w) := by
 have HZ := hI hz
 clear hz
 subst he
 go_enter Tryz.func14, Tryz.ntmps14
 go_wp2_with fail
 refine (HC.out _).mono ?_
 rintro e w' ⟨rfl, k, rfl⟩
 have R0 := (Rb.new (RVal.nil_in w)).drewN k
 have B0 := zA6 (zA0 w (.cells #[.bool RVal.nil.g, .slice RVal.nil.A RVal.nil.n RVal.nil.c, .bool RVal.nil.gd, .slice RVal.nil.Ad RVal.nil.nd RVal.nil.cd] 26)) k
 generalize hV : World.drewN _ _ = V
 have hV' : ((w.alloc (.cells #[.bool RVal.nil.g, .slice RVal.nil.A RVal.nil.n RVal.nil.c, .bool RVal.nil.gd, .slice RVal.nil.Ad RVal.nil.nd RVal.nil.cd] 26)).drewN k) = V := hV
 rw [hV'] at R0 B0
 have R0' := hI R0
 have B0' := hI B0
 clear hV hV' R0 B0
 generalize hr : w.heap.size = r at *
 have HRr := hI hr
 clear hr
 go_wp2_with fail
 refine (HP1.out _).mono ?_
 rintro e w1 ⟨A1, n1, c1, xs1, rfl, hs1, hx1, hv1, hb1⟩
 have B1 := hI (zA B0'.out (by have := B0'.out.size; have := HRr.out; omega) hb1)
 have RX := hI (R0'.out.on hb1)
 have G1 := hI (And.intro hs1 (And.intro hx1 hv1))
 clear hb1 hs1 hx1 hv1 R0' B0'
 have lt1 := RX.out.lt
 go_wp2
 generalize hW : World.alloc w1 _ = V1
 have hn := zA0 w1 (.cells #[.bool (decide (z1 < 0)), .slice A1 n1 c1] 24)
 have hbx := Bx.new w1 (decide (z1 < 0)) A1 n1 c1
 rw [hW] at hn hbx
 have BX := hI (show Ba V1 w1.heap.size (decide (z1 < 0)) A1 n1 c1 xs1 from ⟨hbx, G1.out.1.on hn⟩)
 have RX1 := hI (RX.out.on hn)
 have B2 := hI (zA B1.out (by have := B1.out.size; have := HRr.out; omega) hn)
 have HN := hI (show Nz xs1 /\ val xs1 = z1.natAbs from G1.out.2)
 have ne1 : w1.heap.size ≠ r := by omega
 have ne2 : r ≠ w1.heap.size := by omega
 clear hW hn hbx RX B1 lt1 G1
 generalize w1.heap.size = m at *
 have p0 := BX.out.bx.c0
 have p1 := BX.out.bx.c1
 go_region_held3 (fun w' => w'.cell? ⟨m, 0, none⟩ = some (.bool (decide (z1 < 0))) /\ w'.cell? ⟨m, 1, none⟩ = some (.slice A1 n1 c1)) (go_keep)
  (first
   | (go_at_call 16
      (with_reducible refine (of_any 1 _ (by omega) (by omega)).mono ?_)
      rintro e v1 ⟨A2, n2, c2, xs2, rfl, hs2, hx2, hv2, hbn⟩
      have hb3 : Below V1.heap.size V1 v1 := ⟨hbn.os, hbn.tape, hbn.output, hbn.size, hbn.block⟩
      have RX2 := hI (RX1.out.on hb3)
      have B3 := hI (zA B2.out (by have := B2.out.size; have := HRr.out; omega) hb3)
      have BX2 := hI (BX.out.on hb3)
      have G2 := hI (And.intro hs2 (And.intro hx2 hv2))
      clear hbn hb3 hs2 hx2 hv2 p0 p1
      have p0 := BX2.out.bx.c0
      have p1 := BX2.out.bx.c1
      have f0 := RX2.out.f 0
      have f1 := RX2.out.f 1
      have f2 := RX2.out.f 2
      have f3 := RX2.out.f 3
      have q0 := RX2.out.c0
      have q1 := RX2.out.c1
      have q2 := RX2.out.c2
      have q3 := RX2.out.c3
      simp only [RVal.nil] at q0 q1 q2 q3
      ))
 go_wp2
 have HQ9 := hI (And.intro (zD5 BX2.out.sl.ok HN.out.1 HN.out.2 HZ.out) (zD5 (z := 1) G2.out.1.ok G2.out.2.1 G2.out.2.2 (zH (by decide))))
 generalize hU : World.setCell (World.setCell (World.setCell (World.setCell v1 _ _) _ _) _ _) _ _ = U
 have RU' := (Rb.put (q' := (⟨(decide (z1 < 0)), A1, n1, c1, xs1, false, A2, n2, c2, xs2⟩ : RVal)) RX2.out ⟨BX2.out.sl, G2.out.1⟩)
 have RU : Rb U r (⟨(decide (z1 < 0)), A1, n1, c1, xs1, false, A2, n2, c2, xs2⟩ : RVal) := by rw [<- hU]; exact RU'
 have HU : Below w.heap.size w U := by rw [<- hU, HRr.out]; exact (zA5 B3.out (Nat.le_refl _) _ _ _ _)
 have j0 := RU.c0
 have j1 := RU.c1
 have j2 := RU.c2
 have j3 := RU.c3
 dsimp only at j0 j1 j2 j3
 refine bodyPost_ret (v := .tuple #[.agg #[.bool (decide (z1 < 0)), .slice A1 n1 c1, .bool false, .slice A2 n2 c2], .int .i64 0]) (by simp [results, Tryz.results14, go_sem, j0, j1, j2, j3]) rfl ?_
 exact RetR.of RU HQ9.out.1 HQ9.out.2 HU
theorem parse_e2 (s sa sb : ByteArray) (w : World) (z1 z2 E1 E2 : Int) (HC : Hid (∀ w : World, Calls Tryz.prog 38 #[.string s, .string ⟨#[47]⟩] w fun e w' => e = .returned (.tuple #[.string sa, .string sb, .bool true]) /\ ∃ n, w' = w.drewN n)) (HP1 : Hid (∀ w : World, Calls Tryz.prog 39 #[.string sa] w (zB0 z1 E1 w))) (HP2 : Hid (∀ w : World, Calls Tryz.prog 39 #[.string sb] w (zB0 z2 E2 w))) (h0 : E1 = 0) (he : E2 ≠ 0) :
 Calls Tryz.prog 14 #[.string s] w (RetR 0 0 E2 w) := by
 have e1 : (E2 != 0) = true := by simpa using he
 clear he
 subst h0
 go_enter Tryz.func14, Tryz.ntmps14
 go_wp2_with fail
 refine (HC.out _).mono ?_
 rintro e w' ⟨rfl, k, rfl⟩
 have R0 := (Rb.new (RVal.nil_in w)).drewN k
 have B0 := zA6 (zA0 w (.cells #[.bool RVal.nil.g, .slice RVal.nil.A RVal.nil.n RVal.nil.c, .bool RVal.nil.gd, .slice RVal.nil.Ad RVal.nil.nd RVal.nil.cd] 26)) k
 generalize hV : World.drewN _ _ = V
 have hV' : ((w.alloc (.cells #[.bool RVal.nil.g, .slice RVal.nil.A RVal.nil.n RVal.nil.c, .bool RVal.nil.gd, .slice RVal.nil.Ad RVal.nil.nd RVal.nil.cd] 26)).drewN k) = V := hV
 rw [hV'] at R0 B0
 have R0' := hI R0
 have B0' := hI B0
 clear hV hV' R0 B0
 generalize hr : w.heap.size = r at *
 have HRr := hI hr
 clear hr
 go_wp2_with fail
 refine (HP1.out _).mono ?_
 rintro e w1 ⟨A1, n1, c1, xs1, rfl, hs1, hx1, hv1, hb1⟩
 have B1 := hI (zA B0'.out (by have := B0'.out.size; have := HRr.out; omega) hb1)
 have RX := hI (R0'.out.on hb1)
 have G1 := hI (And.intro hs1 (And.intro hx1 hv1))
 clear hb1 hs1 hx1 hv1 R0' B0'
 have lt1 := RX.out.lt
 go_wp2_with fail
 generalize hW : World.alloc w1 _ = V1
 have hn := zA0 w1 (.cells #[.bool (decide (z1 < 0)), .slice A1 n1 c1] 24)
 have hbx := Bx.new w1 (decide (z1 < 0)) A1 n1 c1
 rw [hW] at hn hbx
 have BX := hI (show Ba V1 w1.heap.size (decide (z1 < 0)) A1 n1 c1 xs1 from ⟨hbx, G1.out.1.on hn⟩)
 have RX1 := hI (RX.out.on hn)
 have B2 := hI (zA B1.out (by have := B1.out.size; have := HRr.out; omega) hn)
 have HN := hI (show Nz xs1 /\ val xs1 = z1.natAbs from G1.out.2)
 have ne1 : w1.heap.size ≠ r := by omega
 have ne2 : r ≠ w1.heap.size := by omega
 clear hW hn hbx RX B1 lt1 G1
 generalize w1.heap.size = m at *
 refine (HP2.out V1).mono ?_
 rintro e w2 ⟨A2, n2, c2, xs2, rfl, hs2, hx2, hv2, hb2⟩
 have B3 := hI (zA B2.out (by have := B2.out.size; have := HRr.out; omega) hb2)
 have RX2 := hI (RX1.out.on hb2)
 have BX2 := hI (BX.out.on hb2)
 have G2 := hI (And.intro hs2 (And.intro hx2 hv2))
 clear hb2 hs2 hx2 hv2 RX1 B2 BX
 have zlt := BX2.out.bx.lt
 have ylt := RX2.out.lt
 have f0 := RX2.out.f 0
 have f1 := RX2.out.f 1
 have f2 := RX2.out.f 2
 have f3 := RX2.out.f 3
 have q0 := RX2.out.c0
 have q1 := RX2.out.c1
 have q2 := RX2.out.c2
 have q3 := RX2.out.c3
 simp only [RVal.nil] at q0 q1 q2 q3
 go_wp2
 generalize hU : World.alloc (World.setCell (World.setCell (World.setCell (World.setCell w2 _ _) _ _) _ _) _ _) _ = U
 have RU' := (Rb.alloc (Rb.put RX2.out (RVal.nil_in w2)) (.cells #[.bool (decide (z2 < 0)), .slice A2 n2 c2] 24))
 have RU : Rb U r RVal.nil := by rw [<- hU]; exact RU'
 have HU : Below w.heap.size w U := by rw [<- hU, HRr.out]; exact (zA (zA5 B3.out (Nat.le_refl _) _ _ _ _) (Nat.le_trans (HRr.out ▸ B3.out.size) (by simp [zJ]; try omega)) (zA0 _ (.cells #[.bool (decide (z2 < 0)), .slice A2 n2 c2] 24)))
 have j0 := RU.c0
 have j1 := RU.c1
 have j2 := RU.c2
 have j3 := RU.c3
 refine bodyPost_ret (v := .tuple #[.agg #[.bool RVal.nil.g, .slice RVal.nil.A RVal.nil.n RVal.nil.c, .bool RVal.nil.gd, .slice RVal.nil.Ad RVal.nil.nd RVal.nil.cd], .int .i64 E2]) (by simp [results, Tryz.results14, go_sem, j0, j1, j2, j3]) rfl ?_
 exact RetR.of RU rfl rfl HU
theorem parse_b1 (s sa sb : ByteArray) (w : World) (z1 z2 E1 E2 : Int) (HC : Hid (∀ w : World, Calls Tryz.prog 38 #[.string s, .string ⟨#[47]⟩] w fun e w' => e = .returned (.tuple #[.string sa, .string sb, .bool true]) /\ ∃ n, w' = w.drewN n)) (HP1 : Hid (∀ w : World, Calls Tryz.prog 39 #[.string sa] w (zB0 z1 E1 w))) (HP2 : Hid (∀ w : World, Calls Tryz.prog 39 #[.string sb] w (zB0 z2 E2 w))) (h0 : E1 = 0) (h1 : E2 = 0) (hz1 : z1.natAbs < BIG) (hz2 : z2.natAbs < BIG) (hv : (rv (some z1) (some z2)).isSome = false) :
 Calls Tryz.prog 14 #[.string s] w (RetR 0 0 3 w) := by
 have HZ := hI (And.intro hz1 hz2)
 have HE := hI (show (rv (some z1) (some z2)).isSome = false /\ True from ⟨hv, trivial⟩)
 clear hz1 hz2 hv
 subst h0
 subst h1
 go_enter Tryz.func14, Tryz.ntmps14
 go_wp2_with fail
 refine (HC.out _).mono ?_
 rintro e w' ⟨rfl, k, rfl⟩
 have R0 := (Rb.new (RVal.nil_in w)).drewN k
 have B0 := zA6 (zA0 w (.cells #[.bool RVal.nil.g, .slice RVal.nil.A RVal.nil.n RVal.nil.c, .bool RVal.nil.gd, .slice RVal.nil.Ad RVal.nil.nd RVal.nil.cd] 26)) k
 generalize hV : World.drewN _ _ = V
 have hV' : ((w.alloc (.cells #[.bool RVal.nil.g, .slice RVal.nil.A RVal.nil.n RVal.nil.c, .bool RVal.nil.gd, .slice RVal.nil.Ad RVal.nil.nd RVal.nil.cd] 26)).drewN k) = V := hV
 rw [hV'] at R0 B0
 have R0' := hI R0
 have B0' := hI B0
 clear hV hV' R0 B0
 generalize hr : w.heap.size = r at *
 have HRr := hI hr
 clear hr
 go_wp2_with fail
 refine (HP1.out _).mono ?_
 rintro e w1 ⟨A1, n1, c1, xs1, rfl, hs1, hx1, hv1, hb1⟩
 have B1 := hI (zA B0'.out (by have := B0'.out.size; have := HRr.out; omega) hb1)
 have RX := hI (R0'.out.on hb1)
 have G1 := hI (And.intro hs1 (And.intro hx1 hv1))
 clear hb1 hs1 hx1 hv1 R0' B0'
 have lt1 := RX.out.lt
 go_wp2_with fail
 generalize hW : World.alloc w1 _ = V1
 have hn := zA0 w1 (.cells #[.bool (decide (z1 < 0)), .slice A1 n1 c1] 24)
 have hbx := Bx.new w1 (decide (z1 < 0)) A1 n1 c1
 rw [hW] at hn hbx
 have BX := hI (show Ba V1 w1.heap.size (decide (z1 < 0)) A1 n1 c1 xs1 from ⟨hbx, G1.out.1.on hn⟩)
 have RX1 := hI (RX.out.on hn)
 have B2 := hI (zA B1.out (by have := B1.out.size; have := HRr.out; omega) hn)
 have HN := hI (show Nz xs1 /\ val xs1 = z1.natAbs from G1.out.2)
 have ne1 : w1.heap.size ≠ r := by omega
 have ne2 : r ≠ w1.heap.size := by omega
 clear hW hn hbx RX B1 lt1 G1
 generalize w1.heap.size = m at *
 refine (HP2.out V1).mono ?_
 rintro e w2 ⟨A2, n2, c2, xs2, rfl, hs2, hx2, hv2, hb2⟩
 have B3 := hI (zA B2.out (by have := B2.out.size; have := HRr.out; omega) hb2)
 have RX2 := hI (RX1.out.on hb2)
 have BX2 := hI (BX.out.on hb2)
 have G2 := hI (And.intro hs2 (And.intro hx2 hv2))
 clear hb2 hs2 hx2 hv2 RX1 B2 BX
 have kb0 := BX2.out.bx.c0
 have kb1 := BX2.out.bx.c1
 have kbl := BX2.out.bx.lt
 have rlt := RX2.out.lt
 go_wp2_with fail
 generalize hW : World.alloc (World.alloc w2 _) _ = V3
 have hn3 := zA0 w2 (.cells #[.bool (decide (z2 < 0)), .slice A2 n2 c2] 24)
 have hc3 := Bx.new w2 (decide (z2 < 0)) A2 n2 c2
 have hn4 := zA0 (w2.alloc (.cells #[.bool (decide (z2 < 0)), .slice A2 n2 c2] 24)) (.cells #[.bool (decide (z1 < 0)), .slice A1 n1 c1, .bool (decide (z2 < 0)), .slice A2 n2 c2] 26)
 have hQ := Rb.new (q := (⟨decide (z1 < 0), A1, n1, c1, xs1, decide (z2 < 0), A2, n2, c2, xs2⟩ : RVal)) (w := w2.alloc (.cells #[.bool (decide (z2 < 0)), .slice A2 n2 c2] 24)) ⟨BX2.out.sl.on hn3, G2.out.1.on hn3⟩
 have hQ' : Rb (World.alloc (w2.alloc (.cells #[.bool (decide (z2 < 0)), .slice A2 n2 c2] 24)) (.cells #[.bool (decide (z1 < 0)), .slice A1 n1 c1, .bool (decide (z2 < 0)), .slice A2 n2 c2] 26)) (w2.heap.size + 1) (⟨decide (z1 < 0), A1, n1, c1, xs1, decide (z2 < 0), A2, n2, c2, xs2⟩ : RVal) := by simpa using hQ
 rw [hW] at hn4 hQ'
 have B4 := hI (zA (zA B3.out (by have := B3.out.size; have := HRr.out; omega) hn3) (by have := B3.out.size; have := HRr.out; simp; omega) hn4)
 have RX3 := hI ((RX2.out.on hn3).on hn4)
 have BD : Hid (Bx V3 w2.heap.size (decide (z2 < 0)) A2 n2 c2) := hI (hc3.below hn4 hc3.lt)
 have QQ := hI hQ'
 have HO := hI (And.intro (zD5 BX2.out.sl.ok HN.out.1 HN.out.2 HZ.out.1) (zD5 G2.out.1.ok G2.out.2.1 G2.out.2.2 HZ.out.2))
 have SD := hI ((G2.out.1.on hn3).on hn4)
 have rm : r < w2.heap.size := rlt
 clear hn3 hc3 hn4 hQ hQ' hW kb0 kb1 kbl rlt RX2 B3 BX2 G2 HN
 generalize w2.heap.size = d at *
 have C := zH4 QQ.out.sl
 rw [show RVal.o (⟨decide (z1 < 0), A1, n1, c1, xs1, decide (z2 < 0), A2, n2, c2, xs2⟩ : RVal) = some z1 from HO.out.1, show RVal.od (⟨decide (z1 < 0), A1, n1, c1, xs1, decide (z2 < 0), A2, n2, c2, xs2⟩ : RVal) = some z2 from HO.out.2, HE.out.1] at C
 refine C.mono ?_
 clear C
 rintro e w5 ⟨rfl, hb5⟩
 have B5 := hI (zA B4.out (by have := B4.out.size; have := HRr.out; omega) hb5)
 have RX5 := hI (RX3.out.on hb5)
 have BD5 := hI (BD.out.below hb5 BD.out.lt)
 have QQ5 := hI (QQ.out.on hb5)
 have SD5 := hI (SD.out.on hb5)
 clear hb5 B4 RX3 BD QQ SD
 have f0 := RX5.out.f 0
 have f1 := RX5.out.f 1
 have f2 := RX5.out.f 2
 have f3 := RX5.out.f 3
 have q0 := RX5.out.c0
 have q1 := RX5.out.c1
 have q2 := RX5.out.c2
 have q3 := RX5.out.c3
 simp only [RVal.nil] at q0 q1 q2 q3
 go_wp2
 generalize hU : World.setCell (World.setCell (World.setCell (World.setCell w5 _ _) _ _) _ _) _ _ = U
 have RU' := (Rb.put RX5.out (RVal.nil_in w5))
 have RU : Rb U r RVal.nil := by rw [<- hU]; exact RU'
 have HU : Below w.heap.size w U := by rw [<- hU, HRr.out]; exact (zA5 B5.out (Nat.le_refl _) _ _ _ _)
 have j0 := RU.c0
 have j1 := RU.c1
 have j2 := RU.c2
 have j3 := RU.c3
 refine bodyPost_ret (v := .tuple #[.agg #[.bool RVal.nil.g, .slice RVal.nil.A RVal.nil.n RVal.nil.c, .bool RVal.nil.gd, .slice RVal.nil.Ad RVal.nil.nd RVal.nil.cd], .int .i64 3]) (by simp [results, Tryz.results14, go_sem, j0, j1, j2, j3]) rfl ?_
 exact RetR.of RU rfl rfl HU
theorem parse_b2 (s sa sb : ByteArray) (w : World) (z1 z2 E1 E2 : Int) (HC : Hid (∀ w : World, Calls Tryz.prog 38 #[.string s, .string ⟨#[47]⟩] w fun e w' => e = .returned (.tuple #[.string sa, .string sb, .bool true]) /\ ∃ n, w' = w.drewN n)) (HP1 : Hid (∀ w : World, Calls Tryz.prog 39 #[.string sa] w (zB0 z1 E1 w))) (HP2 : Hid (∀ w : World, Calls Tryz.prog 39 #[.string sb] w (zB0 z2 E2 w))) (h0 : E1 = 0) (h1 : E2 = 0) (hz1 : z1.natAbs < BIG) (hz2 : z2.natAbs < BIG) (hv : (rv (some z1) (some z2)).isSome = true) (ho : decide (z2 = 1) = true) :
 Calls Tryz.prog 14 #[.string s] w (RetR 0 0 3 w) := by
 have HZ := hI (And.intro hz1 hz2)
 have HE := hI (show (rv (some z1) (some z2)).isSome = true /\ decide (z2 = 1) = true from ⟨hv, ho⟩)
 clear hz1 hz2 hv ho
 subst h0
 subst h1
 go_enter Tryz.func14, Tryz.ntmps14
 go_wp2_with fail
 refine (HC.out _).mono ?_
 rintro e w' ⟨rfl, k, rfl⟩
 have R0 := (Rb.new (RVal.nil_in w)).drewN k
 have B0 := zA6 (zA0 w (.cells #[.bool RVal.nil.g, .slice RVal.nil.A RVal.nil.n RVal.nil.c, .bool RVal.nil.gd, .slice RVal.nil.Ad RVal.nil.nd RVal.nil.cd] 26)) k
 generalize hV : World.drewN _ _ = V
 have hV' : ((w.alloc (.cells #[.bool RVal.nil.g, .slice RVal.nil.A RVal.nil.n RVal.nil.c, .bool RVal.nil.gd, .slice RVal.nil.Ad RVal.nil.nd RVal.nil.cd] 26)).drewN k) = V := hV
 rw [hV'] at R0 B0
 have R0' := hI R0
 have B0' := hI B0
 clear hV hV' R0 B0
 generalize hr : w.heap.size = r at *
 have HRr := hI hr
 clear hr
 go_wp2_with fail
 refine (HP1.out _).mono ?_
 rintro e w1 ⟨A1, n1, c1, xs1, rfl, hs1, hx1, hv1, hb1⟩
 have B1 := hI (zA B0'.out (by have := B0'.out.size; have := HRr.out; omega) hb1)
 have RX := hI (R0'.out.on hb1)
 have G1 := hI (And.intro hs1 (And.intro hx1 hv1))
 clear hb1 hs1 hx1 hv1 R0' B0'
 have lt1 := RX.out.lt
 go_wp2_with fail
 generalize hW : World.alloc w1 _ = V1
 have hn := zA0 w1 (.cells #[.bool (decide (z1 < 0)), .slice A1 n1 c1] 24)
 have hbx := Bx.new w1 (decide (z1 < 0)) A1 n1 c1
 rw [hW] at hn hbx
 have BX := hI (show Ba V1 w1.heap.size (decide (z1 < 0)) A1 n1 c1 xs1 from ⟨hbx, G1.out.1.on hn⟩)
 have RX1 := hI (RX.out.on hn)
 have B2 := hI (zA B1.out (by have := B1.out.size; have := HRr.out; omega) hn)
 have HN := hI (show Nz xs1 /\ val xs1 = z1.natAbs from G1.out.2)
 have ne1 : w1.heap.size ≠ r := by omega
 have ne2 : r ≠ w1.heap.size := by omega
 clear hW hn hbx RX B1 lt1 G1
 generalize w1.heap.size = m at *
 refine (HP2.out V1).mono ?_
 rintro e w2 ⟨A2, n2, c2, xs2, rfl, hs2, hx2, hv2, hb2⟩
 have B3 := hI (zA B2.out (by have := B2.out.size; have := HRr.out; omega) hb2)
 have RX2 := hI (RX1.out.on hb2)
 have BX2 := hI (BX.out.on hb2)
 have G2 := hI (And.intro hs2 (And.intro hx2 hv2))
 clear hb2 hs2 hx2 hv2 RX1 B2 BX
 have kb0 := BX2.out.bx.c0
 have kb1 := BX2.out.bx.c1
 have kbl := BX2.out.bx.lt
 have rlt := RX2.out.lt
 go_wp2_with fail
 generalize hW : World.alloc (World.alloc w2 _) _ = V3
 have hn3 := zA0 w2 (.cells #[.bool (decide (z2 < 0)), .slice A2 n2 c2] 24)
 have hc3 := Bx.new w2 (decide (z2 < 0)) A2 n2 c2
 have hn4 := zA0 (w2.alloc (.cells #[.bool (decide (z2 < 0)), .slice A2 n2 c2] 24)) (.cells #[.bool (decide (z1 < 0)), .slice A1 n1 c1, .bool (decide (z2 < 0)), .slice A2 n2 c2] 26)
 have hQ := Rb.new (q := (⟨decide (z1 < 0), A1, n1, c1, xs1, decide (z2 < 0), A2, n2, c2, xs2⟩ : RVal)) (w := w2.alloc (.cells #[.bool (decide (z2 < 0)), .slice A2 n2 c2] 24)) ⟨BX2.out.sl.on hn3, G2.out.1.on hn3⟩
 have hQ' : Rb (World.alloc (w2.alloc (.cells #[.bool (decide (z2 < 0)), .slice A2 n2 c2] 24)) (.cells #[.bool (decide (z1 < 0)), .slice A1 n1 c1, .bool (decide (z2 < 0)), .slice A2 n2 c2] 26)) (w2.heap.size + 1) (⟨decide (z1 < 0), A1, n1, c1, xs1, decide (z2 < 0), A2, n2, c2, xs2⟩ : RVal) := by simpa using hQ
 rw [hW] at hn4 hQ'
 have B4 := hI (zA (zA B3.out (by have := B3.out.size; have := HRr.out; omega) hn3) (by have := B3.out.size; have := HRr.out; simp; omega) hn4)
 have RX3 := hI ((RX2.out.on hn3).on hn4)
 have BD : Hid (Bx V3 w2.heap.size (decide (z2 < 0)) A2 n2 c2) := hI (hc3.below hn4 hc3.lt)
 have QQ := hI hQ'
 have HO := hI (And.intro (zD5 BX2.out.sl.ok HN.out.1 HN.out.2 HZ.out.1) (zD5 G2.out.1.ok G2.out.2.1 G2.out.2.2 HZ.out.2))
 have SD := hI ((G2.out.1.on hn3).on hn4)
 have rm : r < w2.heap.size := rlt
 clear hn3 hc3 hn4 hQ hQ' hW kb0 kb1 kbl rlt RX2 B3 BX2 G2 HN
 generalize w2.heap.size = d at *
 have C := zH4 QQ.out.sl
 rw [show RVal.o (⟨decide (z1 < 0), A1, n1, c1, xs1, decide (z2 < 0), A2, n2, c2, xs2⟩ : RVal) = some z1 from HO.out.1, show RVal.od (⟨decide (z1 < 0), A1, n1, c1, xs1, decide (z2 < 0), A2, n2, c2, xs2⟩ : RVal) = some z2 from HO.out.2, HE.out.1] at C
 refine C.mono ?_
 clear C
 rintro e w5 ⟨rfl, hb5⟩
 have B5 := hI (zA B4.out (by have := B4.out.size; have := HRr.out; omega) hb5)
 have RX5 := hI (RX3.out.on hb5)
 have BD5 := hI (BD.out.below hb5 BD.out.lt)
 have QQ5 := hI (QQ.out.on hb5)
 have SD5 := hI (SD.out.on hb5)
 clear hb5 B4 RX3 BD QQ SD
 have kd0 := BD5.out.c0
 have kd1 := BD5.out.c1
 go_wp2_with fail
 have C := zP (neg := decide (z2 < 0)) SD5.out
 rw [HO.out.2, zO6, HE.out.2] at C
 refine C.mono ?_
 clear C kd0 kd1
 rintro e w6 ⟨rfl, hb6⟩
 have B6 := hI (zA B5.out (by have := B5.out.size; have := HRr.out; omega) hb6)
 have RX6 := hI (RX5.out.on hb6)
 have QQ6 := hI (QQ5.out.on hb6)
 clear hb6 B5 RX5 BD5 QQ5 SD5
 have f0 := RX6.out.f 0
 have f1 := RX6.out.f 1
 have f2 := RX6.out.f 2
 have f3 := RX6.out.f 3
 have q0 := RX6.out.c0
 have q1 := RX6.out.c1
 have q2 := RX6.out.c2
 have q3 := RX6.out.c3
 simp only [RVal.nil] at q0 q1 q2 q3
 go_wp2
 generalize hU : World.setCell (World.setCell (World.setCell (World.setCell w6 _ _) _ _) _ _) _ _ = U
 have RU' := (Rb.put RX6.out (RVal.nil_in w6))
 have RU : Rb U r RVal.nil := by rw [<- hU]; exact RU'
 have HU : Below w.heap.size w U := by rw [<- hU, HRr.out]; exact (zA5 B6.out (Nat.le_refl _) _ _ _ _)
 have j0 := RU.c0
 have j1 := RU.c1
 have j2 := RU.c2
 have j3 := RU.c3
 refine bodyPost_ret (v := .tuple #[.agg #[.bool RVal.nil.g, .slice RVal.nil.A RVal.nil.n RVal.nil.c, .bool RVal.nil.gd, .slice RVal.nil.Ad RVal.nil.nd RVal.nil.cd], .int .i64 3]) (by simp [results, Tryz.results14, go_sem, j0, j1, j2, j3]) rfl ?_
 exact RetR.of RU rfl rfl HU
theorem parse_ok (s sa sb : ByteArray) (w : World) (z1 z2 E1 E2 : Int) (HC : Hid (∀ w : World, Calls Tryz.prog 38 #[.string s, .string ⟨#[47]⟩] w fun e w' => e = .returned (.tuple #[.string sa, .string sb, .bool true]) /\ ∃ n, w' = w.drewN n)) (HP1 : Hid (∀ w : World, Calls Tryz.prog 39 #[.string sa] w (zB0 z1 E1 w))) (HP2 : Hid (∀ w : World, Calls Tryz.prog 39 #[.string sb] w (zB0 z2 E2 w))) (h0 : E1 = 0) (h1 : E2 = 0) (hz1 : z1.natAbs < BIG) (hz2 : z2.natAbs < BIG) (hv : (rv (some z1) (some z2)).isSome = true) (ho : decide (z2 = 1) = false) :
 Calls Tryz.prog 14 #[.string s] w (RetR z1 z2 0 w) := by
 have HZ := hI (And.intro hz1 hz2)
 have HE := hI (show (rv (some z1) (some z2)).isSome = true /\ decide (z2 = 1) = false from ⟨hv, ho⟩)
 clear hz1 hz2 hv ho
 subst h0
 subst h1
 go_enter Tryz.func14, Tryz.ntmps14
 go_wp2_with fail
 refine (HC.out _).mono ?_
 rintro e w' ⟨rfl, k, rfl⟩
 have R0 := (Rb.new (RVal.nil_in w)).drewN k
 have B0 := zA6 (zA0 w (.cells #[.bool RVal.nil.g, .slice RVal.nil.A RVal.nil.n RVal.nil.c, .bool RVal.nil.gd, .slice RVal.nil.Ad RVal.nil.nd RVal.nil.cd] 26)) k
 generalize hV : World.drewN _ _ = V
 have hV' : ((w.alloc (.cells #[.bool RVal.nil.g, .slice RVal.nil.A RVal.nil.n RVal.nil.c, .bool RVal.nil.gd, .slice RVal.nil.Ad RVal.nil.nd RVal.nil.cd] 26)).drewN k) = V := hV
 rw [hV'] at R0 B0
 have R0' := hI R0
 have B0' := hI B0
 clear hV hV' R0 B0
 generalize hr : w.heap.size = r at *
 have HRr := hI hr
 clear hr
 go_wp2_with fail
 refine (HP1.out _).mono ?_
 rintro e w1 ⟨A1, n1, c1, xs1, rfl, hs1, hx1, hv1, hb1⟩
 have B1 := hI (zA B0'.out (by have := B0'.out.size; have := HRr.out; omega) hb1)
 have RX := hI (R0'.out.on hb1)
 have G1 := hI (And.intro hs1 (And.intro hx1 hv1))
 clear hb1 hs1 hx1 hv1 R0' B0'
 have lt1 := RX.out.lt
 go_wp2_with fail
 generalize hW : World.alloc w1 _ = V1
 have hn := zA0 w1 (.cells #[.bool (decide (z1 < 0)), .slice A1 n1 c1] 24)
 have hbx := Bx.new w1 (decide (z1 < 0)) A1 n1 c1
 rw [hW] at hn hbx
 have BX := hI (show Ba V1 w1.heap.size (decide (z1 < 0)) A1 n1 c1 xs1 from ⟨hbx, G1.out.1.on hn⟩)
 have RX1 := hI (RX.out.on hn)
 have B2 := hI (zA B1.out (by have := B1.out.size; have := HRr.out; omega) hn)
 have HN := hI (show Nz xs1 /\ val xs1 = z1.natAbs from G1.out.2)
 have ne1 : w1.heap.size ≠ r := by omega
 have ne2 : r ≠ w1.heap.size := by omega
 clear hW hn hbx RX B1 lt1 G1
 generalize w1.heap.size = m at *
 refine (HP2.out V1).mono ?_
 rintro e w2 ⟨A2, n2, c2, xs2, rfl, hs2, hx2, hv2, hb2⟩
 have B3 := hI (zA B2.out (by have := B2.out.size; have := HRr.out; omega) hb2)
 have RX2 := hI (RX1.out.on hb2)
 have BX2 := hI (BX.out.on hb2)
 have G2 := hI (And.intro hs2 (And.intro hx2 hv2))
 clear hb2 hs2 hx2 hv2 RX1 B2 BX
 have kb0 := BX2.out.bx.c0
 have kb1 := BX2.out.bx.c1
 have kbl := BX2.out.bx.lt
 have rlt := RX2.out.lt
 go_wp2_with fail
 generalize hW : World.alloc (World.alloc w2 _) _ = V3
 have hn3 := zA0 w2 (.cells #[.bool (decide (z2 < 0)), .slice A2 n2 c2] 24)
 have hc3 := Bx.new w2 (decide (z2 < 0)) A2 n2 c2
 have hn4 := zA0 (w2.alloc (.cells #[.bool (decide (z2 < 0)), .slice A2 n2 c2] 24)) (.cells #[.bool (decide (z1 < 0)), .slice A1 n1 c1, .bool (decide (z2 < 0)), .slice A2 n2 c2] 26)
 have hQ := Rb.new (q := (⟨decide (z1 < 0), A1, n1, c1, xs1, decide (z2 < 0), A2, n2, c2, xs2⟩ : RVal)) (w := w2.alloc (.cells #[.bool (decide (z2 < 0)), .slice A2 n2 c2] 24)) ⟨BX2.out.sl.on hn3, G2.out.1.on hn3⟩
 have hQ' : Rb (World.alloc (w2.alloc (.cells #[.bool (decide (z2 < 0)), .slice A2 n2 c2] 24)) (.cells #[.bool (decide (z1 < 0)), .slice A1 n1 c1, .bool (decide (z2 < 0)), .slice A2 n2 c2] 26)) (w2.heap.size + 1) (⟨decide (z1 < 0), A1, n1, c1, xs1, decide (z2 < 0), A2, n2, c2, xs2⟩ : RVal) := by simpa using hQ
 rw [hW] at hn4 hQ'
 have B4 := hI (zA (zA B3.out (by have := B3.out.size; have := HRr.out; omega) hn3) (by have := B3.out.size; have := HRr.out; simp; omega) hn4)
 have RX3 := hI ((RX2.out.on hn3).on hn4)
 have BD : Hid (Bx V3 w2.heap.size (decide (z2 < 0)) A2 n2 c2) := hI (hc3.below hn4 hc3.lt)
 have QQ := hI hQ'
 have HO := hI (And.intro (zD5 BX2.out.sl.ok HN.out.1 HN.out.2 HZ.out.1) (zD5 G2.out.1.ok G2.out.2.1 G2.out.2.2 HZ.out.2))
 have SD := hI ((G2.out.1.on hn3).on hn4)
 have rm : r < w2.heap.size := rlt
 clear hn3 hc3 hn4 hQ hQ' hW kb0 kb1 kbl rlt RX2 B3 BX2 G2 HN
 generalize w2.heap.size = d at *
 have C := zH4 QQ.out.sl
 rw [show RVal.o (⟨decide (z1 < 0), A1, n1, c1, xs1, decide (z2 < 0), A2, n2, c2, xs2⟩ : RVal) = some z1 from HO.out.1, show RVal.od (⟨decide (z1 < 0), A1, n1, c1, xs1, decide (z2 < 0), A2, n2, c2, xs2⟩ : RVal) = some z2 from HO.out.2, HE.out.1] at C
 refine C.mono ?_
 clear C
 rintro e w5 ⟨rfl, hb5⟩
 have B5 := hI (zA B4.out (by have := B4.out.size; have := HRr.out; omega) hb5)
 have RX5 := hI (RX3.out.on hb5)
 have BD5 := hI (BD.out.below hb5 BD.out.lt)
 have QQ5 := hI (QQ.out.on hb5)
 have SD5 := hI (SD.out.on hb5)
 clear hb5 B4 RX3 BD QQ SD
 have kd0 := BD5.out.c0
 have kd1 := BD5.out.c1
 go_wp2_with fail
 have C := zP (neg := decide (z2 < 0)) SD5.out
 rw [HO.out.2, zO6, HE.out.2] at C
 refine C.mono ?_
 clear C kd0 kd1
 rintro e w6 ⟨rfl, hb6⟩
 have B6 := hI (zA B5.out (by have := B5.out.size; have := HRr.out; omega) hb6)
 have RX6 := hI (RX5.out.on hb6)
 have QQ6 := hI (QQ5.out.on hb6)
 clear hb6 B5 RX5 BD5 QQ5 SD5
 have f0 := RX6.out.f 0
 have f1 := RX6.out.f 1
 have f2 := RX6.out.f 2
 have f3 := RX6.out.f 3
 have q0 := RX6.out.c0
 have q1 := RX6.out.c1
 have q2 := RX6.out.c2
 have q3 := RX6.out.c3
 simp only [RVal.nil] at q0 q1 q2 q3
 have f0 := QQ6.out.f 0
 have f1 := QQ6.out.f 1
 have f2 := QQ6.out.f 2
 have f3 := QQ6.out.f 3
 have k0 := QQ6.out.c0
 have k1 := QQ6.out.c1
 have k2 := QQ6.out.c2
 have k3 := QQ6.out.c3
 go_wp2
 generalize hU : World.setCell (World.setCell (World.setCell (World.setCell w6 _ _) _ _) _ _) _ _ = U
 have RU' := (Rb.put (q' := (⟨(decide (z1 < 0)), A1, n1, c1, xs1, (decide (z2 < 0)), A2, n2, c2, xs2⟩ : RVal)) RX6.out QQ6.out.sl)
 have RU : Rb U r (⟨(decide (z1 < 0)), A1, n1, c1, xs1, (decide (z2 < 0)), A2, n2, c2, xs2⟩ : RVal) := by rw [<- hU]; exact RU'
 have HU : Below w.heap.size w U := by rw [<- hU, HRr.out]; exact (zA5 B6.out (Nat.le_refl _) _ _ _ _)
 have j0 := RU.c0
 have j1 := RU.c1
 have j2 := RU.c2
 have j3 := RU.c3
 dsimp only at j0 j1 j2 j3
 refine bodyPost_ret (v := .tuple #[.agg #[.bool (decide (z1 < 0)), .slice A1 n1 c1, .bool (decide (z2 < 0)), .slice A2 n2 c2], .int .i64 0]) (by simp [results, Tryz.results14, go_sem, j0, j1, j2, j3]) rfl ?_
 exact RetR.of RU HO.out.1 HO.out.2 HU
def rprE (l : List UInt8) : Int :=
 if prE (Lib.cut l [47]).1 ≠ 0 then prE (Lib.cut l [47]).1
 else if (Lib.cut l [47]).2.2 = false then 0
 else if prE (Lib.cut l [47]).2.1 ≠ 0 then prE (Lib.cut l [47]).2.1
 else if (rv (some (prZ (Lib.cut l [47]).1)) (some (prZ (Lib.cut l [47]).2.1))).isSome = true /\ prZ (Lib.cut l [47]).2.1 ≠ 1 then 0 else 3
def rprN (l : List UInt8) : Int := if rprE l = 0 then prZ (Lib.cut l [47]).1 else 0
def rprD (l : List UInt8) : Int := if rprE l = 0 then (if (Lib.cut l [47]).2.2 = false then 1 else prZ (Lib.cut l [47]).2.1) else 0
theorem prZ_lt (l : List UInt8) : (prZ l).natAbs < BIG := by
 unfold prZ
 rcases prs l with _ | z
 . exact zR2
 . exact zM7 z
theorem cut_sizes (l : List UInt8) : (Lib.cut l [47]).1.length <= l.length /\ (Lib.cut l [47]).2.1.length <= l.length := by
 unfold Lib.cut
 by_cases h : 0 <= Lib.index l [47]
 . rw [if_pos h]; exact ⟨by rw [List.length_take]; omega, by rw [List.length_drop]; omega⟩
 . rw [if_neg h]; exact ⟨Nat.le_refl _, Nat.zero_le _⟩
theorem parse_r (s : ByteArray) (w : World) (hs : s.size <= 140737488351232) : Calls Tryz.prog 14 #[.string s] w (RetR (rprN s.data.toList) (rprD s.data.toList) (rprE s.data.toList) w) := by
 have hc := cut_sizes s.data.toList
 have hsz : s.data.toList.length = s.size := Array.length_toList
 have HC := hI (fun w => cut_slash s w hs)
 have P : ∀ l : List UInt8, l.length <= s.data.toList.length -> Hid (∀ w : World, Calls Tryz.prog 39 #[.string ⟨l.toArray⟩] w (zB0 (prZ l) (prE l) w)) := fun l hl => hI fun w => by
  exact parse_ov ⟨l.toArray⟩ w (by show l.toArray.size <= _; rw [List.size_toArray]; omega)
 have P1 := P _ hc.1
 have P2 := P _ hc.2
 unfold rprN rprD
 have k1 := prZ_lt (Lib.cut s.data.toList [47]).1
 have k2 := prZ_lt (Lib.cut s.data.toList [47]).2.1
 by_cases h1 : prE (Lib.cut s.data.toList [47]).1 ≠ 0
 . have e : rprE s.data.toList = prE (Lib.cut s.data.toList [47]).1 := if_pos h1
   rw [e, if_neg h1, if_neg h1]
   exact parse_e1 s _ _ w _ _ _ HC P1 h1
 . have h1' : prE (Lib.cut s.data.toList [47]).1 = 0 := Decidable.of_not_not h1
   rcases hf : (Lib.cut s.data.toList [47]).2.2 with _ | _
   . have e : rprE s.data.toList = 0 := by unfold rprE; rw [if_neg h1, if_pos hf]
     rw [e, if_pos rfl, if_pos rfl, if_pos rfl]
     rw [hf] at HC
     exact parse_n s _ _ w _ _ HC P1 h1' k1
   . rw [hf] at HC
     by_cases h2 : prE (Lib.cut s.data.toList [47]).2.1 ≠ 0
     . have e : rprE s.data.toList = prE (Lib.cut s.data.toList [47]).2.1 := by unfold rprE; rw [if_neg h1, hf, if_neg (by decide), if_pos h2]
       rw [e, if_neg h2, if_neg h2]
       exact parse_e2 s _ _ w _ _ _ _ HC P1 P2 h1' h2
     . have h2' : prE (Lib.cut s.data.toList [47]).2.1 = 0 := Decidable.of_not_not h2
       have e0 : rprE s.data.toList = if (rv (some (prZ (Lib.cut s.data.toList [47]).1)) (some (prZ (Lib.cut s.data.toList [47]).2.1))).isSome = true /\ prZ (Lib.cut s.data.toList [47]).2.1 ≠ 1 then 0 else 3 := by
        unfold rprE; rw [if_neg h1, hf, if_neg (by decide), if_neg h2]
       rcases hv : (rv (some (prZ (Lib.cut s.data.toList [47]).1)) (some (prZ (Lib.cut s.data.toList [47]).2.1))).isSome with _ | _
       . rw [hv] at e0
         rw [if_neg (by simp)] at e0
         rw [e0, if_neg (by decide), if_neg (by decide)]
         exact parse_b1 s _ _ w _ _ _ _ HC P1 P2 h1' h2' k1 k2 hv
       . by_cases ho : prZ (Lib.cut s.data.toList [47]).2.1 = 1
         . rw [if_neg (by simp [ho])] at e0
           rw [e0, if_neg (by decide), if_neg (by decide)]
           exact parse_b2 s _ _ w _ _ _ _ HC P1 P2 h1' h2' k1 k2 hv (decide_eq_true ho)
         . rw [if_pos ⟨hv, ho⟩] at e0
           rw [e0, if_pos rfl, if_pos rfl, if_neg (by decide)]
           exact parse_ok s _ _ w _ _ _ _ HC P1 P2 h1' h2' k1 k2 hv (decide_eq_false ho)
end Go.Proofs.YtphinlongdoedaaGreat
