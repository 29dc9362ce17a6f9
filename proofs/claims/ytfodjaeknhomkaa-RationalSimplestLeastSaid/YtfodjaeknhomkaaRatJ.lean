/-
  Stage 2: Floor of the rationals.
-/
import Derived.Test.YtfodjaeknhomkaaRatI
namespace Go.Proofs.Ytfodjaeknhomkaa
open Go.RowKit
theorem fq_pos (n d : Int) (hd : 0 < d) : fq n d = n / d := by
  have s := fq_spec n d (by omega)
  have hr : 0 ≤ fr n d := by
    rcases s.2.2.1 with h | h
    · omega
    · rw [Int.sign_eq_one_of_pos hd] at h
      have := Int.sign_eq_one_iff_pos.1 h
      omega
  have h1 := s.1
  have h2 : fr n d < d := by have := s.2.1; omega
  rw [Int.mul_comm] at h1
  have e := Int.ediv_emod_unique (a := n) (b := d) (q := fq n d) (r := fr n d) hd
  exact (e.2 ⟨by rw [Int.add_comm]; exact h1, hr, h2⟩).1.symm
/-- The boxes that a function of one rational begins with, an integer's among them, and the slice for allValid. -/
theorem floor_boxes (q : RVal) (w W : World) (h : q.In w) (hW : ((w.alloc (.cells #[.bool q.g, .slice q.A q.n q.c, .bool q.gd, .slice q.Ad q.nd q.cd] 28)).alloc (.cells #[.bool false, .slice none 0 0] 26)).alloc (.cells #[.bool q.g, .slice q.A q.n q.c, .bool q.gd, .slice q.Ad q.nd q.cd] 28) = W) :
    Below w.heap.size w W ∧ Rb W w.heap.size q ∧ Bx W (w.heap.size + 1) false none 0 0 ∧ Blk W (w.heap.size + 1 + 1) 28 #[.bool q.g, .slice q.A q.n q.c, .bool q.gd, .slice q.Ad q.nd q.cd] := by
  have h1 := Rb.new h
  have b1 := below_new w (.cells #[.bool q.g, .slice q.A q.n q.c, .bool q.gd, .slice q.Ad q.nd q.cd] 28)
  have h2 := Bx.new (w.alloc (.cells #[.bool q.g, .slice q.A q.n q.c, .bool q.gd, .slice q.Ad q.nd q.cd] 28)) false none 0 0
  have b2 := below_new (w.alloc (.cells #[.bool q.g, .slice q.A q.n q.c, .bool q.gd, .slice q.Ad q.nd q.cd] 28)) (.cells #[.bool false, .slice none 0 0] 26)
  have h3 := Blk.new ((w.alloc (.cells #[.bool q.g, .slice q.A q.n q.c, .bool q.gd, .slice q.Ad q.nd q.cd] 28)).alloc (.cells #[.bool false, .slice none 0 0] 26)) 28 #[.bool q.g, .slice q.A q.n q.c, .bool q.gd, .slice q.Ad q.nd q.cd]
  have b3 := below_new ((w.alloc (.cells #[.bool q.g, .slice q.A q.n q.c, .bool q.gd, .slice q.Ad q.nd q.cd] 28)).alloc (.cells #[.bool false, .slice none 0 0] 26)) (.cells #[.bool q.g, .slice q.A q.n q.c, .bool q.gd, .slice q.Ad q.nd q.cd] 28)
  rw [hW] at h3 b3
  refine ⟨below_chain (below_chain b1 b1.size b2) (by simp; omega) b3, (h1.on b2).on b3, ?_, by simpa using h3⟩
  have := (h2.below b3 h2.lt)
  simpa using this
theorem le_set2 {B : Nat} {w : World} (h : B ≤ w.heap.size) (p q : Addr) (u v : Value) : B ≤ ((w.setCell p u).setCell q v).heap.size := by simpa [World.setCell] using h
theorem le_al {B : Nat} {w : World} (h : B ≤ w.heap.size) (o : Obj) : B ≤ (w.alloc o).heap.size := by simp; omega
theorem Bx.put {w : World} {r : Nat} {g : Bool} {A : Option Addr} {n c : Nat} (h : Bx w r g A n c) (g' : Bool) (A' : Option Addr) (n' c' : Nat) : Bx ((w.setCell ⟨r, 0, none⟩ (.bool g')).setCell ⟨r, 1, none⟩ (.slice A' n' c')) r g' A' n' c' := by
  have := Blk.set_ (Blk.set_ h 0 (.bool g')) 1 (.slice A' n' c')
  exact this
set_option maxHeartbeats 1000000 in
theorem floor_bad (q : RVal) (s : Int) (w : World) (h : q.In w) (hv : (rv q.o q.od).isSome = false) :
    Calls Try.prog 11 #[.agg #[.bool q.g, .slice q.A q.n q.c, .bool q.gd, .slice q.Ad q.nd q.cd], .int .i64 s] w (RetIE 0 1 w) := by
  have HE := Lib.hid hv
  clear hv
  have HS := Lib.hid h
  clear h
  go_enter Try.func11, Try.ntmps11
  go_wp2_with fail
  generalize hW : World.alloc (World.alloc (World.alloc w _) _) _ = V
  obtain ⟨hb, ra, rx, ar⟩ := floor_boxes q w V HS.out hW
  have HB := Lib.hid hb
  clear hW hb
  generalize hr : w.heap.size = r at *
  have HRr := Lib.hid hr
  clear hr
  have C := allValid_one q (r + 1 + 1) false V ra.sl ar HE.out
  refine C.mono ?_
  clear C ar
  rintro e w1 ⟨rfl, hb1⟩
  have B1 := Lib.hid (below_chain HB.out (by have := HB.out.size; have := HRr.out; omega) hb1)
  have RA := Lib.hid (ra.on hb1)
  have RX := Lib.hid (rx.below hb1 rx.lt)
  clear hb1 ra rx
  have x0 := RX.out.c0
  have x1 := RX.out.c1
  have xf0 := RX.out.f 0
  have xf1 := RX.out.f 1
  have xlt := RX.out.lt
  have xl2 := Nat.lt_of_succ_lt RX.out.lt
  go_wp2
  generalize hU : World.setCell (World.setCell w1 _ _) _ _ = U
  have XU : Bx U (r + 1) false none 0 0 := by rw [← hU]; exact (Bx.put RX.out false none 0 0)
  have SU : Sl U U.heap.size none 0 0 [] := by rw [← hU]; exact Sl.nil _ _
  have HU : Below w.heap.size w U := by rw [← hU, HRr.out]; exact (below_ret B1.out (show r ≤ r + 1 by omega) _ _)
  have j0 := XU.c0
  have j1 := XU.c1
  refine bodyPost_ret (v := .tuple #[.agg #[.bool false, .slice none 0 0], .int .i64 1]) (by simp [results, Try.results11, go_sem, j0, j1]) rfl ?_
  exact ⟨none, 0, 0, [], rfl, SU, Nz.nil, rfl, HU⟩
set_option maxHeartbeats 1000000 in
theorem floor_big (q : RVal) (s : Int) (w : World) (h : q.In w) (x : Rat) (Z E : Int) (hx : rv q.o q.od = some x) (h1 : -9223372036854775808 ≤ s) (h2 : s ≤ 9223372036854775807) (hz : fitZ (shf x.num s) = Z) (he : fitE (shf x.num s) = E) (hE : E ≠ 0) :
    Calls Try.prog 11 #[.agg #[.bool q.g, .slice q.A q.n q.c, .bool q.gd, .slice q.Ad q.nd q.cd], .int .i64 s] w (RetIE 0 E w) := by
  have HE := Lib.hid (isSome_of hx)
  have HO := Lib.hid (rv_some hx)
  have HSb := Lib.hid (And.intro h1 h2)
  have HF := Lib.hid (And.intro hz he)
  have e1 : (E != 0) = true := by simpa using hE
  clear hx h1 h2 hz he hE
  have HS := Lib.hid h
  clear h
  go_enter Try.func11, Try.ntmps11
  go_wp2_with fail
  generalize hW : World.alloc (World.alloc (World.alloc w _) _) _ = V
  obtain ⟨hb, ra, rx, ar⟩ := floor_boxes q w V HS.out hW
  have HB := Lib.hid hb
  clear hW hb
  generalize hr : w.heap.size = r at *
  have HRr := Lib.hid hr
  clear hr
  have C := allValid_one q (r + 1 + 1) true V ra.sl ar HE.out
  refine C.mono ?_
  clear C ar
  rintro e w1 ⟨rfl, hb1⟩
  have B1 := Lib.hid (below_chain HB.out (by have := HB.out.size; have := HRr.out; omega) hb1)
  have RA := Lib.hid (ra.on hb1)
  have RX := Lib.hid (rx.below hb1 rx.lt)
  clear hb1 ra rx
  have k0 := RA.out.c0
  have k1 := RA.out.c1
  go_wp2_with fail
  have C := shift_ov (neg := q.g) RA.out.sl.1 s HSb.out.1 HSb.out.2
  rw [show ov q.g q.xs = some x.num from HO.out.1] at C
  have C' : Calls Try.prog 30 #[.agg #[.bool q.g, .slice q.A q.n q.c], .int .i64 s] w1 (RetIE Z E w1) := by
    have h := HF.out; rw [← h.1, ← h.2]; exact C
  refine C'.mono ?_
  clear C C' k0 k1
  rintro e w2 ⟨A2, n2, c2, xs2, rfl, hs2, hx2, hv2, hb2⟩
  have B2 := Lib.hid (below_chain B1.out (by have := B1.out.size; have := HRr.out; omega) hb2)
  have RA2 := Lib.hid (RA.out.on hb2)
  have RX2 := Lib.hid (RX.out.below hb2 RX.out.lt)
  have G2 := Lib.hid (And.intro hs2 (And.intro hx2 hv2))
  clear hb2 hs2 hx2 hv2 RA RX B1
  have x0 := RX2.out.c0
  have x1 := RX2.out.c1
  have xf0 := RX2.out.f 0
  have xf1 := RX2.out.f 1
  have xlt := RX2.out.lt
  have xl2 := Nat.lt_of_succ_lt RX2.out.lt
  go_wp2
  generalize hU : World.alloc (World.setCell (World.setCell w2 _ _) _ _) _ = U
  have XU : Bx U (r + 1) false none 0 0 := by rw [← hU]; exact (Bx.alloc (Bx.put RX2.out false none 0 0) (.cells #[.bool (decide (Z < 0)), .slice A2 n2 c2] 26))
  have SU : Sl U U.heap.size none 0 0 [] := by rw [← hU]; exact (Sl.on (Sl.nil _ _) (below_new _ (.cells #[.bool (decide (Z < 0)), .slice A2 n2 c2] 26)))
  have HU : Below w.heap.size w U := by rw [← hU, HRr.out]; exact (Below.alloc (below_ret B2.out (show r ≤ r + 1 by omega) _ _) (le_set2 (HRr.out ▸ B2.out.size) _ _ _ _) (.cells #[.bool (decide (Z < 0)), .slice A2 n2 c2] 26))
  have j0 := XU.c0
  have j1 := XU.c1
  refine bodyPost_ret (v := .tuple #[.agg #[.bool false, .slice none 0 0], .int .i64 E]) (by simp [results, Try.results11, go_sem, j0, j1]) rfl ?_
  exact ⟨none, 0, 0, [], rfl, SU, Nz.nil, rfl, HU⟩
set_option maxHeartbeats 1000000 in
theorem floor_ok (q : RVal) (s : Int) (w : World) (h : q.In w) (x : Rat) (Z E Q : Int) (hx : rv q.o q.od = some x) (h1 : -9223372036854775808 ≤ s) (h2 : s ≤ 9223372036854775807) (hf : (shf x.num s).natAbs < BIG) (hz : shf x.num s = Z) (hE : E = 0) (hq : Z / (x.den : Int) = Q) :
    Calls Try.prog 11 #[.agg #[.bool q.g, .slice q.A q.n q.c, .bool q.gd, .slice q.Ad q.nd q.cd], .int .i64 s] w (RetIE Q 0 w) := by
  have HE := Lib.hid (isSome_of hx)
  have HO := Lib.hid (rv_some hx)
  have HSb := Lib.hid (And.intro h1 h2)
  have HF := Lib.hid (show fitZ (shf x.num s) = Z ∧ fitE (shf x.num s) = E from ⟨(fit_yes hf).1.trans hz, (fit_yes hf).2.trans hE.symm⟩)
  have HZ := Lib.hid (show Z.natAbs < BIG by rw [← hz]; exact hf)
  have HD := Lib.hid (show dvQ (some Z) (some (x.den : Int)) = Q ∧ dvE (some Z) (some (x.den : Int)) = 0 by
    have hd := x.den_nz
    rw [dvQ_some, dvE_some, if_neg (by omega), if_neg (by omega), fq_pos _ _ (by omega)]
    exact ⟨hq, rfl⟩)
  subst hE
  clear hx h1 h2 hz hf hq
  have HS := Lib.hid h
  clear h
  go_enter Try.func11, Try.ntmps11
  go_wp2_with fail
  generalize hW : World.alloc (World.alloc (World.alloc w _) _) _ = V
  obtain ⟨hb, ra, rx, ar⟩ := floor_boxes q w V HS.out hW
  have HB := Lib.hid hb
  clear hW hb
  generalize hr : w.heap.size = r at *
  have HRr := Lib.hid hr
  clear hr
  have C := allValid_one q (r + 1 + 1) true V ra.sl ar HE.out
  refine C.mono ?_
  clear C ar
  rintro e w1 ⟨rfl, hb1⟩
  have B1 := Lib.hid (below_chain HB.out (by have := HB.out.size; have := HRr.out; omega) hb1)
  have RA := Lib.hid (ra.on hb1)
  have RX := Lib.hid (rx.below hb1 rx.lt)
  clear hb1 ra rx
  have k0 := RA.out.c0
  have k1 := RA.out.c1
  go_wp2_with fail
  have C := shift_ov (neg := q.g) RA.out.sl.1 s HSb.out.1 HSb.out.2
  rw [show ov q.g q.xs = some x.num from HO.out.1] at C
  have C' : Calls Try.prog 30 #[.agg #[.bool q.g, .slice q.A q.n q.c], .int .i64 s] w1 (RetIE Z 0 w1) := by
    have h := HF.out; rw [← h.1, ← h.2]; exact C
  refine C'.mono ?_
  clear C C' k0 k1
  rintro e w2 ⟨A2, n2, c2, xs2, rfl, hs2, hx2, hv2, hb2⟩
  have B2 := Lib.hid (below_chain B1.out (by have := B1.out.size; have := HRr.out; omega) hb2)
  have RA2 := Lib.hid (RA.out.on hb2)
  have RX2 := Lib.hid (RX.out.below hb2 RX.out.lt)
  have G2 := Lib.hid (And.intro hs2 (And.intro hx2 hv2))
  clear hb2 hs2 hx2 hv2 RA RX B1
  have k2 := RA2.out.c2
  have k3 := RA2.out.c3
  have klt := RA2.out.lt
  go_wp2_with fail
  generalize hW : World.alloc w2 _ = V2
  have hn := below_new w2 (.cells #[.bool (decide (Z < 0)), .slice A2 n2 c2] 26)
  rw [hW] at hn
  have B3 := Lib.hid (below_chain B2.out (by have := B2.out.size; have := HRr.out; omega) hn)
  have RX3 := Lib.hid (RX2.out.below hn RX2.out.lt)
  have C := divMod_ov (neg := decide (Z < 0)) (neg' := q.gd) (G2.out.1.on hn) (RA2.out.sl.2.on hn)
  rw [ov_res G2.out.1.ok G2.out.2.1 G2.out.2.2 HZ.out, show ov q.gd q.ys = some (x.den : Int) from HO.out.2, HD.out.1, HD.out.2] at C
  refine C.mono ?_
  clear C hn hW k2 k3 klt
  generalize dvR (some Z) (some (x.den : Int)) = Rm at *
  rintro e w4 ⟨A4, n4, c4, xs4, A5, n5, c5, xs5, rfl, hs4, hx4, hv4, hs5, hx5, hv5, hb4⟩
  have B4 := Lib.hid (below_chain B3.out (by have := B3.out.size; have := HRr.out; omega) hb4)
  have RX4 := Lib.hid (RX3.out.below hb4 RX3.out.lt)
  have G4 := Lib.hid (And.intro hs4 (And.intro hx4 hv4))
  clear hb4 hs4 hx4 hv4 hs5 hx5 hv5 B3 RX3
  have x0 := RX4.out.c0
  have x1 := RX4.out.c1
  have xf0 := RX4.out.f 0
  have xf1 := RX4.out.f 1
  have xlt := RX4.out.lt
  have xl2 := Nat.lt_of_succ_lt RX4.out.lt
  go_wp2
  generalize hU : World.alloc (World.alloc (World.setCell (World.setCell w4 _ _) _ _) _) _ = U
  have XU : Bx U (r + 1) (decide (Q < 0)) A4 n4 c4 := by rw [← hU]; exact (Bx.alloc (Bx.alloc (Bx.put RX4.out (decide (Q < 0)) A4 n4 c4) (.cells #[.bool (decide (Q < 0)), .slice A4 n4 c4] 26)) (.cells #[.bool (decide (Rm < 0)), .slice A5 n5 c5] 26))
  have SU : Sl U U.heap.size A4 n4 c4 xs4 := by rw [← hU]; exact (Sl.on (Sl.on (Sl.ret G4.out.1 RX4.out _ _) (below_new _ (.cells #[.bool (decide (Q < 0)), .slice A4 n4 c4] 26))) (below_new _ (.cells #[.bool (decide (Rm < 0)), .slice A5 n5 c5] 26)))
  have HU : Below w.heap.size w U := by rw [← hU, HRr.out]; exact (Below.alloc (Below.alloc (below_ret B4.out (show r ≤ r + 1 by omega) _ _) (le_set2 (HRr.out ▸ B4.out.size) _ _ _ _) (.cells #[.bool (decide (Q < 0)), .slice A4 n4 c4] 26)) (le_al (le_set2 (HRr.out ▸ B4.out.size) _ _ _ _) (.cells #[.bool (decide (Q < 0)), .slice A4 n4 c4] 26)) (.cells #[.bool (decide (Rm < 0)), .slice A5 n5 c5] 26))
  have j0 := XU.c0
  have j1 := XU.c1
  refine bodyPost_ret (v := .tuple #[.agg #[.bool (decide (Q < 0)), .slice A4 n4 c4], .int .i64 0]) (by simp [results, Try.results11, go_sem, j0, j1]) rfl ?_
  exact ⟨A4, n4, c4, xs4, rfl, SU, G4.out.2.1, G4.out.2.2, HU⟩
end Go.Proofs.Ytfodjaeknhomkaa
