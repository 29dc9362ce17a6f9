/-
  Stage 2: the reference's Make, Of and the test of two numbers.
-/
import Derived.Test.YtlibjampolcbhaaGreatRatRa
namespace Go.Proofs.YtlibjampolcbhaaGreat
open Go.RowKit
set_option linter.unusedSimpArgs false in
set_option maxRecDepth 20000 in
set_option maxHeartbeats 2000000 in
theorem rboth_f (p q : RVal) (w : World) (ha : p.In w) (hb : q.In w) (v : Bool) (h1 : (rv p.o p.od).isSome = false) (h2 : (rv q.o q.od).isSome = v) :
    Calls Tryz.prog 69 #[.agg #[.bool p.g, .slice p.A p.n p.c, .bool p.gd, .slice p.Ad p.nd p.cd], .agg #[.bool q.g, .slice q.A q.n q.c, .bool q.gd, .slice q.Ad q.nd q.cd]] w fun e w' => e = .returned (.bool false) ∧ Below w.heap.size w w' := by
  have H1 := hI h1
  have H2 := hI h2
  clear h1 h2
  have Ia_0 := hI ha
  clear ha
  have Ib_0 := hI hb
  clear hb
  have B_0 : Hid (Below w.heap.size w w) := hI (Below.refl _ _)
  go_enter Tryz.func69, Tryz.ntmps69
  go_wp2_with fail
  generalize hW : World.alloc w _ = W1
  have hn := below_new w (.cells #[.bool p.g, .slice p.A p.n p.c, .bool p.gd, .slice p.Ad p.nd p.cd] 27)
  rw [hW] at hn
  have hz : W1.heap.size = w.heap.size + 1 := by rw [← hW]; simp
  have hx : Rb W1 w.heap.size p := by rw [← hW]; exact Rb.new (q := p) Ia_0.out
  have Ib_1 := hI (Ib_0.out.on hn)
  have B_2 := hI (below_chain B_0.out B_0.out.size hn)
  generalize hr : w.heap.size = r at *
  have HRr := hI hr
  clear hr
  have Xa_3 : Hid (Rb W1 r p) := hI hx
  have HT3 := hz
  clear hn hx hz hW Ib_0 B_0 Ia_0
  generalize hW : World.alloc W1 _ = W4
  have hn := below_new W1 (.cells #[.bool q.g, .slice q.A q.n q.c, .bool q.gd, .slice q.Ad q.nd q.cd] 27)
  rw [hW] at hn
  have hx : Rb W4 W1.heap.size q := by rw [← hW]; exact Rb.new (q := q) Ib_1.out
  have hlt : r < W1.heap.size := Xa_3.out.lt
  have B_4 := hI (bch B_2.out HRr.out hn)
  have Xa_5 := hI (Xa_3.out.on hn)
  rw [HT3] at hx hlt
  have Xb_6 : Hid (Rb W4 (r + 1) q) := hI hx
  clear hn hx hW hlt B_2 Xa_3 Ib_1
  clear HT3
  have C := rvalid2 Xa_5.out.sl
  rw [H1.out] at C
  refine C.mono ?_
  clear C
  rintro e w7 ⟨rfl, hb⟩
  have B_7 := hI (bch B_4.out HRr.out hb)
  have Xa_8 := hI (Xa_5.out.on hb)
  have Xb_9 := hI (Xb_6.out.on hb)
  clear hb B_4 Xa_5 Xb_6
  obtain ⟨kb0, kb1, kb2, kb3⟩ := Xb_9.out.cs
  have lb := Xb_9.out.lt
  go_wp2_with fail
  have C := rvalid2 Xb_9.out.sl
  rw [H2.out] at C
  refine C.mono ?_
  clear C
  clear kb0 kb1 kb2 kb3 lb
  rintro e w10 ⟨rfl, hb⟩
  have B_10 := hI (bch B_7.out HRr.out hb)
  have Xa_11 := hI (Xa_8.out.on hb)
  have Xb_12 := hI (Xb_9.out.on hb)
  clear hb B_7 Xa_8 Xb_9
  go_wp2
  go_ret
  exact ⟨rfl, (by rw [HRr.out]; exact B_10.out)⟩
set_option linter.unusedSimpArgs false in
set_option maxRecDepth 20000 in
set_option maxHeartbeats 2000000 in
theorem rboth_t (p q : RVal) (w : World) (ha : p.In w) (hb : q.In w) (v : Bool) (h1 : (rv p.o p.od).isSome = true) (h2 : (rv q.o q.od).isSome = v) :
    Calls Tryz.prog 69 #[.agg #[.bool p.g, .slice p.A p.n p.c, .bool p.gd, .slice p.Ad p.nd p.cd], .agg #[.bool q.g, .slice q.A q.n q.c, .bool q.gd, .slice q.Ad q.nd q.cd]] w fun e w' => e = .returned (.bool v) ∧ Below w.heap.size w w' := by
  have H1 := hI h1
  have H2 := hI h2
  clear h1 h2
  have Ia_0 := hI ha
  clear ha
  have Ib_0 := hI hb
  clear hb
  have B_0 : Hid (Below w.heap.size w w) := hI (Below.refl _ _)
  go_enter Tryz.func69, Tryz.ntmps69
  go_wp2_with fail
  generalize hW : World.alloc w _ = W1
  have hn := below_new w (.cells #[.bool p.g, .slice p.A p.n p.c, .bool p.gd, .slice p.Ad p.nd p.cd] 27)
  rw [hW] at hn
  have hz : W1.heap.size = w.heap.size + 1 := by rw [← hW]; simp
  have hx : Rb W1 w.heap.size p := by rw [← hW]; exact Rb.new (q := p) Ia_0.out
  have Ib_1 := hI (Ib_0.out.on hn)
  have B_2 := hI (below_chain B_0.out B_0.out.size hn)
  generalize hr : w.heap.size = r at *
  have HRr := hI hr
  clear hr
  have Xa_3 : Hid (Rb W1 r p) := hI hx
  have HT3 := hz
  clear hn hx hz hW Ib_0 B_0 Ia_0
  generalize hW : World.alloc W1 _ = W4
  have hn := below_new W1 (.cells #[.bool q.g, .slice q.A q.n q.c, .bool q.gd, .slice q.Ad q.nd q.cd] 27)
  rw [hW] at hn
  have hx : Rb W4 W1.heap.size q := by rw [← hW]; exact Rb.new (q := q) Ib_1.out
  have hlt : r < W1.heap.size := Xa_3.out.lt
  have B_4 := hI (bch B_2.out HRr.out hn)
  have Xa_5 := hI (Xa_3.out.on hn)
  rw [HT3] at hx hlt
  have Xb_6 : Hid (Rb W4 (r + 1) q) := hI hx
  clear hn hx hW hlt B_2 Xa_3 Ib_1
  clear HT3
  have C := rvalid2 Xa_5.out.sl
  rw [H1.out] at C
  refine C.mono ?_
  clear C
  rintro e w7 ⟨rfl, hb⟩
  have B_7 := hI (bch B_4.out HRr.out hb)
  have Xa_8 := hI (Xa_5.out.on hb)
  have Xb_9 := hI (Xb_6.out.on hb)
  clear hb B_4 Xa_5 Xb_6
  obtain ⟨kb0, kb1, kb2, kb3⟩ := Xb_9.out.cs
  have lb := Xb_9.out.lt
  go_wp2_with fail
  have C := rvalid2 Xb_9.out.sl
  rw [H2.out] at C
  refine C.mono ?_
  clear C
  clear kb0 kb1 kb2 kb3 lb
  rintro e w10 ⟨rfl, hb⟩
  have B_10 := hI (bch B_7.out HRr.out hb)
  have Xa_11 := hI (Xa_8.out.on hb)
  have Xb_12 := hI (Xb_9.out.on hb)
  clear hb B_7 Xa_8 Xb_9
  go_wp2
  go_ret
  exact ⟨rfl, (by rw [HRr.out]; exact B_10.out)⟩
theorem rboth_q {p q : RVal} {w : World} (h : p.In w) (h' : q.In w) (v : Bool) (hv : ((rv p.o p.od).isSome && (rv q.o q.od).isSome) = v) :
    Calls Tryz.prog 69 #[.agg #[.bool p.g, .slice p.A p.n p.c, .bool p.gd, .slice p.Ad p.nd p.cd], .agg #[.bool q.g, .slice q.A q.n q.c, .bool q.gd, .slice q.Ad q.nd q.cd]] w fun e w' => e = .returned (.bool v) ∧ Below w.heap.size w w' := by
  rcases h1 : (rv p.o p.od).isSome with _ | _
  · rw [h1] at hv
    have : v = false := hv.symm
    subst this
    exact rboth_f p q w h h' _ h1 rfl
  · rw [h1] at hv
    exact rboth_t p q w h h' v h1 hv
end Go.Proofs.YtlibjampolcbhaaGreat
