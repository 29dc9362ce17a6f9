/-
  Stage 2: the reference's Cmp, Sign, Floor and Sqrt.
-/
import Derived.Test.YtlibjampolcbhaaGreatRatCo
import Derived.Test.YtlibjampolcbhaaGreatBaseH
namespace Go.Proofs.YtlibjampolcbhaaGreat
open Go.RowKit
theorem RetZE.of {z er : Int} {w U : World} {r : Nat} {g : Bool} {A : Option Addr} {n c : Nat} {xs : List Nat} (h : Ba U r g A n c xs) (ho : ov g xs = some z) (hb : Below w.heap.size w U) : RetZE z er w (.returned (.tuple #[.agg #[.bool g, .slice A n c], .int .i64 er])) U := ⟨g, A, n, c, xs, rfl, h.sl, ho, hb⟩
/-- A square root is handed back: the number, whether it is exact, the error. -/
def RetSB (z : Int) (b : Bool) (er : Int) (w : World) (e : Ending) (w' : World) : Prop := ∃ g A n c xs, e = .returned (.tuple #[.agg #[.bool g, .slice A n c], .bool b, .int .i64 er]) ∧ Sl w' w'.heap.size A n c xs ∧ ov g xs = some z ∧ Below w.heap.size w w'
theorem RetSq.sb {z : Int} {b : Bool} {er : Int} {w : World} {e : Ending} {w' : World} (hz : z.natAbs < BIG) (h : RetSq z b er w e w') : RetSB z b er w e w' := by
  obtain ⟨A, n, c, xs, rfl, hs, hx, hv, hb⟩ := h
  exact ⟨_, A, n, c, xs, rfl, hs, ov_res hs.ok hx hv hz, hb⟩
section
variable {g : Bool} {A : Option Addr} {n c : Nat} {xs : List Nat} {w : World} {a : Int}
end
set_option linter.unusedSimpArgs false in
set_option maxRecDepth 20000 in
set_option maxHeartbeats 2000000 in
theorem rcmpq_ok (p q : RVal) (w : World) (ha : p.In w) (hb : q.In w) (x y : Rat) (ha2 : rv p.o p.od = some x) (hb2 : rv q.o q.od = some y) (u : Int) (hu : Int.sign (x.num * y.den - y.num * x.den) = u) :
    Calls Tryz.prog 32 #[.agg #[.bool p.g, .slice p.A p.n p.c, .bool p.gd, .slice p.Ad p.nd p.cd], .agg #[.bool q.g, .slice q.A q.n q.c, .bool q.gd, .slice q.Ad q.nd q.cd]] w (RetC u 0 w) := by
  have Va := hI ha2
  have Vb := hI hb2
  have HU := hI hu
  clear ha2 hb2 hu
  have Ia_0 := hI ha
  clear ha
  have Ib_0 := hI hb
  clear hb
  have B_0 : Hid (Below w.heap.size w w) := hI (Below.refl _ _)
  go_enter Tryz.func32, Tryz.ntmps32
  go_wp2_with fail
  generalize hW : World.alloc w _ = W1
  have hn := below_new w (.cells #[.bool p.g, .slice p.A p.n p.c, .bool p.gd, .slice p.Ad p.nd p.cd] 27)
  rw [hW] at hn
  have hz : W1.heap.size = w.heap.size + 1 := by rw [← hW]; simp
  have hx : Rb W1 w.heap.size p := by rw [← hW]; exact Rb.new (q := p) Ia_0.out
  have Ib_1 := hI (Ib_0.out.on hn)
  have B_2 := hI (below_chain B_0.out B_0.out.size hn)
  generalize hr : w.heap.size = r at *
  have HRr := hI hr
  clear hr
  have Xa_3 : Hid (Rb W1 r p) := hI hx
  have HT3 := hz
  clear hn hx hz hW Ib_0 B_0 Ia_0
  generalize hW : World.alloc W1 _ = W4
  have hn := below_new W1 (.cells #[.bool q.g, .slice q.A q.n q.c, .bool q.gd, .slice q.Ad q.nd q.cd] 27)
  rw [hW] at hn
  have hx : Rb W4 W1.heap.size q := by rw [← hW]; exact Rb.new (q := q) Ib_1.out
  have hlt : r < W1.heap.size := Xa_3.out.lt
  have B_4 := hI (bch B_2.out HRr.out hn)
  have Xa_5 := hI (Xa_3.out.on hn)
  rw [HT3] at hx hlt
  have Xb_6 : Hid (Rb W4 (r + 1) q) := hI hx
  clear hn hx hW hlt B_2 Xa_3 Ib_1
  clear HT3
  refine (rboth_q Xa_5.out.sl Xb_6.out.sl true (by rw [Va.out, Vb.out]; rfl)).mono ?_
  rintro e w7 ⟨rfl, hb⟩
  have B_7 := hI (bch B_4.out HRr.out hb)
  have Xa_8 := hI (Xa_5.out.on hb)
  have Xb_9 := hI (Xb_6.out.on hb)
  clear hb B_4 Xa_5 Xb_6
  obtain ⟨ka0, ka1, ka2, ka3⟩ := Xa_8.out.cs
  have la := Xa_8.out.lt
  obtain ⟨kb0, kb1, kb2, kb3⟩ := Xb_9.out.cs
  have lb := Xb_9.out.lt
  go_wp2_with fail
  refine (rcompare_run p q w7 Xa_8.out.sl.1 Xa_8.out.sl.2 Xb_9.out.sl.1 Xb_9.out.sl.2 x.num x.den y.num y.den u ⟨(rv_some Va.out).1, (rv_some Va.out).2, (rv_some Vb.out).1, (rv_some Vb.out).2, by have := x.den_pos; omega, by have := y.den_pos; omega, HU.out⟩).mono ?_
  clear ka0 ka1 ka2 ka3 la kb0 kb1 kb2 kb3 lb
  rintro e w10 ⟨rfl, hb⟩
  have B_10 := hI (bch B_7.out HRr.out hb)
  have Xa_11 := hI (Xa_8.out.on hb)
  have Xb_12 := hI (Xb_9.out.on hb)
  clear hb B_7 Xa_8 Xb_9
  go_wp2
  go_ret2
  exact ⟨rfl, (by rw [HRr.out]; exact B_10.out)⟩
end Go.Proofs.YtlibjampolcbhaaGreat
